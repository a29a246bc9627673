import Derived.Test.YtcgfgmlfbgbkfaaGreatDoorL09
import Derived.Test.YtcgfgmlfbgbkfaaGreatDoorL06
import Derived.Test.YtcgfgmlfbgbkfaaGreatDoorL05
import Derived.Deep.AppendLies
import Derived.Test.YtcgfgmlfbgbkfaaGreatDoorL15
import Derived.Lib.TrailingZeros
import Derived.Laws.Bits64b
import Derived.Test.YtcgfgmlfbgbkfaaGreatDoorL08
import Derived.Laws.CopyOwn
import Derived.Deep.RegionLaw
set_option linter.unusedVariables false
set_option linter.unusedSimpArgs false
namespace Go.Proofs.YtcgfgmlfbgbkfaaGreatDoor.W
open Go.RowKit
noncomputable def nlC (n : Nat) : Code := ((Tryz.f62.body.bind (codeAtL n)).getD .skip)
def NapW (y : World) (go i : Nat) (a : Option Addr) (m c : Nat) (x : Int) (lo : Nat) (xs : List Value) (H G cp : Nat) (L : Array Bool) (w : World) : Prop :=
  (up L 13 = false → w = y) ∧ (up L 13 = true → up L 14 = false → H = y.heap.size ∧ w = y.alloc (.cells #[.int .i64 x] 108)) ∧ (up L 14 = true → ∃ w2 : World, w2.ownsRow lo 108 1 (.slice (some ⟨G, 0, none⟩) (m + 1) cp) (m + 1) (xs ++ [.int .i64 x]) ∧ (y.alloc (.cells #[.int .i64 x] 108)).grownBy w2 (Value.slice a m c).ownBlock ∧ ((Value.slice a m c).ownBlock = some G ∨ y.heap.size ≤ G) ∧ (up L 16 = false → w = w2) ∧ (up L 16 = true → w = w2.setCell ⟨go, i, none⟩ (.slice (some ⟨G, 0, none⟩) (m + 1) cp)))
theorem NapW.keep {y : World} {go i : Nat} {a : Option Addr} {m c : Nat} {x : Int} {lo : Nat} {xs : List Value} {H G cp : Nat} {L : Array Bool} {w : World} (h : NapW y go i a m c x lo xs H G cp L w) {q : Nat} (hq : q < L.size) (n1 : q ≠ 13) (n2 : q ≠ 14) (n3 : q ≠ 16) : NapW y go i a m c x lo xs H G cp (L.setIfInBounds q true) w := by
  unfold NapW at h ⊢
  rw [up_set hq, up_set hq, up_set hq, if_neg n1, if_neg n2, if_neg n3]
  exact h
theorem NapW.early {y : World} {go i : Nat} {a : Option Addr} {m c : Nat} {x : Int} {lo : Nat} {xs : List Value} {H G cp : Nat} {L : Array Bool} {w : World} (h : NapW y go i a m c x lo xs H G cp L w) (nn : up L 14 = false) {g q : Nat} {v : Value} (hc : y.cell? ⟨g, q, none⟩ = some v) : w.cell? ⟨g, q, none⟩ = some v := by
  cases e : up L 13
  · rw [h.1 e]; exact hc
  · rw [(h.2.1 e nn).2]; exact below_cell (below_alloc _ _) hc
theorem NapW.any {y : World} {go i : Nat} {a : Option Addr} {m c : Nat} {x : Int} {lo : Nat} {xs : List Value} {H G cp : Nat} {L : Array Bool} {w : World} (h : NapW y go i a m c x lo xs H G cp L w) (nn : up L 16 = false) {g q : Nat} {v : Value} (hne : (Value.slice a m c).ownBlock ≠ some g) (hc : y.cell? ⟨g, q, none⟩ = some v) : w.cell? ⟨g, q, none⟩ = some v := by
  cases e : up L 14
  · exact h.early e hc
  · obtain ⟨w2, _, h2, _, h4, _⟩ := h.2.2 e
    rw [h4 nn]
    have hb : g < y.heap.size := block_lt_of_cell hc
    have hc2 := below_cell (below_alloc y (.cells #[.int .i64 x] 108)) hc
    rw [← hc2]
    simp only [World.cell?]
    rw [h2.block g (by simp; omega) (fun q => hne q.symm)]
def Na9Mk (gl go k i : Nat) (a : Option Addr) (m c : Nat) (x : Int) (c0 c1 c2 c4 c5 c7 c9 c10 c11 c12 c13 c14 c15 c16 c17 c18 c19 c20 c21 c22 c23 c24 c25 c26 c27 c28 c29 c30 c31 c32 c33 c34 c35 c36 c37 c38 c39 c40 c41 c42 c43 c44 c45 c46 c47 c48 c49 c50 c51 c52 c53 c54 c55 c56 c57 c58 c59 c60 c61 c62 c63 c64 c65 c66 c67 c68 c69 c70 c71 c72 c73 c74 c75 c76 c77 c78 c79 c80 c81 c82 c83 c84 c85 c86 c87 c88 c89 c90 c91 c92 c93 c94 c95 c96 c97 c98 c99 c100 c101 c102 c103 c104 c105 c106 c107 c108 c109 c110 c111 c112 c113 c114 c115 c116 c117 c118 c119 c120 c121 c122 c123 c124 c125 c126 c127 c128 c129 c130 c131 c132 : Value) (H G cp : Nat) (L : Array Bool) : Act := { tmps := #[c0, c1, c2, .pointer (some ⟨gl, 0, none⟩), c4, c5, .int .i64 x, c7, .int .i64 (i : Int), c9, c10, c11, c12, c13, c14, c15, c16, c17, c18, c19, c20, c21, c22, c23, c24, c25, c26, c27, c28, c29, c30, c31, c32, c33, c34, c35, c36, c37, c38, c39, c40, c41, c42, c43, c44, c45, c46, c47, c48, c49, c50, c51, c52, c53, c54, c55, c56, c57, c58, sld c59 L 0 (.pointer (some ⟨gl, 0, none⟩)), sld c60 L 1 (.pointer (some ⟨gl, 0, none⟩)), sld c61 L 2 (.pointer (some ⟨gl, 0, none⟩)), sld c62 L 3 (.slice (some ⟨go, 0, none⟩) k k), sld c63 L 4 (.int .i64 (i : Int)), sld c64 L 5 (.pointer (some ⟨gl, 0, none⟩)), sld c65 L 6 (.pointer (some ⟨gl, 0, none⟩)), sld c66 L 7 (.pointer (some ⟨gl, 0, none⟩)), sld c67 L 8 (.slice (some ⟨go, 0, none⟩) k k), sld c68 L 9 (.int .i64 (i : Int)), sld c69 L 10 (.pointer (some ⟨go, i, none⟩)), sld c70 L 11 (.slice a m c), sld c71 L 12 (.int .i64 x), sld c72 L 13 (.slice (some ⟨H, 0, none⟩) 1 1), sld c73 L 14 (.slice (some ⟨G, 0, none⟩) (m + 1) cp), sld c74 L 15 (.pointer (some ⟨go, i, none⟩)), c75, c76, c77, c78, c79, c80, c81, c82, c83, c84, c85, c86, c87, c88, c89, c90, c91, c92, c93, c94, c95, c96, c97, c98, c99, c100, c101, c102, c103, c104, c105, c106, c107, c108, c109, c110, c111, c112, c113, c114, c115, c116, c117, c118, c119, c120, c121, c122, c123, c124, c125, c126, c127, c128, c129, c130, c131, c132], defers := [] }
set_option maxRecDepth 100000 in
set_option maxHeartbeats 8000000 in
theorem nl9_is {W0 y : World} {gl gb gs gu gt n R : Nat} {B U S : Gd} {ss : List Int} {T : Nat → Nat} (h : Lv W0 y gl gb gs gu gt n R B U S ss T) (i : Nat) (hi : i < n) (hk8 : n ≤ 8000) (x : Int) (hlen : (B.L i).length ≤ 1000000) (c0 c1 c2 c4 c5 c7 c9 c10 c11 c12 c13 c14 c15 c16 c17 c18 c19 c20 c21 c22 c23 c24 c25 c26 c27 c28 c29 c30 c31 c32 c33 c34 c35 c36 c37 c38 c39 c40 c41 c42 c43 c44 c45 c46 c47 c48 c49 c50 c51 c52 c53 c54 c55 c56 c57 c58 c59 c60 c61 c62 c63 c64 c65 c66 c67 c68 c69 c70 c71 c72 c73 c74 c75 c76 c77 c78 c79 c80 c81 c82 c83 c84 c85 c86 c87 c88 c89 c90 c91 c92 c93 c94 c95 c96 c97 c98 c99 c100 c101 c102 c103 c104 c105 c106 c107 c108 c109 c110 c111 c112 c113 c114 c115 c116 c117 c118 c119 c120 c121 c122 c123 c124 c125 c126 c127 c128 c129 c130 c131 c132 : Value) (Q : Exit → Act → World → Prop)
    (hK : ∀ (s59 s60 s61 s62 s63 s64 s65 s66 s67 s68 s69 s70 s71 s72 s73 s74 : Value) (g c : Nat) (T' : Nat → Nat) (y' : World), Lv W0 y' gl gb gs gu gt n R (B.put i g c x) U S ss T' → Kp T T' y y' → Q .normal { tmps := #[c0, c1, c2, .pointer (some ⟨gl, 0, none⟩), c4, c5, .int .i64 x, c7, .int .i64 (i : Int), c9, c10, c11, c12, c13, c14, c15, c16, c17, c18, c19, c20, c21, c22, c23, c24, c25, c26, c27, c28, c29, c30, c31, c32, c33, c34, c35, c36, c37, c38, c39, c40, c41, c42, c43, c44, c45, c46, c47, c48, c49, c50, c51, c52, c53, c54, c55, c56, c57, c58, s59, s60, s61, s62, s63, s64, s65, s66, s67, s68, s69, s70, s71, s72, s73, s74, c75, c76, c77, c78, c79, c80, c81, c82, c83, c84, c85, c86, c87, c88, c89, c90, c91, c92, c93, c94, c95, c96, c97, c98, c99, c100, c101, c102, c103, c104, c105, c106, c107, c108, c109, c110, c111, c112, c113, c114, c115, c116, c117, c118, c119, c120, c121, c122, c123, c124, c125, c126, c127, c128, c129, c130, c131, c132], defers := [] } y') :
    (nlC 9).wp Tryz.prog Q { tmps := #[c0, c1, c2, .pointer (some ⟨gl, 0, none⟩), c4, c5, .int .i64 x, c7, .int .i64 (i : Int), c9, c10, c11, c12, c13, c14, c15, c16, c17, c18, c19, c20, c21, c22, c23, c24, c25, c26, c27, c28, c29, c30, c31, c32, c33, c34, c35, c36, c37, c38, c39, c40, c41, c42, c43, c44, c45, c46, c47, c48, c49, c50, c51, c52, c53, c54, c55, c56, c57, c58, c59, c60, c61, c62, c63, c64, c65, c66, c67, c68, c69, c70, c71, c72, c73, c74, c75, c76, c77, c78, c79, c80, c81, c82, c83, c84, c85, c86, c87, c88, c89, c90, c91, c92, c93, c94, c95, c96, c97, c98, c99, c100, c101, c102, c103, c104, c105, c106, c107, c108, c109, c110, c111, c112, c113, c114, c115, c116, c117, c118, c119, c120, c121, c122, c123, c124, c125, c126, c127, c128, c129, c130, c131, c132], defers := [] } y := by
  have HKt : Hid _ := hK
  clear hK
  conv => arg 2; whnf
  dsimp only
  obtain ⟨i0, hi0, hz0, hz1, hz2⟩ := info_parts Tryz.infostL
  have hd := h.later (Below.drew (Below.refl y.heap.size y))
  have HL : Hid (Lv W0 y.drew gl gb gs gu gt n R B U S ss T) := hd
  obtain ⟨k, hkk⟩ : ∃ k, k = n := ⟨_, rfl⟩
  obtain ⟨go, hgo⟩ : ∃ go, go = gb := ⟨_, rfl⟩
  have dF : y.drew.cell? ⟨gl, 0, none⟩ = some (.slice (some ⟨go, 0, none⟩) k k) := by rw [hkk, hgo]; exact hd.cell 0
  have hrc : y.drew.cell? ⟨go, i, none⟩ = some (B.V i) := by rw [hgo]; exact hd.rb.cell hi
  obtain ⟨a, ha⟩ : ∃ a, a = B.A i := ⟨_, rfl⟩
  obtain ⟨m, hm⟩ : ∃ m, m = (B.L i).length := ⟨_, rfl⟩
  obtain ⟨c, hc⟩ : ∃ c, c = B.C i := ⟨_, rfl⟩
  have hV : B.V i = .slice a m c := by rw [ha, hm, hc]; rfl
  have HVV : Hid (B.V i = .slice a m c ∧ m = (B.L i).length ∧ go = gb ∧ k = n) := ⟨hV, hm, hgo, hkk⟩
  have dR : y.drew.cell? ⟨go, i, none⟩ = some (.slice a m c) := by rw [← hV]; exact hrc
  have dO := dR
  obtain ⟨xs, hxs⟩ : ∃ xs, xs = B.L i := ⟨_, rfl⟩
  have HXS : Hid (xs = B.L i) := hxs
  have HO : Hid (y.drew.ownsRow W0.heap.size 108 1 (.slice a m c) m xs) := by rw [ha, hm, hc, hxs]; exact hd.rb.nr i hi
  have HBL : Hid (Below W0.heap.size W0 y.drew) := hd.bel
  have HNO : Hid ((Value.slice a m c).ownBlock ≠ some go) := by rw [← hV, hgo]; exact hd.rb.ne hi
  have HNE : Hid ((Value.slice a m c).ownBlock ≠ some gl) := by
    rw [← hV]
    intro e
    have e1 := hd.rb.tn i hi gl e
    rw [hd.tb] at e1
    omega
  have HFZ : Hid (∀ w : World, (y.drew.alloc (.cells #[.int .i64 x] 108)).grownBy w (Value.slice a m c).ownBlock → w.frozen? ⟨go, i, none⟩ = false) := fun w hg => by
    have o1 := (hd.rb.oo)
    rw [← hgo] at o1
    have hgl := (o1.lt go rfl).2
    have o2 := own_eqL o1 (w' := w) fun g hq => by
      simp only [Value.ownBlock, Option.some.injEq] at hq
      subst hq
      rw [hg.block go (by simp; exact Nat.lt_succ_of_lt hgl) (fun q => HNO.out q.symm)]
      exact (below_alloc _ _).block go hgl
    exact o2.frozenAt i
  have him : m ≤ 1000000 := by rw [hm]; exact hlen
  have hik : (i : Int) < (k : Int) := by rw [hkk]; omega
  have hi8 : (i : Int) ≤ 8000 := by omega
  clear hd h hrc hV ha hc hm hxs hgo hkk hlen
  refine wp_region_any (by kernel_rfl) ?_
  change wpAny _ _ _ _ _ _ _ (World.drew _)
  refine wpAny_inw (fun L ac w => ∃ H G cp, ac = Na9Mk gl go k i a m c x c0 c1 c2 c4 c5 c7 c9 c10 c11 c12 c13 c14 c15 c16 c17 c18 c19 c20 c21 c22 c23 c24 c25 c26 c27 c28 c29 c30 c31 c32 c33 c34 c35 c36 c37 c38 c39 c40 c41 c42 c43 c44 c45 c46 c47 c48 c49 c50 c51 c52 c53 c54 c55 c56 c57 c58 c59 c60 c61 c62 c63 c64 c65 c66 c67 c68 c69 c70 c71 c72 c73 c74 c75 c76 c77 c78 c79 c80 c81 c82 c83 c84 c85 c86 c87 c88 c89 c90 c91 c92 c93 c94 c95 c96 c97 c98 c99 c100 c101 c102 c103 c104 c105 c106 c107 c108 c109 c110 c111 c112 c113 c114 c115 c116 c117 c118 c119 c120 c121 c122 c123 c124 c125 c126 c127 c128 c129 c130 c131 c132 H G cp L ∧ NapW y.drew go i a m c x W0.heap.size xs H G cp L w) ?done (by kernel_rfl) ?step _ 17 _ _ (by kernel_rfl) ?init (by decide)
  case init => exact ⟨0, 0, 0, by simp only [Na9Mk, sld_no (up_init _ _)], fun _ => rfl, fun z => absurd (z.symm.trans (up_init _ _)) (by decide), fun z => absurd (z.symm.trans (up_init _ _)) (by decide)⟩
  case step =>
    intro L act w i o hI hlt hs nl hC hd ho K hK
    obtain ⟨H, G, cp, rfl, hW⟩ := hI
    have hi_lt : i < 17 := (Array.getElem?_eq_some_iff.1 ho).1
    rcases (show i = 0 ∨ i = 1 ∨ i = 2 ∨ i = 3 ∨ i = 4 ∨ i = 5 ∨ i = 6 ∨ i = 7 ∨ i = 8 ∨ i = 9 ∨ i = 10 ∨ i = 11 ∨ i = 12 ∨ i = 13 ∨ i = 14 ∨ i = 15 ∨ i = 16 by omega) with rfl | rfl | rfl | rfl | rfl | rfl | rfl | rfl | rfl | rfl | rfl | rfl | rfl | rfl | rfl | rfl | rfl
    · change some _ = some o at ho
      cases ho
      simp only [Na9Mk]
      go_simp
      exact hK _ _ ⟨H, G, cp, by simp only [Na9Mk, sld_set hlt, reduceIte, Nat.reduceEqDiff]; try rfl, (hW.keep hlt (by decide) (by decide) (by decide))⟩
    · change some _ = some o at ho
      cases ho
      have q0 : up L 0 = true := (by first | exact hd { on := 0, ground := .data } (by simp) rfl | exact hd { on := 0, ground := .chain } (by simp) rfl | exact hd { on := 0, ground := .phase } (by simp) rfl)
      simp only [Na9Mk, sld_yes q0]
      go_simp
      exact hK _ _ ⟨H, G, cp, by simp only [Na9Mk, sld_set hlt, sld_yes q0, reduceIte, Nat.reduceEqDiff]; try rfl, (hW.keep hlt (by decide) (by decide) (by decide))⟩
    · change some _ = some o at ho
      cases ho
      have q1 : up L 1 = true := (by first | exact hd { on := 1, ground := .data } (by simp) rfl | exact hd { on := 1, ground := .chain } (by simp) rfl | exact hd { on := 1, ground := .phase } (by simp) rfl)
      simp only [Na9Mk, sld_yes q1]
      go_simp
      exact hK _ _ ⟨H, G, cp, by simp only [Na9Mk, sld_set hlt, sld_yes q1, reduceIte, Nat.reduceEqDiff]; try rfl, (hW.keep hlt (by decide) (by decide) (by decide))⟩
    · change some _ = some o at ho
      cases ho
      have q2 : up L 2 = true := (by first | exact hd { on := 2, ground := .data } (by simp) rfl | exact hd { on := 2, ground := .chain } (by simp) rfl | exact hd { on := 2, ground := .phase } (by simp) rfl)
      have n16 : up L 16 = false := hC.no (hC.no nl 15 rfl (by kernel_rfl)) 16 rfl (by kernel_rfl)
      have cx := hW.any n16 HNE.out dF
      simp only [Na9Mk, sld_yes q2]
      go_simp
      exact hK _ _ ⟨H, G, cp, by simp only [Na9Mk, sld_set hlt, sld_yes q2, reduceIte, Nat.reduceEqDiff]; try rfl, (hW.keep hlt (by decide) (by decide) (by decide))⟩
    · change some _ = some o at ho
      cases ho
      simp only [Na9Mk]
      go_simp
      exact hK _ _ ⟨H, G, cp, by simp only [Na9Mk, sld_set hlt, reduceIte, Nat.reduceEqDiff]; try rfl, (hW.keep hlt (by decide) (by decide) (by decide))⟩
    · change some _ = some o at ho
      cases ho
      simp only [Na9Mk]
      go_simp
      exact hK _ _ ⟨H, G, cp, by simp only [Na9Mk, sld_set hlt, reduceIte, Nat.reduceEqDiff]; try rfl, (hW.keep hlt (by decide) (by decide) (by decide))⟩
    · change some _ = some o at ho
      cases ho
      have q5 : up L 5 = true := (by first | exact hd { on := 5, ground := .data } (by simp) rfl | exact hd { on := 5, ground := .chain } (by simp) rfl | exact hd { on := 5, ground := .phase } (by simp) rfl)
      simp only [Na9Mk, sld_yes q5]
      go_simp
      exact hK _ _ ⟨H, G, cp, by simp only [Na9Mk, sld_set hlt, sld_yes q5, reduceIte, Nat.reduceEqDiff]; try rfl, (hW.keep hlt (by decide) (by decide) (by decide))⟩
    · change some _ = some o at ho
      cases ho
      have q6 : up L 6 = true := (by first | exact hd { on := 6, ground := .data } (by simp) rfl | exact hd { on := 6, ground := .chain } (by simp) rfl | exact hd { on := 6, ground := .phase } (by simp) rfl)
      simp only [Na9Mk, sld_yes q6]
      go_simp
      exact hK _ _ ⟨H, G, cp, by simp only [Na9Mk, sld_set hlt, sld_yes q6, reduceIte, Nat.reduceEqDiff]; try rfl, (hW.keep hlt (by decide) (by decide) (by decide))⟩
    · change some _ = some o at ho
      cases ho
      have q7 : up L 7 = true := (by first | exact hd { on := 7, ground := .data } (by simp) rfl | exact hd { on := 7, ground := .chain } (by simp) rfl | exact hd { on := 7, ground := .phase } (by simp) rfl)
      have n10 : up L 10 = false := hC.no nl 10 rfl (by kernel_rfl)
      have n11 : up L 11 = false := hC.no n10 11 rfl (by kernel_rfl)
      have n14 : up L 14 = false := hC.no n11 14 rfl (by kernel_rfl)
      have cx := hW.early n14 dF
      simp only [Na9Mk, sld_yes q7]
      go_simp
      exact hK _ _ ⟨H, G, cp, by simp only [Na9Mk, sld_set hlt, sld_yes q7, reduceIte, Nat.reduceEqDiff]; try rfl, (hW.keep hlt (by decide) (by decide) (by decide))⟩
    · change some _ = some o at ho
      cases ho
      simp only [Na9Mk]
      go_simp
      exact hK _ _ ⟨H, G, cp, by simp only [Na9Mk, sld_set hlt, reduceIte, Nat.reduceEqDiff]; try rfl, (hW.keep hlt (by decide) (by decide) (by decide))⟩
    · change some _ = some o at ho
      cases ho
      have q8 : up L 8 = true := (by first | exact hd { on := 8, ground := .data } (by simp) rfl | exact hd { on := 8, ground := .chain } (by simp) rfl | exact hd { on := 8, ground := .phase } (by simp) rfl)
      have q9 : up L 9 = true := (by first | exact hd { on := 9, ground := .data } (by simp) rfl | exact hd { on := 9, ground := .chain } (by simp) rfl | exact hd { on := 9, ground := .phase } (by simp) rfl)
      simp only [Na9Mk, sld_yes q8, sld_yes q9]
      go_simp
      exact hK _ _ ⟨H, G, cp, by simp only [Na9Mk, sld_set hlt, sld_yes q8, sld_yes q9, reduceIte, Nat.reduceEqDiff]; try rfl, (hW.keep hlt (by decide) (by decide) (by decide))⟩
    · change some _ = some o at ho
      cases ho
      have q10 : up L 10 = true := (by first | exact hd { on := 10, ground := .data } (by simp) rfl | exact hd { on := 10, ground := .chain } (by simp) rfl | exact hd { on := 10, ground := .phase } (by simp) rfl)
      have n14 : up L 14 = false := hC.no nl 14 rfl (by kernel_rfl)
      have cx := hW.early n14 dR
      simp only [Na9Mk, sld_yes q10]
      go_simp
      exact hK _ _ ⟨H, G, cp, by simp only [Na9Mk, sld_set hlt, sld_yes q10, reduceIte, Nat.reduceEqDiff]; try rfl, (hW.keep hlt (by decide) (by decide) (by decide))⟩
    · change some _ = some o at ho
      cases ho
      simp only [Na9Mk]
      go_simp
      exact hK _ _ ⟨H, G, cp, by simp only [Na9Mk, sld_set hlt, reduceIte, Nat.reduceEqDiff]; try rfl, (hW.keep hlt (by decide) (by decide) (by decide))⟩
    · change some _ = some o at ho
      cases ho
      have q12 : up L 12 = true := (by first | exact hd { on := 12, ground := .data } (by simp) rfl | exact hd { on := 12, ground := .chain } (by simp) rfl | exact hd { on := 12, ground := .phase } (by simp) rfl)
      have n14 : up L 14 = false := hC.no nl 14 rfl (by kernel_rfl)
      obtain rfl := hW.1 nl
      simp only [Na9Mk, sld_yes q12]
      go_simp
      exact hK _ _ ⟨y.drew.heap.size, G, cp, by simp only [Na9Mk, sld_set hlt, sld_yes q12, reduceIte, Nat.reduceEqDiff]; try rfl, ⟨fun z => absurd (z.symm.trans ((up_set hlt _).trans (if_pos rfl))) (by decide), fun _ _ => ⟨rfl, rfl⟩, fun z => absurd (z.symm.trans ((up_set hlt 14).trans n14)) (by decide)⟩⟩
    · change some _ = some o at ho
      cases ho
      have q11 : up L 11 = true := (by first | exact hd { on := 11, ground := .data } (by simp) rfl | exact hd { on := 11, ground := .chain } (by simp) rfl | exact hd { on := 11, ground := .phase } (by simp) rfl)
      have q13 : up L 13 = true := (by first | exact hd { on := 13, ground := .data } (by simp) rfl | exact hd { on := 13, ground := .chain } (by simp) rfl | exact hd { on := 13, ground := .phase } (by simp) rfl)
      have n16 : up L 16 = false := hC.no nl 16 rfl (by kernel_rfl)
      obtain ⟨rfl, rfl⟩ := hW.2.1 q13 nl
      have hown0 := own_keepI HO.out (below_alloc y.drew (.cells #[.int .i64 x] 108))
      simp only [Na9Mk, sld_yes q11, sld_yes q13]
      rw [if_pos (by rfl)]
      refine wp_append_lies _ (.tmp 70) (.tmp 72) 119 (by rfl) W0.heap.size 108 i0 (.int .i64 0) 1 8 Tryz.underlying119 hi0 hz0 hz1 hz2 rfl (by decide) (.slice a m c) m xs (by rfl) hown0 ⟨y.drew.heap.size, 0, none⟩ 1 1 [.int .i64 x] (by rfl) rfl (World.news_of_block (heap_alloc_new y.drew (.cells #[.int .i64 x] 108))) (by intro z hz; simp at hz; subst hz; rfl) (by decide) (by unfold maxLen; omega) (by omega) (Nat.le_trans HBL.out.size (below_alloc y.drew _).size) _ rfl ?_
      intro G' cp' w2 hown1 hgrow hat hlt1
      exact hK _ _ ⟨y.drew.heap.size, G', cp', by simp only [Na9Mk, sld_set hlt, sld_yes q11, sld_yes q13, reduceIte, Nat.reduceEqDiff]; try rfl, ⟨fun z => absurd (z.symm.trans ((up_set hlt 13).trans q13)) (by decide), fun _ z => absurd (z.symm.trans ((up_set hlt _).trans (if_pos rfl))) (by decide), fun _ => ⟨w2, hown1, hgrow, by (rcases hat with e | e; exact .inl e; exact .inr (by rw [e]; simp)), fun _ => rfl, fun z => absurd (z.symm.trans ((up_set hlt 16).trans n16)) (by decide)⟩⟩⟩
    · change some _ = some o at ho
      cases ho
      have q3 : up L 3 = true := (by first | exact hd { on := 3, ground := .data } (by simp) rfl | exact hd { on := 3, ground := .chain } (by simp) rfl | exact hd { on := 3, ground := .phase } (by simp) rfl)
      have q4 : up L 4 = true := (by first | exact hd { on := 4, ground := .data } (by simp) rfl | exact hd { on := 4, ground := .chain } (by simp) rfl | exact hd { on := 4, ground := .phase } (by simp) rfl)
      simp only [Na9Mk, sld_yes q3, sld_yes q4]
      go_simp
      exact hK _ _ ⟨H, G, cp, by simp only [Na9Mk, sld_set hlt, sld_yes q3, sld_yes q4, reduceIte, Nat.reduceEqDiff]; try rfl, (hW.keep hlt (by decide) (by decide) (by decide))⟩
    · change some _ = some o at ho
      cases ho
      have q14 : up L 14 = true := (by first | exact hd { on := 14, ground := .data } (by simp) rfl | exact hd { on := 14, ground := .chain } (by simp) rfl | exact hd { on := 14, ground := .phase } (by simp) rfl)
      have q15 : up L 15 = true := (by first | exact hd { on := 15, ground := .data } (by simp) rfl | exact hd { on := 15, ground := .chain } (by simp) rfl | exact hd { on := 15, ground := .phase } (by simp) rfl)
      have q13 : up L 13 = true := hC 14 _ rfl q14 { on := 13, ground := .data } (by simp) rfl
      have cx := hW.any nl HNO.out dO
      obtain ⟨w2, y1, y2, y3, y5, _⟩ := hW.2.2 q14
      obtain rfl := y5 nl
      have fx := HFZ.out w y2
      simp only [Na9Mk, sld_yes q14, sld_yes q15]
      go_simp
      exact hK _ _ ⟨H, G, cp, by simp only [Na9Mk, sld_set hlt, sld_yes q14, sld_yes q15, reduceIte, Nat.reduceEqDiff]; try rfl, ⟨fun z => absurd (z.symm.trans ((up_set hlt 13).trans q13)) (by decide), fun _ z => absurd (z.symm.trans ((up_set hlt 14).trans q14)) (by decide), fun _ => ⟨w, y1, y2, y3, fun z => absurd (z.symm.trans ((up_set hlt _).trans (if_pos rfl))) (by decide), fun _ => rfl⟩⟩⟩
  case done =>
    rintro L ac w ⟨H, G, cp, rfl, hW⟩ hall
    obtain ⟨w2, y1, y2, y3, _, y5⟩ := hW.2.2 (hall 14 (by decide))
    obtain rfl := y5 (hall 16 (by decide))
    simp only [Na9Mk, sld_yes (hall 0 (by decide)), sld_yes (hall 1 (by decide)), sld_yes (hall 2 (by decide)), sld_yes (hall 3 (by decide)), sld_yes (hall 4 (by decide)), sld_yes (hall 5 (by decide)), sld_yes (hall 6 (by decide)), sld_yes (hall 7 (by decide)), sld_yes (hall 8 (by decide)), sld_yes (hall 9 (by decide)), sld_yes (hall 10 (by decide)), sld_yes (hall 11 (by decide)), sld_yes (hall 12 (by decide)), sld_yes (hall 13 (by decide)), sld_yes (hall 14 (by decide)), sld_yes (hall 15 (by decide))]
    obtain ⟨hV, hm, hgo, hkk⟩ := HVV.out
    have hxs := HXS.out
    subst hxs hm hgo hkk
    rw [← hV] at y2 y3
    refine HKt.out _ _ _ _ _ _ _ _ _ _ _ _ _ _ _ _ G cp _ _ (HL.out.app_b hi (below_alloc y.drew _) y1 y2 y3) ⟨?_, fun g hg => ⟨newT_old hg, HL.out.far_b hi (below_alloc y.drew _) y2 hg⟩⟩
    have e := y2.size
    simp at e ⊢
    omega
end Go.Proofs.YtcgfgmlfbgbkfaaGreatDoor.W
namespace Go.Proofs.YtcgfgmlfbgbkfaaGreatDoor.Pl
def inW (ws : List Nat) (n : Nat) : Bool := (ws.getD (n / 64) 0).testBit (n % 64)
def putW (ws : List Nat) (n : Nat) : List Nat := ws.set (n / 64) (ws.getD (n / 64) 0 ||| 2 ^ (n % 64))
def smallW (ws : List Nat) : Prop := ∀ i, ws.getD i 0 < 18446744073709551616
theorem putW_len (ws : List Nat) (n : Nat) : (putW ws n).length = ws.length := by simp [putW]
theorem putW_at (ws : List Nat) (n i : Nat) (h : n / 64 < ws.length) : (putW ws n).getD i 0 = if i = n / 64 then ws.getD (n / 64) 0 ||| 2 ^ (n % 64) else ws.getD i 0 := by
  unfold putW
  by_cases e : i = n / 64
  · subst e
    rw [if_pos rfl, List.getD_eq_getElem?_getD, List.getElem?_set_self h]; rfl
  · rw [if_neg e, List.getD_eq_getElem?_getD, List.getElem?_set_ne (fun q => e q.symm), List.getD_eq_getElem?_getD]
theorem smallW.put {ws : List Nat} (hs : smallW ws) (n : Nat) : smallW (putW ws n) := by
  intro i
  by_cases h : n / 64 < ws.length
  · rw [putW_at ws n i h]
    split
    · exact Nat.or_lt_two_pow (n := 64) (hs _) (Nat.pow_lt_pow_right (by decide) (Nat.mod_lt _ (by decide)))
    · exact hs i
  · unfold putW; rw [List.set_eq_of_length_le (by omega)]; exact hs i
theorem smallW_nil (k : Nat) : smallW (List.replicate k 0) := by
  intro i
  rw [List.getD_eq_getElem?_getD, List.getElem?_replicate]
  split <;> decide
theorem inW_nil (k n : Nat) : inW (List.replicate k 0) n = false := by
  unfold inW
  rw [List.getD_eq_getElem?_getD, List.getElem?_replicate]
  split <;> simp
theorem inW_put (ws : List Nat) (n m : Nat) (h : n / 64 < ws.length) : inW (putW ws n) m = (inW ws m || decide (m = n)) := by
  unfold inW
  rw [putW_at ws n _ h]
  by_cases e : m / 64 = n / 64
  · rw [if_pos e, Nat.testBit_or, Nat.testBit_two_pow, e]
    congr 1
    by_cases q : m = n
    · subst q; simp
    · have : ¬ n % 64 = m % 64 := by omega
      simp [q, this]
  · rw [if_neg e]
    have : ¬ m = n := fun q => e (by rw [q])
    simp [this]
theorem inW_big (ws : List Nat) (n : Nat) (h : 64 * ws.length ≤ n) : inW ws n = false := by
  unfold inW
  rw [List.getD_eq_getElem?_getD, List.getElem?_eq_none (by omega)]
  simp
def allW (ws : List Nat) : List Nat := (List.range (64 * ws.length)).filter (inW ws)
def oneW (i x : Nat) : List Nat := ((List.range 64).filter x.testBit).map (64 * i + ·)
def restW (ws : List Nat) (i : Nat) : List Nat := (List.range' i (ws.length - i)).flatMap fun j => oneW j (ws.getD j 0)
theorem oneW_zero (i : Nat) : oneW i 0 = [] := by simp [oneW]
theorem restW_end (ws : List Nat) (i : Nat) (h : ws.length ≤ i) : restW ws i = [] := by
  unfold restW
  rw [show ws.length - i = 0 by omega]; rfl
theorem restW_step (ws : List Nat) (i : Nat) (h : i < ws.length) : restW ws i = oneW i (ws.getD i 0) ++ restW ws (i + 1) := by
  unfold restW
  rw [show ws.length - i = (ws.length - (i + 1)) + 1 by omega, List.range'_succ, List.flatMap_cons]
theorem filter_first (p q : Nat → Bool) (k : Nat) (hp : p k = true) (hl : ∀ i, i < k → p i = false) (hq : ∀ i, q i = (p i && decide (i ≠ k))) : ∀ n, k < n → (List.range n).filter p = k :: (List.range n).filter q := by
  have base : ∀ n, n ≤ k → (List.range n).filter p = [] ∧ (List.range n).filter q = [] := by
    intro n hn
    constructor
    · rw [List.filter_eq_nil_iff]; intro a ha; rw [hl a (by have := List.mem_range.1 ha; omega)]; simp
    · rw [List.filter_eq_nil_iff]; intro a ha; rw [hq, hl a (by have := List.mem_range.1 ha; omega)]; simp
  intro n hn
  induction n with
  | zero => omega
  | succ n ih =>
    rw [List.range_succ, List.filter_append, List.filter_append]
    by_cases e : k = n
    · subst e
      rw [(base k (Nat.le_refl _)).1, (base k (Nat.le_refl _)).2]
      have hqk : q k = false := by rw [hq]; simp
      rw [List.filter_cons_of_pos hp, List.filter_cons_of_neg (by simp [hqk])]
      simp
    · rw [ih (by omega)]
      have hqn : q n = p n := by rw [hq]; have : n ≠ k := fun c => e c.symm; simp [this]
      simp [List.filter_cons, hqn]
theorem ctz_bits (x : Nat) (h0 : x ≠ 0) (h : x < 18446744073709551616) : x.testBit (Lib.ctz 64 x) = true ∧ (∀ i, i < Lib.ctz 64 x → x.testBit i = false) ∧ (∀ i, (x &&& (x - 1)).testBit i = (x.testBit i && decide (i ≠ Lib.ctz 64 x))) ∧ Lib.ctz 64 x < 64 := by
  obtain ⟨m, hm, hk⟩ := Lib.ctzFrom_spec 64 x (by omega) h
  have hc : Lib.ctz 64 x = Lib.ctzFrom 64 x := by simp [Lib.ctz, h0]
  rw [hc]
  generalize Lib.ctzFrom 64 x = k at *
  have t1 : ∀ i, x.testBit i = if i < k then false else (2 * m + 1).testBit (i - k) := by
    intro i
    rw [hm, ← Nat.add_zero (2 ^ k * (2 * m + 1)), Nat.testBit_two_pow_mul_add _ (Nat.two_pow_pos k)]
    simp
  have t2 : ∀ i, (x - 1).testBit i = if i < k then true else (2 * m).testBit (i - k) := by
    intro i
    have e : x - 1 = 2 ^ k * (2 * m) + (2 ^ k - 1) := by
      have : 2 ^ k * (2 * m + 1) = 2 ^ k * (2 * m) + 2 ^ k := by rw [Nat.mul_add]; simp
      have := Nat.two_pow_pos k
      omega
    rw [e, Nat.testBit_two_pow_mul_add _ (by have := Nat.two_pow_pos k; omega), Nat.testBit_two_pow_sub_one]
    split <;> simp_all
  have t3 : ∀ j, (2 * m + 1).testBit j = if j = 0 then true else (2 * m).testBit j := by
    intro j
    cases j with
    | zero => simp
    | succ j => rw [if_neg (by omega), Nat.testBit_succ, Nat.testBit_succ]; congr 1; omega
  have t4 : (2 * m).testBit 0 = false := by simp
  refine ⟨?_, ?_, ?_, hk⟩
  · rw [t1]; simp
  · intro i hi; rw [t1, if_pos hi]
  · intro i
    rw [Nat.testBit_and, t1, t2]
    by_cases hi : i < k
    · simp [hi]
    · rw [if_neg hi, if_neg hi, t3]
      by_cases e : i = k
      · subst e; simp [t4]
      · have : i - k ≠ 0 := by omega
        simp [this, e]
theorem oneW_step (i x : Nat) (h0 : x ≠ 0) (h : x < 18446744073709551616) : oneW i x = (64 * i + Lib.ctz 64 x) :: oneW i (x &&& (x - 1)) := by
  obtain ⟨h1, h2, h3, h4⟩ := ctz_bits x h0 h
  unfold oneW
  rw [filter_first x.testBit (x &&& (x - 1)).testBit _ h1 h2 h3 64 h4]
  rfl
theorem ctz_and_lt (x : Nat) (h0 : x ≠ 0) : x &&& (x - 1) < x := Nat.lt_of_le_of_lt Nat.and_le_right (by omega)
theorem restW_inW (ws : List Nat) : ∀ k, k ≤ ws.length → restW ws (ws.length - k) = (List.range' (64 * (ws.length - k)) (64 * k)).filter (inW ws) := by
  intro k hk
  induction k with
  | zero => rw [restW_end ws _ (by omega)]; simp
  | succ k ih =>
    have ih := ih (by omega)
    rw [restW_step ws _ (by omega), show ws.length - (k + 1) + 1 = ws.length - k by omega, ih]
    generalize hj : ws.length - (k + 1) = j
    rw [show ws.length - k = j + 1 by omega]
    have e : List.range' (64 * j) (64 * (k + 1)) = List.range' (64 * j) 64 ++ List.range' (64 * (j + 1)) (64 * k) := by
      rw [show 64 * (k + 1) = 64 + 64 * k by omega, ← List.range'_append]
      rfl
    rw [e, List.filter_append]
    congr 1
    unfold oneW
    rw [List.range'_eq_map_range, List.filter_map]
    congr 1
    apply List.filter_congr
    intro a ha
    have ha := List.mem_range.1 ha
    show _ = inW ws (64 * j + a)
    unfold inW
    rw [show (64 * j + a) / 64 = j by omega, show (64 * j + a) % 64 = a by omega]
theorem restW_all (ws : List Nat) : restW ws 0 = allW ws := by
  have := restW_inW ws ws.length (Nat.le_refl _)
  rw [Nat.sub_self] at this
  rw [this, allW, List.range_eq_range']
theorem mem_allW (ws : List Nat) (n : Nat) : n ∈ allW ws ↔ inW ws n = true := by
  unfold allW
  rw [List.mem_filter]
  constructor
  · exact fun h => h.2
  · intro h
    refine ⟨List.mem_range.2 ?_, h⟩
    apply Classical.byContradiction
    intro hn
    rw [inW_big ws n (by omega)] at h
    cases h
theorem allW_bound (ws : List Nat) (R : Nat) (hR : R ≤ 64 * ws.length) (h : ∀ n, inW ws n = true → n < R) : allW ws = (List.range R).filter (inW ws) := by
  unfold allW
  obtain ⟨d, hd⟩ : ∃ d, 64 * ws.length = R + d := ⟨64 * ws.length - R, by omega⟩
  rw [hd, List.range_add, List.filter_append]
  have : List.filter (inW ws) (List.map (fun x => R + x) (List.range d)) = [] := by
    rw [List.filter_eq_nil_iff]
    intro a ha q
    have := h a q
    obtain ⟨b, _, rfl⟩ := List.mem_map.1 ha
    omega
  rw [this, List.append_nil]
end Go.Proofs.YtcgfgmlfbgbkfaaGreatDoor.Pl
namespace Go.Proofs.YtcgfgmlfbgbkfaaGreatDoor.Pl
def wsV (ws : List Nat) : List Value := ws.map fun x : Nat => Value.int .u64 (x : Int)
theorem wsV_len (ws : List Nat) : (wsV ws).length = ws.length := by simp [wsV]
theorem wsV_at (ws : List Nat) (i : Nat) (h : i < ws.length) : (wsV ws)[i]? = some (.int .u64 ((ws.getD i 0 : Nat) : Int)) := by
  unfold wsV
  rw [List.getElem?_map, List.getElem?_eq_getElem h, List.getD_eq_getElem?_getD, List.getElem?_eq_getElem h]; rfl
theorem wsV_put (ws : List Nat) (n : Nat) : (wsV ws).set (n / 64) (.int .u64 ((ws.getD (n / 64) 0 ||| 2 ^ (n % 64) : Nat) : Int)) = wsV (putW ws n) := by
  unfold wsV putW
  rw [List.map_set]
theorem wsV_nil (k : Nat) : wsV (List.replicate k 0) = List.replicate k (.int .u64 0) := by simp [wsV]
end Go.Proofs.YtcgfgmlfbgbkfaaGreatDoor.Pl
namespace Go.Proofs.YtcgfgmlfbgbkfaaGreatDoor.W
open Go.RowKit
theorem Tryz.infou64L : (Tryz.prog.info? 110).map (fun i => (i.zero, i.size, i.bytes)) = some (some (.int .u64 0), 1, 8) := by kernel_rfl
theorem and127 (z : Int) : ∃ k : Nat, k ≤ 127 ∧ bits .and .i64 z 127 = (k : Int) := by
  refine ⟨(BitVec.ofInt 64 z).toNat &&& 127, Nat.and_le_right, ?_⟩
  show IntKind.i64.wrap ((BitVec.ofInt 64 z &&& BitVec.ofInt 64 127).toNat : Int) = _
  rw [BitVec.toNat_and, show (BitVec.ofInt 64 127).toNat = 127 from by decide, IntKind.wrap_i64]
  have : (BitVec.ofInt 64 z).toNat &&& 127 ≤ 127 := Nat.and_le_right
  omega
def Cnt (e : Ending) : Prop := ∃ k : Nat, k ≤ 127 ∧ e = .returned (.int .i64 (k : Int))
set_option maxHeartbeats 4000000 in
theorem onesCount_is (x : Int) (w : World) : Calls Tryz.prog 66 #[.int .u64 x] w fun e w' => Cnt e ∧ w' = w := by
  go_enter Tryz.func66, Tryz.ntmps66
  go_wp2
  go_ret
  refine ⟨?_, rfl⟩
  obtain ⟨k, hk, e⟩ := and127 _
  exact ⟨k, hk, congrArg (fun z => Ending.returned (.int .i64 z)) e⟩
def TabT (w : World) : Prop := ∀ j, j < 64 → w.cell? ⟨0, j, none⟩ = some (.int .u8 ((Lib.deBruijn64tab.getD j 0 : Nat) : Int))
theorem TabT.keep {lo : Nat} {w w' : World} (h : TabT w) (hlo : 0 < lo) (hb : Below lo w w') : TabT w' := fun j hj => (hb.cell (p := ⟨0, j, none⟩) hlo).trans (h j hj)
theorem tz_key (x a : Nat) (hx : x < 18446744073709551616) (hx0 : x ≠ 0) (hlow : x &&& (18446744073709551616 - x) = a) :
    IntKind.u64.wrap (bits BinOp.and IntKind.u64 (x : Int) (IntKind.u64.wrap (-(x : Int))) * 285870213051353865) / 288230376151711744 = ((a * 285870213051353865 % 18446744073709551616 / 288230376151711744 : Nat) : Int) := by
  have e1 : IntKind.u64.wrap (-(x : Int)) = ((18446744073709551616 - x : Nat) : Int) := by rw [IntKind.wrap_u64]; omega
  rw [e1, bits_and_u64_nat x _ hx (by omega), hlow, IntKind.wrap_u64]
  omega
set_option maxHeartbeats 4000000 in
theorem tz_core (x k idx : Nat) (w : World) (hx0 : ((x : Int) == 0) = false)
    (key : IntKind.u64.wrap (bits BinOp.and IntKind.u64 (x : Int) (IntKind.u64.wrap (-(x : Int))) * 285870213051353865) / 288230376151711744 = (idx : Int))
    (hi : idx < 64) (hk : k < 64) (hcell : w.cell? ⟨0, idx, none⟩ = some (.int .u8 (k : Int))) :
    Calls Tryz.prog 98 #[.int .u64 (x : Int)] w fun e w' => e = .returned (.int .i64 (k : Int)) ∧ w' = w := by
  go_enter Tryz.func98, Tryz.ntmps98
  go_wp2_with (simp only [key])
  go_ret
  exact ⟨rfl, rfl⟩
theorem tz_is (x : Nat) (hx : x < 18446744073709551616) (hx0 : x ≠ 0) (w : World) (hT : TabT w) : Calls Tryz.prog 98 #[.int .u64 (x : Int)] w fun e w' => e = .returned (.int .i64 ((Lib.ctz 64 x : Nat) : Int)) ∧ w' = w := by
  obtain ⟨hlow, hk⟩ := Lib.lowest_bit 64 x hx0 hx
  obtain ⟨hi, htab⟩ := Lib.deBruijn64_at _ hk
  have hcell := hT _ hi
  rw [htab] at hcell
  exact tz_core x _ _ w (by simp; omega) (tz_key x _ hx hx0 hlow) hi hk hcell
set_option maxHeartbeats 4000000 in
theorem nextMultiple64_is (b : Nat) (hb : b ≤ 100000) (w : World) : Calls Tryz.prog 90 #[.int .i64 (b : Int), .int .i64 64] w fun e w' => e = .returned (.int .i64 (((b + 63) / 64 * 64 : Nat) : Int)) ∧ w' = w := by
  have h1 : ((b : Int) + 64 - 1).tdiv 64 = (((b + 63) / 64 : Nat) : Int) := by rw [Int.tdiv_eq_ediv_of_nonneg (by omega)]; omega
  have h2 : (((b + 63) / 64 : Nat) : Int) * 64 = (((b + 63) / 64 * 64 : Nat) : Int) := by omega
  obtain ⟨q, hq⟩ : ∃ q : Nat, q = (b + 63) / 64 := ⟨_, rfl⟩
  have hq2 : q ≤ 100000 := by omega
  rw [← hq] at h1 h2
  have H2 : Hid ((q : Int) * 64 = ((q * 64 : Nat) : Int)) := h2
  rw [← hq]
  clear hq h2
  go_enter Tryz.func90, Tryz.ntmps90
  go_wp2
  go_ret
  exact ⟨congrArg (fun z => Ending.returned (.int .i64 z)) H2.out, rfl⟩
set_option maxHeartbeats 4000000 in
theorem newSetI_is (b : Nat) (hb : b ≤ 100000) (w : World) : Calls Tryz.prog 61 #[.int .i64 (b : Int)] w fun e w' => e = .returned (.slice (some ⟨w.heap.size, 0, none⟩) ((b + 63) / 64) ((b + 63) / 64)) ∧ w'.ownsRow w.heap.size 110 1 (.slice (some ⟨w.heap.size, 0, none⟩) ((b + 63) / 64) ((b + 63) / 64)) ((b + 63) / 64) (Pl.wsV (List.replicate ((b + 63) / 64) 0)) ∧ Below w.heap.size w w' := by
  obtain ⟨q, hq⟩ : ∃ q : Nat, q = (b + 63) / 64 := ⟨_, rfl⟩
  have hq2 : q ≤ 100000 := by omega
  have HNM : Hid (∀ u : World, Calls Tryz.prog 90 #[.int .i64 (b : Int), .int .i64 64] u fun e w' => e = .returned (.int .i64 ((q * 64 : Nat) : Int)) ∧ w' = u) := fun u => by rw [hq]; exact nextMultiple64_is b hb u
  have hd : ((q * 64 : Nat) : Int).tdiv 64 = (q : Int) := by rw [Int.tdiv_eq_ediv_of_nonneg (by omega)]; omega
  rw [← hq]
  obtain ⟨i0, hi0, hz0, hz1, hz2⟩ := info_parts Tryz.infou64L
  have hmk : ∀ u : World, (Instr.makeSlice 65 (.int .i64 (q : Int)) (.int .i64 (q : Int))).run Tryz.prog u = .ok (.slice (some ⟨u.heap.size, 0, none⟩) q q) (u.alloc (.cells (madeCells (Value.int .u64 0).cells (q * 1)) 110)) := fun u => by
    have := run_makeSlice u 65 110 i0 _ Tryz.underlying65 hi0 hz0 .i64 .i64 (q : Int) (q : Int) (by omega) (by omega) (by rw [hz1]; simp; omega) (by rw [hz2]; omega) (by omega)
    rw [hz1] at this
    simpa using this
  have HO : Hid (∀ u : World, (u.alloc (.cells (madeCells (Value.int .u64 0).cells (q * 1)) 110)).ownsRow u.heap.size 110 1 (.slice (some ⟨u.heap.size, 0, none⟩) q q) q (Pl.wsV (List.replicate q 0))) := fun u => by
    have := World.ownsRow_lit u (madeCells (Value.int .u64 0).cells (q * 1)) q (base := u.heap.size) (e := 110) (size := 1) (Nat.le_refl _) (by unfold maxLen; omega) (by simp [madeCells, Value.cells])
    rw [show (madeCells (Value.int .u64 0).cells (q * 1)).toList = List.replicate q (.int .u64 0) from by rw [Nat.mul_one]; exact toList_madeCells_one _ _] at this
    rw [Pl.wsV_nil]; exact this
  obtain ⟨cs, hcs⟩ : ∃ cs, cs = madeCells (Value.int .u64 0).cells (q * 1) := ⟨_, rfl⟩
  rw [← hcs] at hmk HO
  obtain ⟨z, hz⟩ : ∃ z : Int, z = ((q * 64 : Nat) : Int) := ⟨_, rfl⟩
  rw [← hz] at HNM hd
  clear hcs hi0 hz0 hz1 hz2 hq hz
  go_enter Tryz.func61, Tryz.ntmps61
  go_wp2_with (go_at_call 90; refine (HNM.out _).mono ?_; rintro e z1 ⟨rfl, g1⟩; rw [g1]; clear g1 z1)
  go_ret
  exact ⟨rfl, HO.out w, below_alloc _ _⟩
theorem allI_is (a : Option Addr) (n c : Nat) (w : World) : Calls Tryz.prog 68 #[.slice a n c] w fun e w' => e = .returned (.func (.func 99) #[] #[.pointer (some ⟨w.heap.size, 0, none⟩)]) ∧ w' = w.alloc (.cells #[.slice a n c] 65) := by
  go_enter Tryz.func68, Tryz.ntmps68
  go_wp2
  go_ret
  exact ⟨rfl, rfl⟩
set_option maxHeartbeats 4000000 in
theorem newSetS_is (b : Nat) (hb : b ≤ 100000) (w : World) : Calls Tryz.prog 95 #[.int .i64 (b : Int)] w fun e w' => e = .returned (.slice (some ⟨w.heap.size, 0, none⟩) ((b + 63) / 64) ((b + 63) / 64)) ∧ w'.ownsRow w.heap.size 110 1 (.slice (some ⟨w.heap.size, 0, none⟩) ((b + 63) / 64) ((b + 63) / 64)) ((b + 63) / 64) (Pl.wsV (List.replicate ((b + 63) / 64) 0)) ∧ Below w.heap.size w w' := by
  obtain ⟨q, hq⟩ : ∃ q : Nat, q = (b + 63) / 64 := ⟨_, rfl⟩
  have hq2 : q ≤ 100000 := by omega
  have HNM : Hid (∀ u : World, Calls Tryz.prog 90 #[.int .i64 (b : Int), .int .i64 64] u fun e w' => e = .returned (.int .i64 ((q * 64 : Nat) : Int)) ∧ w' = u) := fun u => by rw [hq]; exact nextMultiple64_is b hb u
  have hd : ((q * 64 : Nat) : Int).tdiv 64 = (q : Int) := by rw [Int.tdiv_eq_ediv_of_nonneg (by omega)]; omega
  rw [← hq]
  obtain ⟨i0, hi0, hz0, hz1, hz2⟩ := info_parts Tryz.infou64L
  have hmk : ∀ u : World, (Instr.makeSlice 105 (.int .i64 (q : Int)) (.int .i64 (q : Int))).run Tryz.prog u = .ok (.slice (some ⟨u.heap.size, 0, none⟩) q q) (u.alloc (.cells (madeCells (Value.int .u64 0).cells (q * 1)) 110)) := fun u => by
    have := run_makeSlice u 105 110 i0 _ Tryz.underlying105 hi0 hz0 .i64 .i64 (q : Int) (q : Int) (by omega) (by omega) (by rw [hz1]; simp; omega) (by rw [hz2]; omega) (by omega)
    rw [hz1] at this
    simpa using this
  have HO : Hid (∀ u : World, (u.alloc (.cells (madeCells (Value.int .u64 0).cells (q * 1)) 110)).ownsRow u.heap.size 110 1 (.slice (some ⟨u.heap.size, 0, none⟩) q q) q (Pl.wsV (List.replicate q 0))) := fun u => by
    have := World.ownsRow_lit u (madeCells (Value.int .u64 0).cells (q * 1)) q (base := u.heap.size) (e := 110) (size := 1) (Nat.le_refl _) (by unfold maxLen; omega) (by simp [madeCells, Value.cells])
    rw [show (madeCells (Value.int .u64 0).cells (q * 1)).toList = List.replicate q (.int .u64 0) from by rw [Nat.mul_one]; exact toList_madeCells_one _ _] at this
    rw [Pl.wsV_nil]; exact this
  obtain ⟨cs, hcs⟩ : ∃ cs, cs = madeCells (Value.int .u64 0).cells (q * 1) := ⟨_, rfl⟩
  rw [← hcs] at hmk HO
  obtain ⟨z, hz⟩ : ∃ z : Int, z = ((q * 64 : Nat) : Int) := ⟨_, rfl⟩
  rw [← hz] at HNM hd
  clear hcs hi0 hz0 hz1 hz2 hq hz
  go_enter Tryz.func95, Tryz.ntmps95
  go_wp2_with (go_at_call 90; refine (HNM.out _).mono ?_; rintro e z1 ⟨rfl, g1⟩; rw [g1]; clear g1 z1)
  go_ret
  exact ⟨rfl, HO.out w, below_alloc _ _⟩
set_option maxHeartbeats 4000000 in
theorem hasS_is {lo : Nat} (g k c n : Nat) (ws : List Nat) (w : World) (ho : w.ownsRow lo 110 1 (.slice (some ⟨g, 0, none⟩) k c) k (Pl.wsV ws)) (hs : Pl.smallW ws) (hk : ws.length = k) (hn : n / 64 < k) (hk2 : k ≤ 100000) : Calls Tryz.prog 72 #[.slice (some ⟨g, 0, none⟩) k c, .int .i64 (n : Int)] w fun e w' => e = .returned (.bool (Pl.inW ws n)) ∧ w' = w := by
  have cz : w.cell? ⟨g, n / 64, none⟩ = some (.int .u64 ((ws.getD (n / 64) 0 : Nat) : Int)) := by rw [ho.cellAt (n / 64) (by omega)]; exact Pl.wsV_at ws _ (by omega)
  have hd : ((n : Int)).tdiv 64 = ((n / 64 : Nat) : Int) := by rw [Int.tdiv_eq_ediv_of_nonneg (by omega)]; omega
  have hm : ((n : Int)).tmod 64 = ((n % 64 : Nat) : Int) := by rw [Int.tmod_eq_emod_of_nonneg (by omega)]; omega
  obtain ⟨q, hq⟩ : ∃ q : Nat, q = n / 64 := ⟨_, rfl⟩
  obtain ⟨r, hr⟩ : ∃ r : Nat, r = n % 64 := ⟨_, rfl⟩
  have hx := hs (n / 64)
  have HI : Hid (Pl.inW ws n = (ws.getD q 0).testBit r) := by rw [hq, hr]; rfl
  rw [← hq] at cz hd hn hx
  rw [← hr] at hm
  obtain ⟨x, hxe⟩ : ∃ x : Nat, x = ws.getD q 0 := ⟨_, rfl⟩
  rw [← hxe] at cz hx HI
  have hr64 : r < 64 := by omega
  have hmin : min r 64 = r := by omega
  have HB : Hid (bits BinOp.and IntKind.u64 ((x : Int) / 2 ^ r) 1 = (((x / 2 ^ r) &&& 1 : Nat) : Int)) := by
    have h1 : (x : Int) / 2 ^ r = ((x / 2 ^ r : Nat) : Int) := by simp
    show bits BinOp.and IntKind.u64 ((x : Int) / 2 ^ r) 1 = _
    rw [h1]
    exact bits_and_u64_nat _ 1 (Nat.lt_of_le_of_lt (Nat.div_le_self _ _) hx) (by decide)
  have HT : Hid (((((x / 2 ^ r) &&& 1 : Nat) : Int) != 0) = x.testBit r) := by
    show ((((x / 2 ^ r) &&& 1 : Nat) : Int) != 0) = x.testBit r
    rw [Nat.and_one_is_mod, Nat.testBit_eq_decide_div_mod_eq]
    rcases Nat.mod_two_eq_zero_or_one (x / 2 ^ r) with e | e <;> rw [e] <;> rfl
  have hqk : (q : Int) < (k : Int) := by omega
  have hq5 : (q : Int) ≤ 100000 := by omega
  clear ho hs hq hr hxe hk hk2
  go_enter Tryz.func72, Tryz.ntmps72
  go_wp2
  go_ret
  refine ⟨?_, rfl⟩
  rw [HI.out, ← HT.out, ← HB.out]
  first | rfl | (simp only [hmin, IntKind.bits]; rfl)
theorem allS_is (a : Option Addr) (n c : Nat) (w : World) : Calls Tryz.prog 64 #[.slice a n c] w fun e w' => e = .returned (.func (.func 97) #[] #[.pointer (some ⟨w.heap.size, 0, none⟩)]) ∧ w' = w.alloc (.cells #[.slice a n c] 105) := by
  go_enter Tryz.func64, Tryz.ntmps64
  go_wp2
  go_ret
  exact ⟨rfl, rfl⟩
end Go.Proofs.YtcgfgmlfbgbkfaaGreatDoor.W
namespace Go.Proofs.YtcgfgmlfbgbkfaaGreatDoor.W
open Go.RowKit
def rpL (n m : Nat) : List Value := List.replicate m (.int .i64 (-1)) ++ List.replicate (n - m) (.int .i64 0)
theorem rpL_len {n m : Nat} (h : m ≤ n) : (rpL n m).length = n := by simp [rpL]; omega
theorem rpL_splice {n m k : Nat} (h : m + k ≤ n) : splice (rpL n m) m (List.replicate k (.int .i64 (-1))) = rpL n (m + k) := by
  unfold splice rpL
  rw [List.length_replicate, List.take_append_of_le_length (by simp), List.take_of_length_le (by simp), List.drop_append, List.drop_of_length_le (by simp), List.nil_append, List.length_replicate, List.drop_replicate, ← List.append_assoc, List.replicate_append_replicate]
  congr 2
  omega
theorem rpL_at {n m j : Nat} (h : j < m) : (rpL n m)[j]? = some (.int .i64 (-1)) := by
  unfold rpL
  rw [List.getElem?_append_left (by simpa using h), List.getElem?_replicate, if_pos h]
theorem rpL_full (n : Nat) : rpL n n = List.replicate n (.int .i64 (-1)) := by simp [rpL]
theorem rpL_none (n : Nat) : rpL n 0 = List.replicate n (.int .i64 0) := by simp [rpL]
set_option maxRecDepth 100000 in
set_option maxHeartbeats 4000000 in
theorem mul64_is (n : Nat) (hn : n ≤ 8000) (w : World) : Calls Tryz.prog 119 #[.int .u64 1, .int .u64 (n : Int)] w fun e w' => e = .returned (.tuple #[.int .u64 0, .int .u64 (n : Int)]) ∧ w' = w := by
  have hand : bits BinOp.and IntKind.u64 (n : Int) 4294967295 = (n : Int) := by
    have := bits_and_u64_nat n 4294967295 (by omega) (by decide)
    rw [show n &&& 4294967295 = n from Nat.and_two_pow_sub_one_of_lt_two_pow (n := 32) (by omega)] at this
    exact this
  have h1 : bits BinOp.and IntKind.u64 1 4294967295 = 1 := by decide
  have h0 : bits BinOp.and IntKind.u64 0 4294967295 = 0 := by decide
  have hdiv : (n : Int) / 4294967296 = 0 := by omega
  have hwr : IntKind.u64.wrap (n : Int) = (n : Int) := by rw [IntKind.wrap_u64]; omega
  have hw0 : IntKind.u64.wrap 0 = 0 := by decide
  go_enter Tryz.func119, Tryz.ntmps119
  go_wp2
  refine bodyPost_ret (results_tmp2 rfl _ _ _) rfl ?_
  exact ⟨rfl, rfl⟩
set_option maxRecDepth 100000 in
set_option maxHeartbeats 4000000 in
theorem mul_is (n : Nat) (hn : n ≤ 8000) (w : World) : Calls Tryz.prog 103 #[.int .u64 1, .int .u64 (n : Int)] w fun e w' => e = .returned (.tuple #[.int .u64 0, .int .u64 (n : Int)]) ∧ w' = w := by
  go_enter Tryz.func103, Tryz.ntmps103
  go_wp2_with (go_at_call 119; refine (mul64_is n hn _).mono ?_; rintro e z1 ⟨rfl, g1⟩; rw [g1]; clear g1 z1)
  refine bodyPost_ret (results_tmp2 rfl _ _ _) rfl ?_
  exact ⟨rfl, rfl⟩
set_option maxRecDepth 100000 in
set_option maxHeartbeats 8000000 in
theorem repeat_is (b n : Nat) (hn : 1 ≤ n ∧ n ≤ 8000) (w : World) (hb : w.cell? ⟨b, 0, none⟩ = some (.int .i64 (-1))) : Calls Tryz.prog 93 #[.slice (some ⟨b, 0, none⟩) 1 1, .int .i64 (n : Int)] w fun e w' => e = .returned (.slice (some ⟨w.heap.size, 0, none⟩) n n) ∧ w'.ownsRow w.heap.size 3 1 (.slice (some ⟨w.heap.size, 0, none⟩) n n) n (List.replicate n (.int .i64 (-1))) ∧ Below w.heap.size w w' := by
  have hn0 : ¬ ((n : Int) < 0) := by omega
  have hcv : IntKind.u64.wrap (n : Int) = (n : Int) := by rw [IntKind.wrap_u64]; omega
  have hbl : b < w.heap.size := block_lt_of_cell hb
  obtain ⟨i0, hi0, hz0, hz1, hz2⟩ := info_parts Tryz.infoi64
  have hsz : (Tryz.prog.info? 3).map (·.size) = some 1 := by rw [hi0]; simp [hz1]
  have HSZ : Hid ((Tryz.prog.info? 3).map (·.size) = some 1) := hsz
  have hmk : ∀ u : World, (Instr.makeSlice 22 (.int .i64 (n : Int)) (.int .i64 (n : Int))).run Tryz.prog u = .ok (.slice (some ⟨u.heap.size, 0, none⟩) n n) (u.alloc (.cells (madeCells (Value.int .i64 0).cells (n * 1)) 3)) := fun u => by
    have := run_makeSlice u 22 3 i0 _ Tryz.underlying22 hi0 hz0 .i64 .i64 (n : Int) (n : Int) (by omega) (by omega) (by rw [hz1]; simp; omega) (by rw [hz2]; omega) (by omega)
    rw [hz1] at this
    simpa using this
  have hcs : madeCells (Value.int .i64 0).cells (n * 1) = (rpL n 0).toArray := by
    apply Array.ext'
    rw [show (madeCells (Value.int .i64 0).cells (n * 1)).toList = List.replicate n (.int .i64 0) from by rw [Nat.mul_one]; exact toList_madeCells_one _ _, rpL_none]
  rw [hcs] at hmk
  have HB : Hid (w.cell? ⟨b, 0, none⟩ = some (.int .i64 (-1)) ∧ b < w.heap.size) := ⟨hb, hbl⟩
  clear hcs hi0 hz0 hz1 hz2 hb hbl hsz
  have HCP : Hid (∀ (u : World) (m : Nat), 1 ≤ m → m < n → u.heap[w.heap.size]? = some (.cells (rpL n m).toArray 3 (0, 0)) → Below w.heap.size w u → ∃ u', (Builtin.copy_ #[22, 22] 3 #[.slice (some ⟨w.heap.size, m, none⟩) (n - m) (n - m), .slice (some ⟨w.heap.size, 0, none⟩) m n]).run Tryz.prog u = .ok (.int .i64 ((min m (n - m) : Nat) : Int)) u' ∧ u'.heap[w.heap.size]? = some (.cells (rpL n (m + min m (n - m))).toArray 3 (0, 0)) ∧ Below w.heap.size w u') := fun u m h1 h2 hu hbu => by
    have hl : (List.replicate (min m (n - m)) (Value.int .i64 (-1))).length = Nat.min m (n - m) := by simp
    have := run_copy_row (P := Tryz.prog) u 22 22 3 3 w.heap.size m (n - m) (n - m) ⟨w.heap.size, 0, none⟩ m n (rpL n m).toArray 3 (List.replicate (min m (n - m)) (.int .i64 (-1))) Tryz.underlying22 HSZ.out hu hl (fun j v hj => by
      rw [List.getElem?_replicate] at hj
      split at hj
      · rename_i hjm
        cases hj
        have : (⟨w.heap.size, 0, none⟩ : Addr).add j = ⟨w.heap.size, j, none⟩ := by unfold Addr.add; split <;> simp_all
        rw [this, cell_of_row u _ j _ 3 (0, 0) hu]
        show (rpL n m).toArray[j]? = _
        rw [List.getElem?_toArray]
        exact rpL_at (by omega)
      · cases hj) (by simp; rw [rpL_len (by omega)]; omega) (by intro v hv; have := List.eq_of_mem_replicate hv; subst this; rfl)
    refine ⟨_, this.trans (by rw [hl]; rfl), ?_, below_setRow hbu (Nat.le_refl _) _⟩
    rw [setRow_heap u _ _ _ 3 _ hu, ← rpL_splice (by omega)]
    simp [splice]
  obtain ⟨u1, hc1, H1⟩ : ∃ u1, (Builtin.copy_ #[22, 22] 3 #[.slice (some ⟨w.heap.size, 0, none⟩) n n, .slice (some ⟨b, 0, none⟩) 1 1]).run Tryz.prog (w.alloc (.cells (rpL n 0).toArray 3)) = .ok (.int .i64 1) u1 ∧ Hid (u1.heap[w.heap.size]? = some (.cells (rpL n 1).toArray 3 (0, 0)) ∧ Below w.heap.size w u1) := by
    have hu := heap_alloc_new w (.cells (rpL n 0).toArray 3)
    have hl : ([Value.int .i64 (-1)]).length = Nat.min 1 n := by show 1 = Nat.min 1 n; exact (Nat.min_eq_left hn.1).symm
    have := run_copy_row (P := Tryz.prog) (w.alloc (.cells (rpL n 0).toArray 3)) 22 22 3 3 w.heap.size 0 n n ⟨b, 0, none⟩ 1 1 (rpL n 0).toArray 3 [.int .i64 (-1)] Tryz.underlying22 HSZ.out hu hl (fun j v hj => by
      cases j with
      | zero => simp at hj; subst hj; exact ((below_alloc w _).cell (p := ⟨b, 0, none⟩) HB.out.2).trans HB.out.1
      | succ j => simp at hj) (by simp; rw [rpL_len (by omega)]; omega) (by intro v hv; simp at hv; subst hv; rfl)
    refine ⟨_, this, ?_, below_setRow (below_alloc _ _) (Nat.le_refl _) _⟩
    rw [setRow_heap _ _ _ _ 3 _ hu, show rpL n 1 = rpL n (0 + 1) from rfl, ← rpL_splice (k := 1) (by omega)]
    simp [splice]
  clear HB HSZ
  go_enter Tryz.func93, Tryz.ntmps93
  go_wp2_with (go_at_call 103; refine (mul_is n (by omega) _).mono ?_; rintro e z1 ⟨rfl, g1⟩; rw [g1]; clear g1 z1)
  go_loopw [8] (fun t wr => ∃ m : Nat, 1 ≤ m ∧ m ≤ n ∧ t = .int .i64 (m : Int) ∧ Hid (wr.heap[w.heap.size]? = some (.cells (rpL n m).toArray 3 (0, 0)) ∧ Below w.heap.size w wr)) (fun t _ => n - (intOf t).toNat)
  case atStart => exact ⟨1, Nat.le_refl _, hn.1, rfl, H1⟩
  case round =>
    obtain ⟨m, hm1, hmn, rfl, HW⟩ := hrel
    by_cases hlt : m < n
    rotate_left
    · have hmi : ¬ ((m : Int) < (n : Int)) := by omega
      have hme : m = n := by omega
      have HE : Hid (wr.ownsRow w.heap.size 3 1 (.slice (some ⟨w.heap.size, 0, none⟩) n n) n (List.replicate n (.int .i64 (-1)))) := by
        have h0 := HW.out.1
        rw [hme, rpL_full] at h0
        exact ⟨by simp, .inr ⟨w.heap.size, n, _, rfl, Nat.le_refl _, h0, Nat.le_refl _, by unfold maxLen; omega, by simp, by simp⟩⟩
      clear hme
      go_wp2_with fail
      go_ret
      exact ⟨rfl, HE.out, HW.out.2⟩
    have hmi : (m : Int) < (n : Int) := by omega
    obtain ⟨u2, hc2, h21, h22⟩ := HCP.out wr.drew m hm1 hlt HW.out.1 (Below.drew HW.out.2)
    obtain ⟨k, hk⟩ : ∃ k, k = min m (n - m) := ⟨_, rfl⟩
    have hk1 : 1 ≤ k ∧ m + k ≤ n := by omega
    rw [← hk] at hc2 h21
    have H2 : Hid (u2.heap[w.heap.size]? = some (.cells (rpL n (m + k)).toArray 3 (0, 0)) ∧ Below w.heap.size w u2) := ⟨h21, h22⟩
    have hwk : IntKind.i64.wrap ((m : Int) + (k : Int)) = (m : Int) + (k : Int) := by rw [IntKind.wrap_i64]; omega
    clear hk h21 h22 HCP hc1
    go_upto_region 9 with fail
    go_region
    go_wp2_with fail
    go_roundw
    case rel => exact ⟨m + k, by omega, by omega, by go_num, H2⟩
    case measure => simp [intOf]; omega
end Go.Proofs.YtcgfgmlfbgbkfaaGreatDoor.W
namespace Go.Proofs.YtcgfgmlfbgbkfaaGreatDoor.W
open Go.RowKit
theorem Tryz.infostsL : (Tryz.prog.info? 119).map (fun i => (i.zero, i.size, i.bytes)) = some (some (.slice none 0 0), 1, 24) := by kernel_rfl
theorem up_old {L : Array Bool} {k j : Nat} (z : up (L.setIfInBounds k true) j = true) (hk : k < L.size) (hne : k ≠ j) : up L j = true := by rw [up_set hk, if_neg hne] at z; exact z
def Nl1Mk (gr g n c R : Nat) (H1 H2 H3 H4 H5 H6 : Nat) (T : Nat → Nat) (L : Array Bool) : Act := { tmps := #[.pointer (some ⟨gr, 0, none⟩), undef, .pointer none, sld undef L 27 (.pointer (some ⟨H6, 0, none⟩)), undef, undef, undef, undef, undef, undef, undef, undef, undef, sld undef L 0 (.pointer (some ⟨gr, 0, none⟩)), sld undef L 1 (.pointer (some ⟨gr, 0, none⟩)), sld undef L 2 (.pointer (some ⟨gr, 5, none⟩)), sld undef L 3 (.slice (some ⟨g, 0, none⟩) n c), sld undef L 4 (.int .i64 (n : Int)), sld undef L 5 (.slice (some ⟨H1, 0, none⟩) n n), sld undef L 6 (.slice (some ⟨H2, 0, none⟩) 1 1), sld undef L 7 (.pointer (some ⟨gr, 0, none⟩)), sld undef L 8 (.pointer (some ⟨gr, 0, none⟩)), sld undef L 9 (.pointer (some ⟨gr, 5, none⟩)), sld undef L 10 (.slice (some ⟨g, 0, none⟩) n c), sld undef L 11 (.int .i64 (n : Int)), sld undef L 12 (.slice (some ⟨H3, 0, none⟩) n n), sld undef L 13 (.pointer (some ⟨gr, 0, none⟩)), sld undef L 14 (.pointer (some ⟨gr, 0, none⟩)), sld undef L 15 (.pointer (some ⟨gr, 0, none⟩)), sld undef L 16 (.pointer (some ⟨gr, 2, none⟩)), sld undef L 17 (.int .i64 (R : Int)), sld undef L 18 (.slice (some ⟨H4, 0, none⟩) R R), sld undef L 19 (.pointer (some ⟨gr, 0, none⟩)), sld undef L 20 (.pointer (some ⟨gr, 0, none⟩)), sld undef L 21 (.pointer (some ⟨gr, 0, none⟩)), sld undef L 22 (.pointer (some ⟨gr, 2, none⟩)), sld undef L 23 (.int .i64 (R : Int)), sld undef L 24 (.slice (some ⟨H5, 0, none⟩) R R), sld undef L 25 (.agg #[.slice (some ⟨H1, 0, none⟩) n n, .slice (some ⟨H3, 0, none⟩) n n, .slice (some ⟨H4, 0, none⟩) R R, .slice (some ⟨H5, 0, none⟩) R R]), sld undef L 26 (.pointer (some ⟨H6, 0, none⟩)), undef, undef, undef, undef, undef, undef, undef, undef, undef, undef, undef, undef, undef, undef, undef, undef, undef, undef, undef, undef, undef, undef, undef, undef, undef, undef, undef, undef, undef, undef, undef, undef, undef, undef, undef, undef, undef, undef, undef, undef, undef, undef, undef, undef, undef, undef, undef, undef, undef, undef, undef, undef, undef, undef, undef, undef, undef, undef, undef, undef, undef, undef, undef, undef, undef, undef, undef, undef, undef, undef, undef, undef, undef, undef, undef, undef, undef, undef, undef, undef, undef, undef, undef, undef, undef, undef, undef, undef, undef, undef, undef, undef, undef], defers := [] }
structure N1W (y : World) (n R H1 H2 H3 H4 H5 H6 : Nat) (T : Nat → Nat) (L : Array Bool) (w : World) : Prop where
  bel : Below y.heap.size y w
  p5 : up L 5 = true → w.ownsRow y.heap.size 119 1 (.slice (some ⟨H1, 0, none⟩) n n) n (List.replicate n (.slice none 0 0)) ∧ T H1 = 1
  p6 : up L 6 = true → w.cell? ⟨H2, 0, none⟩ = some (.int .i64 (-1))
  p12 : up L 12 = true → w.ownsRow y.heap.size 3 1 (.slice (some ⟨H3, 0, none⟩) n n) n (List.replicate n (.int .i64 (-1))) ∧ T H3 = 7
  p18 : up L 18 = true → w.ownsRow y.heap.size 119 1 (.slice (some ⟨H4, 0, none⟩) R R) R (List.replicate R (.slice none 0 0)) ∧ T H4 = 3
  p24 : up L 24 = true → w.ownsRow y.heap.size 119 1 (.slice (some ⟨H5, 0, none⟩) R R) R (List.replicate R (.slice none 0 0)) ∧ T H5 = 5
  p26 : up L 26 = true → w.heap[H6]? = some (.cells (LvC H1 H3 H4 H5 n R) 122 (0, 0)) ∧ y.heap.size ≤ H6 ∧ T H6 = 0
theorem N1W.later {y : World} {n R H1 H2 H3 H4 H5 H6 : Nat} {T : Nat → Nat} {L : Array Bool} {w : World} {w' : World} {T' : Nat → Nat} (h : N1W y n R H1 H2 H3 H4 H5 H6 T L w) (hb : Below w.heap.size w w') (hT : ∀ g, g < w.heap.size → T' g = T g) : N1W y n R H1 H2 H3 H4 H5 H6 T' L w' := by
  have q : ∀ {e : TypeId} {g k c : Nat} {xs : List Value} {t : Nat}, w.ownsRow y.heap.size e 1 (.slice (some ⟨g, 0, none⟩) k c) k xs ∧ T g = t → w'.ownsRow y.heap.size e 1 (.slice (some ⟨g, 0, none⟩) k c) k xs ∧ T' g = t := fun h => ⟨own_eqL h.1 fun g hg => hb.block g (h.1.lt g hg).2, (hT _ (h.1.lt _ rfl).2).trans h.2⟩
  refine ⟨h.bel.trans (hb.mono h.bel.size), fun z => q (h.p5 z), fun z => (hb.cell (p := ⟨H2, 0, none⟩) (block_lt_of_cell (h.p6 z))).trans (h.p6 z), fun z => q (h.p12 z), fun z => q (h.p18 z), fun z => q (h.p24 z), fun z => ?_⟩
  obtain ⟨h1, h2, h3⟩ := h.p26 z
  have hl := (Array.getElem?_eq_some_iff.1 h1).1
  exact ⟨(hb.block _ hl).trans h1, h2, (hT _ hl).trans h3⟩
theorem N1W.keep {y : World} {n R H1 H2 H3 H4 H5 H6 : Nat} {T : Nat → Nat} {L : Array Bool} {w : World} (h : N1W y n R H1 H2 H3 H4 H5 H6 T L w) {k : Nat} (hlt : k < L.size) (n1 : k ≠ 5) (n2 : k ≠ 6) (n3 : k ≠ 12) (n4 : k ≠ 18) (n5 : k ≠ 24) (n6 : k ≠ 26) : N1W y n R H1 H2 H3 H4 H5 H6 T (L.setIfInBounds k true) w :=
  ⟨h.bel, fun z => h.p5 (up_old z hlt n1), fun z => h.p6 (up_old z hlt n2), fun z => h.p12 (up_old z hlt n3), fun z => h.p18 (up_old z hlt n4), fun z => h.p24 (up_old z hlt n5), fun z => h.p26 (up_old z hlt n6)⟩
theorem N1W.mk5 {y : World} {n R H1 H2 H3 H4 H5 H6 : Nat} {T : Nat → Nat} {L : Array Bool} {w : World} {cs : Array Value} (h : N1W y n R H1 H2 H3 H4 H5 H6 T L w) (hlt : 5 < L.size) (n26 : up L 26 = false) (hcs : cs.size = n * 1) (hcl : cs.toList = List.replicate n (.slice none 0 0)) (hk : n ≤ 8000) : N1W y n R w.heap.size H2 H3 H4 H5 H6 (newT T w.heap.size 1) (L.setIfInBounds 5 true) (w.alloc (.cells cs 119)) := by
  have h1 := h.later (below_alloc w (.cells cs 119)) (T' := newT T w.heap.size 1) fun g hg => newT_old hg
  have ho := World.ownsRow_lit w cs n (base := y.heap.size) (e := 119) (size := 1) h.bel.size (by unfold maxLen; omega) hcs
  rw [hcl] at ho
  exact ⟨h1.bel, fun _ => ⟨ho, newT_new (Nat.le_refl _)⟩, fun z => h1.p6 (up_old z hlt (by decide)), fun z => h1.p12 (up_old z hlt (by decide)), fun z => h1.p18 (up_old z hlt (by decide)), fun z => h1.p24 (up_old z hlt (by decide)), fun z => absurd (up_old z hlt (by decide)) (by rw [n26]; decide)⟩
theorem N1W.mk18 {y : World} {n R H1 H2 H3 H4 H5 H6 : Nat} {T : Nat → Nat} {L : Array Bool} {w : World} {cs : Array Value} (h : N1W y n R H1 H2 H3 H4 H5 H6 T L w) (hlt : 18 < L.size) (n26 : up L 26 = false) (hcs : cs.size = R * 1) (hcl : cs.toList = List.replicate R (.slice none 0 0)) (hk : R ≤ 8000) : N1W y n R H1 H2 H3 w.heap.size H5 H6 (newT T w.heap.size 3) (L.setIfInBounds 18 true) (w.alloc (.cells cs 119)) := by
  have h1 := h.later (below_alloc w (.cells cs 119)) (T' := newT T w.heap.size 3) fun g hg => newT_old hg
  have ho := World.ownsRow_lit w cs R (base := y.heap.size) (e := 119) (size := 1) h.bel.size (by unfold maxLen; omega) hcs
  rw [hcl] at ho
  exact ⟨h1.bel, fun z => h1.p5 (up_old z hlt (by decide)), fun z => h1.p6 (up_old z hlt (by decide)), fun z => h1.p12 (up_old z hlt (by decide)), fun _ => ⟨ho, newT_new (Nat.le_refl _)⟩, fun z => h1.p24 (up_old z hlt (by decide)), fun z => absurd (up_old z hlt (by decide)) (by rw [n26]; decide)⟩
theorem N1W.mk24 {y : World} {n R H1 H2 H3 H4 H5 H6 : Nat} {T : Nat → Nat} {L : Array Bool} {w : World} {cs : Array Value} (h : N1W y n R H1 H2 H3 H4 H5 H6 T L w) (hlt : 24 < L.size) (n26 : up L 26 = false) (hcs : cs.size = R * 1) (hcl : cs.toList = List.replicate R (.slice none 0 0)) (hk : R ≤ 8000) : N1W y n R H1 H2 H3 H4 w.heap.size H6 (newT T w.heap.size 5) (L.setIfInBounds 24 true) (w.alloc (.cells cs 119)) := by
  have h1 := h.later (below_alloc w (.cells cs 119)) (T' := newT T w.heap.size 5) fun g hg => newT_old hg
  have ho := World.ownsRow_lit w cs R (base := y.heap.size) (e := 119) (size := 1) h.bel.size (by unfold maxLen; omega) hcs
  rw [hcl] at ho
  exact ⟨h1.bel, fun z => h1.p5 (up_old z hlt (by decide)), fun z => h1.p6 (up_old z hlt (by decide)), fun z => h1.p12 (up_old z hlt (by decide)), fun z => h1.p18 (up_old z hlt (by decide)), fun _ => ⟨ho, newT_new (Nat.le_refl _)⟩, fun z => absurd (up_old z hlt (by decide)) (by rw [n26]; decide)⟩
theorem N1W.lit {y : World} {n R H1 H2 H3 H4 H5 H6 : Nat} {T : Nat → Nat} {L : Array Bool} {w : World} (h : N1W y n R H1 H2 H3 H4 H5 H6 T L w) (hlt : 6 < L.size) : N1W y n R H1 w.heap.size H3 H4 H5 H6 T (L.setIfInBounds 6 true) (w.alloc (.cells #[.int .i64 (-1)] 3)) := by
  have h1 := h.later (below_alloc w (.cells #[.int .i64 (-1)] 3)) (T' := T) fun g hg => rfl
  exact ⟨h1.bel, fun z => h1.p5 (up_old z hlt (by decide)), fun _ => cell_of_row _ w.heap.size 0 _ 3 (0, 0) (heap_alloc_new w _), fun z => h1.p12 (up_old z hlt (by decide)), fun z => h1.p18 (up_old z hlt (by decide)), fun z => h1.p24 (up_old z hlt (by decide)), fun z => h1.p26 (up_old z hlt (by decide))⟩
theorem N1W.rep {y : World} {n R H1 H2 H3 H4 H5 H6 : Nat} {T : Nat → Nat} {L : Array Bool} {w : World} {w' : World} (h : N1W y n R H1 H2 H3 H4 H5 H6 T L w) (hlt : 12 < L.size) (n26 : up L 26 = false) (ho : w'.ownsRow w.heap.size 3 1 (.slice (some ⟨w.heap.size, 0, none⟩) n n) n (List.replicate n (.int .i64 (-1)))) (hb : Below w.heap.size w w') : N1W y n R H1 H2 w.heap.size H4 H5 H6 (newT T w.heap.size 7) (L.setIfInBounds 12 true) w' := by
  have h1 := h.later hb (T' := newT T w.heap.size 7) fun g hg => newT_old hg
  exact ⟨h1.bel, fun z => h1.p5 (up_old z hlt (by decide)), fun z => h1.p6 (up_old z hlt (by decide)), fun _ => ⟨own_lowL ho h.bel.size, newT_new (Nat.le_refl _)⟩, fun z => h1.p18 (up_old z hlt (by decide)), fun z => h1.p24 (up_old z hlt (by decide)), fun z => absurd (up_old z hlt (by decide)) (by rw [n26]; decide)⟩
theorem N1W.bx {y : World} {n R H1 H2 H3 H4 H5 H6 : Nat} {T : Nat → Nat} {L : Array Bool} {w : World} (h : N1W y n R H1 H2 H3 H4 H5 H6 T L w) (hlt : 26 < L.size) : N1W y n R H1 H2 H3 H4 H5 w.heap.size (newT T w.heap.size 0) (L.setIfInBounds 26 true) (w.alloc (.cells #[.slice (some ⟨H1, 0, none⟩) n n, .slice (some ⟨H3, 0, none⟩) n n, .slice (some ⟨H4, 0, none⟩) R R, .slice (some ⟨H5, 0, none⟩) R R] 122)) := by
  have h1 := h.later (below_alloc w (.cells #[.slice (some ⟨H1, 0, none⟩) n n, .slice (some ⟨H3, 0, none⟩) n n, .slice (some ⟨H4, 0, none⟩) R R, .slice (some ⟨H5, 0, none⟩) R R] 122)) (T' := newT T w.heap.size 0) fun g hg => newT_old hg
  exact ⟨h1.bel, fun z => h1.p5 (up_old z hlt (by decide)), fun z => h1.p6 (up_old z hlt (by decide)), fun z => h1.p12 (up_old z hlt (by decide)), fun z => h1.p18 (up_old z hlt (by decide)), fun z => h1.p24 (up_old z hlt (by decide)), fun _ => ⟨heap_alloc_new w _, h.bel.size, newT_new (Nat.le_refl _)⟩⟩
def Gd.nil : Gd := ⟨fun _ => none, fun _ => 0, fun _ => []⟩
set_option maxRecDepth 100000 in
set_option maxHeartbeats 8000000 in
theorem nl1_is (gr g n c R : Nat) (y : World) (d5 : y.cell? ⟨gr, 5, none⟩ = some (.slice (some ⟨g, 0, none⟩) n c)) (d2 : y.cell? ⟨gr, 2, none⟩ = some (.int .i64 (R : Int))) (hn : 1 ≤ n ∧ n ≤ 8000) (hR : R ≤ 2000) (Q : Exit → Act → World → Prop)
    (hK : ∀ (s13 s14 s15 s16 s17 s18 s19 s20 s21 s22 s23 s24 s25 s26 s27 s28 s29 s30 s31 s32 s33 s34 s35 s36 s37 s38 s39 : Value) (gl gb gs gu gt : Nat) (T : Nat → Nat) (y' : World), Lv y y' gl gb gs gu gt n R Gd.nil Gd.nil Gd.nil (List.replicate n (-1)) T → Q .normal { tmps := #[.pointer (some ⟨gr, 0, none⟩), undef, .pointer none, .pointer (some ⟨gl, 0, none⟩), undef, undef, undef, undef, undef, undef, undef, undef, undef, s13, s14, s15, s16, s17, s18, s19, s20, s21, s22, s23, s24, s25, s26, s27, s28, s29, s30, s31, s32, s33, s34, s35, s36, s37, s38, s39, undef, undef, undef, undef, undef, undef, undef, undef, undef, undef, undef, undef, undef, undef, undef, undef, undef, undef, undef, undef, undef, undef, undef, undef, undef, undef, undef, undef, undef, undef, undef, undef, undef, undef, undef, undef, undef, undef, undef, undef, undef, undef, undef, undef, undef, undef, undef, undef, undef, undef, undef, undef, undef, undef, undef, undef, undef, undef, undef, undef, undef, undef, undef, undef, undef, undef, undef, undef, undef, undef, undef, undef, undef, undef, undef, undef, undef, undef, undef, undef, undef, undef, undef, undef, undef, undef, undef, undef, undef, undef, undef, undef, undef], defers := [] } y') :
    (nlC 1).wp Tryz.prog Q { tmps := #[.pointer (some ⟨gr, 0, none⟩), undef, .pointer none, undef, undef, undef, undef, undef, undef, undef, undef, undef, undef, undef, undef, undef, undef, undef, undef, undef, undef, undef, undef, undef, undef, undef, undef, undef, undef, undef, undef, undef, undef, undef, undef, undef, undef, undef, undef, undef, undef, undef, undef, undef, undef, undef, undef, undef, undef, undef, undef, undef, undef, undef, undef, undef, undef, undef, undef, undef, undef, undef, undef, undef, undef, undef, undef, undef, undef, undef, undef, undef, undef, undef, undef, undef, undef, undef, undef, undef, undef, undef, undef, undef, undef, undef, undef, undef, undef, undef, undef, undef, undef, undef, undef, undef, undef, undef, undef, undef, undef, undef, undef, undef, undef, undef, undef, undef, undef, undef, undef, undef, undef, undef, undef, undef, undef, undef, undef, undef, undef, undef, undef, undef, undef, undef, undef, undef, undef, undef, undef, undef, undef], defers := [] } y := by
  have HKt : Hid _ := hK
  clear hK
  conv => arg 2; whnf
  dsimp only
  have hgr : gr < y.drew.heap.size := block_lt_of_cell d5
  have e5 : y.drew.cell? ⟨gr, 5, none⟩ = some (.slice (some ⟨g, 0, none⟩) n c) := d5
  have e2 : y.drew.cell? ⟨gr, 2, none⟩ = some (.int .i64 (R : Int)) := d2
  clear d5 d2
  rename y.drew.cell? ⟨gr, 5, none⟩ = some (.slice (some ⟨g, 0, none⟩) n c) => d5
  rename y.drew.cell? ⟨gr, 2, none⟩ = some (.int .i64 (R : Int)) => d2
  obtain ⟨i0, hi0, hz0, hz1, hz2⟩ := info_parts Tryz.infostsL
  have hmk0 : ∀ k : Nat, k ≤ 8000 → ∀ u : World, (Instr.makeSlice 120 (.int .i64 (k : Int)) (.int .i64 (k : Int))).run Tryz.prog u = .ok (.slice (some ⟨u.heap.size, 0, none⟩) k k) (u.alloc (.cells (madeCells (Value.slice none 0 0).cells (k * 1)) 119)) := fun k hk u => by
    have := run_makeSlice u 120 119 i0 _ Tryz.underlying120 hi0 hz0 .i64 .i64 (k : Int) (k : Int) (by omega) (by omega) (by rw [hz1]; simp; omega) (by rw [hz2]; omega) (by omega)
    rw [hz1] at this
    simpa using this
  have hmkn := hmk0 n hn.2
  have hmkR := hmk0 R (by omega)
  have hcl0 : ∀ k : Nat, (madeCells (Value.slice none 0 0).cells (k * 1)).toList = List.replicate k (.slice none 0 0) := fun k => by rw [Nat.mul_one]; exact toList_madeCells_one _ _
  have hcs0 : ∀ k : Nat, (madeCells (Value.slice none 0 0).cells (k * 1)).size = k * 1 := fun k => by simp [madeCells, Value.cells]
  obtain ⟨csn, hcsn0⟩ : ∃ cs, cs = madeCells (Value.slice none 0 0).cells (n * 1) := ⟨_, rfl⟩
  obtain ⟨csR, hcsR0⟩ : ∃ cs, cs = madeCells (Value.slice none 0 0).cells (R * 1) := ⟨_, rfl⟩
  have hcsn : csn.size = n * 1 := by rw [hcsn0]; exact hcs0 n
  have hcln : csn.toList = List.replicate n (.slice none 0 0) := by rw [hcsn0]; exact hcl0 n
  have hcsR : csR.size = R * 1 := by rw [hcsR0]; exact hcs0 R
  have hclR : csR.toList = List.replicate R (.slice none 0 0) := by rw [hcsR0]; exact hcl0 R
  rw [← hcsn0] at hmkn
  rw [← hcsR0] at hmkR
  clear hcsn0 hcsR0 hcl0 hcs0 hmk0 hi0 hz0 hz1 hz2
  refine wp_region_any (by kernel_rfl) ?_
  change wpAny _ _ _ _ _ _ _ (World.drew _)
  refine wpAny_inw (fun L ac w => ∃ H1 H2 H3 H4 H5 H6 T, ac = Nl1Mk gr g n c R H1 H2 H3 H4 H5 H6 T L ∧ N1W y.drew n R H1 H2 H3 H4 H5 H6 T L w) ?done (by kernel_rfl) ?step _ 28 _ _ (by kernel_rfl) ?init (by decide)
  case init => exact ⟨0, 0, 0, 0, 0, 0, fun _ => 0, by simp only [Nl1Mk, sld_no (up_init _ _)], ⟨Below.refl _ _, fun z => absurd (z.symm.trans (up_init _ _)) (by decide), fun z => absurd (z.symm.trans (up_init _ _)) (by decide), fun z => absurd (z.symm.trans (up_init _ _)) (by decide), fun z => absurd (z.symm.trans (up_init _ _)) (by decide), fun z => absurd (z.symm.trans (up_init _ _)) (by decide), fun z => absurd (z.symm.trans (up_init _ _)) (by decide)⟩⟩
  case step =>
    intro L act w i o hI hlt hs nl hC hd ho K hK
    obtain ⟨H1, H2, H3, H4, H5, H6, T, rfl, hW⟩ := hI
    have hi_lt : i < 28 := (Array.getElem?_eq_some_iff.1 ho).1
    rcases (show i = 0 ∨ i = 1 ∨ i = 2 ∨ i = 3 ∨ i = 4 ∨ i = 5 ∨ i = 6 ∨ i = 7 ∨ i = 8 ∨ i = 9 ∨ i = 10 ∨ i = 11 ∨ i = 12 ∨ i = 13 ∨ i = 14 ∨ i = 15 ∨ i = 16 ∨ i = 17 ∨ i = 18 ∨ i = 19 ∨ i = 20 ∨ i = 21 ∨ i = 22 ∨ i = 23 ∨ i = 24 ∨ i = 25 ∨ i = 26 ∨ i = 27 by omega) with rfl | rfl | rfl | rfl | rfl | rfl | rfl | rfl | rfl | rfl | rfl | rfl | rfl | rfl | rfl | rfl | rfl | rfl | rfl | rfl | rfl | rfl | rfl | rfl | rfl | rfl | rfl | rfl
    · change some _ = some o at ho
      cases ho
      simp only [Nl1Mk]
      go_simp
      exact hK _ _ ⟨H1, H2, H3, H4, H5, H6, T, by simp only [Nl1Mk, sld_set hlt, reduceIte, Nat.reduceEqDiff]; try rfl, (hW.keep hlt (by decide) (by decide) (by decide) (by decide) (by decide) (by decide))⟩
    · change some _ = some o at ho
      cases ho
      have q0 : up L 0 = true := (by first | exact hd { on := 0, ground := .data } (by simp) rfl | exact hd { on := 0, ground := .chain } (by simp) rfl | exact hd { on := 0, ground := .phase } (by simp) rfl)
      simp only [Nl1Mk, sld_yes q0]
      go_simp
      exact hK _ _ ⟨H1, H2, H3, H4, H5, H6, T, by simp only [Nl1Mk, sld_set hlt, sld_yes q0, reduceIte, Nat.reduceEqDiff]; try rfl, (hW.keep hlt (by decide) (by decide) (by decide) (by decide) (by decide) (by decide))⟩
    · change some _ = some o at ho
      cases ho
      have q1 : up L 1 = true := (by first | exact hd { on := 1, ground := .data } (by simp) rfl | exact hd { on := 1, ground := .chain } (by simp) rfl | exact hd { on := 1, ground := .phase } (by simp) rfl)
      simp only [Nl1Mk, sld_yes q1]
      go_simp
      exact hK _ _ ⟨H1, H2, H3, H4, H5, H6, T, by simp only [Nl1Mk, sld_set hlt, sld_yes q1, reduceIte, Nat.reduceEqDiff]; try rfl, (hW.keep hlt (by decide) (by decide) (by decide) (by decide) (by decide) (by decide))⟩
    · change some _ = some o at ho
      cases ho
      have q2 : up L 2 = true := (by first | exact hd { on := 2, ground := .data } (by simp) rfl | exact hd { on := 2, ground := .chain } (by simp) rfl | exact hd { on := 2, ground := .phase } (by simp) rfl)
      have cx := (hW.bel.cell (p := ⟨gr, 5, none⟩) hgr).trans d5
      simp only [Nl1Mk, sld_yes q2]
      go_simp
      exact hK _ _ ⟨H1, H2, H3, H4, H5, H6, T, by simp only [Nl1Mk, sld_set hlt, sld_yes q2, reduceIte, Nat.reduceEqDiff]; try rfl, (hW.keep hlt (by decide) (by decide) (by decide) (by decide) (by decide) (by decide))⟩
    · change some _ = some o at ho
      cases ho
      have q3 : up L 3 = true := (by first | exact hd { on := 3, ground := .data } (by simp) rfl | exact hd { on := 3, ground := .chain } (by simp) rfl | exact hd { on := 3, ground := .phase } (by simp) rfl)
      simp only [Nl1Mk, sld_yes q3]
      go_simp
      exact hK _ _ ⟨H1, H2, H3, H4, H5, H6, T, by simp only [Nl1Mk, sld_set hlt, sld_yes q3, reduceIte, Nat.reduceEqDiff]; try rfl, (hW.keep hlt (by decide) (by decide) (by decide) (by decide) (by decide) (by decide))⟩
    · change some _ = some o at ho
      cases ho
      have q4 : up L 4 = true := (by first | exact hd { on := 4, ground := .data } (by simp) rfl | exact hd { on := 4, ground := .chain } (by simp) rfl | exact hd { on := 4, ground := .phase } (by simp) rfl)
      have n25 : up L 25 = false := hC.no nl 25 rfl (by kernel_rfl)
      have n26 : up L 26 = false := hC.no n25 26 rfl (by kernel_rfl)
      have n27 : up L 27 = false := hC.no n26 27 rfl (by kernel_rfl)
      simp only [Nl1Mk, sld_yes q4]
      go_simp
      exact hK _ _ ⟨w.heap.size, H2, H3, H4, H5, H6, newT T w.heap.size 1, by simp only [Nl1Mk, sld_set hlt, sld_yes q4, sld_no n25, sld_no n26, sld_no n27, reduceIte, Nat.reduceEqDiff]; try rfl, hW.mk5 hlt n26 hcsn hcln (by omega)⟩
    · change some _ = some o at ho
      cases ho
      have n12 : up L 12 = false := hC.no nl 12 rfl (by kernel_rfl)
      simp only [Nl1Mk]
      go_simp
      exact hK _ _ ⟨H1, w.heap.size, H3, H4, H5, H6, T, by simp only [Nl1Mk, sld_set hlt, reduceIte, Nat.reduceEqDiff]; try rfl, hW.lit hlt⟩
    · change some _ = some o at ho
      cases ho
      simp only [Nl1Mk]
      go_simp
      exact hK _ _ ⟨H1, H2, H3, H4, H5, H6, T, by simp only [Nl1Mk, sld_set hlt, reduceIte, Nat.reduceEqDiff]; try rfl, (hW.keep hlt (by decide) (by decide) (by decide) (by decide) (by decide) (by decide))⟩
    · change some _ = some o at ho
      cases ho
      have q7 : up L 7 = true := (by first | exact hd { on := 7, ground := .data } (by simp) rfl | exact hd { on := 7, ground := .chain } (by simp) rfl | exact hd { on := 7, ground := .phase } (by simp) rfl)
      simp only [Nl1Mk, sld_yes q7]
      go_simp
      exact hK _ _ ⟨H1, H2, H3, H4, H5, H6, T, by simp only [Nl1Mk, sld_set hlt, sld_yes q7, reduceIte, Nat.reduceEqDiff]; try rfl, (hW.keep hlt (by decide) (by decide) (by decide) (by decide) (by decide) (by decide))⟩
    · change some _ = some o at ho
      cases ho
      have q8 : up L 8 = true := (by first | exact hd { on := 8, ground := .data } (by simp) rfl | exact hd { on := 8, ground := .chain } (by simp) rfl | exact hd { on := 8, ground := .phase } (by simp) rfl)
      simp only [Nl1Mk, sld_yes q8]
      go_simp
      exact hK _ _ ⟨H1, H2, H3, H4, H5, H6, T, by simp only [Nl1Mk, sld_set hlt, sld_yes q8, reduceIte, Nat.reduceEqDiff]; try rfl, (hW.keep hlt (by decide) (by decide) (by decide) (by decide) (by decide) (by decide))⟩
    · change some _ = some o at ho
      cases ho
      have q9 : up L 9 = true := (by first | exact hd { on := 9, ground := .data } (by simp) rfl | exact hd { on := 9, ground := .chain } (by simp) rfl | exact hd { on := 9, ground := .phase } (by simp) rfl)
      have cx := (hW.bel.cell (p := ⟨gr, 5, none⟩) hgr).trans d5
      simp only [Nl1Mk, sld_yes q9]
      go_simp
      exact hK _ _ ⟨H1, H2, H3, H4, H5, H6, T, by simp only [Nl1Mk, sld_set hlt, sld_yes q9, reduceIte, Nat.reduceEqDiff]; try rfl, (hW.keep hlt (by decide) (by decide) (by decide) (by decide) (by decide) (by decide))⟩
    · change some _ = some o at ho
      cases ho
      have q10 : up L 10 = true := (by first | exact hd { on := 10, ground := .data } (by simp) rfl | exact hd { on := 10, ground := .chain } (by simp) rfl | exact hd { on := 10, ground := .phase } (by simp) rfl)
      simp only [Nl1Mk, sld_yes q10]
      go_simp
      exact hK _ _ ⟨H1, H2, H3, H4, H5, H6, T, by simp only [Nl1Mk, sld_set hlt, sld_yes q10, reduceIte, Nat.reduceEqDiff]; try rfl, (hW.keep hlt (by decide) (by decide) (by decide) (by decide) (by decide) (by decide))⟩
    · change some _ = some o at ho
      cases ho
      have q6 : up L 6 = true := (by first | exact hd { on := 6, ground := .data } (by simp) rfl | exact hd { on := 6, ground := .chain } (by simp) rfl | exact hd { on := 6, ground := .phase } (by simp) rfl)
      have q11 : up L 11 = true := (by first | exact hd { on := 11, ground := .data } (by simp) rfl | exact hd { on := 11, ground := .chain } (by simp) rfl | exact hd { on := 11, ground := .phase } (by simp) rfl)
      have n25 : up L 25 = false := hC.no nl 25 rfl (by kernel_rfl)
      have n26 : up L 26 = false := hC.no n25 26 rfl (by kernel_rfl)
      have n27 : up L 27 = false := hC.no n26 27 rfl (by kernel_rfl)
      simp only [Nl1Mk, sld_yes q6, sld_yes q11]
      go_simp
      refine (repeat_is _ n hn w (hW.p6 q6)).mono ?_
      rintro e z1 ⟨rfl, ho1, hb1⟩
      go_simp
      exact hK _ _ ⟨H1, H2, w.heap.size, H4, H5, H6, newT T w.heap.size 7, by simp only [Nl1Mk, sld_set hlt, sld_yes q6, sld_yes q11, sld_no n25, sld_no n26, sld_no n27, reduceIte, Nat.reduceEqDiff]; try rfl, hW.rep hlt n26 ho1 hb1⟩
    · change some _ = some o at ho
      cases ho
      simp only [Nl1Mk]
      go_simp
      exact hK _ _ ⟨H1, H2, H3, H4, H5, H6, T, by simp only [Nl1Mk, sld_set hlt, reduceIte, Nat.reduceEqDiff]; try rfl, (hW.keep hlt (by decide) (by decide) (by decide) (by decide) (by decide) (by decide))⟩
    · change some _ = some o at ho
      cases ho
      have q13 : up L 13 = true := (by first | exact hd { on := 13, ground := .data } (by simp) rfl | exact hd { on := 13, ground := .chain } (by simp) rfl | exact hd { on := 13, ground := .phase } (by simp) rfl)
      simp only [Nl1Mk, sld_yes q13]
      go_simp
      exact hK _ _ ⟨H1, H2, H3, H4, H5, H6, T, by simp only [Nl1Mk, sld_set hlt, sld_yes q13, reduceIte, Nat.reduceEqDiff]; try rfl, (hW.keep hlt (by decide) (by decide) (by decide) (by decide) (by decide) (by decide))⟩
    · change some _ = some o at ho
      cases ho
      have q14 : up L 14 = true := (by first | exact hd { on := 14, ground := .data } (by simp) rfl | exact hd { on := 14, ground := .chain } (by simp) rfl | exact hd { on := 14, ground := .phase } (by simp) rfl)
      simp only [Nl1Mk, sld_yes q14]
      go_simp
      exact hK _ _ ⟨H1, H2, H3, H4, H5, H6, T, by simp only [Nl1Mk, sld_set hlt, sld_yes q14, reduceIte, Nat.reduceEqDiff]; try rfl, (hW.keep hlt (by decide) (by decide) (by decide) (by decide) (by decide) (by decide))⟩
    · change some _ = some o at ho
      cases ho
      have q15 : up L 15 = true := (by first | exact hd { on := 15, ground := .data } (by simp) rfl | exact hd { on := 15, ground := .chain } (by simp) rfl | exact hd { on := 15, ground := .phase } (by simp) rfl)
      simp only [Nl1Mk, sld_yes q15]
      go_simp
      exact hK _ _ ⟨H1, H2, H3, H4, H5, H6, T, by simp only [Nl1Mk, sld_set hlt, sld_yes q15, reduceIte, Nat.reduceEqDiff]; try rfl, (hW.keep hlt (by decide) (by decide) (by decide) (by decide) (by decide) (by decide))⟩
    · change some _ = some o at ho
      cases ho
      have q16 : up L 16 = true := (by first | exact hd { on := 16, ground := .data } (by simp) rfl | exact hd { on := 16, ground := .chain } (by simp) rfl | exact hd { on := 16, ground := .phase } (by simp) rfl)
      have cx := (hW.bel.cell (p := ⟨gr, 2, none⟩) hgr).trans d2
      simp only [Nl1Mk, sld_yes q16]
      go_simp
      exact hK _ _ ⟨H1, H2, H3, H4, H5, H6, T, by simp only [Nl1Mk, sld_set hlt, sld_yes q16, reduceIte, Nat.reduceEqDiff]; try rfl, (hW.keep hlt (by decide) (by decide) (by decide) (by decide) (by decide) (by decide))⟩
    · change some _ = some o at ho
      cases ho
      have q17 : up L 17 = true := (by first | exact hd { on := 17, ground := .data } (by simp) rfl | exact hd { on := 17, ground := .chain } (by simp) rfl | exact hd { on := 17, ground := .phase } (by simp) rfl)
      have n25 : up L 25 = false := hC.no nl 25 rfl (by kernel_rfl)
      have n26 : up L 26 = false := hC.no n25 26 rfl (by kernel_rfl)
      have n27 : up L 27 = false := hC.no n26 27 rfl (by kernel_rfl)
      simp only [Nl1Mk, sld_yes q17]
      go_simp
      exact hK _ _ ⟨H1, H2, H3, w.heap.size, H5, H6, newT T w.heap.size 3, by simp only [Nl1Mk, sld_set hlt, sld_yes q17, sld_no n25, sld_no n26, sld_no n27, reduceIte, Nat.reduceEqDiff]; try rfl, hW.mk18 hlt n26 hcsR hclR (by omega)⟩
    · change some _ = some o at ho
      cases ho
      simp only [Nl1Mk]
      go_simp
      exact hK _ _ ⟨H1, H2, H3, H4, H5, H6, T, by simp only [Nl1Mk, sld_set hlt, reduceIte, Nat.reduceEqDiff]; try rfl, (hW.keep hlt (by decide) (by decide) (by decide) (by decide) (by decide) (by decide))⟩
    · change some _ = some o at ho
      cases ho
      have q19 : up L 19 = true := (by first | exact hd { on := 19, ground := .data } (by simp) rfl | exact hd { on := 19, ground := .chain } (by simp) rfl | exact hd { on := 19, ground := .phase } (by simp) rfl)
      simp only [Nl1Mk, sld_yes q19]
      go_simp
      exact hK _ _ ⟨H1, H2, H3, H4, H5, H6, T, by simp only [Nl1Mk, sld_set hlt, sld_yes q19, reduceIte, Nat.reduceEqDiff]; try rfl, (hW.keep hlt (by decide) (by decide) (by decide) (by decide) (by decide) (by decide))⟩
    · change some _ = some o at ho
      cases ho
      have q20 : up L 20 = true := (by first | exact hd { on := 20, ground := .data } (by simp) rfl | exact hd { on := 20, ground := .chain } (by simp) rfl | exact hd { on := 20, ground := .phase } (by simp) rfl)
      simp only [Nl1Mk, sld_yes q20]
      go_simp
      exact hK _ _ ⟨H1, H2, H3, H4, H5, H6, T, by simp only [Nl1Mk, sld_set hlt, sld_yes q20, reduceIte, Nat.reduceEqDiff]; try rfl, (hW.keep hlt (by decide) (by decide) (by decide) (by decide) (by decide) (by decide))⟩
    · change some _ = some o at ho
      cases ho
      have q21 : up L 21 = true := (by first | exact hd { on := 21, ground := .data } (by simp) rfl | exact hd { on := 21, ground := .chain } (by simp) rfl | exact hd { on := 21, ground := .phase } (by simp) rfl)
      simp only [Nl1Mk, sld_yes q21]
      go_simp
      exact hK _ _ ⟨H1, H2, H3, H4, H5, H6, T, by simp only [Nl1Mk, sld_set hlt, sld_yes q21, reduceIte, Nat.reduceEqDiff]; try rfl, (hW.keep hlt (by decide) (by decide) (by decide) (by decide) (by decide) (by decide))⟩
    · change some _ = some o at ho
      cases ho
      have q22 : up L 22 = true := (by first | exact hd { on := 22, ground := .data } (by simp) rfl | exact hd { on := 22, ground := .chain } (by simp) rfl | exact hd { on := 22, ground := .phase } (by simp) rfl)
      have cx := (hW.bel.cell (p := ⟨gr, 2, none⟩) hgr).trans d2
      simp only [Nl1Mk, sld_yes q22]
      go_simp
      exact hK _ _ ⟨H1, H2, H3, H4, H5, H6, T, by simp only [Nl1Mk, sld_set hlt, sld_yes q22, reduceIte, Nat.reduceEqDiff]; try rfl, (hW.keep hlt (by decide) (by decide) (by decide) (by decide) (by decide) (by decide))⟩
    · change some _ = some o at ho
      cases ho
      have q23 : up L 23 = true := (by first | exact hd { on := 23, ground := .data } (by simp) rfl | exact hd { on := 23, ground := .chain } (by simp) rfl | exact hd { on := 23, ground := .phase } (by simp) rfl)
      have n25 : up L 25 = false := hC.no nl 25 rfl (by kernel_rfl)
      have n26 : up L 26 = false := hC.no n25 26 rfl (by kernel_rfl)
      have n27 : up L 27 = false := hC.no n26 27 rfl (by kernel_rfl)
      simp only [Nl1Mk, sld_yes q23]
      go_simp
      exact hK _ _ ⟨H1, H2, H3, H4, w.heap.size, H6, newT T w.heap.size 5, by simp only [Nl1Mk, sld_set hlt, sld_yes q23, sld_no n25, sld_no n26, sld_no n27, reduceIte, Nat.reduceEqDiff]; try rfl, hW.mk24 hlt n26 hcsR hclR (by omega)⟩
    · change some _ = some o at ho
      cases ho
      have q5 : up L 5 = true := (by first | exact hd { on := 5, ground := .data } (by simp) rfl | exact hd { on := 5, ground := .chain } (by simp) rfl | exact hd { on := 5, ground := .phase } (by simp) rfl)
      have q12 : up L 12 = true := (by first | exact hd { on := 12, ground := .data } (by simp) rfl | exact hd { on := 12, ground := .chain } (by simp) rfl | exact hd { on := 12, ground := .phase } (by simp) rfl)
      have q18 : up L 18 = true := (by first | exact hd { on := 18, ground := .data } (by simp) rfl | exact hd { on := 18, ground := .chain } (by simp) rfl | exact hd { on := 18, ground := .phase } (by simp) rfl)
      have q24 : up L 24 = true := (by first | exact hd { on := 24, ground := .data } (by simp) rfl | exact hd { on := 24, ground := .chain } (by simp) rfl | exact hd { on := 24, ground := .phase } (by simp) rfl)
      simp only [Nl1Mk, sld_yes q5, sld_yes q12, sld_yes q18, sld_yes q24]
      go_simp
      exact hK _ _ ⟨H1, H2, H3, H4, H5, H6, T, by simp only [Nl1Mk, sld_set hlt, sld_yes q5, sld_yes q12, sld_yes q18, sld_yes q24, reduceIte, Nat.reduceEqDiff]; try rfl, (hW.keep hlt (by decide) (by decide) (by decide) (by decide) (by decide) (by decide))⟩
    · change some _ = some o at ho
      cases ho
      have q25 : up L 25 = true := (by first | exact hd { on := 25, ground := .data } (by simp) rfl | exact hd { on := 25, ground := .chain } (by simp) rfl | exact hd { on := 25, ground := .phase } (by simp) rfl)
      have n27 : up L 27 = false := hC.no nl 27 rfl (by kernel_rfl)
      simp only [Nl1Mk, sld_yes q25]
      go_simp
      exact hK _ _ ⟨H1, H2, H3, H4, H5, w.heap.size, newT T w.heap.size 0, by simp only [Nl1Mk, sld_set hlt, sld_yes q25, sld_no n27, reduceIte, Nat.reduceEqDiff]; try rfl, hW.bx hlt⟩
    · change some _ = some o at ho
      cases ho
      have q26 : up L 26 = true := (by first | exact hd { on := 26, ground := .data } (by simp) rfl | exact hd { on := 26, ground := .chain } (by simp) rfl | exact hd { on := 26, ground := .phase } (by simp) rfl)
      simp only [Nl1Mk, sld_yes q26]
      go_simp
      exact hK _ _ ⟨H1, H2, H3, H4, H5, H6, T, by simp only [Nl1Mk, sld_set hlt, sld_yes q26, reduceIte, Nat.reduceEqDiff]; try rfl, (hW.keep hlt (by decide) (by decide) (by decide) (by decide) (by decide) (by decide))⟩
  case done =>
    rintro L ac w ⟨H1, H2, H3, H4, H5, H6, T, rfl, hW⟩ hall
    obtain ⟨q1, q2⟩ := hW.p5 (hall 5 (by decide))
    obtain ⟨q3, q4⟩ := hW.p12 (hall 12 (by decide))
    obtain ⟨q5, q6⟩ := hW.p18 (hall 18 (by decide))
    obtain ⟨q7, q8⟩ := hW.p24 (hall 24 (by decide))
    obtain ⟨q9, q10, q11⟩ := hW.p26 (hall 26 (by decide))
    simp only [Nl1Mk, sld_yes (hall 0 (by decide)), sld_yes (hall 1 (by decide)), sld_yes (hall 2 (by decide)), sld_yes (hall 3 (by decide)), sld_yes (hall 4 (by decide)), sld_yes (hall 5 (by decide)), sld_yes (hall 6 (by decide)), sld_yes (hall 7 (by decide)), sld_yes (hall 8 (by decide)), sld_yes (hall 9 (by decide)), sld_yes (hall 10 (by decide)), sld_yes (hall 11 (by decide)), sld_yes (hall 12 (by decide)), sld_yes (hall 13 (by decide)), sld_yes (hall 14 (by decide)), sld_yes (hall 15 (by decide)), sld_yes (hall 16 (by decide)), sld_yes (hall 17 (by decide)), sld_yes (hall 18 (by decide)), sld_yes (hall 19 (by decide)), sld_yes (hall 20 (by decide)), sld_yes (hall 21 (by decide)), sld_yes (hall 22 (by decide)), sld_yes (hall 23 (by decide)), sld_yes (hall 24 (by decide)), sld_yes (hall 25 (by decide)), sld_yes (hall 26 (by decide)), sld_yes (hall 27 (by decide))]
    refine HKt.out _ _ _ _ _ _ _ _ _ _ _ _ _ _ _ _ _ _ _ _ _ _ _ _ _ _ _ H6 H1 H3 H4 H5 T w ⟨(Below.drew (Below.refl _ _)).trans hW.bel, q10, q9, q11, Rw.nil q1 q2, Rw.nil q5 q6, Rw.nil q7 q8, ?_, q4, by simp⟩
    rw [List.map_replicate]; exact q3
end Go.Proofs.YtcgfgmlfbgbkfaaGreatDoor.W
namespace Go.Proofs.YtcgfgmlfbgbkfaaGreatDoor.W
open Go.RowKit
def Na14Mk (gl go k i : Nat) (a : Option Addr) (m c : Nat) (x : Int) (c0 c1 c2 c4 c5 c7 c8 c9 c11 c12 c13 c14 c15 c16 c17 c18 c19 c20 c21 c22 c23 c24 c25 c26 c27 c28 c29 c30 c31 c32 c33 c34 c35 c36 c37 c38 c39 c40 c41 c42 c43 c44 c45 c46 c47 c48 c49 c50 c51 c52 c53 c54 c55 c56 c57 c58 c59 c60 c61 c62 c63 c64 c65 c66 c67 c68 c69 c70 c71 c72 c73 c74 c75 c76 c77 c78 c79 c80 c81 c82 c83 c84 c85 c86 c87 c88 c89 c90 c91 c92 c93 c94 c95 c96 c97 c98 c99 c100 c101 c102 c103 c104 c105 c106 c107 c108 c109 c110 c111 c112 c113 c114 c115 c116 c117 c118 c119 c120 c121 c122 c123 c124 c125 c126 c127 c128 c129 c130 c131 c132 : Value) (H G cp : Nat) (L : Array Bool) : Act := { tmps := #[c0, c1, c2, .pointer (some ⟨gl, 0, none⟩), c4, c5, .int .i64 x, c7, c8, c9, .int .i64 (i : Int), c11, c12, c13, c14, c15, c16, c17, c18, c19, c20, c21, c22, c23, c24, c25, c26, c27, c28, c29, c30, c31, c32, c33, c34, c35, c36, c37, c38, c39, c40, c41, c42, c43, c44, c45, c46, c47, c48, c49, c50, c51, c52, c53, c54, c55, c56, c57, c58, c59, c60, c61, c62, c63, c64, c65, c66, c67, c68, c69, c70, c71, c72, c73, c74, c75, c76, c77, c78, c79, c80, c81, c82, sld c83 L 0 (.pointer (some ⟨gl, 0, none⟩)), sld c84 L 1 (.pointer (some ⟨gl, 0, none⟩)), sld c85 L 2 (.pointer (some ⟨gl, 2, none⟩)), sld c86 L 3 (.slice (some ⟨go, 0, none⟩) k k), sld c87 L 4 (.int .i64 (i : Int)), sld c88 L 5 (.pointer (some ⟨gl, 0, none⟩)), sld c89 L 6 (.pointer (some ⟨gl, 0, none⟩)), sld c90 L 7 (.pointer (some ⟨gl, 2, none⟩)), sld c91 L 8 (.slice (some ⟨go, 0, none⟩) k k), sld c92 L 9 (.int .i64 (i : Int)), sld c93 L 10 (.pointer (some ⟨go, i, none⟩)), sld c94 L 11 (.slice a m c), sld c95 L 12 (.int .i64 x), sld c96 L 13 (.slice (some ⟨H, 0, none⟩) 1 1), sld c97 L 14 (.slice (some ⟨G, 0, none⟩) (m + 1) cp), sld c98 L 15 (.pointer (some ⟨go, i, none⟩)), c99, c100, c101, c102, c103, c104, c105, c106, c107, c108, c109, c110, c111, c112, c113, c114, c115, c116, c117, c118, c119, c120, c121, c122, c123, c124, c125, c126, c127, c128, c129, c130, c131, c132], defers := [] }
set_option maxRecDepth 100000 in
set_option maxHeartbeats 8000000 in
theorem nl14_is {W0 y : World} {gl gb gs gu gt n R : Nat} {B U S : Gd} {ss : List Int} {T : Nat → Nat} (h : Lv W0 y gl gb gs gu gt n R B U S ss T) (i : Nat) (hi : i < R) (hk8 : R ≤ 8000) (x : Int) (hlen : (U.L i).length ≤ 1000000) (c0 c1 c2 c4 c5 c7 c8 c9 c11 c12 c13 c14 c15 c16 c17 c18 c19 c20 c21 c22 c23 c24 c25 c26 c27 c28 c29 c30 c31 c32 c33 c34 c35 c36 c37 c38 c39 c40 c41 c42 c43 c44 c45 c46 c47 c48 c49 c50 c51 c52 c53 c54 c55 c56 c57 c58 c59 c60 c61 c62 c63 c64 c65 c66 c67 c68 c69 c70 c71 c72 c73 c74 c75 c76 c77 c78 c79 c80 c81 c82 c83 c84 c85 c86 c87 c88 c89 c90 c91 c92 c93 c94 c95 c96 c97 c98 c99 c100 c101 c102 c103 c104 c105 c106 c107 c108 c109 c110 c111 c112 c113 c114 c115 c116 c117 c118 c119 c120 c121 c122 c123 c124 c125 c126 c127 c128 c129 c130 c131 c132 : Value) (Q : Exit → Act → World → Prop)
    (hK : ∀ (s83 s84 s85 s86 s87 s88 s89 s90 s91 s92 s93 s94 s95 s96 s97 s98 : Value) (g c : Nat) (T' : Nat → Nat) (y' : World), Lv W0 y' gl gb gs gu gt n R B (U.put i g c x) S ss T' → Kp T T' y y' → Q .normal { tmps := #[c0, c1, c2, .pointer (some ⟨gl, 0, none⟩), c4, c5, .int .i64 x, c7, c8, c9, .int .i64 (i : Int), c11, c12, c13, c14, c15, c16, c17, c18, c19, c20, c21, c22, c23, c24, c25, c26, c27, c28, c29, c30, c31, c32, c33, c34, c35, c36, c37, c38, c39, c40, c41, c42, c43, c44, c45, c46, c47, c48, c49, c50, c51, c52, c53, c54, c55, c56, c57, c58, c59, c60, c61, c62, c63, c64, c65, c66, c67, c68, c69, c70, c71, c72, c73, c74, c75, c76, c77, c78, c79, c80, c81, c82, s83, s84, s85, s86, s87, s88, s89, s90, s91, s92, s93, s94, s95, s96, s97, s98, c99, c100, c101, c102, c103, c104, c105, c106, c107, c108, c109, c110, c111, c112, c113, c114, c115, c116, c117, c118, c119, c120, c121, c122, c123, c124, c125, c126, c127, c128, c129, c130, c131, c132], defers := [] } y') :
    (nlC 14).wp Tryz.prog Q { tmps := #[c0, c1, c2, .pointer (some ⟨gl, 0, none⟩), c4, c5, .int .i64 x, c7, c8, c9, .int .i64 (i : Int), c11, c12, c13, c14, c15, c16, c17, c18, c19, c20, c21, c22, c23, c24, c25, c26, c27, c28, c29, c30, c31, c32, c33, c34, c35, c36, c37, c38, c39, c40, c41, c42, c43, c44, c45, c46, c47, c48, c49, c50, c51, c52, c53, c54, c55, c56, c57, c58, c59, c60, c61, c62, c63, c64, c65, c66, c67, c68, c69, c70, c71, c72, c73, c74, c75, c76, c77, c78, c79, c80, c81, c82, c83, c84, c85, c86, c87, c88, c89, c90, c91, c92, c93, c94, c95, c96, c97, c98, c99, c100, c101, c102, c103, c104, c105, c106, c107, c108, c109, c110, c111, c112, c113, c114, c115, c116, c117, c118, c119, c120, c121, c122, c123, c124, c125, c126, c127, c128, c129, c130, c131, c132], defers := [] } y := by
  have HKt : Hid _ := hK
  clear hK
  conv => arg 2; whnf
  dsimp only
  obtain ⟨i0, hi0, hz0, hz1, hz2⟩ := info_parts Tryz.infostL
  have hd := h.later (Below.drew (Below.refl y.heap.size y))
  have HL : Hid (Lv W0 y.drew gl gb gs gu gt n R B U S ss T) := hd
  obtain ⟨k, hkk⟩ : ∃ k, k = R := ⟨_, rfl⟩
  obtain ⟨go, hgo⟩ : ∃ go, go = gu := ⟨_, rfl⟩
  have dF : y.drew.cell? ⟨gl, 2, none⟩ = some (.slice (some ⟨go, 0, none⟩) k k) := by rw [hkk, hgo]; exact hd.cell 2
  have hrc : y.drew.cell? ⟨go, i, none⟩ = some (U.V i) := by rw [hgo]; exact hd.ru.cell hi
  obtain ⟨a, ha⟩ : ∃ a, a = U.A i := ⟨_, rfl⟩
  obtain ⟨m, hm⟩ : ∃ m, m = (U.L i).length := ⟨_, rfl⟩
  obtain ⟨c, hc⟩ : ∃ c, c = U.C i := ⟨_, rfl⟩
  have hV : U.V i = .slice a m c := by rw [ha, hm, hc]; rfl
  have HVV : Hid (U.V i = .slice a m c ∧ m = (U.L i).length ∧ go = gu ∧ k = R) := ⟨hV, hm, hgo, hkk⟩
  have dR : y.drew.cell? ⟨go, i, none⟩ = some (.slice a m c) := by rw [← hV]; exact hrc
  have dO := dR
  obtain ⟨xs, hxs⟩ : ∃ xs, xs = U.L i := ⟨_, rfl⟩
  have HXS : Hid (xs = U.L i) := hxs
  have HO : Hid (y.drew.ownsRow W0.heap.size 108 1 (.slice a m c) m xs) := by rw [ha, hm, hc, hxs]; exact hd.ru.nr i hi
  have HBL : Hid (Below W0.heap.size W0 y.drew) := hd.bel
  have HNO : Hid ((Value.slice a m c).ownBlock ≠ some go) := by rw [← hV, hgo]; exact hd.ru.ne hi
  have HNE : Hid ((Value.slice a m c).ownBlock ≠ some gl) := by
    rw [← hV]
    intro e
    have e1 := hd.ru.tn i hi gl e
    rw [hd.tb] at e1
    omega
  have HFZ : Hid (∀ w : World, (y.drew.alloc (.cells #[.int .i64 x] 108)).grownBy w (Value.slice a m c).ownBlock → w.frozen? ⟨go, i, none⟩ = false) := fun w hg => by
    have o1 := (hd.ru.oo)
    rw [← hgo] at o1
    have hgl := (o1.lt go rfl).2
    have o2 := own_eqL o1 (w' := w) fun g hq => by
      simp only [Value.ownBlock, Option.some.injEq] at hq
      subst hq
      rw [hg.block go (by simp; exact Nat.lt_succ_of_lt hgl) (fun q => HNO.out q.symm)]
      exact (below_alloc _ _).block go hgl
    exact o2.frozenAt i
  have him : m ≤ 1000000 := by rw [hm]; exact hlen
  have hik : (i : Int) < (k : Int) := by rw [hkk]; omega
  have hi8 : (i : Int) ≤ 8000 := by omega
  clear hd h hrc hV ha hc hm hxs hgo hkk hlen
  refine wp_region_any (by kernel_rfl) ?_
  change wpAny _ _ _ _ _ _ _ (World.drew _)
  refine wpAny_inw (fun L ac w => ∃ H G cp, ac = Na14Mk gl go k i a m c x c0 c1 c2 c4 c5 c7 c8 c9 c11 c12 c13 c14 c15 c16 c17 c18 c19 c20 c21 c22 c23 c24 c25 c26 c27 c28 c29 c30 c31 c32 c33 c34 c35 c36 c37 c38 c39 c40 c41 c42 c43 c44 c45 c46 c47 c48 c49 c50 c51 c52 c53 c54 c55 c56 c57 c58 c59 c60 c61 c62 c63 c64 c65 c66 c67 c68 c69 c70 c71 c72 c73 c74 c75 c76 c77 c78 c79 c80 c81 c82 c83 c84 c85 c86 c87 c88 c89 c90 c91 c92 c93 c94 c95 c96 c97 c98 c99 c100 c101 c102 c103 c104 c105 c106 c107 c108 c109 c110 c111 c112 c113 c114 c115 c116 c117 c118 c119 c120 c121 c122 c123 c124 c125 c126 c127 c128 c129 c130 c131 c132 H G cp L ∧ NapW y.drew go i a m c x W0.heap.size xs H G cp L w) ?done (by kernel_rfl) ?step _ 17 _ _ (by kernel_rfl) ?init (by decide)
  case init => exact ⟨0, 0, 0, by simp only [Na14Mk, sld_no (up_init _ _)], fun _ => rfl, fun z => absurd (z.symm.trans (up_init _ _)) (by decide), fun z => absurd (z.symm.trans (up_init _ _)) (by decide)⟩
  case step =>
    intro L act w i o hI hlt hs nl hC hd ho K hK
    obtain ⟨H, G, cp, rfl, hW⟩ := hI
    have hi_lt : i < 17 := (Array.getElem?_eq_some_iff.1 ho).1
    rcases (show i = 0 ∨ i = 1 ∨ i = 2 ∨ i = 3 ∨ i = 4 ∨ i = 5 ∨ i = 6 ∨ i = 7 ∨ i = 8 ∨ i = 9 ∨ i = 10 ∨ i = 11 ∨ i = 12 ∨ i = 13 ∨ i = 14 ∨ i = 15 ∨ i = 16 by omega) with rfl | rfl | rfl | rfl | rfl | rfl | rfl | rfl | rfl | rfl | rfl | rfl | rfl | rfl | rfl | rfl | rfl
    · change some _ = some o at ho
      cases ho
      simp only [Na14Mk]
      go_simp
      exact hK _ _ ⟨H, G, cp, by simp only [Na14Mk, sld_set hlt, reduceIte, Nat.reduceEqDiff]; try rfl, (hW.keep hlt (by decide) (by decide) (by decide))⟩
    · change some _ = some o at ho
      cases ho
      have q0 : up L 0 = true := (by first | exact hd { on := 0, ground := .data } (by simp) rfl | exact hd { on := 0, ground := .chain } (by simp) rfl | exact hd { on := 0, ground := .phase } (by simp) rfl)
      simp only [Na14Mk, sld_yes q0]
      go_simp
      exact hK _ _ ⟨H, G, cp, by simp only [Na14Mk, sld_set hlt, sld_yes q0, reduceIte, Nat.reduceEqDiff]; try rfl, (hW.keep hlt (by decide) (by decide) (by decide))⟩
    · change some _ = some o at ho
      cases ho
      have q1 : up L 1 = true := (by first | exact hd { on := 1, ground := .data } (by simp) rfl | exact hd { on := 1, ground := .chain } (by simp) rfl | exact hd { on := 1, ground := .phase } (by simp) rfl)
      simp only [Na14Mk, sld_yes q1]
      go_simp
      exact hK _ _ ⟨H, G, cp, by simp only [Na14Mk, sld_set hlt, sld_yes q1, reduceIte, Nat.reduceEqDiff]; try rfl, (hW.keep hlt (by decide) (by decide) (by decide))⟩
    · change some _ = some o at ho
      cases ho
      have q2 : up L 2 = true := (by first | exact hd { on := 2, ground := .data } (by simp) rfl | exact hd { on := 2, ground := .chain } (by simp) rfl | exact hd { on := 2, ground := .phase } (by simp) rfl)
      have n16 : up L 16 = false := hC.no (hC.no nl 15 rfl (by kernel_rfl)) 16 rfl (by kernel_rfl)
      have cx := hW.any n16 HNE.out dF
      simp only [Na14Mk, sld_yes q2]
      go_simp
      exact hK _ _ ⟨H, G, cp, by simp only [Na14Mk, sld_set hlt, sld_yes q2, reduceIte, Nat.reduceEqDiff]; try rfl, (hW.keep hlt (by decide) (by decide) (by decide))⟩
    · change some _ = some o at ho
      cases ho
      simp only [Na14Mk]
      go_simp
      exact hK _ _ ⟨H, G, cp, by simp only [Na14Mk, sld_set hlt, reduceIte, Nat.reduceEqDiff]; try rfl, (hW.keep hlt (by decide) (by decide) (by decide))⟩
    · change some _ = some o at ho
      cases ho
      simp only [Na14Mk]
      go_simp
      exact hK _ _ ⟨H, G, cp, by simp only [Na14Mk, sld_set hlt, reduceIte, Nat.reduceEqDiff]; try rfl, (hW.keep hlt (by decide) (by decide) (by decide))⟩
    · change some _ = some o at ho
      cases ho
      have q5 : up L 5 = true := (by first | exact hd { on := 5, ground := .data } (by simp) rfl | exact hd { on := 5, ground := .chain } (by simp) rfl | exact hd { on := 5, ground := .phase } (by simp) rfl)
      simp only [Na14Mk, sld_yes q5]
      go_simp
      exact hK _ _ ⟨H, G, cp, by simp only [Na14Mk, sld_set hlt, sld_yes q5, reduceIte, Nat.reduceEqDiff]; try rfl, (hW.keep hlt (by decide) (by decide) (by decide))⟩
    · change some _ = some o at ho
      cases ho
      have q6 : up L 6 = true := (by first | exact hd { on := 6, ground := .data } (by simp) rfl | exact hd { on := 6, ground := .chain } (by simp) rfl | exact hd { on := 6, ground := .phase } (by simp) rfl)
      simp only [Na14Mk, sld_yes q6]
      go_simp
      exact hK _ _ ⟨H, G, cp, by simp only [Na14Mk, sld_set hlt, sld_yes q6, reduceIte, Nat.reduceEqDiff]; try rfl, (hW.keep hlt (by decide) (by decide) (by decide))⟩
    · change some _ = some o at ho
      cases ho
      have q7 : up L 7 = true := (by first | exact hd { on := 7, ground := .data } (by simp) rfl | exact hd { on := 7, ground := .chain } (by simp) rfl | exact hd { on := 7, ground := .phase } (by simp) rfl)
      have n10 : up L 10 = false := hC.no nl 10 rfl (by kernel_rfl)
      have n11 : up L 11 = false := hC.no n10 11 rfl (by kernel_rfl)
      have n14 : up L 14 = false := hC.no n11 14 rfl (by kernel_rfl)
      have cx := hW.early n14 dF
      simp only [Na14Mk, sld_yes q7]
      go_simp
      exact hK _ _ ⟨H, G, cp, by simp only [Na14Mk, sld_set hlt, sld_yes q7, reduceIte, Nat.reduceEqDiff]; try rfl, (hW.keep hlt (by decide) (by decide) (by decide))⟩
    · change some _ = some o at ho
      cases ho
      simp only [Na14Mk]
      go_simp
      exact hK _ _ ⟨H, G, cp, by simp only [Na14Mk, sld_set hlt, reduceIte, Nat.reduceEqDiff]; try rfl, (hW.keep hlt (by decide) (by decide) (by decide))⟩
    · change some _ = some o at ho
      cases ho
      have q8 : up L 8 = true := (by first | exact hd { on := 8, ground := .data } (by simp) rfl | exact hd { on := 8, ground := .chain } (by simp) rfl | exact hd { on := 8, ground := .phase } (by simp) rfl)
      have q9 : up L 9 = true := (by first | exact hd { on := 9, ground := .data } (by simp) rfl | exact hd { on := 9, ground := .chain } (by simp) rfl | exact hd { on := 9, ground := .phase } (by simp) rfl)
      simp only [Na14Mk, sld_yes q8, sld_yes q9]
      go_simp
      exact hK _ _ ⟨H, G, cp, by simp only [Na14Mk, sld_set hlt, sld_yes q8, sld_yes q9, reduceIte, Nat.reduceEqDiff]; try rfl, (hW.keep hlt (by decide) (by decide) (by decide))⟩
    · change some _ = some o at ho
      cases ho
      have q10 : up L 10 = true := (by first | exact hd { on := 10, ground := .data } (by simp) rfl | exact hd { on := 10, ground := .chain } (by simp) rfl | exact hd { on := 10, ground := .phase } (by simp) rfl)
      have n14 : up L 14 = false := hC.no nl 14 rfl (by kernel_rfl)
      have cx := hW.early n14 dR
      simp only [Na14Mk, sld_yes q10]
      go_simp
      exact hK _ _ ⟨H, G, cp, by simp only [Na14Mk, sld_set hlt, sld_yes q10, reduceIte, Nat.reduceEqDiff]; try rfl, (hW.keep hlt (by decide) (by decide) (by decide))⟩
    · change some _ = some o at ho
      cases ho
      simp only [Na14Mk]
      go_simp
      exact hK _ _ ⟨H, G, cp, by simp only [Na14Mk, sld_set hlt, reduceIte, Nat.reduceEqDiff]; try rfl, (hW.keep hlt (by decide) (by decide) (by decide))⟩
    · change some _ = some o at ho
      cases ho
      have q12 : up L 12 = true := (by first | exact hd { on := 12, ground := .data } (by simp) rfl | exact hd { on := 12, ground := .chain } (by simp) rfl | exact hd { on := 12, ground := .phase } (by simp) rfl)
      have n14 : up L 14 = false := hC.no nl 14 rfl (by kernel_rfl)
      obtain rfl := hW.1 nl
      simp only [Na14Mk, sld_yes q12]
      go_simp
      exact hK _ _ ⟨y.drew.heap.size, G, cp, by simp only [Na14Mk, sld_set hlt, sld_yes q12, reduceIte, Nat.reduceEqDiff]; try rfl, ⟨fun z => absurd (z.symm.trans ((up_set hlt _).trans (if_pos rfl))) (by decide), fun _ _ => ⟨rfl, rfl⟩, fun z => absurd (z.symm.trans ((up_set hlt 14).trans n14)) (by decide)⟩⟩
    · change some _ = some o at ho
      cases ho
      have q11 : up L 11 = true := (by first | exact hd { on := 11, ground := .data } (by simp) rfl | exact hd { on := 11, ground := .chain } (by simp) rfl | exact hd { on := 11, ground := .phase } (by simp) rfl)
      have q13 : up L 13 = true := (by first | exact hd { on := 13, ground := .data } (by simp) rfl | exact hd { on := 13, ground := .chain } (by simp) rfl | exact hd { on := 13, ground := .phase } (by simp) rfl)
      have n16 : up L 16 = false := hC.no nl 16 rfl (by kernel_rfl)
      obtain ⟨rfl, rfl⟩ := hW.2.1 q13 nl
      have hown0 := own_keepI HO.out (below_alloc y.drew (.cells #[.int .i64 x] 108))
      simp only [Na14Mk, sld_yes q11, sld_yes q13]
      rw [if_pos (by rfl)]
      refine wp_append_lies _ (.tmp 94) (.tmp 96) 119 (by rfl) W0.heap.size 108 i0 (.int .i64 0) 1 8 Tryz.underlying119 hi0 hz0 hz1 hz2 rfl (by decide) (.slice a m c) m xs (by rfl) hown0 ⟨y.drew.heap.size, 0, none⟩ 1 1 [.int .i64 x] (by rfl) rfl (World.news_of_block (heap_alloc_new y.drew (.cells #[.int .i64 x] 108))) (by intro z hz; simp at hz; subst hz; rfl) (by decide) (by unfold maxLen; omega) (by omega) (Nat.le_trans HBL.out.size (below_alloc y.drew _).size) _ rfl ?_
      intro G' cp' w2 hown1 hgrow hat hlt1
      exact hK _ _ ⟨y.drew.heap.size, G', cp', by simp only [Na14Mk, sld_set hlt, sld_yes q11, sld_yes q13, reduceIte, Nat.reduceEqDiff]; try rfl, ⟨fun z => absurd (z.symm.trans ((up_set hlt 13).trans q13)) (by decide), fun _ z => absurd (z.symm.trans ((up_set hlt _).trans (if_pos rfl))) (by decide), fun _ => ⟨w2, hown1, hgrow, by (rcases hat with e | e; exact .inl e; exact .inr (by rw [e]; simp)), fun _ => rfl, fun z => absurd (z.symm.trans ((up_set hlt 16).trans n16)) (by decide)⟩⟩⟩
    · change some _ = some o at ho
      cases ho
      have q3 : up L 3 = true := (by first | exact hd { on := 3, ground := .data } (by simp) rfl | exact hd { on := 3, ground := .chain } (by simp) rfl | exact hd { on := 3, ground := .phase } (by simp) rfl)
      have q4 : up L 4 = true := (by first | exact hd { on := 4, ground := .data } (by simp) rfl | exact hd { on := 4, ground := .chain } (by simp) rfl | exact hd { on := 4, ground := .phase } (by simp) rfl)
      simp only [Na14Mk, sld_yes q3, sld_yes q4]
      go_simp
      exact hK _ _ ⟨H, G, cp, by simp only [Na14Mk, sld_set hlt, sld_yes q3, sld_yes q4, reduceIte, Nat.reduceEqDiff]; try rfl, (hW.keep hlt (by decide) (by decide) (by decide))⟩
    · change some _ = some o at ho
      cases ho
      have q14 : up L 14 = true := (by first | exact hd { on := 14, ground := .data } (by simp) rfl | exact hd { on := 14, ground := .chain } (by simp) rfl | exact hd { on := 14, ground := .phase } (by simp) rfl)
      have q15 : up L 15 = true := (by first | exact hd { on := 15, ground := .data } (by simp) rfl | exact hd { on := 15, ground := .chain } (by simp) rfl | exact hd { on := 15, ground := .phase } (by simp) rfl)
      have q13 : up L 13 = true := hC 14 _ rfl q14 { on := 13, ground := .data } (by simp) rfl
      have cx := hW.any nl HNO.out dO
      obtain ⟨w2, y1, y2, y3, y5, _⟩ := hW.2.2 q14
      obtain rfl := y5 nl
      have fx := HFZ.out w y2
      simp only [Na14Mk, sld_yes q14, sld_yes q15]
      go_simp
      exact hK _ _ ⟨H, G, cp, by simp only [Na14Mk, sld_set hlt, sld_yes q14, sld_yes q15, reduceIte, Nat.reduceEqDiff]; try rfl, ⟨fun z => absurd (z.symm.trans ((up_set hlt 13).trans q13)) (by decide), fun _ z => absurd (z.symm.trans ((up_set hlt 14).trans q14)) (by decide), fun _ => ⟨w, y1, y2, y3, fun z => absurd (z.symm.trans ((up_set hlt _).trans (if_pos rfl))) (by decide), fun _ => rfl⟩⟩⟩
  case done =>
    rintro L ac w ⟨H, G, cp, rfl, hW⟩ hall
    obtain ⟨w2, y1, y2, y3, _, y5⟩ := hW.2.2 (hall 14 (by decide))
    obtain rfl := y5 (hall 16 (by decide))
    simp only [Na14Mk, sld_yes (hall 0 (by decide)), sld_yes (hall 1 (by decide)), sld_yes (hall 2 (by decide)), sld_yes (hall 3 (by decide)), sld_yes (hall 4 (by decide)), sld_yes (hall 5 (by decide)), sld_yes (hall 6 (by decide)), sld_yes (hall 7 (by decide)), sld_yes (hall 8 (by decide)), sld_yes (hall 9 (by decide)), sld_yes (hall 10 (by decide)), sld_yes (hall 11 (by decide)), sld_yes (hall 12 (by decide)), sld_yes (hall 13 (by decide)), sld_yes (hall 14 (by decide)), sld_yes (hall 15 (by decide))]
    obtain ⟨hV, hm, hgo, hkk⟩ := HVV.out
    have hxs := HXS.out
    subst hxs hm hgo hkk
    rw [← hV] at y2 y3
    refine HKt.out _ _ _ _ _ _ _ _ _ _ _ _ _ _ _ _ G cp _ _ (HL.out.app_u hi (below_alloc y.drew _) y1 y2 y3) ⟨?_, fun g hg => ⟨newT_old hg, HL.out.far_u hi (below_alloc y.drew _) y2 hg⟩⟩
    have e := y2.size
    simp at e ⊢
    omega
end Go.Proofs.YtcgfgmlfbgbkfaaGreatDoor.W
