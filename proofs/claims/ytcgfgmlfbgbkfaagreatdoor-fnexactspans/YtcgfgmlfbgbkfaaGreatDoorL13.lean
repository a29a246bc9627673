import Derived.Test.YtcgfgmlfbgbkfaaGreatDoorL11
import Derived.Test.YtcgfgmlfbgbkfaaGreatDoorL12
set_option linter.unusedVariables false
set_option linter.unusedSimpArgs false
namespace Go.Proofs.YtcgfgmlfbgbkfaaGreatDoor.W
open Go.RowKit
noncomputable def rrC1 (n : Nat) : Code := ((Tryz.f32.body.bind (codeAtR n)).getD .skip)
def Rr1Mk (gr g6 : Nat) (x wx : Pl.IrI) (y2 : SV) (T : TypeId) (c : Value) (c0 c1 c2 c3 c5 c9 c10 c11 c12 c13 c14 c15 c16 c17 c18 c19 c20 c21 c22 c23 c24 c25 c26 c27 c28 c29 c30 c31 c32 c33 c34 c35 c36 c37 c38 c39 c40 c41 c42 c43 c44 c45 c46 c47 c48 c49 c50 c51 c52 c53 c54 c55 c56 c57 c58 c59 c60 c61 c62 c63 c64 c65 c66 c67 c68 c69 c70 c71 c72 c73 c74 c75 c76 c77 c78 c79 c80 c81 c82 c83 c84 c85 c86 c87 c88 c89 c90 c91 c92 c93 c94 c95 c96 c97 c98 c99 c100 c101 c102 : Value) (v2 : SV) (L : Array Bool) : Act := { tmps := #[c0, c1, c2, c3, .pointer (some ⟨gr, 0, none⟩), c5, .pointer (some ⟨g6, 0, none⟩), .iface T c, .bool true, c9, c10, c11, c12, c13, c14, c15, c16, c17, c18, c19, c20, c21, c22, c23, c24, c25, c26, c27, c28, c29, c30, c31, c32, c33, c34, c35, c36, c37, c38, c39, c40, c41, c42, c43, c44, c45, c46, c47, c48, c49, c50, c51, c52, c53, c54, c55, c56, c57, c58, c59, c60, c61, c62, c63, c64, c65, c66, c67, c68, c69, sld c70 L 0 (.bool true), sld c71 L 1 (.bool false), sld c72 L 2 (.bool false), sld c73 L 3 (.iface T c), sld c74 L 4 (.agg #[.int .i64 wx.op, .int .i64 wx.d, .int .i64 wx.a, .int .i64 wx.b, .int .i64 wx.n, .string wx.sym, .slice v2.a v2.len v2.cap]), sld c75 L 5 (.agg #[.int .i64 x.op, .int .i64 x.d, .int .i64 x.a, .int .i64 x.b, .int .i64 x.n, .string x.sym, .slice y2.a y2.len y2.cap]), sld c76 L 6 (.bool false), sld c77 L 7 (.bool true), sld c78 L 8 (.bool true), sld c79 L 9 (.bool true), sld c80 L 10 (undef), sld c81 L 11 (undef), sld c82 L 12 (undef), sld c83 L 13 (undef), sld c84 L 14 (.bool true), sld c85 L 15 (.bool true), sld c86 L 16 (undef), sld c87 L 17 (undef), sld c88 L 18 (undef), sld c89 L 19 (undef), sld c90 L 20 (.bool true), c91, c92, c93, c94, c95, c96, c97, c98, c99, c100, c101, c102], defers := [] }
def Rr1W (y : World) (wx : Pl.IrI) (v2 : SV) (L : Array Bool) (w : World) : Prop := Below y.heap.size y w ∧ (up L 4 = true → Row .i64 0 w v2.a v2.len v2.cap wx.args)
theorem Rr1W.keep {y : World} {wx : Pl.IrI} {v2 : SV} {L : Array Bool} {w : World} (h : Rr1W y wx v2 L w) {i : Nat} (hi : i < L.size) (n : i ≠ 4) {w' : World} (hB : Below w.heap.size w w') : Rr1W y wx v2 (L.setIfInBounds i true) w' :=
  ⟨h.1.trans (hB.mono h.1.size), fun q => by rw [up_set hi, if_neg n] at q; exact (h.2 q).keep hB⟩
set_option maxRecDepth 100000 in
set_option maxHeartbeats 8000000 in
theorem rr10_1 {y : World} {gr g6 : Nat} {x wx : Pl.IrI} {y2 : SV} {T : TypeId} {c : Value} {F1 F4 : Nat} {r1 r4 : Value} (hbx : y.heap[g6]? = some (.cells #[.int .i64 x.op, .int .i64 x.d, .int .i64 x.a, .int .i64 x.b, .int .i64 x.n, .string x.sym, .slice y2.a y2.len y2.cap] 81 (0, 0))) (hm1 : ∀ u : World, (method 365 T c "loop.example/s01681/impl.written").run Tryz.prog u = .ok (F1, r1) u) (hf1 : ∀ (vs : Array Value) (u : World), (callFunc F1 vs).run Tryz.prog u = .ok (.enter F1 vs) u) (hWR : ∀ u : World, Below y.heap.size y u → Calls Tryz.prog F1 #[r1] u fun e u' => ∃ v2 : SV, e = .returned (.agg #[.int .i64 wx.op, .int .i64 wx.d, .int .i64 wx.a, .int .i64 wx.b, .int .i64 wx.n, .string wx.sym, .slice v2.a v2.len v2.cap]) ∧ Row .i64 0 u' v2.a v2.len v2.cap wx.args ∧ Below u.heap.size u u') (hSM : ∀ (u : World) (v2 : SV), Below y.heap.size y u → Row .i64 0 u v2.a v2.len v2.cap wx.args → Calls Tryz.prog 59 #[.agg #[.int .i64 wx.op, .int .i64 wx.d, .int .i64 wx.a, .int .i64 wx.b, .int .i64 wx.n, .string wx.sym, .slice v2.a v2.len v2.cap], .agg #[.int .i64 x.op, .int .i64 x.d, .int .i64 x.a, .int .i64 x.b, .int .i64 x.n, .string x.sym, .slice y2.a y2.len y2.cap]] u fun e u' => e = .returned (.bool false) ∧ Below u.heap.size u u') (c0 c1 c2 c3 c5 c9 c10 c11 c12 c13 c14 c15 c16 c17 c18 c19 c20 c21 c22 c23 c24 c25 c26 c27 c28 c29 c30 c31 c32 c33 c34 c35 c36 c37 c38 c39 c40 c41 c42 c43 c44 c45 c46 c47 c48 c49 c50 c51 c52 c53 c54 c55 c56 c57 c58 c59 c60 c61 c62 c63 c64 c65 c66 c67 c68 c69 c70 c71 c72 c73 c74 c75 c76 c77 c78 c79 c80 c81 c82 c83 c84 c85 c86 c87 c88 c89 c90 c91 c92 c93 c94 c95 c96 c97 c98 c99 c100 c101 c102 : Value) (Q : Exit → Act → World → Prop)
    (hK : ∀ (s70 s71 s72 s73 s74 s75 s76 s77 s78 s79 s80 s81 s82 s83 s84 s85 s86 s87 s88 s89 : Value) (y' : World), Below y.heap.size y y' → Q .normal { tmps := #[c0, c1, c2, c3, .pointer (some ⟨gr, 0, none⟩), c5, .pointer (some ⟨g6, 0, none⟩), .iface T c, .bool true, c9, c10, c11, c12, c13, c14, c15, c16, c17, c18, c19, c20, c21, c22, c23, c24, c25, c26, c27, c28, c29, c30, c31, c32, c33, c34, c35, c36, c37, c38, c39, c40, c41, c42, c43, c44, c45, c46, c47, c48, c49, c50, c51, c52, c53, c54, c55, c56, c57, c58, c59, c60, c61, c62, c63, c64, c65, c66, c67, c68, c69, s70, s71, s72, s73, s74, s75, s76, s77, s78, s79, s80, s81, s82, s83, s84, s85, s86, s87, s88, s89, .bool true, c91, c92, c93, c94, c95, c96, c97, c98, c99, c100, c101, c102], defers := [] } y') :
    (rrC1 10).wp Tryz.prog Q { tmps := #[c0, c1, c2, c3, .pointer (some ⟨gr, 0, none⟩), c5, .pointer (some ⟨g6, 0, none⟩), .iface T c, .bool true, c9, c10, c11, c12, c13, c14, c15, c16, c17, c18, c19, c20, c21, c22, c23, c24, c25, c26, c27, c28, c29, c30, c31, c32, c33, c34, c35, c36, c37, c38, c39, c40, c41, c42, c43, c44, c45, c46, c47, c48, c49, c50, c51, c52, c53, c54, c55, c56, c57, c58, c59, c60, c61, c62, c63, c64, c65, c66, c67, c68, c69, c70, c71, c72, c73, c74, c75, c76, c77, c78, c79, c80, c81, c82, c83, c84, c85, c86, c87, c88, c89, c90, c91, c92, c93, c94, c95, c96, c97, c98, c99, c100, c101, c102], defers := [] } y := by
  have HKt : Hid _ := hK
  clear hK
  have HWR : Hid _ := hWR
  have HSM : Hid _ := hSM
  clear hWR hSM
  conv => arg 2; whnf
  have d0 := cell_of_row y g6 0 _ 81 (0, 0) hbx
  have d1 := cell_of_row y g6 1 _ 81 (0, 0) hbx
  have d2 := cell_of_row y g6 2 _ 81 (0, 0) hbx
  have d3 := cell_of_row y g6 3 _ 81 (0, 0) hbx
  have d4 := cell_of_row y g6 4 _ 81 (0, 0) hbx
  have d5 := cell_of_row y g6 5 _ 81 (0, 0) hbx
  have d6 := cell_of_row y g6 6 _ 81 (0, 0) hbx
  simp only [List.getElem?_toArray, List.getElem?_cons_zero, List.getElem?_cons_succ] at d0 d1 d2 d3 d4 d5 d6
  clear hbx
  refine wp_region_any (by kernel_rfl) ?_
  change wpAny _ _ _ _ _ _ _ (World.drew _)
  refine wpAny_inw (fun L a w => ∃ v2, a = Rr1Mk gr g6 x wx y2 T c c0 c1 c2 c3 c5 c9 c10 c11 c12 c13 c14 c15 c16 c17 c18 c19 c20 c21 c22 c23 c24 c25 c26 c27 c28 c29 c30 c31 c32 c33 c34 c35 c36 c37 c38 c39 c40 c41 c42 c43 c44 c45 c46 c47 c48 c49 c50 c51 c52 c53 c54 c55 c56 c57 c58 c59 c60 c61 c62 c63 c64 c65 c66 c67 c68 c69 c70 c71 c72 c73 c74 c75 c76 c77 c78 c79 c80 c81 c82 c83 c84 c85 c86 c87 c88 c89 c90 c91 c92 c93 c94 c95 c96 c97 c98 c99 c100 c101 c102 v2 L ∧ Rr1W y wx v2 L w) ?done (by kernel_rfl) ?step _ 21 _ _ (by kernel_rfl) ?init (by decide)
  case init => exact ⟨⟨none, 0, 0⟩, by simp only [Rr1Mk, sld_no (up_init _ _)], Below.drew (Below.refl _ _), fun q => absurd (q.symm.trans (up_init _ _)) (by decide)⟩
  case step =>
    intro L act w i o hI hlt hs nl hC hd ho K hK
    obtain ⟨v2, rfl, hW⟩ := hI
    have hi_lt : i < 21 := (Array.getElem?_eq_some_iff.1 ho).1
    rcases (show i = 0 ∨ i = 1 ∨ i = 2 ∨ i = 3 ∨ i = 4 ∨ i = 5 ∨ i = 6 ∨ i = 7 ∨ i = 8 ∨ i = 9 ∨ i = 10 ∨ i = 11 ∨ i = 12 ∨ i = 13 ∨ i = 14 ∨ i = 15 ∨ i = 16 ∨ i = 17 ∨ i = 18 ∨ i = 19 ∨ i = 20 by omega) with rfl | rfl | rfl | rfl | rfl | rfl | rfl | rfl | rfl | rfl | rfl | rfl | rfl | rfl | rfl | rfl | rfl | rfl | rfl | rfl | rfl
    · change some _ = some o at ho
      cases ho
      simp only [Rr1Mk]
      go_simp
      exact hK _ _ ⟨v2, by simp only [Rr1Mk, sld_set hlt, reduceIte, Nat.reduceEqDiff]; try rfl, (hW.keep hlt (by decide) (Below.refl _ _))⟩
    · change some _ = some o at ho
      cases ho
      have q0 : up L 0 = true := (by first | exact hd { on := 0, ground := .data } (by simp) rfl | exact hd { on := 0, ground := .chain } (by simp) rfl | exact hd { on := 0, ground := .phase } (by simp) rfl)
      simp only [Rr1Mk, sld_yes q0]
      go_simp
      exact hK _ _ ⟨v2, by simp only [Rr1Mk, sld_set hlt, sld_yes q0, reduceIte, Nat.reduceEqDiff]; try rfl, (hW.keep hlt (by decide) (Below.refl _ _))⟩
    · change some _ = some o at ho
      cases ho
      have q1 : up L 1 = true := (by first | exact hd { on := 1, ground := .data } (by simp) rfl | exact hd { on := 1, ground := .chain } (by simp) rfl | exact hd { on := 1, ground := .phase } (by simp) rfl)
      simp only [Rr1Mk, sld_yes q1]
      go_simp
      exact hK _ _ ⟨v2, by simp only [Rr1Mk, sld_set hlt, sld_yes q1, reduceIte, Nat.reduceEqDiff]; try rfl, (hW.keep hlt (by decide) (Below.refl _ _))⟩
    · change some _ = some o at ho
      cases ho
      have q2 : up L 2 = true := (hd { on := 2, ground := .guard } (by simp) rfl)
      simp only [Rr1Mk, sld_yes q2]
      go_simp
      exact hK _ _ ⟨v2, by simp only [Rr1Mk, sld_set hlt, sld_yes q2, reduceIte, Nat.reduceEqDiff]; try rfl, (hW.keep hlt (by decide) (Below.refl _ _))⟩
    · change some _ = some o at ho
      cases ho
      have q2 : up L 2 = true := (hd { on := 2, ground := .guard } (by simp) rfl)
      have q3 : up L 3 = true := (by first | exact hd { on := 3, ground := .data } (by simp) rfl | exact hd { on := 3, ground := .chain } (by simp) rfl | exact hd { on := 3, ground := .phase } (by simp) rfl)
      have n6 : up L 6 = false := hC.no nl 6 rfl (by kernel_rfl)
      simp only [Rr1Mk, sld_yes q2, sld_yes q3]
      go_simp
      refine (HWR.out w hW.1).mono ?_
      rintro e z ⟨v2', rfl, oz, dz⟩
      go_simp
      exact hK _ _ ⟨v2', by simp only [Rr1Mk, sld_set hlt, sld_yes q2, sld_yes q3, reduceIte, Nat.reduceEqDiff]; try rfl, ⟨hW.1.trans (dz.mono hW.1.size), fun _ => oz⟩⟩
    · change some _ = some o at ho
      cases ho
      have q2 : up L 2 = true := (hd { on := 2, ground := .guard } (by simp) rfl)
      have k0 := below_cell hW.1 d0
      have k1 := below_cell hW.1 d1
      have k2 := below_cell hW.1 d2
      have k3 := below_cell hW.1 d3
      have k4 := below_cell hW.1 d4
      have k5 := below_cell hW.1 d5
      have k6 := below_cell hW.1 d6
      simp only [Rr1Mk, sld_yes q2]
      go_simp
      exact hK _ _ ⟨v2, by simp only [Rr1Mk, sld_set hlt, sld_yes q2, reduceIte, Nat.reduceEqDiff]; try rfl, (hW.keep hlt (by decide) (Below.refl _ _))⟩
    · change some _ = some o at ho
      cases ho
      have q2 : up L 2 = true := (hd { on := 2, ground := .guard } (by simp) rfl)
      have q4 : up L 4 = true := (by first | exact hd { on := 4, ground := .data } (by simp) rfl | exact hd { on := 4, ground := .chain } (by simp) rfl | exact hd { on := 4, ground := .phase } (by simp) rfl)
      have q5 : up L 5 = true := (by first | exact hd { on := 5, ground := .data } (by simp) rfl | exact hd { on := 5, ground := .chain } (by simp) rfl | exact hd { on := 5, ground := .phase } (by simp) rfl)
      simp only [Rr1Mk, sld_yes q2, sld_yes q4, sld_yes q5]
      go_simp
      refine (HSM.out w v2 hW.1 (hW.2 q4)).mono ?_
      rintro e z ⟨rfl, dz⟩
      go_simp
      exact hK _ _ ⟨v2, by simp only [Rr1Mk, sld_set hlt, sld_yes q2, sld_yes q4, sld_yes q5, reduceIte, Nat.reduceEqDiff]; try rfl, (hW.keep hlt (by decide) dz)⟩
    · change some _ = some o at ho
      cases ho
      have q2 : up L 2 = true := (hd { on := 2, ground := .guard } (by simp) rfl)
      have q6 : up L 6 = true := (by first | exact hd { on := 6, ground := .data } (by simp) rfl | exact hd { on := 6, ground := .chain } (by simp) rfl | exact hd { on := 6, ground := .phase } (by simp) rfl)
      simp only [Rr1Mk, sld_yes q2, sld_yes q6]
      go_simp
      exact hK _ _ ⟨v2, by simp only [Rr1Mk, sld_set hlt, sld_yes q2, sld_yes q6, reduceIte, Nat.reduceEqDiff]; try rfl, (hW.keep hlt (by decide) (Below.refl _ _))⟩
    · change some _ = some o at ho
      cases ho
      have q2 : up L 2 = true := (by first | exact hd { on := 2, ground := .data } (by simp) rfl | exact hd { on := 2, ground := .chain } (by simp) rfl | exact hd { on := 2, ground := .phase } (by simp) rfl)
      have q7 : up L 7 = true := (by first | exact hd { on := 7, ground := .data } (by simp) rfl | exact hd { on := 7, ground := .chain } (by simp) rfl | exact hd { on := 7, ground := .phase } (by simp) rfl)
      simp only [Rr1Mk, sld_yes q2, sld_yes q7]
      go_simp
      exact hK _ _ ⟨v2, by simp only [Rr1Mk, sld_set hlt, sld_yes q2, sld_yes q7, reduceIte, Nat.reduceEqDiff]; try rfl, (hW.keep hlt (by decide) (Below.refl _ _))⟩
    · change some _ = some o at ho
      cases ho
      have q8 : up L 8 = true := (by first | exact hd { on := 8, ground := .data } (by simp) rfl | exact hd { on := 8, ground := .chain } (by simp) rfl | exact hd { on := 8, ground := .phase } (by simp) rfl)
      simp only [Rr1Mk, sld_yes q8]
      go_simp
      exact hK _ _ ⟨v2, by simp only [Rr1Mk, sld_set hlt, sld_yes q8, reduceIte, Nat.reduceEqDiff]; try rfl, (hW.keep hlt (by decide) (Below.refl _ _))⟩
    · change some _ = some o at ho
      cases ho
      have q9 : up L 9 = true := (hd { on := 9, ground := .guard } (by simp) rfl)
      simp only [Rr1Mk, sld_yes q9]
      go_simp
      exact hK _ _ ⟨v2, by simp only [Rr1Mk, sld_set hlt, sld_yes q9, reduceIte, Nat.reduceEqDiff]; try rfl, (hW.keep hlt (by decide) (Below.refl _ _))⟩
    · change some _ = some o at ho
      cases ho
      have q9 : up L 9 = true := (hd { on := 9, ground := .guard } (by simp) rfl)
      simp only [Rr1Mk, sld_yes q9]
      go_simp
      exact hK _ _ ⟨v2, by simp only [Rr1Mk, sld_set hlt, sld_yes q9, reduceIte, Nat.reduceEqDiff]; try rfl, (hW.keep hlt (by decide) (Below.refl _ _))⟩
    · change some _ = some o at ho
      cases ho
      have q9 : up L 9 = true := (hd { on := 9, ground := .guard } (by simp) rfl)
      have q10 : up L 10 = true := (by first | exact hd { on := 10, ground := .data } (by simp) rfl | exact hd { on := 10, ground := .chain } (by simp) rfl | exact hd { on := 10, ground := .phase } (by simp) rfl)
      have q11 : up L 11 = true := (by first | exact hd { on := 11, ground := .data } (by simp) rfl | exact hd { on := 11, ground := .chain } (by simp) rfl | exact hd { on := 11, ground := .phase } (by simp) rfl)
      simp only [Rr1Mk, sld_yes q9, sld_yes q10, sld_yes q11]
      go_simp
      exact hK _ _ ⟨v2, by simp only [Rr1Mk, sld_set hlt, sld_yes q9, sld_yes q10, sld_yes q11, reduceIte, Nat.reduceEqDiff]; try rfl, (hW.keep hlt (by decide) (Below.refl _ _))⟩
    · change some _ = some o at ho
      cases ho
      have q9 : up L 9 = true := (hd { on := 9, ground := .guard } (by simp) rfl)
      have q12 : up L 12 = true := (by first | exact hd { on := 12, ground := .data } (by simp) rfl | exact hd { on := 12, ground := .chain } (by simp) rfl | exact hd { on := 12, ground := .phase } (by simp) rfl)
      simp only [Rr1Mk, sld_yes q9, sld_yes q12]
      go_simp
      exact hK _ _ ⟨v2, by simp only [Rr1Mk, sld_set hlt, sld_yes q9, sld_yes q12, reduceIte, Nat.reduceEqDiff]; try rfl, (hW.keep hlt (by decide) (Below.refl _ _))⟩
    · change some _ = some o at ho
      cases ho
      have q9 : up L 9 = true := (by first | exact hd { on := 9, ground := .data } (by simp) rfl | exact hd { on := 9, ground := .chain } (by simp) rfl | exact hd { on := 9, ground := .phase } (by simp) rfl)
      have q13 : up L 13 = true := (by first | exact hd { on := 13, ground := .data } (by simp) rfl | exact hd { on := 13, ground := .chain } (by simp) rfl | exact hd { on := 13, ground := .phase } (by simp) rfl)
      simp only [Rr1Mk, sld_yes q9, sld_yes q13]
      go_simp
      exact hK _ _ ⟨v2, by simp only [Rr1Mk, sld_set hlt, sld_yes q9, sld_yes q13, reduceIte, Nat.reduceEqDiff]; try rfl, (hW.keep hlt (by decide) (Below.refl _ _))⟩
    · change some _ = some o at ho
      cases ho
      have q14 : up L 14 = true := (by first | exact hd { on := 14, ground := .data } (by simp) rfl | exact hd { on := 14, ground := .chain } (by simp) rfl | exact hd { on := 14, ground := .phase } (by simp) rfl)
      simp only [Rr1Mk, sld_yes q14]
      go_simp
      exact hK _ _ ⟨v2, by simp only [Rr1Mk, sld_set hlt, sld_yes q14, reduceIte, Nat.reduceEqDiff]; try rfl, (hW.keep hlt (by decide) (Below.refl _ _))⟩
    · change some _ = some o at ho
      cases ho
      have q15 : up L 15 = true := (hd { on := 15, ground := .guard } (by simp) rfl)
      simp only [Rr1Mk, sld_yes q15]
      go_simp
      exact hK _ _ ⟨v2, by simp only [Rr1Mk, sld_set hlt, sld_yes q15, reduceIte, Nat.reduceEqDiff]; try rfl, (hW.keep hlt (by decide) (Below.refl _ _))⟩
    · change some _ = some o at ho
      cases ho
      have q15 : up L 15 = true := (hd { on := 15, ground := .guard } (by simp) rfl)
      simp only [Rr1Mk, sld_yes q15]
      go_simp
      exact hK _ _ ⟨v2, by simp only [Rr1Mk, sld_set hlt, sld_yes q15, reduceIte, Nat.reduceEqDiff]; try rfl, (hW.keep hlt (by decide) (Below.refl _ _))⟩
    · change some _ = some o at ho
      cases ho
      have q15 : up L 15 = true := (hd { on := 15, ground := .guard } (by simp) rfl)
      have q16 : up L 16 = true := (by first | exact hd { on := 16, ground := .data } (by simp) rfl | exact hd { on := 16, ground := .chain } (by simp) rfl | exact hd { on := 16, ground := .phase } (by simp) rfl)
      have q17 : up L 17 = true := (by first | exact hd { on := 17, ground := .data } (by simp) rfl | exact hd { on := 17, ground := .chain } (by simp) rfl | exact hd { on := 17, ground := .phase } (by simp) rfl)
      simp only [Rr1Mk, sld_yes q15, sld_yes q16, sld_yes q17]
      go_simp
      exact hK _ _ ⟨v2, by simp only [Rr1Mk, sld_set hlt, sld_yes q15, sld_yes q16, sld_yes q17, reduceIte, Nat.reduceEqDiff]; try rfl, (hW.keep hlt (by decide) (Below.refl _ _))⟩
    · change some _ = some o at ho
      cases ho
      have q15 : up L 15 = true := (hd { on := 15, ground := .guard } (by simp) rfl)
      have q18 : up L 18 = true := (by first | exact hd { on := 18, ground := .data } (by simp) rfl | exact hd { on := 18, ground := .chain } (by simp) rfl | exact hd { on := 18, ground := .phase } (by simp) rfl)
      simp only [Rr1Mk, sld_yes q15, sld_yes q18]
      go_simp
      exact hK _ _ ⟨v2, by simp only [Rr1Mk, sld_set hlt, sld_yes q15, sld_yes q18, reduceIte, Nat.reduceEqDiff]; try rfl, (hW.keep hlt (by decide) (Below.refl _ _))⟩
    · change some _ = some o at ho
      cases ho
      have q15 : up L 15 = true := (by first | exact hd { on := 15, ground := .data } (by simp) rfl | exact hd { on := 15, ground := .chain } (by simp) rfl | exact hd { on := 15, ground := .phase } (by simp) rfl)
      have q19 : up L 19 = true := (by first | exact hd { on := 19, ground := .data } (by simp) rfl | exact hd { on := 19, ground := .chain } (by simp) rfl | exact hd { on := 19, ground := .phase } (by simp) rfl)
      simp only [Rr1Mk, sld_yes q15, sld_yes q19]
      go_simp
      exact hK _ _ ⟨v2, by simp only [Rr1Mk, sld_set hlt, sld_yes q15, sld_yes q19, reduceIte, Nat.reduceEqDiff]; try rfl, (hW.keep hlt (by decide) (Below.refl _ _))⟩
  case done =>
    rintro L a w ⟨v2, rfl, hW⟩ hall
    simp only [Rr1Mk, sld_yes (hall 0 (by decide)), sld_yes (hall 1 (by decide)), sld_yes (hall 2 (by decide)), sld_yes (hall 3 (by decide)), sld_yes (hall 4 (by decide)), sld_yes (hall 5 (by decide)), sld_yes (hall 6 (by decide)), sld_yes (hall 7 (by decide)), sld_yes (hall 8 (by decide)), sld_yes (hall 9 (by decide)), sld_yes (hall 10 (by decide)), sld_yes (hall 11 (by decide)), sld_yes (hall 12 (by decide)), sld_yes (hall 13 (by decide)), sld_yes (hall 14 (by decide)), sld_yes (hall 15 (by decide)), sld_yes (hall 16 (by decide)), sld_yes (hall 17 (by decide)), sld_yes (hall 18 (by decide)), sld_yes (hall 19 (by decide)), sld_yes (hall 20 (by decide))]
    exact HKt.out _ _ _ _ _ _ _ _ _ _ _ _ _ _ _ _ _ _ _ _ w hW.1
end Go.Proofs.YtcgfgmlfbgbkfaaGreatDoor.W
namespace Go.Proofs.YtcgfgmlfbgbkfaaGreatDoor.W
open Go.RowKit
noncomputable def rrC2 (n : Nat) : Code := ((Tryz.f32.body.bind (codeAtR n)).getD .skip)
def Rr2Mk (gr g6 : Nat) (x wx : Pl.IrI) (y2 : SV) (T : TypeId) (c : Value) (c0 c1 c2 c3 c5 c9 c10 c11 c12 c13 c14 c15 c16 c17 c18 c19 c20 c21 c22 c23 c24 c25 c26 c27 c28 c29 c30 c31 c32 c33 c34 c35 c36 c37 c38 c39 c40 c41 c42 c43 c44 c45 c46 c47 c48 c49 c50 c51 c52 c53 c54 c55 c56 c57 c58 c59 c60 c61 c62 c63 c64 c65 c66 c67 c68 c69 c70 c71 c72 c73 c74 c75 c76 c77 c78 c79 c80 c81 c82 c83 c84 c85 c86 c87 c88 c89 c90 c91 c92 c93 c94 c95 c96 c97 c98 c99 c100 c101 c102 : Value) (v2 : SV) (L : Array Bool) : Act := { tmps := #[c0, c1, c2, c3, .pointer (some ⟨gr, 0, none⟩), c5, .pointer (some ⟨g6, 0, none⟩), .iface T c, .bool true, c9, c10, c11, c12, c13, c14, c15, c16, c17, c18, c19, c20, c21, c22, c23, c24, c25, c26, c27, c28, c29, c30, c31, c32, c33, c34, c35, c36, c37, c38, c39, c40, c41, c42, c43, c44, c45, c46, c47, c48, c49, c50, c51, c52, c53, c54, c55, c56, c57, c58, c59, c60, c61, c62, c63, c64, c65, c66, c67, c68, c69, sld c70 L 0 (.bool true), sld c71 L 1 (.bool false), sld c72 L 2 (.bool false), sld c73 L 3 (.iface T c), sld c74 L 4 (.agg #[.int .i64 wx.op, .int .i64 wx.d, .int .i64 wx.a, .int .i64 wx.b, .int .i64 wx.n, .string wx.sym, .slice v2.a v2.len v2.cap]), sld c75 L 5 (.agg #[.int .i64 x.op, .int .i64 x.d, .int .i64 x.a, .int .i64 x.b, .int .i64 x.n, .string x.sym, .slice y2.a y2.len y2.cap]), sld c76 L 6 (.bool true), sld c77 L 7 (.bool false), sld c78 L 8 (.bool false), sld c79 L 9 (.bool false), sld c80 L 10 (.pointer (some ⟨gr, 0, none⟩)), sld c81 L 11 (.iface T c), sld c82 L 12 (.bool false), sld c83 L 13 (.bool true), sld c84 L 14 (.bool true), sld c85 L 15 (.bool true), sld c86 L 16 (undef), sld c87 L 17 (undef), sld c88 L 18 (undef), sld c89 L 19 (undef), sld c90 L 20 (.bool true), c91, c92, c93, c94, c95, c96, c97, c98, c99, c100, c101, c102], defers := [] }
def Rr2W (y : World) (wx : Pl.IrI) (v2 : SV) (L : Array Bool) (w : World) : Prop := Below y.heap.size y w ∧ (up L 4 = true → Row .i64 0 w v2.a v2.len v2.cap wx.args)
theorem Rr2W.keep {y : World} {wx : Pl.IrI} {v2 : SV} {L : Array Bool} {w : World} (h : Rr2W y wx v2 L w) {i : Nat} (hi : i < L.size) (n : i ≠ 4) {w' : World} (hB : Below w.heap.size w w') : Rr2W y wx v2 (L.setIfInBounds i true) w' :=
  ⟨h.1.trans (hB.mono h.1.size), fun q => by rw [up_set hi, if_neg n] at q; exact (h.2 q).keep hB⟩
set_option maxRecDepth 100000 in
set_option maxHeartbeats 8000000 in
theorem rr10_2 {y : World} {gr g6 : Nat} {x wx : Pl.IrI} {y2 : SV} {T : TypeId} {c : Value} {F1 F4 : Nat} {r1 r4 : Value} (hbx : y.heap[g6]? = some (.cells #[.int .i64 x.op, .int .i64 x.d, .int .i64 x.a, .int .i64 x.b, .int .i64 x.n, .string x.sym, .slice y2.a y2.len y2.cap] 81 (0, 0))) (hm1 : ∀ u : World, (method 365 T c "loop.example/s01681/impl.written").run Tryz.prog u = .ok (F1, r1) u) (hf1 : ∀ (vs : Array Value) (u : World), (callFunc F1 vs).run Tryz.prog u = .ok (.enter F1 vs) u) (hWR : ∀ u : World, Below y.heap.size y u → Calls Tryz.prog F1 #[r1] u fun e u' => ∃ v2 : SV, e = .returned (.agg #[.int .i64 wx.op, .int .i64 wx.d, .int .i64 wx.a, .int .i64 wx.b, .int .i64 wx.n, .string wx.sym, .slice v2.a v2.len v2.cap]) ∧ Row .i64 0 u' v2.a v2.len v2.cap wx.args ∧ Below u.heap.size u u') (hSM : ∀ (u : World) (v2 : SV), Below y.heap.size y u → Row .i64 0 u v2.a v2.len v2.cap wx.args → Calls Tryz.prog 59 #[.agg #[.int .i64 wx.op, .int .i64 wx.d, .int .i64 wx.a, .int .i64 wx.b, .int .i64 wx.n, .string wx.sym, .slice v2.a v2.len v2.cap], .agg #[.int .i64 x.op, .int .i64 x.d, .int .i64 x.a, .int .i64 x.b, .int .i64 x.n, .string x.sym, .slice y2.a y2.len y2.cap]] u fun e u' => e = .returned (.bool true) ∧ Below u.heap.size u u') (hRG : ∀ u : World, Below y.heap.size y u → Calls Tryz.prog 60 #[.pointer (some ⟨gr, 0, none⟩), .iface T c] u fun e u' => e = .returned (.bool false) ∧ Below u.heap.size u u') (c0 c1 c2 c3 c5 c9 c10 c11 c12 c13 c14 c15 c16 c17 c18 c19 c20 c21 c22 c23 c24 c25 c26 c27 c28 c29 c30 c31 c32 c33 c34 c35 c36 c37 c38 c39 c40 c41 c42 c43 c44 c45 c46 c47 c48 c49 c50 c51 c52 c53 c54 c55 c56 c57 c58 c59 c60 c61 c62 c63 c64 c65 c66 c67 c68 c69 c70 c71 c72 c73 c74 c75 c76 c77 c78 c79 c80 c81 c82 c83 c84 c85 c86 c87 c88 c89 c90 c91 c92 c93 c94 c95 c96 c97 c98 c99 c100 c101 c102 : Value) (Q : Exit → Act → World → Prop)
    (hK : ∀ (s70 s71 s72 s73 s74 s75 s76 s77 s78 s79 s80 s81 s82 s83 s84 s85 s86 s87 s88 s89 : Value) (y' : World), Below y.heap.size y y' → Q .normal { tmps := #[c0, c1, c2, c3, .pointer (some ⟨gr, 0, none⟩), c5, .pointer (some ⟨g6, 0, none⟩), .iface T c, .bool true, c9, c10, c11, c12, c13, c14, c15, c16, c17, c18, c19, c20, c21, c22, c23, c24, c25, c26, c27, c28, c29, c30, c31, c32, c33, c34, c35, c36, c37, c38, c39, c40, c41, c42, c43, c44, c45, c46, c47, c48, c49, c50, c51, c52, c53, c54, c55, c56, c57, c58, c59, c60, c61, c62, c63, c64, c65, c66, c67, c68, c69, s70, s71, s72, s73, s74, s75, s76, s77, s78, s79, s80, s81, s82, s83, s84, s85, s86, s87, s88, s89, .bool true, c91, c92, c93, c94, c95, c96, c97, c98, c99, c100, c101, c102], defers := [] } y') :
    (rrC2 10).wp Tryz.prog Q { tmps := #[c0, c1, c2, c3, .pointer (some ⟨gr, 0, none⟩), c5, .pointer (some ⟨g6, 0, none⟩), .iface T c, .bool true, c9, c10, c11, c12, c13, c14, c15, c16, c17, c18, c19, c20, c21, c22, c23, c24, c25, c26, c27, c28, c29, c30, c31, c32, c33, c34, c35, c36, c37, c38, c39, c40, c41, c42, c43, c44, c45, c46, c47, c48, c49, c50, c51, c52, c53, c54, c55, c56, c57, c58, c59, c60, c61, c62, c63, c64, c65, c66, c67, c68, c69, c70, c71, c72, c73, c74, c75, c76, c77, c78, c79, c80, c81, c82, c83, c84, c85, c86, c87, c88, c89, c90, c91, c92, c93, c94, c95, c96, c97, c98, c99, c100, c101, c102], defers := [] } y := by
  have HKt : Hid _ := hK
  clear hK
  have HWR : Hid _ := hWR
  have HSM : Hid _ := hSM
  clear hWR hSM
  have HRG : Hid _ := hRG
  clear hRG
  conv => arg 2; whnf
  have d0 := cell_of_row y g6 0 _ 81 (0, 0) hbx
  have d1 := cell_of_row y g6 1 _ 81 (0, 0) hbx
  have d2 := cell_of_row y g6 2 _ 81 (0, 0) hbx
  have d3 := cell_of_row y g6 3 _ 81 (0, 0) hbx
  have d4 := cell_of_row y g6 4 _ 81 (0, 0) hbx
  have d5 := cell_of_row y g6 5 _ 81 (0, 0) hbx
  have d6 := cell_of_row y g6 6 _ 81 (0, 0) hbx
  simp only [List.getElem?_toArray, List.getElem?_cons_zero, List.getElem?_cons_succ] at d0 d1 d2 d3 d4 d5 d6
  clear hbx
  refine wp_region_any (by kernel_rfl) ?_
  change wpAny _ _ _ _ _ _ _ (World.drew _)
  refine wpAny_inw (fun L a w => ∃ v2, a = Rr2Mk gr g6 x wx y2 T c c0 c1 c2 c3 c5 c9 c10 c11 c12 c13 c14 c15 c16 c17 c18 c19 c20 c21 c22 c23 c24 c25 c26 c27 c28 c29 c30 c31 c32 c33 c34 c35 c36 c37 c38 c39 c40 c41 c42 c43 c44 c45 c46 c47 c48 c49 c50 c51 c52 c53 c54 c55 c56 c57 c58 c59 c60 c61 c62 c63 c64 c65 c66 c67 c68 c69 c70 c71 c72 c73 c74 c75 c76 c77 c78 c79 c80 c81 c82 c83 c84 c85 c86 c87 c88 c89 c90 c91 c92 c93 c94 c95 c96 c97 c98 c99 c100 c101 c102 v2 L ∧ Rr2W y wx v2 L w) ?done (by kernel_rfl) ?step _ 21 _ _ (by kernel_rfl) ?init (by decide)
  case init => exact ⟨⟨none, 0, 0⟩, by simp only [Rr2Mk, sld_no (up_init _ _)], Below.drew (Below.refl _ _), fun q => absurd (q.symm.trans (up_init _ _)) (by decide)⟩
  case step =>
    intro L act w i o hI hlt hs nl hC hd ho K hK
    obtain ⟨v2, rfl, hW⟩ := hI
    have hi_lt : i < 21 := (Array.getElem?_eq_some_iff.1 ho).1
    rcases (show i = 0 ∨ i = 1 ∨ i = 2 ∨ i = 3 ∨ i = 4 ∨ i = 5 ∨ i = 6 ∨ i = 7 ∨ i = 8 ∨ i = 9 ∨ i = 10 ∨ i = 11 ∨ i = 12 ∨ i = 13 ∨ i = 14 ∨ i = 15 ∨ i = 16 ∨ i = 17 ∨ i = 18 ∨ i = 19 ∨ i = 20 by omega) with rfl | rfl | rfl | rfl | rfl | rfl | rfl | rfl | rfl | rfl | rfl | rfl | rfl | rfl | rfl | rfl | rfl | rfl | rfl | rfl | rfl
    · change some _ = some o at ho
      cases ho
      simp only [Rr2Mk]
      go_simp
      exact hK _ _ ⟨v2, by simp only [Rr2Mk, sld_set hlt, reduceIte, Nat.reduceEqDiff]; try rfl, (hW.keep hlt (by decide) (Below.refl _ _))⟩
    · change some _ = some o at ho
      cases ho
      have q0 : up L 0 = true := (by first | exact hd { on := 0, ground := .data } (by simp) rfl | exact hd { on := 0, ground := .chain } (by simp) rfl | exact hd { on := 0, ground := .phase } (by simp) rfl)
      simp only [Rr2Mk, sld_yes q0]
      go_simp
      exact hK _ _ ⟨v2, by simp only [Rr2Mk, sld_set hlt, sld_yes q0, reduceIte, Nat.reduceEqDiff]; try rfl, (hW.keep hlt (by decide) (Below.refl _ _))⟩
    · change some _ = some o at ho
      cases ho
      have q1 : up L 1 = true := (by first | exact hd { on := 1, ground := .data } (by simp) rfl | exact hd { on := 1, ground := .chain } (by simp) rfl | exact hd { on := 1, ground := .phase } (by simp) rfl)
      simp only [Rr2Mk, sld_yes q1]
      go_simp
      exact hK _ _ ⟨v2, by simp only [Rr2Mk, sld_set hlt, sld_yes q1, reduceIte, Nat.reduceEqDiff]; try rfl, (hW.keep hlt (by decide) (Below.refl _ _))⟩
    · change some _ = some o at ho
      cases ho
      have q2 : up L 2 = true := (hd { on := 2, ground := .guard } (by simp) rfl)
      simp only [Rr2Mk, sld_yes q2]
      go_simp
      exact hK _ _ ⟨v2, by simp only [Rr2Mk, sld_set hlt, sld_yes q2, reduceIte, Nat.reduceEqDiff]; try rfl, (hW.keep hlt (by decide) (Below.refl _ _))⟩
    · change some _ = some o at ho
      cases ho
      have q2 : up L 2 = true := (hd { on := 2, ground := .guard } (by simp) rfl)
      have q3 : up L 3 = true := (by first | exact hd { on := 3, ground := .data } (by simp) rfl | exact hd { on := 3, ground := .chain } (by simp) rfl | exact hd { on := 3, ground := .phase } (by simp) rfl)
      have n6 : up L 6 = false := hC.no nl 6 rfl (by kernel_rfl)
      simp only [Rr2Mk, sld_yes q2, sld_yes q3]
      go_simp
      refine (HWR.out w hW.1).mono ?_
      rintro e z ⟨v2', rfl, oz, dz⟩
      go_simp
      exact hK _ _ ⟨v2', by simp only [Rr2Mk, sld_set hlt, sld_yes q2, sld_yes q3, reduceIte, Nat.reduceEqDiff]; try rfl, ⟨hW.1.trans (dz.mono hW.1.size), fun _ => oz⟩⟩
    · change some _ = some o at ho
      cases ho
      have q2 : up L 2 = true := (hd { on := 2, ground := .guard } (by simp) rfl)
      have k0 := below_cell hW.1 d0
      have k1 := below_cell hW.1 d1
      have k2 := below_cell hW.1 d2
      have k3 := below_cell hW.1 d3
      have k4 := below_cell hW.1 d4
      have k5 := below_cell hW.1 d5
      have k6 := below_cell hW.1 d6
      simp only [Rr2Mk, sld_yes q2]
      go_simp
      exact hK _ _ ⟨v2, by simp only [Rr2Mk, sld_set hlt, sld_yes q2, reduceIte, Nat.reduceEqDiff]; try rfl, (hW.keep hlt (by decide) (Below.refl _ _))⟩
    · change some _ = some o at ho
      cases ho
      have q2 : up L 2 = true := (hd { on := 2, ground := .guard } (by simp) rfl)
      have q4 : up L 4 = true := (by first | exact hd { on := 4, ground := .data } (by simp) rfl | exact hd { on := 4, ground := .chain } (by simp) rfl | exact hd { on := 4, ground := .phase } (by simp) rfl)
      have q5 : up L 5 = true := (by first | exact hd { on := 5, ground := .data } (by simp) rfl | exact hd { on := 5, ground := .chain } (by simp) rfl | exact hd { on := 5, ground := .phase } (by simp) rfl)
      simp only [Rr2Mk, sld_yes q2, sld_yes q4, sld_yes q5]
      go_simp
      refine (HSM.out w v2 hW.1 (hW.2 q4)).mono ?_
      rintro e z ⟨rfl, dz⟩
      go_simp
      exact hK _ _ ⟨v2, by simp only [Rr2Mk, sld_set hlt, sld_yes q2, sld_yes q4, sld_yes q5, reduceIte, Nat.reduceEqDiff]; try rfl, (hW.keep hlt (by decide) dz)⟩
    · change some _ = some o at ho
      cases ho
      have q2 : up L 2 = true := (hd { on := 2, ground := .guard } (by simp) rfl)
      have q6 : up L 6 = true := (by first | exact hd { on := 6, ground := .data } (by simp) rfl | exact hd { on := 6, ground := .chain } (by simp) rfl | exact hd { on := 6, ground := .phase } (by simp) rfl)
      simp only [Rr2Mk, sld_yes q2, sld_yes q6]
      go_simp
      exact hK _ _ ⟨v2, by simp only [Rr2Mk, sld_set hlt, sld_yes q2, sld_yes q6, reduceIte, Nat.reduceEqDiff]; try rfl, (hW.keep hlt (by decide) (Below.refl _ _))⟩
    · change some _ = some o at ho
      cases ho
      have q2 : up L 2 = true := (by first | exact hd { on := 2, ground := .data } (by simp) rfl | exact hd { on := 2, ground := .chain } (by simp) rfl | exact hd { on := 2, ground := .phase } (by simp) rfl)
      have q7 : up L 7 = true := (by first | exact hd { on := 7, ground := .data } (by simp) rfl | exact hd { on := 7, ground := .chain } (by simp) rfl | exact hd { on := 7, ground := .phase } (by simp) rfl)
      simp only [Rr2Mk, sld_yes q2, sld_yes q7]
      go_simp
      exact hK _ _ ⟨v2, by simp only [Rr2Mk, sld_set hlt, sld_yes q2, sld_yes q7, reduceIte, Nat.reduceEqDiff]; try rfl, (hW.keep hlt (by decide) (Below.refl _ _))⟩
    · change some _ = some o at ho
      cases ho
      have q8 : up L 8 = true := (by first | exact hd { on := 8, ground := .data } (by simp) rfl | exact hd { on := 8, ground := .chain } (by simp) rfl | exact hd { on := 8, ground := .phase } (by simp) rfl)
      simp only [Rr2Mk, sld_yes q8]
      go_simp
      exact hK _ _ ⟨v2, by simp only [Rr2Mk, sld_set hlt, sld_yes q8, reduceIte, Nat.reduceEqDiff]; try rfl, (hW.keep hlt (by decide) (Below.refl _ _))⟩
    · change some _ = some o at ho
      cases ho
      have q9 : up L 9 = true := (hd { on := 9, ground := .guard } (by simp) rfl)
      simp only [Rr2Mk, sld_yes q9]
      go_simp
      exact hK _ _ ⟨v2, by simp only [Rr2Mk, sld_set hlt, sld_yes q9, reduceIte, Nat.reduceEqDiff]; try rfl, (hW.keep hlt (by decide) (Below.refl _ _))⟩
    · change some _ = some o at ho
      cases ho
      have q9 : up L 9 = true := (hd { on := 9, ground := .guard } (by simp) rfl)
      simp only [Rr2Mk, sld_yes q9]
      go_simp
      exact hK _ _ ⟨v2, by simp only [Rr2Mk, sld_set hlt, sld_yes q9, reduceIte, Nat.reduceEqDiff]; try rfl, (hW.keep hlt (by decide) (Below.refl _ _))⟩
    · change some _ = some o at ho
      cases ho
      have q9 : up L 9 = true := (hd { on := 9, ground := .guard } (by simp) rfl)
      have q10 : up L 10 = true := (by first | exact hd { on := 10, ground := .data } (by simp) rfl | exact hd { on := 10, ground := .chain } (by simp) rfl | exact hd { on := 10, ground := .phase } (by simp) rfl)
      have q11 : up L 11 = true := (by first | exact hd { on := 11, ground := .data } (by simp) rfl | exact hd { on := 11, ground := .chain } (by simp) rfl | exact hd { on := 11, ground := .phase } (by simp) rfl)
      simp only [Rr2Mk, sld_yes q9, sld_yes q10, sld_yes q11]
      go_simp
      refine (HRG.out w hW.1).mono ?_
      rintro e z ⟨rfl, dz⟩
      go_simp
      exact hK _ _ ⟨v2, by simp only [Rr2Mk, sld_set hlt, sld_yes q9, sld_yes q10, sld_yes q11, reduceIte, Nat.reduceEqDiff]; try rfl, (hW.keep hlt (by decide) dz)⟩
    · change some _ = some o at ho
      cases ho
      have q9 : up L 9 = true := (hd { on := 9, ground := .guard } (by simp) rfl)
      have q12 : up L 12 = true := (by first | exact hd { on := 12, ground := .data } (by simp) rfl | exact hd { on := 12, ground := .chain } (by simp) rfl | exact hd { on := 12, ground := .phase } (by simp) rfl)
      simp only [Rr2Mk, sld_yes q9, sld_yes q12]
      go_simp
      exact hK _ _ ⟨v2, by simp only [Rr2Mk, sld_set hlt, sld_yes q9, sld_yes q12, reduceIte, Nat.reduceEqDiff]; try rfl, (hW.keep hlt (by decide) (Below.refl _ _))⟩
    · change some _ = some o at ho
      cases ho
      have q9 : up L 9 = true := (by first | exact hd { on := 9, ground := .data } (by simp) rfl | exact hd { on := 9, ground := .chain } (by simp) rfl | exact hd { on := 9, ground := .phase } (by simp) rfl)
      have q13 : up L 13 = true := (by first | exact hd { on := 13, ground := .data } (by simp) rfl | exact hd { on := 13, ground := .chain } (by simp) rfl | exact hd { on := 13, ground := .phase } (by simp) rfl)
      simp only [Rr2Mk, sld_yes q9, sld_yes q13]
      go_simp
      exact hK _ _ ⟨v2, by simp only [Rr2Mk, sld_set hlt, sld_yes q9, sld_yes q13, reduceIte, Nat.reduceEqDiff]; try rfl, (hW.keep hlt (by decide) (Below.refl _ _))⟩
    · change some _ = some o at ho
      cases ho
      have q14 : up L 14 = true := (by first | exact hd { on := 14, ground := .data } (by simp) rfl | exact hd { on := 14, ground := .chain } (by simp) rfl | exact hd { on := 14, ground := .phase } (by simp) rfl)
      simp only [Rr2Mk, sld_yes q14]
      go_simp
      exact hK _ _ ⟨v2, by simp only [Rr2Mk, sld_set hlt, sld_yes q14, reduceIte, Nat.reduceEqDiff]; try rfl, (hW.keep hlt (by decide) (Below.refl _ _))⟩
    · change some _ = some o at ho
      cases ho
      have q15 : up L 15 = true := (hd { on := 15, ground := .guard } (by simp) rfl)
      simp only [Rr2Mk, sld_yes q15]
      go_simp
      exact hK _ _ ⟨v2, by simp only [Rr2Mk, sld_set hlt, sld_yes q15, reduceIte, Nat.reduceEqDiff]; try rfl, (hW.keep hlt (by decide) (Below.refl _ _))⟩
    · change some _ = some o at ho
      cases ho
      have q15 : up L 15 = true := (hd { on := 15, ground := .guard } (by simp) rfl)
      simp only [Rr2Mk, sld_yes q15]
      go_simp
      exact hK _ _ ⟨v2, by simp only [Rr2Mk, sld_set hlt, sld_yes q15, reduceIte, Nat.reduceEqDiff]; try rfl, (hW.keep hlt (by decide) (Below.refl _ _))⟩
    · change some _ = some o at ho
      cases ho
      have q15 : up L 15 = true := (hd { on := 15, ground := .guard } (by simp) rfl)
      have q16 : up L 16 = true := (by first | exact hd { on := 16, ground := .data } (by simp) rfl | exact hd { on := 16, ground := .chain } (by simp) rfl | exact hd { on := 16, ground := .phase } (by simp) rfl)
      have q17 : up L 17 = true := (by first | exact hd { on := 17, ground := .data } (by simp) rfl | exact hd { on := 17, ground := .chain } (by simp) rfl | exact hd { on := 17, ground := .phase } (by simp) rfl)
      simp only [Rr2Mk, sld_yes q15, sld_yes q16, sld_yes q17]
      go_simp
      exact hK _ _ ⟨v2, by simp only [Rr2Mk, sld_set hlt, sld_yes q15, sld_yes q16, sld_yes q17, reduceIte, Nat.reduceEqDiff]; try rfl, (hW.keep hlt (by decide) (Below.refl _ _))⟩
    · change some _ = some o at ho
      cases ho
      have q15 : up L 15 = true := (hd { on := 15, ground := .guard } (by simp) rfl)
      have q18 : up L 18 = true := (by first | exact hd { on := 18, ground := .data } (by simp) rfl | exact hd { on := 18, ground := .chain } (by simp) rfl | exact hd { on := 18, ground := .phase } (by simp) rfl)
      simp only [Rr2Mk, sld_yes q15, sld_yes q18]
      go_simp
      exact hK _ _ ⟨v2, by simp only [Rr2Mk, sld_set hlt, sld_yes q15, sld_yes q18, reduceIte, Nat.reduceEqDiff]; try rfl, (hW.keep hlt (by decide) (Below.refl _ _))⟩
    · change some _ = some o at ho
      cases ho
      have q15 : up L 15 = true := (by first | exact hd { on := 15, ground := .data } (by simp) rfl | exact hd { on := 15, ground := .chain } (by simp) rfl | exact hd { on := 15, ground := .phase } (by simp) rfl)
      have q19 : up L 19 = true := (by first | exact hd { on := 19, ground := .data } (by simp) rfl | exact hd { on := 19, ground := .chain } (by simp) rfl | exact hd { on := 19, ground := .phase } (by simp) rfl)
      simp only [Rr2Mk, sld_yes q15, sld_yes q19]
      go_simp
      exact hK _ _ ⟨v2, by simp only [Rr2Mk, sld_set hlt, sld_yes q15, sld_yes q19, reduceIte, Nat.reduceEqDiff]; try rfl, (hW.keep hlt (by decide) (Below.refl _ _))⟩
  case done =>
    rintro L a w ⟨v2, rfl, hW⟩ hall
    simp only [Rr2Mk, sld_yes (hall 0 (by decide)), sld_yes (hall 1 (by decide)), sld_yes (hall 2 (by decide)), sld_yes (hall 3 (by decide)), sld_yes (hall 4 (by decide)), sld_yes (hall 5 (by decide)), sld_yes (hall 6 (by decide)), sld_yes (hall 7 (by decide)), sld_yes (hall 8 (by decide)), sld_yes (hall 9 (by decide)), sld_yes (hall 10 (by decide)), sld_yes (hall 11 (by decide)), sld_yes (hall 12 (by decide)), sld_yes (hall 13 (by decide)), sld_yes (hall 14 (by decide)), sld_yes (hall 15 (by decide)), sld_yes (hall 16 (by decide)), sld_yes (hall 17 (by decide)), sld_yes (hall 18 (by decide)), sld_yes (hall 19 (by decide)), sld_yes (hall 20 (by decide))]
    exact HKt.out _ _ _ _ _ _ _ _ _ _ _ _ _ _ _ _ _ _ _ _ w hW.1
end Go.Proofs.YtcgfgmlfbgbkfaaGreatDoor.W
