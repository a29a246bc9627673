import Derived.Test.YteadglnenaiaaaaGreatDoorK41
import Derived.Test.YteadglnenaiaaaaGreatDoorK38
set_option linter.unusedVariables false
set_option linter.unusedSimpArgs false
namespace Go.Proofs.YteadglnenaiaaaaGreatDoor.W
open Go.RowKit Go.Maps Go.WideMaps
def PasMk (gc nb : Nat) (ob : Option Addr) (i oc : Nat) (x : Pl.Nd) (va : Option Addr) (vl vc : Nat) (b : Bool) (c1 c2 c5 c6 c7 c8 c9 c10 c11 c12 c13 c14 c15 c16 c17 c18 c19 c20 c21 c22 c23 c24 c25 c26 c27 c28 c29 c30 c31 c32 c33 c34 c35 c36 c37 c38 c39 c40 c41 c42 c43 c44 c45 c46 c47 c48 c49 c50 c51 c52 c53 c54 c55 c56 c57 c58 c59 c60 c61 c62 c63 c64 c65 c66 c67 c68 c69 c70 : Value) (H G cp : Nat) (L : Array Bool) : Act := { tmps := #[.pointer (some ⟨gc, 0, none⟩), c1, c2, .pointer (some ⟨nb, 0, none⟩), .bool false, c5, c6, c7, c8, c9, c10, c11, c12, c13, c14, c15, c16, c17, c18, c19, c20, c21, c22, c23, c24, c25, c26, c27, c28, c29, c30, c31, c32, c33, c34, c35, c36, c37, c38, c39, c40, c41, c42, c43, c44, c45, c46, c47, c48, c49, c50, c51, c52, c53, c54, c55, c56, c57, c58, c59, c60, c61, c62, c63, c64, c65, c66, c67, c68, c69, c70, sl L 0 (.pointer (some ⟨gc, 0, none⟩)), sl L 1 (.pointer (some ⟨gc, 0, none⟩)), sl L 2 (.pointer (some ⟨gc, 0, none⟩)), sl L 3 (.pointer (some ⟨gc, 2, none⟩)), sl L 4 (.slice ob i oc), sl L 5 (.pointer (some ⟨gc, 0, none⟩)), sl L 6 (.agg #[.int .i64 x.k, .int .i64 x.m, .int .i64 x.n, .string x.s, .slice va vl vc, .int .i64 x.line, .int .i64 x.col]), sl L 7 (.bool b), sl L 8 (.slice (some ⟨H, 0, none⟩) 1 1), sl L 9 (.slice (some ⟨G, 0, none⟩) (i + 1) cp), sl L 10 (.pointer (some ⟨gc, 0, none⟩)), sl L 11 (.pointer (some ⟨gc, 2, none⟩))], defers := [] }
def PasW (y : World) (gc : Nat) (ob : Option Addr) (i oc : Nat) (b : Bool) (B : Nat) (o : List Bool) (H G cp : Nat) (L : Array Bool) (w : World) : Prop :=
  (up L 7 = false → w = y) ∧ (up L 7 = true → up L 8 = false → Below y.heap.size y w) ∧ (up L 8 = true → up L 9 = false → ∃ w1 : World, Below y.heap.size y w1 ∧ w1.heap.size = H ∧ w = w1.alloc (.cells #[.bool b] 4)) ∧ (up L 9 = true → ∃ w2 : World, w2.ownsRow B 4 1 (.slice (some ⟨G, 0, none⟩) (i + 1) cp) (i + 1) ((o ++ [b]).map Value.bool) ∧ y.grownBy w2 (Value.slice ob i oc).ownBlock ∧ ((Value.slice ob i oc).ownBlock = some G ∨ y.heap.size ≤ G) ∧ G < w2.heap.size ∧ (up L 12 = false → w = w2) ∧ (up L 12 = true → w = w2.setCell ⟨gc, 2, none⟩ (.slice (some ⟨G, 0, none⟩) (i + 1) cp)))
theorem PasW.keep {y : World} {gc : Nat} {ob : Option Addr} {i oc : Nat} {b : Bool} {B : Nat} {o : List Bool} {H G cp : Nat} {L : Array Bool} {w : World} (h : PasW y gc ob i oc b B o H G cp L w) {k : Nat} (hk : k < L.size) (n1 : k ≠ 7) (n2 : k ≠ 8) (n3 : k ≠ 9) (n4 : k ≠ 12) : PasW y gc ob i oc b B o H G cp (L.setIfInBounds k true) w := by
  unfold PasW at h ⊢
  rw [up_set hk, up_set hk, up_set hk, up_set hk, if_neg n1, if_neg n2, if_neg n3, if_neg n4]
  exact h
theorem PasW.early {y : World} {gc : Nat} {ob : Option Addr} {i oc : Nat} {b : Bool} {B : Nat} {o : List Bool} {H G cp : Nat} {L : Array Bool} {w : World} (h : PasW y gc ob i oc b B o H G cp L w) (n : up L 9 = false) {g k : Nat} {v : Value} (hc : y.cell? ⟨g, k, none⟩ = some v) : w.cell? ⟨g, k, none⟩ = some v := by
  cases q : up L 7
  · rw [h.1 q]; exact hc
  · cases q2 : up L 8
    · exact below_cell (h.2.1 q q2) hc
    · obtain ⟨w1, hb, _, rfl⟩ := h.2.2.1 q2 n
      exact below_cell (hb.trans ((below_alloc _ _).mono hb.size)) hc
theorem grown_throughC {y w1 w2 : World} {row : Option Nat} (hb : Below y.heap.size y w1) (hg : w1.grownBy w2 row) : y.grownBy w2 row :=
  ⟨hg.os.trans hb.os, hg.tape.trans hb.tape, hg.output.trans hb.output, Nat.le_trans hb.size hg.size, fun k hk hne => (hg.block k (Nat.lt_of_lt_of_le hk hb.size) hne).trans (hb.block k hk)⟩
theorem Chk.far {W0 : World} {a : Option Addr} {len cap gc gm nm : Nat} {al : List ByteArray} {ob : Option Addr} {oc i : Nat} {o : List Bool} {y w2 : World} (h : Chk W0 a len cap gc gm nm al ob oc i o y) (hg : y.grownBy w2 (Value.slice ob i oc).ownBlock) {g : Nat} {ob2 : Obj} (hb : y.heap[g]? = some ob2) (hn : ∀ cs, ob2 ≠ .cells cs 4 (0, 0)) : w2.heap[g]? = some ob2 := by
  rw [hg.block g (Array.getElem?_eq_some_iff.1 hb).1 (by
    intro e
    rcases h.own.2 with ⟨q, _⟩ | ⟨g', cp, cur, h0, hlo, hgg, r⟩
    · rw [q] at e; cases e
    · rw [h0] at e
      simp only [Value.ownBlock, Option.some.injEq] at e
      rw [e, hgg] at hb
      cases hb
      exact hn _ rfl)]
  exact hb
theorem Chk.box {W0 : World} {a : Option Addr} {len cap gc gm nm : Nat} {al : List ByteArray} {ob : Option Addr} {oc i : Nat} {o : List Bool} {y w2 : World} (h : Chk W0 a len cap gc gm nm al ob oc i o y) (hg : y.grownBy w2 (Value.slice ob i oc).ownBlock) : w2.heap[gc]? = some (.cells #[.slice a len cap, .map (some gm), .slice ob i oc] 49 (0, 0)) :=
  h.far hg h.blk (fun cs e => by simp only [Obj.cells.injEq] at e; exact absurd e.2.1 (by decide))
theorem Chk.grow {W0 : World} {a : Option Addr} {len cap gc gm nm : Nat} {al : List ByteArray} {ob : Option Addr} {oc i : Nat} {o : List Bool} {y w2 : World} (h : Chk W0 a len cap gc gm nm al ob oc i o y) {G cp : Nat} {b : Bool} (hg : y.grownBy w2 (Value.slice ob i oc).ownBlock) (hown : w2.ownsRow W0.heap.size 4 1 (.slice (some ⟨G, 0, none⟩) (i + 1) cp) (i + 1) ((o ++ [b]).map Value.bool)) : Chk W0 a len cap gc gm nm al (some ⟨G, 0, none⟩) cp (i + 1) (o ++ [b]) (w2.setCell ⟨gc, 2, none⟩ (.slice (some ⟨G, 0, none⟩) (i + 1) cp)) := by
  have hbx := h.box hg
  obtain ⟨cur, hcur⟩ := own_block_row hown
  have hGc : G ≠ gc := fun e => by
    rw [e, hbx] at hcur
    simp only [Option.some.injEq, Obj.cells.injEq] at hcur
    exact absurd hcur.2.1 (by decide)
  obtain ⟨D, ⟨es, cl, q1, q2⟩, hK⟩ := h.map
  have hgm := h.far hg q1 (fun cs e => by cases e)
  have hmc : gm ≠ gc := fun e => by rw [e, hbx] at hgm; cases hgm
  refine ⟨(h.bel.grown hg h.bel.size (fun k hk => (h.own.lt k hk).1)).setCell h.gcb _, h.gcb, h.gmb, ?_, ⟨D, ⟨es, cl, ?_, q2⟩, hK⟩, ?_⟩
  · rw [heap_setCell_same w2 gc 2 _ 49 _ hbx]; rfl
  · rw [heap_setCell_other w2 ⟨gc, 2, none⟩ _ _ hmc]; exact hgm
  · exact own_otherB hown (heap_setCell_other w2 ⟨gc, 2, none⟩ _ _ hGc)
set_option maxRecDepth 100000 in
set_option maxHeartbeats 8000000 in
theorem p6_is {lo : Nat} {W0 y : World} {xs : List Pl.Nd} {a : Option Addr} {len cap gc gm nm : Nat} {ob : Option Addr} {oc ni nb : Nat} {va : Option Addr} {vl vc : Nat} {l : List Nat} {al : List ByteArray} (hp : Pl.PI xs len ni l) (hc : PC lo W0 y xs a len cap gc gm nm al ob oc ni nb va vl vc) (hok : Pl.NdI xs ni) (c1 c2 c5 c6 c7 c8 c9 c10 c11 c12 c13 c14 c15 c16 c17 c18 c19 c20 c21 c22 c23 c24 c25 c26 c27 c28 c29 c30 c31 c32 c33 c34 c35 c36 c37 c38 c39 c40 c41 c42 c43 c44 c45 c46 c47 c48 c49 c50 c51 c52 c53 c54 c55 c56 c57 c58 c59 c60 c61 c62 c63 c64 c65 c66 c67 c68 c69 c70 : Value) (K : Act → World → Prop) (Q : Exit → Act → World → Prop)
    (hK : ∀ (s71 s72 s73 s74 s75 s76 s77 s78 s79 s80 s81 s82 : Value) (ob2 : Option Addr) (oc2 : Nat) (y' : World), Chk W0 a len cap gc gm nm al ob2 oc2 (ni + 1) (Pl.opF xs (ni + 1)) y' → K { tmps := #[.pointer (some ⟨gc, 0, none⟩), c1, c2, .pointer (some ⟨nb, 0, none⟩), .bool false, c5, c6, c7, c8, c9, c10, c11, c12, c13, c14, c15, c16, c17, c18, c19, c20, c21, c22, c23, c24, c25, c26, c27, c28, c29, c30, c31, c32, c33, c34, c35, c36, c37, c38, c39, c40, c41, c42, c43, c44, c45, c46, c47, c48, c49, c50, c51, c52, c53, c54, c55, c56, c57, c58, c59, c60, c61, c62, c63, c64, c65, c66, c67, c68, c69, c70, s71, s72, s73, s74, s75, s76, s77, s78, s79, s80, s81, s82], defers := [] } y') :
    (passC 6).wp Tryz.prog (Exit.then K Q) { tmps := #[.pointer (some ⟨gc, 0, none⟩), c1, c2, .pointer (some ⟨nb, 0, none⟩), .bool false, c5, c6, c7, c8, c9, c10, c11, c12, c13, c14, c15, c16, c17, c18, c19, c20, c21, c22, c23, c24, c25, c26, c27, c28, c29, c30, c31, c32, c33, c34, c35, c36, c37, c38, c39, c40, c41, c42, c43, c44, c45, c46, c47, c48, c49, c50, c51, c52, c53, c54, c55, c56, c57, c58, c59, c60, c61, c62, c63, c64, c65, c66, c67, c68, c69, c70, undef, undef, undef, undef, undef, undef, undef, undef, undef, undef, undef, undef], defers := [] } y := by
  have HKt : Hid _ := hK
  have HC : Hid (PC lo W0 y xs a len cap gc gm nm al ob oc ni nb va vl vc) := hc
  clear hK
  conv => arg 2; whnf
  obtain ⟨x, hx⟩ : ∃ x, x = Pl.nd xs ni := ⟨_, rfl⟩
  obtain ⟨b, hb⟩ : ∃ b, b = Pl.opN (Pl.opF xs ni) x := ⟨_, rfl⟩
  have HVL : Hid ((Pl.nd xs ni).kids.length = vl) := hc.row.1
  have HOP : Hid (Pl.opF xs (ni + 1) = Pl.opF xs ni ++ [b]) := by show Pl.opF xs ni ++ [Pl.opN (Pl.opF xs ni) (Pl.nd xs ni)] = _; rw [hb, hx]
  have HIO : Hid (∀ u : World, Below y.heap.size y u → Calls Tryz.prog 35 #[.pointer (some ⟨gc, 0, none⟩), .agg #[.int .i64 x.k, .int .i64 x.m, .int .i64 x.n, .string x.s, .slice va vl vc, .int .i64 x.line, .int .i64 x.col]] u fun e w' => e = .returned (.bool b) ∧ Below u.heap.size u w') := fun u hu => by
    rw [hb]
    refine isOpen_is gc ob ni oc (Pl.opF xs ni) x va vl vc u (hc.chk.keep hu).cells.2.2 (by rw [hx]; exact hc.row.keep (hc.chk.bel.trans (hu.mono hc.chk.bel.size))) (fun hl => ?_)
    rw [hx] at hl ⊢
    have h1 := hp.last hok.kids hl
    rw [HVL.out] at h1
    obtain ⟨c, c1, c2⟩ := hp.kid (q := vl - 1) (by rw [HVL.out]; omega)
    exact ⟨c, h1, c1, c2, (hc.chk.keep hu).open c2⟩
  have hi4 : ni < 4000 := by have := hp.hi; have := hp.l4; omega
  obtain ⟨i0, hi0, hz0, hz1, hz2⟩ := info_parts (P := Tryz.prog) (e := 4) (z := .bool false) (size := 1) (bytes := 1) (by kernel_rfl)
  have hcd := hc.keep (Below.drew (Below.refl y.heap.size y))
  obtain ⟨dn0, dn1, dn2, dn3, dn4, dn5, dn6⟩ := hcd.cells hx
  have d2 := hcd.chk.cells.2.2
  have HCK : Hid (Chk W0 a len cap gc gm nm al ob oc ni (Pl.opF xs ni) y.drew) := hcd.chk
  have HO : Hid (y.drew.ownsRow W0.heap.size 4 1 (.slice ob ni oc) ni ((Pl.opF xs ni).map Value.bool)) := hcd.chk.own
  have HBL : Hid (Below W0.heap.size W0 y.drew) := hcd.chk.bel
  clear hcd hc hp hok hx hb HVL
  refine wp_region_any (by kernel_rfl) ?_
  change wpAny _ _ _ _ _ _ _ (World.drew _)
  refine wpAny_inw (fun L a w => ∃ H G cp, a = PasMk gc nb ob ni oc x va vl vc b c1 c2 c5 c6 c7 c8 c9 c10 c11 c12 c13 c14 c15 c16 c17 c18 c19 c20 c21 c22 c23 c24 c25 c26 c27 c28 c29 c30 c31 c32 c33 c34 c35 c36 c37 c38 c39 c40 c41 c42 c43 c44 c45 c46 c47 c48 c49 c50 c51 c52 c53 c54 c55 c56 c57 c58 c59 c60 c61 c62 c63 c64 c65 c66 c67 c68 c69 c70 H G cp L ∧ PasW y.drew gc ob ni oc b W0.heap.size (Pl.opF xs ni) H G cp L w) ?done (by kernel_rfl) ?step _ 13 _ _ (by kernel_rfl) ?init (by decide)
  case init => exact ⟨0, 0, 0, by simp only [PasMk, sl_no (up_init _ _)], fun _ => rfl, fun q => absurd (q.symm.trans (up_init _ _)) (by decide), fun q => absurd (q.symm.trans (up_init _ _)) (by decide), fun q => absurd (q.symm.trans (up_init _ _)) (by decide)⟩
  case step =>
    intro L act w i o hI hlt hs nl hC hd ho K hK
    obtain ⟨H, G, cp, rfl, hW⟩ := hI
    have hi_lt : i < 13 := (Array.getElem?_eq_some_iff.1 ho).1
    rcases (show i = 0 ∨ i = 1 ∨ i = 2 ∨ i = 3 ∨ i = 4 ∨ i = 5 ∨ i = 6 ∨ i = 7 ∨ i = 8 ∨ i = 9 ∨ i = 10 ∨ i = 11 ∨ i = 12 by omega) with rfl | rfl | rfl | rfl | rfl | rfl | rfl | rfl | rfl | rfl | rfl | rfl | rfl
    · change some _ = some o at ho
      cases ho
      simp only [PasMk]
      go_simp
      exact hK _ _ ⟨H, G, cp, by simp only [PasMk, sl_set hlt, reduceIte, Nat.reduceEqDiff]; try rfl, (hW.keep hlt (by decide) (by decide) (by decide) (by decide))⟩
    · change some _ = some o at ho
      cases ho
      simp only [PasMk]
      go_simp
      exact hK _ _ ⟨H, G, cp, by simp only [PasMk, sl_set hlt, reduceIte, Nat.reduceEqDiff]; try rfl, (hW.keep hlt (by decide) (by decide) (by decide) (by decide))⟩
    · change some _ = some o at ho
      cases ho
      have q1 : up L 1 = true := (by first | exact hd { on := 1, ground := .data } (by simp) rfl | exact hd { on := 1, ground := .chain } (by simp) rfl | exact hd { on := 1, ground := .phase } (by simp) rfl)
      simp only [PasMk, sl_yes q1]
      go_simp
      exact hK _ _ ⟨H, G, cp, by simp only [PasMk, sl_set hlt, sl_yes q1, reduceIte, Nat.reduceEqDiff]; try rfl, (hW.keep hlt (by decide) (by decide) (by decide) (by decide))⟩
    · change some _ = some o at ho
      cases ho
      have q2 : up L 2 = true := (by first | exact hd { on := 2, ground := .data } (by simp) rfl | exact hd { on := 2, ground := .chain } (by simp) rfl | exact hd { on := 2, ground := .phase } (by simp) rfl)
      simp only [PasMk, sl_yes q2]
      go_simp
      exact hK _ _ ⟨H, G, cp, by simp only [PasMk, sl_set hlt, sl_yes q2, reduceIte, Nat.reduceEqDiff]; try rfl, (hW.keep hlt (by decide) (by decide) (by decide) (by decide))⟩
    · change some _ = some o at ho
      cases ho
      have q3 : up L 3 = true := (by first | exact hd { on := 3, ground := .data } (by simp) rfl | exact hd { on := 3, ground := .chain } (by simp) rfl | exact hd { on := 3, ground := .phase } (by simp) rfl)
      have n9 : up L 9 = false := hC.no nl 9 rfl (by kernel_rfl)
      have cx := hW.early n9 d2
      simp only [PasMk, sl_yes q3]
      go_simp
      exact hK _ _ ⟨H, G, cp, by simp only [PasMk, sl_set hlt, sl_yes q3, reduceIte, Nat.reduceEqDiff]; try rfl, (hW.keep hlt (by decide) (by decide) (by decide) (by decide))⟩
    · change some _ = some o at ho
      cases ho
      simp only [PasMk]
      go_simp
      exact hK _ _ ⟨H, G, cp, by simp only [PasMk, sl_set hlt, reduceIte, Nat.reduceEqDiff]; try rfl, (hW.keep hlt (by decide) (by decide) (by decide) (by decide))⟩
    · change some _ = some o at ho
      cases ho
      have n7 : up L 7 = false := hC.no nl 7 rfl (by kernel_rfl)
      obtain rfl := hW.1 n7
      simp only [PasMk]
      go_simp
      exact hK _ _ ⟨H, G, cp, by simp only [PasMk, sl_set hlt, reduceIte, Nat.reduceEqDiff]; try rfl, (hW.keep hlt (by decide) (by decide) (by decide) (by decide))⟩
    · change some _ = some o at ho
      cases ho
      have q5 : up L 5 = true := (by first | exact hd { on := 5, ground := .data } (by simp) rfl | exact hd { on := 5, ground := .chain } (by simp) rfl | exact hd { on := 5, ground := .phase } (by simp) rfl)
      have q6 : up L 6 = true := (by first | exact hd { on := 6, ground := .data } (by simp) rfl | exact hd { on := 6, ground := .chain } (by simp) rfl | exact hd { on := 6, ground := .phase } (by simp) rfl)
      have n8 : up L 8 = false := hC.no nl 8 rfl (by kernel_rfl)
      have n9 : up L 9 = false := hC.no n8 9 rfl (by kernel_rfl)
      obtain rfl := hW.1 nl
      simp only [PasMk, sl_yes q5, sl_yes q6]
      go_simp
      refine (HIO.out _ (Below.drew (Below.refl _ _))).mono ?_
      rintro e w2 ⟨rfl, d1⟩
      go_simp
      exact hK _ _ ⟨H, G, cp, by simp only [PasMk, sl_set hlt, sl_yes q5, sl_yes q6, reduceIte, Nat.reduceEqDiff]; try rfl, ⟨fun q => absurd (q.symm.trans ((up_set hlt _).trans (if_pos rfl))) (by decide), fun _ _ => d1, fun q => absurd (q.symm.trans ((up_set hlt 8).trans n8)) (by decide), fun q => absurd (q.symm.trans ((up_set hlt 9).trans n9)) (by decide)⟩⟩
    · change some _ = some o at ho
      cases ho
      have q7 : up L 7 = true := (by first | exact hd { on := 7, ground := .data } (by simp) rfl | exact hd { on := 7, ground := .chain } (by simp) rfl | exact hd { on := 7, ground := .phase } (by simp) rfl)
      have n9 : up L 9 = false := hC.no nl 9 rfl (by kernel_rfl)
      have hb8 := hW.2.1 q7 nl
      simp only [PasMk, sl_yes q7]
      go_simp
      exact hK _ _ ⟨w.heap.size, G, cp, by simp only [PasMk, sl_set hlt, sl_yes q7, reduceIte, Nat.reduceEqDiff]; try rfl, ⟨fun q => absurd (q.symm.trans ((up_set hlt 7).trans q7)) (by decide), fun _ q => absurd (q.symm.trans ((up_set hlt _).trans (if_pos rfl))) (by decide), fun _ _ => ⟨w, hb8, rfl, rfl⟩, fun q => absurd (q.symm.trans ((up_set hlt 9).trans n9)) (by decide)⟩⟩
    · change some _ = some o at ho
      cases ho
      have q4 : up L 4 = true := (by first | exact hd { on := 4, ground := .data } (by simp) rfl | exact hd { on := 4, ground := .chain } (by simp) rfl | exact hd { on := 4, ground := .phase } (by simp) rfl)
      have q8 : up L 8 = true := (by first | exact hd { on := 8, ground := .data } (by simp) rfl | exact hd { on := 8, ground := .chain } (by simp) rfl | exact hd { on := 8, ground := .phase } (by simp) rfl)
      have q7 : up L 7 = true := hC 8 _ rfl q8 { on := 7, ground := .data } (by simp) rfl
      have n12 : up L 12 = false := hC.no nl 12 rfl (by kernel_rfl)
      obtain ⟨w1, hb1, hH, rfl⟩ := hW.2.2.1 q8 nl
      subst hH
      have hown0 := own_keepC HO.out (hb1.trans ((below_alloc w1 (.cells #[.bool b] 4)).mono hb1.size))
      simp only [PasMk, sl_yes q4, sl_yes q8]
      rw [if_pos (by rfl)]
      refine wp_append_lies _ (.tmp 75) (.tmp 79) 35 (by rfl) W0.heap.size 4 i0 (.bool false) 1 1 Tryz.underlying35 hi0 hz0 hz1 hz2 rfl (by decide) (.slice ob ni oc) ni ((Pl.opF xs ni).map Value.bool) (by rfl) hown0 ⟨w1.heap.size, 0, none⟩ 1 1 [.bool b] (by rfl) rfl (World.news_of_block (heap_alloc_new w1 (.cells #[.bool b] 4))) (by intro z hz; simp at hz; subst hz; rfl) (by decide) (by unfold maxLen; omega) (by omega) (Nat.le_trans HBL.out.size (Nat.le_trans hb1.size (below_alloc w1 _).size)) _ rfl ?_
      intro G' cp' w2 hown1 hgrow hat hlt1
      exact hK _ _ ⟨w1.heap.size, G', cp', by simp only [PasMk, sl_set hlt, sl_yes q4, sl_yes q8, reduceIte, Nat.reduceEqDiff]; try rfl, ⟨fun q => absurd (q.symm.trans ((up_set hlt 7).trans q7)) (by decide), fun _ q => absurd (q.symm.trans ((up_set hlt 8).trans q8)) (by decide), fun _ q => absurd (q.symm.trans ((up_set hlt _).trans (if_pos rfl))) (by decide), fun _ => ⟨w2, by rw [List.map_append]; exact hown1, grown_throughC (hb1.trans ((below_alloc _ _).mono hb1.size)) hgrow, by rcases hat with h | h; exact .inl h; exact .inr (by rw [h]; exact Nat.le_trans hb1.size (below_alloc w1 _).size), hlt1, fun _ => rfl, fun q => absurd (q.symm.trans ((up_set hlt 12).trans n12)) (by decide)⟩⟩⟩
    · change some _ = some o at ho
      cases ho
      have q0 : up L 0 = true := (by first | exact hd { on := 0, ground := .data } (by simp) rfl | exact hd { on := 0, ground := .chain } (by simp) rfl | exact hd { on := 0, ground := .phase } (by simp) rfl)
      simp only [PasMk, sl_yes q0]
      go_simp
      exact hK _ _ ⟨H, G, cp, by simp only [PasMk, sl_set hlt, sl_yes q0, reduceIte, Nat.reduceEqDiff]; try rfl, (hW.keep hlt (by decide) (by decide) (by decide) (by decide))⟩
    · change some _ = some o at ho
      cases ho
      have q10 : up L 10 = true := (by first | exact hd { on := 10, ground := .data } (by simp) rfl | exact hd { on := 10, ground := .chain } (by simp) rfl | exact hd { on := 10, ground := .phase } (by simp) rfl)
      simp only [PasMk, sl_yes q10]
      go_simp
      exact hK _ _ ⟨H, G, cp, by simp only [PasMk, sl_set hlt, sl_yes q10, reduceIte, Nat.reduceEqDiff]; try rfl, (hW.keep hlt (by decide) (by decide) (by decide) (by decide))⟩
    · change some _ = some o at ho
      cases ho
      have q9 : up L 9 = true := (by first | exact hd { on := 9, ground := .data } (by simp) rfl | exact hd { on := 9, ground := .chain } (by simp) rfl | exact hd { on := 9, ground := .phase } (by simp) rfl)
      have q11 : up L 11 = true := (by first | exact hd { on := 11, ground := .data } (by simp) rfl | exact hd { on := 11, ground := .chain } (by simp) rfl | exact hd { on := 11, ground := .phase } (by simp) rfl)
      have q8 : up L 8 = true := hC 9 _ rfl q9 { on := 8, ground := .data } (by simp) rfl
      have q7 : up L 7 = true := hC 8 _ rfl q8 { on := 7, ground := .data } (by simp) rfl
      obtain ⟨w2, y1, y2, y3, y4, y5, _⟩ := hW.2.2.2 q9
      obtain rfl := y5 nl
      have hbx := HCK.out.box y2
      have cx : w.cell? ⟨gc, 2, none⟩ = some (.slice ob ni oc) := cell_of_row w gc 2 _ 49 (0, 0) hbx
      have fx : w.frozen? ⟨gc, 2, none⟩ = false := frozen_of_row w gc 2 _ 49 hbx
      simp only [PasMk, sl_yes q9, sl_yes q11]
      go_simp
      exact hK _ _ ⟨H, G, cp, by simp only [PasMk, sl_set hlt, sl_yes q9, sl_yes q11, reduceIte, Nat.reduceEqDiff]; try rfl, ⟨fun q => absurd (q.symm.trans ((up_set hlt 7).trans q7)) (by decide), fun _ q => absurd (q.symm.trans ((up_set hlt 8).trans q8)) (by decide), fun _ q => absurd (q.symm.trans ((up_set hlt 9).trans q9)) (by decide), fun _ => ⟨w, y1, y2, y3, y4, fun q => absurd (q.symm.trans ((up_set hlt _).trans (if_pos rfl))) (by decide), fun _ => rfl⟩⟩⟩
  case done =>
    rintro L a w ⟨H, G, cp, rfl, hW⟩ hall
    obtain ⟨w1, y1, y2, y3, y4, _, y5⟩ := hW.2.2.2 (hall 9 (by decide))
    obtain rfl := y5 (hall 12 (by decide))
    simp only [PasMk, sl_yes (hall 0 (by decide)), sl_yes (hall 1 (by decide)), sl_yes (hall 2 (by decide)), sl_yes (hall 3 (by decide)), sl_yes (hall 4 (by decide)), sl_yes (hall 5 (by decide)), sl_yes (hall 6 (by decide)), sl_yes (hall 7 (by decide)), sl_yes (hall 8 (by decide)), sl_yes (hall 9 (by decide)), sl_yes (hall 10 (by decide)), sl_yes (hall 11 (by decide))]
    exact HKt.out _ _ _ _ _ _ _ _ _ _ _ _ _ _ _ (by rw [HOP.out]; exact HCK.out.grow y2 y1)
end Go.Proofs.YteadglnenaiaaaaGreatDoor.W
namespace Go.Proofs.YteadglnenaiaaaaGreatDoor.W
open Go.RowKit Go.Maps Go.WideMaps
set_option maxRecDepth 100000 in
set_option maxHeartbeats 8000000 in
theorem p0_is (gc : Nat) (x : Pl.Nd) (va : Option Addr) (vl vc nb : Nat) (w : World) (hnb : nb = w.heap.size) (K : Act → World → Prop) (Q : Exit → Act → World → Prop)
    (hK : K { tmps := #[.pointer (some ⟨gc, 0, none⟩), .agg #[.int .i64 x.k, .int .i64 x.m, .int .i64 x.n, .string x.s, .slice va vl vc, .int .i64 x.line, .int .i64 x.col], undef, .pointer (some ⟨nb, 0, none⟩), .bool false, undef, undef, undef, undef, undef, undef, undef, undef, undef, undef, undef, undef, undef, undef, undef, undef, undef, undef, undef, undef, undef, undef, undef, undef, undef, undef, undef, undef, undef, undef, undef, undef, undef, undef, undef, undef, undef, undef, undef, undef, undef, undef, undef, undef, undef, undef, undef, undef, undef, undef, undef, undef, undef, undef, undef, undef, undef, undef, undef, undef, undef, undef, undef, undef, undef, undef, undef, undef, undef, undef, undef, undef, undef, undef, undef, undef, undef, undef], defers := [] } (w.alloc (.cells #[.int .i64 x.k, .int .i64 x.m, .int .i64 x.n, .string x.s, .slice va vl vc, .int .i64 x.line, .int .i64 x.col] 38))) :
    (passC 0).wp Tryz.prog (Exit.then K Q) { tmps := #[.pointer (some ⟨gc, 0, none⟩), .agg #[.int .i64 x.k, .int .i64 x.m, .int .i64 x.n, .string x.s, .slice va vl vc, .int .i64 x.line, .int .i64 x.col], undef, undef, undef, undef, undef, undef, undef, undef, undef, undef, undef, undef, undef, undef, undef, undef, undef, undef, undef, undef, undef, undef, undef, undef, undef, undef, undef, undef, undef, undef, undef, undef, undef, undef, undef, undef, undef, undef, undef, undef, undef, undef, undef, undef, undef, undef, undef, undef, undef, undef, undef, undef, undef, undef, undef, undef, undef, undef, undef, undef, undef, undef, undef, undef, undef, undef, undef, undef, undef, undef, undef, undef, undef, undef, undef, undef, undef, undef, undef, undef, undef], defers := [] } w := by
  subst hnb
  have HKt : Hid _ := hK
  clear hK
  conv => arg 2; whnf
  go_wp2_with fail
  exact HKt.out
set_option maxRecDepth 100000 in
set_option maxHeartbeats 8000000 in
theorem p1_is (gc nb : Nat) (x : Pl.Nd) (va : Option Addr) (vl vc : Nat) (y : World) (hn : y.heap[nb]? = some (.cells (x.cells ⟨va, vl, vc⟩) 38 (0, 0))) (K : Act → World → Prop) (Q : Exit → Act → World → Prop)
    (hK : ∀ (s6 s7 s8 : Value) (rb : Nat) (fa : Option Addr) (fl fc lo2 : Nat) (y' : World), Below y.heap.size y y' → y'.heap[rb]? = some (.cells #[.int .i64 (Pl.rl x.k).srt, .int .i64 (Pl.rl x.k).word, .int .i64 (Pl.rl x.k).lowM, .int .i64 (Pl.rl x.k).highM, .int .i64 (Pl.rl x.k).lowN, .int .i64 (Pl.rl x.k).highN, .slice fa fl fc, .int .i64 (Pl.rl x.k).more, .int .i64 (Pl.rl x.k).most] 71 (0, 0)) → Row .i64 lo2 y' fa fl fc (Pl.rl x.k).kids → K { tmps := #[.pointer (some ⟨gc, 0, none⟩), .agg #[.int .i64 x.k, .int .i64 x.m, .int .i64 x.n, .string x.s, .slice va vl vc, .int .i64 x.line, .int .i64 x.col], undef, .pointer (some ⟨nb, 0, none⟩), .bool false, .pointer (some ⟨rb, 0, none⟩), s6, s7, s8, undef, undef, undef, undef, undef, undef, undef, undef, undef, undef, undef, undef, undef, undef, undef, undef, undef, undef, undef, undef, undef, undef, undef, undef, undef, undef, undef, undef, undef, undef, undef, undef, undef, undef, undef, undef, undef, undef, undef, undef, undef, undef, undef, undef, undef, undef, undef, undef, undef, undef, undef, undef, undef, undef, undef, undef, undef, undef, undef, undef, undef, undef, undef, undef, undef, undef, undef, undef, undef, undef, undef, undef, undef, undef], defers := [] } y') :
    (passC 1).wp Tryz.prog (Exit.then K Q) { tmps := #[.pointer (some ⟨gc, 0, none⟩), .agg #[.int .i64 x.k, .int .i64 x.m, .int .i64 x.n, .string x.s, .slice va vl vc, .int .i64 x.line, .int .i64 x.col], undef, .pointer (some ⟨nb, 0, none⟩), .bool false, undef, undef, undef, undef, undef, undef, undef, undef, undef, undef, undef, undef, undef, undef, undef, undef, undef, undef, undef, undef, undef, undef, undef, undef, undef, undef, undef, undef, undef, undef, undef, undef, undef, undef, undef, undef, undef, undef, undef, undef, undef, undef, undef, undef, undef, undef, undef, undef, undef, undef, undef, undef, undef, undef, undef, undef, undef, undef, undef, undef, undef, undef, undef, undef, undef, undef, undef, undef, undef, undef, undef, undef, undef, undef, undef, undef, undef, undef], defers := [] } y := by
  have HKt : Hid _ := hK
  clear hK
  conv => arg 2; whnf
  have c0 : y.cell? ⟨nb, 0, none⟩ = some (.int .i64 x.k) := cell_of_row y nb 0 _ 38 (0, 0) hn
  have HRN : Hid (∀ u : World, Calls Tryz.prog 30 #[.int .i64 x.k] u fun e w' => RlIs (Pl.rl x.k) u e w') := fun u => ruleOfNode_is x.k u
  generalize Pl.rl x.k = r at *
  obtain ⟨rs, rw1, rlm, rhm, rln, rhn, rk, rmo, rms⟩ := r
  clear hn
  go_wp2_with (go_at_call 30; refine (HRN.out _).mono ?_; rintro e u1 ⟨⟨fa, fl, fc⟩, rfl, hrow, hb⟩; have HROW : Hid (Row .i64 y.heap.size u1 fa fl fc rk) := hrow; have HB : Hid (Below y.heap.size y u1) := hb; clear hrow hb)
  exact HKt.out _ _ _ _ fa fl fc _ _ (HB.out.alloc HB.out.size _) (heap_alloc_new u1 _) (HROW.out.keep (below_alloc _ _))
def PassSaid (W0 : World) (xs : List Pl.Nd) (a : Option Addr) (len cap gc gm i : Nat) (e : Ending) (w' : World) : Prop :=
  e = .returned (.bool (Pl.isP (Pl.NdI xs i))) ∧ Below W0.heap.size W0 w' ∧ (Pl.NdI xs i → ∃ (nm : Nat) (ob : Option Addr) (oc : Nat), nm ≤ i + 1 ∧ Chk W0 a len cap gc gm nm (Pl.alF xs (i + 1)) ob oc (i + 1) (Pl.opF xs (i + 1)) w')
set_option maxRecDepth 100000 in
set_option maxHeartbeats 8000000 in
theorem tpass_is {lo : Nat} {W0 w : World} {xs : List Pl.Nd} {a : Option Addr} {len cap gc gm nm : Nat} {ob : Option Addr} {oc i : Nat} {va : Option Addr} {vl vc : Nat} {l : List Nat} (hp : Pl.PI xs len i l) (hc : Chk W0 a len cap gc gm nm (Pl.alF xs i) ob oc i (Pl.opF xs i) w) (hnm : nm ≤ i) (hrow : Row .i64 lo W0 va vl vc (Pl.nd xs i).kids) (hn : NRow lo W0 a len cap xs) (hE : Glo W0) (hd : DbLies W0) (hpw : PowLies W0) (x : Pl.Nd) (hx : x = Pl.nd xs i) :
    Calls Tryz.prog 19 #[.pointer (some ⟨gc, 0, none⟩), .agg #[.int .i64 x.k, .int .i64 x.m, .int .i64 x.n, .string x.s, .slice va vl vc, .int .i64 x.line, .int .i64 x.col]] w fun e w' => PassSaid W0 xs a len cap gc gm i e w' := by
  have hi4 : i < 4000 := by have := hp.hi; have := hp.l4; omega
  go_enter Tryz.func19, Tryz.ntmps19
  refine wp_seq ?_
  refine p0_is gc x va vl vc w.heap.size w rfl _ _ ?_
  have hnd : (w.alloc (.cells (x.cells ⟨va, vl, vc⟩) 38)).heap[w.heap.size]? = some (.cells (x.cells ⟨va, vl, vc⟩) 38 (0, 0)) := heap_alloc_new w _
  have hpc : PC lo W0 (w.alloc (.cells (x.cells ⟨va, vl, vc⟩) 38)) xs a len cap gc gm nm (Pl.alF xs i) ob oc i w.heap.size va vl vc := ⟨hc.keep (below_alloc _ _), by rw [← hx]; exact hnd, hc.bel.size, hrow, hn, hE, hd, hpw⟩
  unfold Pl.Nd.cells at hnd hpc
  generalize w.alloc (.cells #[.int .i64 x.k, .int .i64 x.m, .int .i64 x.n, .string x.s, .slice va vl vc, .int .i64 x.line, .int .i64 x.col] 38) = y0 at *
  refine wp_seq ?_
  refine p1_is gc w.heap.size x va vl vc y0 hnd _ _ ?_
  intro s6 s7 s8 rb fa fl fc lo2 y1 hb1 hr1 hrr1
  have hpc1 := hpc.keep hb1
  rw [hx] at hr1 hrr1
  refine wp_seq ?_
  refine p2_is hp hpc1 hr1 hrr1 (.agg #[.int .i64 x.k, .int .i64 x.m, .int .i64 x.n, .string x.s, .slice va vl vc, .int .i64 x.line, .int .i64 x.col]) (undef) (s6) (s7) (s8) (undef) (undef) (undef) (undef) (undef) (undef) (undef) (undef) (undef) (undef) (undef) (undef) (undef) (undef) (undef) (undef) (undef) (undef) (undef) (undef) (undef) (undef) (undef) (undef) (undef) (undef) (undef) (undef) (undef) (undef) (undef) (undef) (undef) (undef) (undef) (undef) (undef) (undef) (undef) (undef) (undef) (undef) (undef) (undef) (undef) (undef) (undef) (undef) (undef) (undef) (undef) (undef) (undef) (undef) (undef) (undef) (undef) (undef) (undef) (undef) (undef) (undef) (undef) (undef) (undef) (undef) (undef) (undef) (undef) (undef) (undef) (undef) (undef) (undef) _ _ ?hR ?hK2
  case hR =>
    intro tmps y' h1 h2 h3
    change bodyPost Tryz.prog Tryz.f19 (fun e w' => PassSaid W0 xs a len cap gc gm i e w') .ret { tmps := tmps, defers := [] } y'
    refine bodyPost_ret (v := .bool false) ?_ rfl ⟨ret_bool (Pl.isP_no h2).symm, hpc1.chk.bel.trans (h3.mono hpc1.chk.bel.size), fun q => absurd q h2⟩
    rw [← h1]
    exact results_tmp rfl _ _ _
  case hK2 =>
  intro p9 p10 p11 p12 p13 p14 p15 p16 p17 p18 p19 p20 p21 p22 p23 p24 p25 p26 p27 p28 p29 p30 p31 p32 p33 p34 p35 p36 p37 p38 p39 p40 p41 p42 p43 p44 p45 p46 p47 p48 p49 p50 p51 p52 p53 p54 p55 p56 p57 p58 p59 p60 y2 hb2 hok
  have hpc2 := hpc1.keep hb2
  refine wp_seq ?_
  refine p4_is hp hpc2 (by omega) (.agg #[.int .i64 x.k, .int .i64 x.m, .int .i64 x.n, .string x.s, .slice va vl vc, .int .i64 x.line, .int .i64 x.col]) (undef) (s6) (s7) (s8) (p9) (p10) (p11) (p12) (p13) (p14) (p15) (p16) (p17) (p18) (p19) (p20) (p21) (p22) (p23) (p24) (p25) (p26) (p27) (p28) (p29) (p30) (p31) (p32) (p33) (p34) (p35) (p36) (p37) (p38) (p39) (p40) (p41) (p42) (p43) (p44) (p45) (p46) (p47) (p48) (p49) (p50) (p51) (p52) (p53) (p54) (p55) (p56) (p57) (p58) (p59) (p60) (undef) (undef) (undef) (undef) (undef) (undef) (undef) (undef) (undef) (undef) (undef) (undef) (undef) (undef) (undef) (undef) (undef) (undef) (undef) (undef) (undef) (undef) _ _ ?_
  intro q61 q62 q63 q64 q65 q66 q67 q68 q69 q70 nm2 y4 hnm2 hpc4
  refine wp_seq ?_
  refine p6_is hp hpc4 hok (.agg #[.int .i64 x.k, .int .i64 x.m, .int .i64 x.n, .string x.s, .slice va vl vc, .int .i64 x.line, .int .i64 x.col]) (undef) (.pointer (some ⟨rb, 0, none⟩)) (s6) (s7) (s8) (p9) (p10) (p11) (p12) (p13) (p14) (p15) (p16) (p17) (p18) (p19) (p20) (p21) (p22) (p23) (p24) (p25) (p26) (p27) (p28) (p29) (p30) (p31) (p32) (p33) (p34) (p35) (p36) (p37) (p38) (p39) (p40) (p41) (p42) (p43) (p44) (p45) (p46) (p47) (p48) (p49) (p50) (p51) (p52) (p53) (p54) (p55) (p56) (p57) (p58) (p59) (p60) (q61) (q62) (q63) (q64) (q65) (q66) (q67) (q68) (q69) (q70) _ _ ?_
  intro r71 r72 r73 r74 r75 r76 r77 r78 r79 r80 r81 r82 ob2 oc2 y6 hc6
  have HF : Hid (PassSaid W0 xs a len cap gc gm i (.returned (.bool true)) y6) := ⟨ret_bool (Pl.isP_yes hok).symm, hc6.bel, fun _ => ⟨nm2, ob2, oc2, by omega, hc6⟩⟩
  clear hp hc hrow hn hE hd hpw hpc hpc1 hpc2 hpc4 hok hc6 hr1 hrr1 hb1 hb2 hx hnd
  go_wp2_with fail
  go_ret
  exact HF.out
end Go.Proofs.YteadglnenaiaaaaGreatDoor.W
namespace Go.Proofs.YteadglnenaiaaaaGreatDoor.W
open Go.RowKit Go.Shelf
attribute [local go_sem] Oper.semAt_some
def ioF (w : World) (a : Option Addr) (len cap : Nat) (i : Nat) (u4 u5 u6 u13 u14 u15 u16 u17 u18 u19 u20 u35 u36 u37 u38 u39 : Value) : Array Value := #[.slice a len cap, undef, .pointer (some ⟨w.heap.size, 0, none⟩), .pointer (some ⟨w.heap.size + 1 + 1, 0, none⟩), u4, u5, u6, undef, undef, .slice (some ⟨w.heap.size + 1, 0, none⟩) 0 0, .slice a len cap, .int .i64 (len : Int), .int .i64 (i : Int), u13, u14, u15, u16, u17, u18, u19, u20, undef, undef, undef, undef, undef, undef, undef, undef, undef, undef, undef, undef, undef, undef, u35, u36, u37, u38, u39, undef, undef, undef, undef, undef, undef, undef]
structure IB (w : World) (xs : List Pl.Nd) (i : Nat) (l : List Nat) (gb cb : Nat) (Ds : List Nat) (g6 bx : Nat) (v : SV) (j p : Nat) (W : World) : Prop where
  io : Iq w xs i l w.heap.size (w.heap.size + 1 + 1) gb cb Ds W
  beg : W.heap[g6]? = some (.cells #[.int .i64 (p : Int)] 3 (0, 0))
  bxc : W.heap[bx]? = some (.cells #[.slice v.a v.len v.cap] 34 (0, 0))
  wk : Pl.wkj l (Pl.nd xs i).kids i j = some p
  nb : g6 ≠ gb
structure IX (w : World) (xs : List Pl.Nd) (n : Nat) (Ds : List Nat) (W : World) : Prop where
  bel : Below w.heap.size w W
  res : W.heap[w.heap.size]? = some (.cells #[.bool false] 4 (0, 0))
  dn : Ds.Nodup
  dd : ∀ D ∈ Ds, w.heap.size ≤ D ∧ W.heap[D]? = some (.deferred (some []))
  no : bgNo xs n
theorem IB.put {w : World} {xs : List Pl.Nd} {i : Nat} {l : List Nat} {gb cb : Nat} {Ds : List Nat} {g6 bx : Nat} {v : SV} {j p : Nat} {W : World} (h : IB w xs i l gb cb Ds g6 bx v j p W) {r : Nat} {o o' : Obj} (hr : w.heap.size ≤ r) (ho : W.heap[r]? = some o') (hc : o'.isCells = false) (hD : r ∉ Ds) : IB w xs i l gb cb Ds g6 bx v j p (W.putObj r o) :=
  ⟨h.io.put hr ho hc hD, (World.putObj_heap_other (ne_of_kind h.beg ho hc)).trans h.beg, (World.putObj_heap_other (ne_of_kind h.bxc ho hc)).trans h.bxc, h.wk, h.nb⟩
theorem IX.put {w : World} {xs : List Pl.Nd} {n : Nat} {Ds : List Nat} {W : World} (h : IX w xs n Ds W) {r : Nat} {o o' : Obj} (hr : w.heap.size ≤ r) (ho : W.heap[r]? = some o') (hc : o'.isCells = false) (hD : r ∉ Ds) : IX w xs n Ds (W.putObj r o) :=
  ⟨putObj_belowB h.bel hr _, (World.putObj_heap_other (ne_of_kind h.res ho hc)).trans h.res, h.dn, fun D hd => ⟨(h.dd D hd).1, by rw [World.putObj_heap_other (by rintro rfl; exact hD hd)]; exact (h.dd D hd).2⟩, h.no⟩
theorem IB.keep {w : World} {xs : List Pl.Nd} {i : Nat} {l : List Nat} {gb cb : Nat} {Ds : List Nat} {g6 bx : Nat} {v : SV} {j p : Nat} {W W' : World} (h : IB w xs i l gb cb Ds g6 bx v j p W) (hb : Below W.heap.size W W') : IB w xs i l gb cb Ds g6 bx v j p W' := by
  have lt : ∀ {b : Nat} {o : Obj}, W.heap[b]? = some o → b < W.heap.size := fun q => (Array.getElem?_eq_some_iff.1 q).1
  exact ⟨h.io.keep hb, (hb.block _ (lt h.beg)).trans h.beg, (hb.block _ (lt h.bxc)).trans h.bxc, h.wk, h.nb⟩
theorem IB.step {w : World} {xs : List Pl.Nd} {i : Nat} {l : List Nat} {gb cb : Nat} {Ds : List Nat} {g6 bx : Nat} {v : SV} {j c : Nat} {U : World} (h : IB w xs i l gb cb Ds g6 bx v j (c + 1) U) (hg : w.heap.size ≤ g6) (hk : (Pl.nd xs i).kids.getD ((Pl.nd xs i).kids.length - 1 - j) 0 = (c : Int)) : IB w xs i l gb cb Ds g6 bx v (j + 1) (l.getD c 0) (U.setCell ⟨g6, 0, none⟩ (.int .i64 ((l.getD c 0 : Nat) : Int))) := by
  have nt : ∀ {b : Nat} {cs : Array Value} {t : TypeId} {fr : Nat × Nat}, U.heap[b]? = some (.cells cs t fr) → t ≠ 3 → b ≠ g6 := fun hb ht e => by
    rw [e, h.beg] at hb
    simp only [Option.some.injEq, Obj.cells.injEq] at hb
    exact ht hb.2.1.symm
  have ot : ∀ {b : Nat}, b ≠ g6 → (U.setCell ⟨g6, 0, none⟩ (.int .i64 ((l.getD c 0 : Nat) : Int))).heap[b]? = U.heap[b]? := fun hb => heap_setCell_other U ⟨g6, 0, none⟩ _ _ hb
  refine ⟨⟨h.io.bel.setCell hg _, (ot (nt h.io.res (by decide))).trans h.io.res, (ot (nt h.io.box (by decide))).trans h.io.box, own_otherB h.io.own (ot (fun e => h.nb e.symm)), h.io.dn, fun D hD => ⟨(h.io.dd D hD).1, ?_⟩, h.io.bg⟩, ?_, (ot (nt h.bxc (by decide))).trans h.bxc, ?_, h.nb⟩
  · have h1 := (h.io.dd D hD).2
    rw [ot (fun e => by rw [e, h.beg] at h1; cases h1)]
    exact h1
  · rw [heap_setCell_same U g6 0 _ 3 _ h.beg]; rfl
  · have := Pl.wkj_yes h.wk (by omega) (by rw [hk]; omega)
    simpa using this
theorem own_blockB {B : Nat} {e : TypeId} {k : Nat} {u : World} {g n cap : Nat} {xs : List Value} (h : u.ownsRow B e k (.slice (some ⟨g, 0, none⟩) n cap) n xs) : B ≤ g ∧ g < u.heap.size := h.lt g rfl
theorem one_newsB (w : World) (A : Value) (t : TypeId) (j : Nat) (u : Value) (hj : [A][j]? = some u) : (w.alloc (.cells #[A] t)).cell? ((⟨w.heap.size, 0, none⟩ : Addr).add j) = some u := by
  rcases j with _ | j
  · cases hj
    exact cell_of_row _ w.heap.size 0 _ t (0, 0) (heap_alloc_new w _)
  · simp at hj
theorem IB.boxed {w : World} {xs : List Pl.Nd} {i : Nat} {l : List Nat} {gb cb : Nat} {Ds : List Nat} {g6 bx : Nat} {v : SV} {j p : Nat} {U y2 : World} {o : Obj} (h : IB w xs i l gb cb Ds g6 bx v j p U) (hg : (U.alloc o).grownBy y2 (some gb)) : y2.cell? ⟨w.heap.size + 1 + 1, 0, none⟩ = some (.slice (some ⟨gb, 0, none⟩) i cb) ∧ y2.frozen? ⟨w.heap.size + 1 + 1, 0, none⟩ = false := by
  obtain ⟨cur, hcur⟩ := own_block_row h.io.own
  have hlt := (Array.getElem?_eq_some_iff.1 h.io.box).1
  have hb : y2.heap[w.heap.size + 1 + 1]? = some (.cells #[.slice (some ⟨gb, 0, none⟩) i cb] 34 (0, 0)) := by
    rw [hg.block _ (by simp; omega) (by
      intro e
      simp only [Option.some.injEq] at e
      have hx := h.io.box
      rw [e, hcur] at hx
      simp only [Option.some.injEq, Obj.cells.injEq] at hx
      exact absurd hx.2.1 (by decide)), Below.heap_alloc _ _ _ hlt]
    exact h.io.box
  exact ⟨cell_of_row y2 _ 0 _ 34 (0, 0) hb, frozen_of_row y2 _ 0 _ 34 hb⟩
theorem IB.grow {w : World} {xs : List Pl.Nd} {i : Nat} {l : List Nat} {gb cb : Nat} {Ds : List Nat} {g6 bx : Nat} {v : SV} {vl p : Nat} {U y2 : World} {o : Obj} {g2 c2 Dn : Nat} (h : IB w xs i l gb cb Ds g6 bx v vl p U) (hg : (U.alloc o).grownBy y2 (some gb)) (hown : y2.ownsRow w.heap.size 3 1 (.slice (some ⟨g2, 0, none⟩) (i + 1) c2) (i + 1) ((l.map fun n : Nat => Value.int .i64 (n : Int)) ++ [.int .i64 (p : Int)])) (hD : U.heap[Dn]? = some (.deferred (some []))) (hDw : w.heap.size ≤ Dn) (hDn : Dn ∉ Ds) (hk : (Pl.nd xs i).kids.length = vl) :
    Iq w xs (i + 1) (l ++ [p]) w.heap.size (w.heap.size + 1 + 1) g2 c2 (Dn :: Ds) (y2.setCell ⟨w.heap.size + 1 + 1, 0, none⟩ (.slice (some ⟨g2, 0, none⟩) (i + 1) c2)) := by
  obtain ⟨cur, hcur⟩ := own_block_row h.io.own
  obtain ⟨cur2, hcur2⟩ := own_block_row hown
  have lt : ∀ {b : Nat} {ob : Obj}, U.heap[b]? = some ob → b < U.heap.size := fun q => (Array.getElem?_eq_some_iff.1 q).1
  have kp : ∀ {b : Nat} {ob : Obj}, U.heap[b]? = some ob → (∀ cs, ob ≠ .cells cs 3 (0, 0)) → y2.heap[b]? = some ob := fun {b ob} hb hn => by
    rw [hg.block b (by have := lt hb; simp; omega) (by
      intro e
      simp only [Option.some.injEq] at e
      rw [e, hcur] at hb
      cases hb
      exact hn _ rfl), Below.heap_alloc _ _ _ (lt hb)]
    exact hb
  have hbox := kp h.io.box (fun cs e => by simp only [Obj.cells.injEq] at e; exact absurd e.2.1 (by decide))
  have ot : ∀ {b : Nat} {ob : Obj}, y2.heap[b]? = some ob → (∀ cs, ob ≠ .cells cs 34 (0, 0)) → (y2.setCell ⟨w.heap.size + 1 + 1, 0, none⟩ (.slice (some ⟨g2, 0, none⟩) (i + 1) c2)).heap[b]? = some ob := fun {b ob} hb hn => by
    rw [heap_setCell_other y2 ⟨w.heap.size + 1 + 1, 0, none⟩ b _ (by
      intro e
      change b = w.heap.size + 1 + 1 at e
      rw [e, hbox] at hb
      cases hb
      exact hn _ rfl)]
    exact hb
  have hgb := (own_blockB h.io.own).1
  refine ⟨((h.io.bel.alloc h.io.bel.size _).grown hg (by have := h.io.bel.size; simp; omega) (fun k hk => by cases hk; exact hgb)).setCell (by show w.heap.size ≤ w.heap.size + 1 + 1; omega) _, ?_, ?_, ?_, List.nodup_cons.2 ⟨hDn, h.io.dn⟩, fun D hd => ?_, Pl.bgF_succ h.io.bg (by rw [hk]; exact h.wk)⟩
  · exact ot (kp h.io.res (fun cs e => by simp only [Obj.cells.injEq] at e; exact absurd e.2.1 (by decide))) (fun cs e => by simp only [Obj.cells.injEq] at e; exact absurd e.2.1 (by decide))
  · rw [heap_setCell_same y2 (w.heap.size + 1 + 1) 0 _ 34 _ hbox]; rfl
  · have := own_otherB (w' := y2.setCell ⟨w.heap.size + 1 + 1, 0, none⟩ (.slice (some ⟨g2, 0, none⟩) (i + 1) c2)) hown (by rw [ot hcur2 (fun cs e => by simp only [Obj.cells.injEq] at e; exact absurd e.2.1 (by decide)), hcur2])
    rw [List.map_append]
    exact this
  · rcases List.mem_cons.1 hd with e | e
    · subst e
      exact ⟨hDw, ot (kp hD (fun cs e => by cases e)) (fun cs e => by cases e)⟩
    · exact ⟨(h.io.dd D e).1, ot (kp (h.io.dd D e).2 (fun cs e => by cases e)) (fun cs e => by cases e)⟩
theorem load_one4 (w : World) (b : Nat) (v : Value) (h : w.cell? ⟨b, 0, none⟩ = some v) : (loadVar 4 ⟨b, 0, none⟩).run Tryz.prog w = .ok v w := by
  simp [loadVar, go_sem, Tryz.underlying4, h]
theorem results_cell1 {fn : Func} {p : Tmp} (h : fn.results = #[.cell p 4]) (tmps : Array Value) (w : World) (b0 : Nat) (v0 : Value)
    (hp : tmps.getD p undef = .pointer (some ⟨b0, 0, none⟩)) (h0 : w.cell? ⟨b0, 0, none⟩ = some v0) :
    (results fn tmps).run Tryz.prog w = .ok v0 w := by
  have hp' : tmps[p]?.getD undef = .pointer (some ⟨b0, 0, none⟩) := by simpa using hp
  simp [results, h, hp', asAddr, load_one4 w b0 v0 h0]
theorem own_natB {B : Nat} {u : World} {g n cap : Nat} {l : List Nat} (h : u.ownsRow B 3 1 (.slice (some ⟨g, 0, none⟩) n cap) n (l.map fun n : Nat => Value.int .i64 (n : Int))) {p : Nat} (hp : p < n) : u.cell? ⟨g, p, none⟩ = some (.int .i64 ((l.getD p 0 : Nat) : Int)) := by
  have hl : l.length = n := by have := h.1; simpa using this
  rw [h.cellAt p (by omega), List.getElem?_map, List.getD_eq_getElem?_getD, List.getElem?_eq_getElem (by omega)]
  rfl
theorem sh_results {w W W' : World} {fn : Func} {p : Tmp} {tmps : Array Value} {b : Bool} (hf : fn.results = #[.cell p 4]) (ht : tmps.getD p undef = .pointer (some ⟨w.heap.size, 0, none⟩)) (hb : Below w.heap.size w W) (hr : W.heap[w.heap.size]? = some (.cells #[.bool b] 4 (0, 0))) (hs : Sh w.heap.size W W') : (results fn tmps).run Tryz.prog W' = .ok (.bool b) W' ∧ Below w.heap.size w W' := by
  have hr' : W'.heap[w.heap.size]? = some (.cells #[.bool b] 4 (0, 0)) := (hs.block _ (.inr ⟨_, _, _, hr⟩)).trans hr
  refine ⟨?_, hs.os.trans hb.os, hs.tape.trans hb.tape, hs.output.trans hb.output, by rw [hs.size]; exact hb.size, fun k hk => (hs.block k (.inl hk)).trans (hb.block k hk)⟩
  exact results_cell1 hf _ _ _ _ ht (cell_of_row W' w.heap.size 0 _ 4 (0, 0) hr')
theorem sh_below {w W W' : World} (hb : Below w.heap.size w W) (hs : Sh w.heap.size W W') : Below w.heap.size w W' := ⟨hs.os.trans hb.os, hs.tape.trans hb.tape, hs.output.trans hb.output, by rw [hs.size]; exact hb.size, fun k hk => (hs.block k (.inl hk)).trans (hb.block k hk)⟩
set_option maxHeartbeats 8000000 in
set_option maxRecDepth 100000 in
theorem inOrder_is {lo : Nat} (a : Option Addr) (len cap : Nat) (xs : List Pl.Nd) (w : World) (h : NRow lo w a len cap xs) (hl1 : 1 ≤ len) (hl4 : len ≤ 4000) (R : Bool)
    (hno : bgNo xs len → R = false) (hyes : ∀ l, Pl.bgF xs len = some l → R = decide (((l.getD (len - 1) 0 : Nat) : Int) = 0)) :
    Calls Tryz.prog 17 #[.slice a len cap] w fun e w' => e = .returned (.bool R) ∧ Below w.heap.size w w' := by
  have HR : Hid (NRow lo w a len cap xs) := h
  have HNO : Hid (bgNo xs len → R = false) := hno
  have HYE : Hid (∀ l, Pl.bgF xs len = some l → R = decide (((l.getD (len - 1) 0 : Nat) : Int) = 0)) := hyes
  have hm : (len : Int) ≤ 9223372036854775807 := by omega
  clear h hno hyes
  refine (callsIn_wide (n := 4)).1 ?_
  refine callsIn_of_wp_marks Tryz.func17 rfl trivial ?_ rfl
  simp only [Tryz.ntmps17, List.size_toArray, List.length_cons, List.length_nil, Nat.reduceAdd, Nat.reduceSub, Array.replicate_succ, Array.replicate_zero, List.push_toArray, List.append_toArray, List.nil_append, List.cons_append]
  gi_wp2
  refine wpIn_loop (fun a' W => ∃ (i : Nat) (l : List Nat) (gb cb : Nat) (Ds : List Nat) (u4 u5 u6 u13 u14 u15 u16 u17 u18 u19 u20 u35 u36 u37 u38 u39 : Value), i ≤ len ∧ a' = { tmps := ioF w a len cap i u4 u5 u6 u13 u14 u15 u16 u17 u18 u19 u20 u35 u36 u37 u38 u39, defers := Ds.map mark } ∧ Iq w xs i l w.heap.size (w.heap.size + 1 + 1) gb cb Ds W) (fun a' _ => len - (intOf (a'.tmps.getD 12 undef)).toNat) ?start ?round
  case start =>
    refine ⟨0, [], w.heap.size + 1, 0, [], undef, undef, undef, undef, undef, undef, undef, undef, undef, undef, undef, undef, undef, undef, undef, undef, Nat.zero_le _, rfl, ?_⟩
    refine ⟨?_, ?_, ?_, ?_, List.nodup_nil, fun D hD => (by cases hD), rfl⟩
    · exact (((Below.refl _ _).alloc (Nat.le_refl _) _).alloc (by simp) _).alloc (by simp; omega) _
    · rw [Below.heap_alloc _ _ _ (by simp; omega), Below.heap_alloc _ _ _ (by simp)]
      exact heap_alloc_new w _
    · have := heap_alloc_new ((w.alloc (.cells #[.bool false] 4)).alloc (.cells #[] 3)) (.cells #[.slice (some ⟨w.heap.size + 1, 0, none⟩) 0 0] 34)
      simpa using this
    · have := World.ownsRow_lit (w.alloc (.cells #[.bool false] 4)) #[] 0 (base := w.heap.size) (e := 3) (size := 1) (by simp) (Nat.zero_le _) rfl
      have e : (w.alloc (.cells #[.bool false] 4)).heap.size = w.heap.size + 1 := by simp
      rw [e] at this
      exact this.alloc _
  case round =>
    rintro a' W ⟨i, l, gb, cb, Ds, u4, u5, u6, u13, u14, u15, u16, u17, u18, u19, u20, u35, u36, u37, u38, u39, hil, rfl, hio⟩
    unfold ioF
    have HIO : Hid (Iq w xs i l w.heap.size (w.heap.size + 1 + 1) gb cb Ds W) := hio
    clear hio
    have cb3 : W.cell? ⟨w.heap.size + 1 + 1, 0, none⟩ = some (.slice (some ⟨gb, 0, none⟩) i cb) := cell_of_row W _ 0 _ 34 (0, 0) HIO.out.box
    by_cases hlt : i < len
    rotate_left
    · have hie : i = len := by omega
      subst hie
      have hi : ¬ ((i : Int) < (i : Int)) := by omega
      have cbl := own_natB HIO.out.own (p := i - 1) (by omega)
      have hi2 : ((i : Int) - 1) = ((i - 1 : Nat) : Int) := by omega
      have fz2 : W.frozen? ⟨w.heap.size, 0, none⟩ = false := frozen_of_row W _ 0 _ 4 HIO.out.res
      have cc2 : W.cell? ⟨w.heap.size, 0, none⟩ = some (.bool false) := cell_of_row W _ 0 _ 4 (0, 0) HIO.out.res
      have HE : Hid (R = decide (((l.getD (i - 1) 0 : Nat) : Int) = 0)) := HYE.out l HIO.out.bg
      obtain ⟨q, hq⟩ : ∃ q : Nat, q = i - 1 := ⟨_, rfl⟩
      rw [← hq] at cbl hi2 HE
      have hqi : (q : Int) < (i : Int) := by omega
      have hii4 : (i : Int) ≤ 4000 := by omega
      clear hq
      obtain ⟨z, hz⟩ : ∃ z, z = l.getD q 0 := ⟨_, rfl⟩
      rw [← hz] at cbl HE
      clear hz
      gi_wp2
      have hne : ∀ D ∈ Ds, D ≠ w.heap.size := fun D hD e => by
        have h1 := (HIO.out.dd D hD).2
        rw [e, HIO.out.res] at h1
        cases h1
      refine leaves_marks (lo := w.heap.size) Ds _ HIO.out.dn (fun D hD => ⟨(HIO.out.dd D hD).1, ?_⟩) fun w' hs => ?_
      · rw [heap_setCell_other W ⟨w.heap.size, 0, none⟩ D _ (hne D hD)]
        exact (HIO.out.dd D hD).2
      · have hres : (W.setCell ⟨w.heap.size, 0, none⟩ (.bool (((z : Nat) : Int) == 0))).heap[w.heap.size]? = some (.cells #[.bool (((z : Nat) : Int) == 0)] 4 (0, 0)) := by
          rw [heap_setCell_same W w.heap.size 0 _ 4 _ HIO.out.res]; rfl
        refine ⟨.bool (((z : Nat) : Int) == 0), (sh_results (p := 2) rfl rfl (HIO.out.bel.setCell (Nat.le_refl _) _) hres hs).1, ?_, sh_below (HIO.out.bel.setCell (Nat.le_refl _) _) hs⟩
        rw [HE.out, Bool.eq_iff_iff.mpr (show ((((z : Nat) : Int) == 0) = true ↔ decide (((z : Nat) : Int) = 0) = true) by simp)]
    have hi : (i : Int) < (len : Int) := by omega
    obtain ⟨b, off, v, hab, _, hbb, hc, hrow, hsz⟩ := HR.out.at hlt
    subst hab
    obtain ⟨va, vl, vc⟩ := v
    obtain ⟨x, hx⟩ : ∃ x, x = xs.getD i Pl.Nd.zero := ⟨_, rfl⟩
    have HX : Hid (x = Pl.nd xs i) := hx
    rw [← hx] at hc hrow
    obtain ⟨c0, c1, c2, c3, c4, c5, c6⟩ := nd_cells (u := W) (fun j hj => (HIO.out.bel.cell (p := ⟨b, off + i * 7 + j, none⟩) hbb).trans (hc j hj))
    have HRW : Hid (Row .i64 lo w va vl vc x.kids) := hrow
    have hbW : b < W.heap.size := Nat.lt_of_lt_of_le hbb HIO.out.bel.size
    have HVK : Hid (x.kids.length = vl) := hrow.1
    have hvl : (vl : Int) ≤ 9223372036854775807 := by have := hrow.small; simp only at this; omega
    clear hc hx hrow hsz
    gi_wp2_with (refine ⟨trivial, ?_⟩; gi_at_call 28; refine (callsIn_wide.2 (backInts_is va vl vc _)).mono ?_; rintro e u1 ⟨rfl, hu1⟩; rw [hu1]; clear hu1 u1)
    obtain ⟨V, hV⟩ : ∃ V, V = (((W.alloc (.cells #[.int .i64 x.k, .int .i64 x.m, .int .i64 x.n, .string x.s, .slice va vl vc, .int .i64 x.line, .int .i64 x.col] 38)).alloc (.cells #[.int .i64 (i : Int)] 3)).alloc (.cells #[.slice va vl vc] 34)) := ⟨_, rfl⟩
    have hBV : Below W.heap.size W V := by rw [hV]; exact (((Below.refl _ _).alloc (Nat.le_refl _) _).alloc (by simp) _).alloc (by simp; omega) _
    have hVz : V.heap.size = W.heap.size + 3 := by rw [hV]; simp
    have hV6 : V.heap[W.heap.size + 1]? = some (.cells #[.int .i64 (i : Int)] 3 (0, 0)) := by
      rw [hV, Below.heap_alloc _ _ _ (by simp)]
      have := heap_alloc_new (W.alloc (.cells #[.int .i64 x.k, .int .i64 x.m, .int .i64 x.n, .string x.s, .slice va vl vc, .int .i64 x.line, .int .i64 x.col] 38)) (.cells #[.int .i64 (i : Int)] 3)
      simpa using this
    have hVx : V.heap[W.heap.size + 1 + 1]? = some (.cells #[.slice va vl vc] 34 (0, 0)) := by
      rw [hV]
      have := heap_alloc_new ((W.alloc (.cells #[.int .i64 x.k, .int .i64 x.m, .int .i64 x.n, .string x.s, .slice va vl vc, .int .i64 x.line, .int .i64 x.col] 38)).alloc (.cells #[.int .i64 (i : Int)] 3)) (.cells #[.slice va vl vc] 34)
      simpa using this
    have hgbW := own_block_row HIO.out.own
    obtain ⟨curb, hcurb⟩ := hgbW
    have hgbl : gb < W.heap.size := (Array.getElem?_eq_some_iff.1 hcurb).1
    have hIB0 : ∀ A, Below V.heap.size V A → IB w xs i l gb cb Ds (W.heap.size + 1) (W.heap.size + 1 + 1) ⟨va, vl, vc⟩ 0 i A := fun A hA =>
      ⟨(HIO.out.keep hBV).keep hA, (hA.block _ (by omega)).trans hV6, (hA.block _ (by omega)).trans hVx, rfl, by omega⟩
    have hDs : ∀ D ∈ Ds, D < W.heap.size := fun D hD => (Array.getElem?_eq_some_iff.1 (HIO.out.dd D hD).2).1
    have hww : w.heap.size ≤ W.heap.size := HIO.out.bel.size
    have HRK : Hid (∀ A, Below w.heap.size w A → Row .i64 0 A va vl vc x.kids) := fun A hA => (HRW.out.keep hA).lower (Nat.zero_le _)
    rw [← hV]
    clear hV c0 c1 c2 c3 c4 c5 c6 cb3
    refine range_ints 4 (W.heap.size + 1 + 1) (by decide) rfl rfl va vl vc x.kids hvl (fun j A => ∃ p, IB w xs i l gb cb Ds (W.heap.size + 1) (W.heap.size + 1 + 1) ⟨va, vl, vc⟩ j p A) (IX w xs len Ds) ?hJ ?h0 ?hIp ?hIxp (fun q A a' A' => a' = { tmps := #[.slice (some ⟨b, off, none⟩) len cap, undef, .pointer (some ⟨w.heap.size, 0, none⟩), .pointer (some ⟨w.heap.size + 1 + 1, 0, none⟩), .int .i64 (i : Int), .pointer (some ⟨W.heap.size, 0, none⟩), .pointer (some ⟨W.heap.size + 1, 0, none⟩), undef, .int .i64 (x.kids.getD q 0), .slice (some ⟨w.heap.size + 1, 0, none⟩) 0 0, .slice (some ⟨b, off, none⟩) len cap, .int .i64 (len : Int), .int .i64 (i : Int), .bool true, .int .i64 (i : Int), .pointer (some ⟨b, off + i * 7, none⟩), .agg #[.int .i64 x.k, .int .i64 x.m, .int .i64 x.n, .string x.s, .slice va vl vc, .int .i64 x.line, .int .i64 x.col], .int .i64 (i : Int), .pointer (some ⟨W.heap.size, 4, none⟩), .slice va vl vc, .func (.func 46) #[] #[.pointer (some ⟨W.heap.size + 1 + 1, 0, none⟩)], .int .i64 (q : Int), .int .i64 (x.kids.getD q 0), undef, undef, undef, undef, undef, undef, undef, undef, undef, undef, undef, undef, u35, u36, u37, u38, u39, undef, undef, undef, undef, undef, undef, undef], defers := [] } ∧ A' = A) ?hassign ?hbody ?hdone ?hstop
    case hJ => rintro j A ⟨p, h⟩; exact ⟨cell_of_row A _ 0 _ 34 (0, 0) h.bxc, HRK.out A h.io.bel⟩
    case h0 => intro A hA _; exact ⟨i, hIB0 A hA⟩
    case hIp => rintro j A r o o' ⟨p, h⟩ h1 h2 h3 h4; exact ⟨p, h.put (by omega) h3 h4 (fun q => by have := hDs r q; omega)⟩
    case hIxp => intro A r o o' h h1 h2 h3 h4; exact h.put (by omega) h3 h4 (fun q => by have := hDs r q; omega)
    case hassign =>
      intro r q A K hK
      gi_wp2
      exact hK _ _ (Below.refl _ _) ⟨rfl, rfl⟩
    case hbody =>
      rintro r j A a' A1 o hj hr1 hr2 ⟨p, hib⟩ hbk hb1 ⟨rfl, rfl⟩
      obtain ⟨o', ho', hoc⟩ := hbk r hr1 hr2
      have hibU := hib.put (o := o) (by omega) ho' hoc (fun q => by have := hDs r q; omega)
      obtain ⟨U, hU⟩ : ∃ U, U = A1.putObj r o := ⟨_, rfl⟩
      rw [← hU] at hibU ⊢
      have HU : Hid (IB w xs i l gb cb Ds (W.heap.size + 1) (W.heap.size + 1 + 1) ⟨va, vl, vc⟩ j p U) := hibU
      have t6 : U.cell? ⟨W.heap.size + 1, 0, none⟩ = some (.int .i64 (p : Int)) := cell_of_row U _ 0 _ 3 (0, 0) hibU.beg
      have f6 : U.frozen? ⟨W.heap.size + 1, 0, none⟩ = false := frozen_of_row U _ 0 _ 3 hibU.beg
      have t3 : U.cell? ⟨w.heap.size + 1 + 1, 0, none⟩ = some (.slice (some ⟨gb, 0, none⟩) i cb) := cell_of_row U _ 0 _ 34 (0, 0) hibU.io.box
      have t2 : U.cell? ⟨w.heap.size, 0, none⟩ = some (.bool false) := cell_of_row U _ 0 _ 4 (0, 0) hibU.io.res
      have f2 : U.frozen? ⟨w.heap.size, 0, none⟩ = false := frozen_of_row U _ 0 _ 4 hibU.io.res
      have hp0 : p ≤ i := by have := Pl.wkj_le (Pl.ordd HIO.out.bg).le hibU.wk; omega
      obtain ⟨q, hq⟩ : ∃ q, q = vl - 1 - j := ⟨_, rfl⟩
      have HQE : Hid ((Pl.nd xs i).kids.length - 1 - j = q) := by show (Pl.nd xs i).kids.length - 1 - j = q; rw [← HX.out, HVK.out, hq]
      rw [← hq]
      obtain ⟨z, hz⟩ : ∃ z, z = x.kids.getD q 0 := ⟨_, rfl⟩
      have HZ : Hid (z = x.kids.getD q 0) := hz
      rw [← hz]
      have HBL : Hid (∀ (c : Nat) (v : Value), c < V.heap.size → ∀ bb, V.heap.size ≤ bb → bb < V.heap.size + 2 → (U.setCell ⟨c, 0, none⟩ v).heap[bb]? = U.heap[bb]?) := fun c v hc bb h1 h2 => heap_setCell_other U ⟨c, 0, none⟩ bb v (by show bb ≠ c; omega)
      have hp4 : (p : Int) ≤ 4000 := by omega
      have HVZ : Hid (V.heap.size = W.heap.size + 3) := hVz
      clear hib hibU hU hbk hb1 ho' hz hq hVz
      by_cases hok : 1 ≤ p ∧ z = (p : Int) - 1
      rotate_left
      · have HN : Hid (bgNo xs len) := by
          show Pl.bgF xs len = none
          have hw : Pl.wkj l (Pl.nd xs i).kids i (j + 1) = none := by rw [Pl.wkj_succ HU.out.wk, if_neg (by rw [HQE.out, ← HX.out, ← HZ.out]; exact hok)]
          exact Pl.bgF_none (Pl.bgF_bad HIO.out.bg (Pl.wkj_none hw _ (by rw [← HX.out, HVK.out]; omega))) len (by omega)
        have HIX : Hid (IX w xs len Ds (U.setCell ⟨w.heap.size, 0, none⟩ (.bool false))) := by
          refine ⟨HU.out.io.bel.setCell (Nat.le_refl _) _, ?_, HU.out.io.dn, fun D hD => ⟨(HU.out.io.dd D hD).1, ?_⟩, HN.out⟩
          · rw [heap_setCell_same U w.heap.size 0 _ 4 _ HU.out.io.res]; rfl
          · have h1 := (HU.out.io.dd D hD).2
            rw [heap_setCell_other U ⟨w.heap.size, 0, none⟩ D _ (by intro e; rw [e] at h1; change U.heap[w.heap.size]? = _ at h1; rw [HU.out.io.res] at h1; cases h1)]
            exact h1
        by_cases hz0 : z < 0
        · have hzb : decide (z < 0) = true := decide_eq_true hz0
          gi_wp2
          exact ⟨HBL.out _ _ (by have := HVZ.out; omega), HIX.out⟩
        · have hzb : decide (z < 0) = false := decide_eq_false hz0
          have hne : ¬ z = (p : Int) - 1 := fun e => hok ⟨by omega, e⟩
          have hneb : (z != (p : Int) - 1) = true := by simpa using hne
          clear hok
          gi_wp2
          exact ⟨HBL.out _ _ (by have := HVZ.out; omega), HIX.out⟩
      obtain ⟨hp1, hzp⟩ := hok
      obtain ⟨c, rfl⟩ : ∃ c, p = c + 1 := ⟨p - 1, by omega⟩
      obtain rfl : z = (c : Int) := by omega
      have hci : c < i := by omega
      have hcii : (c : Int) < (i : Int) := by omega
      have cbg := own_natB HU.out.io.own hci
      have hc0 : decide ((c : Int) < 0) = false := decide_eq_false (by omega)
      have hne : ((c : Int) != ((c + 1 : Nat) : Int) - 1) = false := by simp
      have HIB : Hid (IB w xs i l gb cb Ds (W.heap.size + 1) (W.heap.size + 1 + 1) ⟨va, vl, vc⟩ (j + 1) (l.getD c 0) (U.setCell ⟨W.heap.size + 1, 0, none⟩ (.int .i64 ((l.getD c 0 : Nat) : Int)))) := HU.out.step (by omega) (by rw [HQE.out, ← HX.out, ← HZ.out])
      clear hp1 hzp
      generalize l.getD c 0 = bgc at *
      gi_wp2
      exact ⟨HBL.out _ _ (by have := HVZ.out; omega), _, HIB.out⟩
    case hdone =>
      rintro A ⟨p, hib⟩ hD
      have HU : Hid (IB w xs i l gb cb Ds (W.heap.size + 1) (W.heap.size + 1 + 1) ⟨va, vl, vc⟩ vl p A) := hib
      have HD : Hid (A.heap[V.heap.size]? = some (.deferred (some []))) := hD
      have t6 : A.cell? ⟨W.heap.size + 1, 0, none⟩ = some (.int .i64 (p : Int)) := cell_of_row A _ 0 _ 3 (0, 0) hib.beg
      have t3 : A.cell? ⟨w.heap.size + 1 + 1, 0, none⟩ = some (.slice (some ⟨gb, 0, none⟩) i cb) := cell_of_row A _ 0 _ 34 (0, 0) hib.io.box
      have hb3 : w.heap.size + 1 + 1 < A.heap.size := (Array.getElem?_eq_some_iff.1 hib.io.box).1
      have HVZ : Hid (V.heap.size = W.heap.size + 3) := hVz
      have hwA : w.heap.size ≤ A.heap.size := hib.io.bel.size
      obtain ⟨i0, hi0, hz0, hz1, hz2⟩ := info_parts Tryz.infoi64
      have HI : Hid (Tryz.prog.info? 3 = some i0 ∧ i0.zero = some (.int .i64 0) ∧ i0.size = 1 ∧ i0.bytes = 8) := ⟨hi0, hz0, hz1, hz2⟩
      clear hib hD hVz hi0 hz0 hz1 hz2
      gi_wp2_with (gi_at_builtin; refine wpListIn_append_own _ rfl (.tmp 35) (.tmp 37) 34 rfl w.heap.size 3 i0 (.int .i64 0) 1 8 Tryz.underlying34 HI.out.1 HI.out.2.1 HI.out.2.2.1 HI.out.2.2.2 rfl (by decide) (.slice (some ⟨gb, 0, none⟩) i cb) i (l.map fun n : Nat => Value.int .i64 (n : Int)) rfl (World.ownsRow.alloc HU.out.io.own _) ⟨A.heap.size, 0, none⟩ 1 1 [.int .i64 (p : Int)] rfl rfl (one_newsB A _ _) (by intro u hu; simp at hu; subst hu; rfl) (by unfold maxLen; omega) (by omega) (by simp; omega) ?_; intro v' y2 hown hgr _; obtain ⟨g2, c2, hv2, hg2, hg3⟩ := hown.form (by omega); subst hv2; have HOW : Hid _ := hown; have HGR : Hid _ := hgr; have t3' : y2.cell? ⟨w.heap.size + 1 + 1, 0, none⟩ = some (.slice (some ⟨gb, 0, none⟩) i cb) := (HU.out.boxed hgr).1; have f3' : y2.frozen? ⟨w.heap.size + 1 + 1, 0, none⟩ = false := (HU.out.boxed hgr).2; clear hown hgr)
      refine ⟨⟨i + 1, l ++ [p], g2, c2, V.heap.size :: Ds, _, _, _, _, _, _, _, _, _, _, _, _, _, _, _, _, by omega, rfl, HU.out.grow HGR.out HOW.out HD.out (by have := HVZ.out; omega) (fun q => by have := hDs _ q; have := HVZ.out; omega) (by rw [← HX.out]; exact HVK.out)⟩, ?_⟩
      simp [intOf]; omega
    case hstop =>
      intro A hix hD
      have hVA : V.heap.size < A.heap.size := (Array.getElem?_eq_some_iff.1 hD).1
      have HIX : Hid (IX w xs len Ds A) := hix
      have HD : Hid (A.heap[V.heap.size]? = some (.deferred (some []))) := hD
      have HVZ : Hid (V.heap.size = W.heap.size + 3) := hVz
      have HF : Hid (R = false) := HNO.out hix.no
      clear hix hD hVz
      gi_wp2
      refine leaves_marks (lo := w.heap.size) (V.heap.size :: Ds) A (List.nodup_cons.2 ⟨fun q => by have := hDs _ q; have := HVZ.out; omega, HIX.out.dn⟩) (fun D hD => ?_) fun w' hs => ?_
      · rcases List.mem_cons.1 hD with e | e
        · subst e; exact ⟨by have := HVZ.out; omega, HD.out⟩
        · exact HIX.out.dd D e
      · exact ⟨.bool false, (sh_results (p := 2) rfl rfl HIX.out.bel HIX.out.res hs).1, ret_bool HF.out.symm, sh_below HIX.out.bel hs⟩
end Go.Proofs.YteadglnenaiaaaaGreatDoor.W
