import Derived.Test.YteadglnenaiaaaaGreatDoorK42
import Derived.Test.YteadglnenaiaaaaGreatDoorK43
import Derived.Test.YteadglnenaiaaaaGreatDoorK33
set_option linter.unusedVariables false
set_option linter.unusedSimpArgs false
namespace Go.Proofs.YteadglnenaiaaaaGreatDoor.W
open Go.RowKit Go.Maps Go.WideMaps
def TreeE (w : World) : Prop := Glo w ∧ DbLies w ∧ PowLies w
theorem TreeE.on {w w' : World} (h : TreeE w) (hb : Below w.heap.size w w') : TreeE w' := ⟨h.1.on hb, h.2.1.below hb, h.2.2.below hb⟩
set_option maxRecDepth 100000 in
set_option maxHeartbeats 8000000 in
theorem implTreeOk_is : ImplTreeSaid TreeE := by
  intro lo a len cap xs w h hwf hkl hsl hE
  obtain ⟨R, hR⟩ : ∃ R, R = Pl.isP (Pl.ImplOk xs) := ⟨_, rfl⟩
  rw [← hR]
  have HR : Hid (R = Pl.isP (Pl.ImplOk xs)) := hR
  have HXL : Hid (xs.length = len) := h.1.1
  have HN : Hid (NRow lo w a len cap xs) := h
  have HWF : Hid (Pl.NWf xs) := hwf
  have HSL : Hid (∀ i, i < len → (Pl.nd xs i).s.size ≤ 1048576) := hsl
  have HE : Hid (TreeE w) := hE
  have hm : (len : Int) ≤ 9223372036854775807 := by have h1 := h.2.1; have h2 := h.2.2.1; unfold maxLen at h2; omega
  clear hR h hwf hkl hsl hE
  have HNO : Hid (¬ Pl.ImplOk xs → R = false) := fun q => by rw [HR.out]; exact Pl.isP_no q
  obtain ⟨w0, hw0⟩ : ∃ w0 : World, w0 = w.alloc (.cells #[.slice a len cap] 29) := ⟨_, rfl⟩
  have HB0 : Hid (Below w.heap.size w w0) := by rw [hw0]; exact below_alloc _ _
  have q0 : w0.heap[w.heap.size]? = some (.cells #[.slice a len cap] 29 (0, 0)) := by rw [hw0]; exact heap_alloc_new w _
  have hz0 : w.heap.size < w0.heap.size := (Array.getElem?_eq_some_iff.1 q0).1
  have K0 : Hid (∀ u : World, Below w0.heap.size w0 u → u.cell? ⟨w.heap.size, 0, none⟩ = some (.slice a len cap)) := fun u hu => cell_of_row u w.heap.size 0 _ 29 (0, 0) ((hu.block _ hz0).trans q0)
  have HBW : Hid (∀ u : World, Below w0.heap.size w0 u → Below w.heap.size w u) := fun u hu => HB0.out.trans (hu.mono (by omega))
  have k0 := K0.out w0 (Below.refl _ _)
  clear q0
  by_cases h0 : len = 0
  · subst h0
    have HF : Hid (R = false) := HNO.out fun q => by have := q.1; have e := HXL.out; omega
    go_enter Tryz.func7, Tryz.ntmps7
    go_upto_region 1 with fail
    rw [← hw0]
    clear hw0
    go_wp2_with fail
    go_ret
    exact ⟨ret_bool HF.out.symm, HB0.out⟩
  have h0b : ((len : Int) == 0) = false := by simp; omega
  by_cases h4 : 4000 < len
  · have HF : Hid (R = false) := HNO.out fun q => by have := q.2.1; have e := HXL.out; omega
    have h4b : (4000 : Int) < (len : Int) := by omega
    clear h0
    go_enter Tryz.func7, Tryz.ntmps7
    go_upto_region 1 with fail
    rw [← hw0]
    clear hw0
    go_wp2_with fail
    go_ret
    exact ⟨ret_bool HF.out.symm, HB0.out⟩
  have h4b : ¬ (4000 : Int) < (len : Int) := by omega
  have hl4 : len ≤ 4000 := by omega
  have hl1 : 1 ≤ len := by omega
  obtain ⟨q, hq⟩ : ∃ q : Nat, len = q + 1 := ⟨len - 1, by omega⟩
  obtain ⟨b, off, v, hab, hlo, hbw, hcl, _, _⟩ := HN.out.at (k := q) (by omega)
  have HQ : Hid (len = q + 1) := hq
  have hqw : IntKind.i64.wrap ((len : Int) - 1) = (q : Int) := by rw [IntKind.wrap_i64]; omega
  have hqi : (len : Int) - 1 = (q : Int) := by omega
  have hql : (q : Int) < (len : Int) := by omega
  subst hab
  obtain ⟨z, hz⟩ : ∃ z, z = xs.getD q Pl.Nd.zero := ⟨_, rfl⟩
  have HZ : Hid (z = Pl.nd xs q) := hz
  rw [← hz] at hcl
  obtain ⟨e0, _⟩ := nd_cells hcl
  have f0 : w0.cell? ⟨b, off + q * 7, none⟩ = some (.int .i64 z.k) := (HB0.out.cell (p := ⟨b, off + q * 7, none⟩) hbw).trans e0
  clear e0 hcl hz hq h0 h4
  by_cases k15 : z.k = 15
  rotate_left
  · have k15b : (z.k == 15) = false := by simpa using k15
    have k15c : (z.k != 15) = true := by simpa using k15
    have HF : Hid (R = false) := HNO.out fun s => k15 (by have := s.2.2.1; rw [HXL.out, HQ.out] at this; rw [HZ.out]; exact this)
    clear k15
    go_enter Tryz.func7, Tryz.ntmps7
    go_upto_region 1 with fail
    rw [← hw0]
    clear hw0
    go_wp2_with fail
    go_ret
    exact ⟨ret_bool HF.out.symm, HB0.out⟩
  have k15b : (z.k == 15) = true := by simpa using k15
  have k15c : (z.k != 15) = false := by simpa using k15
  have H15 : Hid ((Pl.nd xs (xs.length - 1)).k = 15) := by
    show (Pl.nd xs (xs.length - 1)).k = 15
    rw [HXL.out, HQ.out, Nat.add_sub_cancel, ← HZ.out]; exact k15
  clear k15 HZ
  cases hbg : Pl.bgF xs len with
  | none =>
    have HF : Hid (R = false) := HNO.out fun s => by obtain ⟨l, h1, _⟩ := s.2.2.2.1; rw [HXL.out, hbg] at h1; cases h1
    have HIO : Hid (∀ u : World, Below w0.heap.size w0 u → Calls Tryz.prog 17 #[.slice (some ⟨b, off, none⟩) len cap] u fun e w' => e = .returned (.bool false) ∧ Below u.heap.size u w') := fun u hu => inOrder_is (some ⟨b, off, none⟩) len cap xs u (HN.out.keep (HBW.out u hu)) hl1 hl4 false (fun _ => rfl) (fun l q => by rw [hbg] at q; cases q)
    clear hbg
    go_enter Tryz.func7, Tryz.ntmps7
    go_upto_region 1 with fail
    rw [← hw0]
    clear hw0
    go_wp2_with (go_at_call 17; refine (HIO.out _ (Below.refl _ _)).mono ?_; rintro e u1 ⟨rfl, d1⟩; have D1 : Hid (Below w0.heap.size w0 u1) := d1; have k0 := K0.out u1 D1.out; clear d1)
    go_ret
    exact ⟨ret_bool HF.out.symm, HBW.out _ D1.out⟩
  | some l =>
  have HIO : Hid (∀ u : World, Below w0.heap.size w0 u → Calls Tryz.prog 17 #[.slice (some ⟨b, off, none⟩) len cap] u fun e w' => e = .returned (.bool (decide (((l.getD (len - 1) 0 : Nat) : Int) = 0))) ∧ Below u.heap.size u w') := fun u hu => inOrder_is (some ⟨b, off, none⟩) len cap xs u (HN.out.keep (HBW.out u hu)) hl1 hl4 _ (fun q => by unfold bgNo at q; rw [hbg] at q; cases q) (fun l2 q => by rw [hbg] at q; cases q; rfl)
  have HBG : Hid (Pl.bgF xs len = some l) := hbg
  have HO : Hid (Pl.Ordd xs len l) := Pl.ordd hbg
  clear hbg
  by_cases hl0 : l.getD (len - 1) 0 = 0
  rotate_left
  · have hd : decide (((l.getD (len - 1) 0 : Nat) : Int) = 0) = false := decide_eq_false (by omega)
    have HF : Hid (R = false) := HNO.out fun s => by
      obtain ⟨l2, h1, h2⟩ := s.2.2.2.1
      rw [HXL.out, HBG.out] at h1
      cases h1
      rw [HXL.out] at h2
      exact hl0 h2
    rw [hd] at HIO
    clear hl0 hd
    go_enter Tryz.func7, Tryz.ntmps7
    go_upto_region 1 with fail
    rw [← hw0]
    clear hw0
    go_wp2_with (go_at_call 17; refine (HIO.out _ (Below.refl _ _)).mono ?_; rintro e u1 ⟨rfl, d1⟩; have D1 : Hid (Below w0.heap.size w0 u1) := d1; have k0 := K0.out u1 D1.out; clear d1)
    go_ret
    exact ⟨ret_bool HF.out.symm, HBW.out _ D1.out⟩
  have hd : decide (((l.getD (len - 1) 0 : Nat) : Int) = 0) = true := decide_eq_true (by omega)
  rw [hd] at HIO
  have HL0 : Hid (l.getD (len - 1) 0 = 0) := hl0
  clear hd hl0
  obtain ⟨T, hT⟩ : ∃ T, T = Pl.isP (∃ c d, Pl.Dep xs len c d ∧ 200 < d) := ⟨_, rfl⟩
  have HTT : Hid (∀ u : World, Below w0.heap.size w0 u → Calls Tryz.prog 18 #[.slice (some ⟨b, off, none⟩) len cap] u fun e w' => e = .returned (.bool T) ∧ Below u.heap.size u w') := fun u hu => isTooTall_is (some ⟨b, off, none⟩) len cap xs u (HN.out.keep (HBW.out u hu)) hl1 hl4 l HO.out T (fun c d h1 h2 => by rw [hT]; exact Pl.isP_yes ⟨c, d, h1, h2⟩) (fun q => by
    rw [hT]
    refine Pl.isP_no ?_
    rintro ⟨c, d, h1, h2⟩
    have := q c d h1
    omega)
  have HT : Hid (T = Pl.isP (∃ c d, Pl.Dep xs len c d ∧ 200 < d)) := hT
  clear hT
  cases T
  rotate_left
  · have HF : Hid (R = false) := HNO.out fun s => s.2.2.2.2.1 (by rw [HXL.out]; exact Pl.isP_true HT.out.symm)
    go_enter Tryz.func7, Tryz.ntmps7
    go_upto_region 1 with fail
    rw [← hw0]
    clear hw0
    go_wp2_with (first | (go_at_call 17; refine (HIO.out _ (Below.refl _ _)).mono ?_; rintro e u1 ⟨rfl, d1⟩; have D1 : Hid (Below w0.heap.size w0 u1) := d1; have k0 := K0.out u1 D1.out; clear d1) | (go_at_call 18; refine (HTT.out _ D1.out).mono ?_; rintro e u2 ⟨rfl, d2⟩; have D2 : Hid (Below w0.heap.size w0 u2) := D1.out.trans (d2.mono D1.out.size); have k0 := K0.out u2 D2.out; have hzz : w.heap.size < u2.heap.size := Nat.lt_of_lt_of_le hz0 D2.out.size; clear d2))
    go_ret
    exact ⟨ret_bool HF.out.symm, HBW.out _ D2.out⟩
  have HNT : Hid (¬ ∃ c d, Pl.Dep xs len c d ∧ 200 < d) := Pl.isP_false HT.out.symm
  have hmm := @run_makeMap Tryz.prog
  have hli : (len : Int) ≤ 4000 := by omega
  clear HT 
  go_enter Tryz.func7, Tryz.ntmps7
  go_upto_region 1 with fail
  rw [← hw0]
  clear hw0
  go_wp2_with (first | (go_at_call 17; refine (HIO.out _ (Below.refl _ _)).mono ?_; rintro e u1 ⟨rfl, d1⟩; have D1 : Hid (Below w0.heap.size w0 u1) := d1; have k0 := K0.out u1 D1.out; clear d1) | (go_at_call 18; refine (HTT.out _ D1.out).mono ?_; rintro e u2 ⟨rfl, d2⟩; have D2 : Hid (Below w0.heap.size w0 u2) := D1.out.trans (d2.mono D1.out.size); have k0 := K0.out u2 D2.out; have hzz : w.heap.size < u2.heap.size := Nat.lt_of_lt_of_le hz0 D2.out.size; clear d2))
  have hzu : w.heap.size ≤ u2.heap.size := (HBW.out u2 D2.out).size
  have HCS : Hid (Chk w (some ⟨b, off, none⟩) len cap (u2.heap.size + 1) u2.heap.size 0 (Pl.alF xs 0) none 0 0 (Pl.opF xs 0) ((u2.alloc (.map #[] 0)).alloc (.cells #[.slice (some ⟨b, off, none⟩) len cap, .map (some u2.heap.size), .slice none 0 0] 49))) := by
    have hmp : (u2.alloc (.map #[] 0)).ownsMap Tryz.prog 9 (unitElem (H := Unit)) u2.heap.size 0 (.map []) := World.ownsMap_made _ _ _ _
    refine ⟨((HBW.out u2 D2.out).alloc hzu _).alloc (by simp; omega) _, by omega, hzu, ?_, ⟨.map [], ownsMap_keepT hmp (below_alloc _ _) (by simp), KeysT.nil⟩, World.ownsRow_nil _ _ _ _⟩
    have := heap_alloc_new (u2.alloc (.map #[] 0)) (.cells #[.slice (some ⟨b, off, none⟩) len cap, .map (some u2.heap.size), .slice none 0 0] 49)
    simpa using this
  generalize u2.heap.size = gm at *
  go_loopw [44] (fun v wr => ∃ (i nm : Nat) (ob : Option Addr) (oc : Nat), i ≤ len ∧ v = .int .i64 (i : Int) ∧ nm ≤ i ∧ Chk w (some ⟨b, off, none⟩) len cap (gm + 1) gm nm (Pl.alF xs i) ob oc i (Pl.opF xs i) wr ∧ ∀ j, j < i → Pl.NdI xs j) (fun v _ => len - (intOf v).toNat)
  case atStart => exact ⟨0, 0, none, 0, Nat.zero_le _, rfl, Nat.le_refl _, HCS.out, fun j hj => absurd hj (Nat.not_lt_zero _)⟩
  case round =>
    obtain ⟨i, nm, ob, oc, hil, rfl, hnm, hck, hpre⟩ := hrel
    have HCK : Hid (Chk w (some ⟨b, off, none⟩) len cap (gm + 1) gm nm (Pl.alF xs i) ob oc i (Pl.opF xs i) wr) := hck
    have HPR : Hid (∀ j, j < i → Pl.NdI xs j) := hpre
    clear hck hpre HCS
    by_cases hlt : i < len
    rotate_left
    · have hi : ¬ ((i : Int) < (len : Int)) := by omega
      have HY : Hid (R = true) := by
        show R = true
        rw [HR.out]
        have e := HXL.out
        exact Pl.isP_yes ⟨by omega, by omega, H15.out, ⟨l, by rw [e]; exact HBG.out, by rw [e]; exact HL0.out⟩, by rw [e]; exact HNT.out, fun j hj => HPR.out j (by omega)⟩
      go_wp2_with fail
      go_ret
      exact ⟨ret_bool HY.out.symm, HCK.out.bel⟩
    have hi : (i : Int) < (len : Int) := by omega
    obtain ⟨b', off', ⟨va, vl, vc⟩, eb, _, hb, hcl, hrow, _⟩ := HN.out.at hlt
    simp only [Option.some.injEq, Addr.mk.injEq, and_true] at eb
    obtain ⟨rfl, rfl⟩ := eb
    obtain ⟨x, hx⟩ : ∃ x, x = xs.getD i Pl.Nd.zero := ⟨_, rfl⟩
    have HX : Hid (x = Pl.nd xs i) := hx
    have HROW : Hid (Row .i64 lo w va vl vc (Pl.nd xs i).kids) := hrow
    rw [← hx] at hcl
    obtain ⟨g0, g1, g2, g3, g4, g5, g6⟩ := nd_cells (u := wr) (fun j hj => (HCK.out.bel.cell (p := ⟨b, off + i * 7 + j, none⟩) hb).trans (hcl j hj))
    have HPI : Hid (Pl.PI xs len i l) := ⟨hlt, hl4, HXL.out, HO.out, HPR.out, HWF.out, HSL.out i hlt⟩
    obtain ⟨B, hB⟩ : ∃ B, B = Pl.isP (Pl.NdI xs i) := ⟨_, rfl⟩
    have HPS : Hid (∀ u : World, Below wr.heap.size wr u → Calls Tryz.prog 19 #[.pointer (some ⟨gm + 1, 0, none⟩), .agg #[.int .i64 x.k, .int .i64 x.m, .int .i64 x.n, .string x.s, .slice va vl vc, .int .i64 x.line, .int .i64 x.col]] u fun e w' => PassSaid w xs (some ⟨b, off, none⟩) len cap (gm + 1) gm i e w') := fun u hu => tpass_is HPI.out (HCK.out.keep hu) hnm HROW.out HN.out HE.out.1 HE.out.2.1 HE.out.2.2 x HX.out
    have HPB : Hid (∀ (e : Ending) (w' : World), PassSaid w xs (some ⟨b, off, none⟩) len cap (gm + 1) gm i e w' → e = .returned (.bool B) ∧ PassSaid w xs (some ⟨b, off, none⟩) len cap (gm + 1) gm i e w') := fun e w' q => ⟨by rw [hB]; exact q.1, q⟩
    have HB : Hid (B = Pl.isP (Pl.NdI xs i)) := hB
    clear hB hcl hrow hx
    cases B
    · have HF : Hid (R = false) := HNO.out fun s => Pl.isP_false HB.out.symm (s.2.2.2.2.2 i (by rw [HXL.out]; exact hlt))
      go_wp2_with (go_at_call 19; refine (HPS.out _ (below_alloc _ _)).mono ?_; intro e u3 hps; obtain ⟨he, hps⟩ := HPB.out _ _ hps; subst he; have DP : Hid (Below w.heap.size w u3) := hps.2.1; clear hps)
      go_ret
      exact ⟨ret_bool HF.out.symm, DP.out⟩
    have HOK : Hid (Pl.NdI xs i) := Pl.isP_true HB.out.symm
    go_wp2_with (go_at_call 19; refine (HPS.out _ (below_alloc _ _)).mono ?_; intro e u3 hps; obtain ⟨he, hps⟩ := HPB.out _ _ hps; subst he; have DP : Hid (PassSaid w xs (some ⟨b, off, none⟩) len cap (gm + 1) gm i (.returned (.bool true)) u3) := hps; clear hps)
    go_roundw
    case rel =>
      obtain ⟨nm2, ob2, oc2, h1, h2⟩ := DP.out.2.2 HOK.out
      exact ⟨i + 1, nm2, ob2, oc2, by omega, by go_num, h1, h2, fun j hj => by
        by_cases e : j = i
        · rw [e]; exact HOK.out
        · exact HPR.out j (by omega)⟩
    case measure => simp [intOf]; omega
end Go.Proofs.YteadglnenaiaaaaGreatDoor.W
