import Derived.Test.YteadglnenaiaaaaGreatDoorK38
set_option linter.unusedVariables false
set_option linter.unusedSimpArgs false
namespace Go.Proofs.YteadglnenaiaaaaGreatDoor.Pl
structure MI (xs : List Nd) (o : List Bool) (x : Nd) : Prop where
  asn : x.k = 48 → asgn x.m = true
  void : x.k = 4 → x.kids.length = 2 → ¬ voidP xs (x.kids.getD 1 0).toNat
  els : x.k = 21 → x.kids.length = 3 → ¬ o.getD (x.kids.getD 1 0).toNat false = true
end Go.Proofs.YteadglnenaiaaaaGreatDoor.Pl
namespace Go.Proofs.YteadglnenaiaaaaGreatDoor.W
open Go.RowKit
set_option maxRecDepth 8000 in
set_option maxHeartbeats 8000000 in
theorem meansItself_is {lo lo2 : Nat} (gc : Nat) (a : Option Addr) (len cap : Nat) (xs : List Pl.Nd) (ob : Option Addr) (ol oc : Nat) (o : List Bool) (x : Pl.Nd) (va : Option Addr) (vl vc : Nat) (w : World) (hc : w.cell? ⟨gc, 0, none⟩ = some (.slice a len cap)) (hc2 : w.cell? ⟨gc, 2, none⟩ = some (.slice ob ol oc)) (hn : NRow lo w a len cap xs) (hk : Row .i64 lo2 w va vl vc x.kids)
    (h4 : x.k = 4 → vl = 2 → ∃ c : Nat, x.kids.getD 1 0 = (c : Int) ∧ c < len ∧ 1 ≤ (Pl.nd xs c).kids.length ∧ ∃ d : Nat, (Pl.nd xs c).kids.getD 0 0 = (d : Int) ∧ d < len)
    (h21 : x.k = 21 → vl = 3 → ∃ c : Nat, x.kids.getD 1 0 = (c : Int) ∧ c < ol ∧ ∃ g, ob = some ⟨g, 0, none⟩ ∧ g < w.heap.size ∧ w.cell? ⟨g, c, none⟩ = some (.bool (o.getD c false))) :
    Calls Tryz.prog 34 #[.pointer (some ⟨gc, 0, none⟩), .agg #[.int .i64 x.k, .int .i64 x.m, .int .i64 x.n, .string x.s, .slice va vl vc, .int .i64 x.line, .int .i64 x.col]] w fun e w' => e = .returned (.bool (Pl.isP (Pl.MI xs o x))) ∧ Below w.heap.size w w' := by
  obtain ⟨R, hR⟩ : ∃ R, R = Pl.isP (Pl.MI xs o x) := ⟨_, rfl⟩
  rw [← hR]
  have HR : Hid (R = Pl.isP (Pl.MI xs o x)) := hR
  have HVL : Hid (x.kids.length = vl) := hk.1
  have HK : Hid (Row .i64 lo2 w va vl vc x.kids) := hk
  have hvl : (vl : Int) ≤ 9223372036854775807 := by have := hk.small; omega
  have hgc : gc < w.heap.size := block_lt_of_cell hc
  have HN : Hid (NRow lo w a len cap xs) := hn
  have HC : Hid (w.cell? ⟨gc, 0, none⟩ = some (.slice a len cap)) := hc
  have HC2 : Hid (w.cell? ⟨gc, 2, none⟩ = some (.slice ob ol oc)) := hc2
  have H4 : Hid (x.k = 4 → vl = 2 → ∃ c : Nat, x.kids.getD 1 0 = (c : Int) ∧ c < len ∧ 1 ≤ (Pl.nd xs c).kids.length ∧ ∃ d : Nat, (Pl.nd xs c).kids.getD 0 0 = (d : Int) ∧ d < len) := h4
  have H21 : Hid (x.k = 21 → vl = 3 → ∃ c : Nat, x.kids.getD 1 0 = (c : Int) ∧ c < ol ∧ ∃ g, ob = some ⟨g, 0, none⟩ ∧ g < w.heap.size ∧ w.cell? ⟨g, c, none⟩ = some (.bool (o.getD c false))) := h21
  clear hR hc hc2 hn hk h4 h21
  by_cases k48 : x.k = 48
  · have k48b : (x.k == 48) = true := by simpa using k48
    have HF : Hid (R = Pl.asgn x.m) := by
      show R = _
      rw [HR.out]
      cases hh : Pl.asgn x.m
      · exact Pl.isP_no fun q => by have := q.asn k48; rw [hh] at this; cases this
      · exact Pl.isP_yes ⟨fun _ => hh, fun q => absurd (k48.symm.trans q) (by decide), fun q => absurd (k48.symm.trans q) (by decide)⟩
    clear k48
    go_enter Tryz.func34, Tryz.ntmps34
    go_wp2_with (go_at_call 55; refine (assignable_is _ _).mono ?_; rintro e u1 ⟨rfl, g1⟩; rw [g1]; clear g1 u1)
    go_ret
    exact ⟨ret_bool HF.out.symm, below_alloc _ _⟩
  have k48b : (x.k == 48) = false := by simpa using k48
  by_cases k4 : x.k = 4
  · have k4b : (x.k == 4) = true := by simpa using k4
    obtain ⟨w1, hw1⟩ : ∃ w1 : World, w1 = w.alloc (.cells #[.int .i64 x.k, .int .i64 x.m, .int .i64 x.n, .string x.s, .slice va vl vc, .int .i64 x.line, .int .i64 x.col] 38) := ⟨_, rfl⟩
    have HB1 : Hid (Below w.heap.size w w1) := by rw [hw1]; exact below_alloc _ _
    have x1 : w1.heap[w.heap.size]? = some (.cells #[.int .i64 x.k, .int .i64 x.m, .int .i64 x.n, .string x.s, .slice va vl vc, .int .i64 x.line, .int .i64 x.col] 38 (0, 0)) := by rw [hw1]; exact heap_alloc_new w _
    have n0 : w1.cell? ⟨w.heap.size, 0, none⟩ = some (.int .i64 x.k) := cell_of_row w1 _ 0 _ 38 (0, 0) x1
    have n4 : w1.cell? ⟨w.heap.size, 4, none⟩ = some (.slice va vl vc) := cell_of_row w1 _ 4 _ 38 (0, 0) x1
    have hz1 : w.heap.size < w1.heap.size := (Array.getElem?_eq_some_iff.1 x1).1
    by_cases j2 : vl = 2
    rotate_left
    · have j2b : ((vl : Int) == 2) = false := by simp; omega
      have j2c : ((vl : Int) != 2) = true := by simp; omega
      have HF : Hid (R = true) := by
        show R = true
        rw [HR.out]
        exact Pl.isP_yes ⟨fun q => absurd q k48, fun _ q => absurd (HVL.out.symm.trans q) j2, fun q => absurd (k4.symm.trans q) (by decide)⟩
      have HDN : Hid (∀ n, Below w.heap.size w (w1.drewN n)) := fun n => below_drewN HB1.out n
      clear k4 j2 k48 x1
      go_enter Tryz.func34, Tryz.ntmps34
      go_upto_region 1 with fail
      rw [← hw1]
      clear hw1
      go_upto_region 5 with fail
      go_big_quiet (fail)
      go_wp2_with fail
      go_ret
      exact ⟨ret_bool HF.out.symm, HDN.out _⟩
    have j2b : ((vl : Int) == 2) = true := by simp; omega
    have j2c : ((vl : Int) != 2) = false := by simp; omega
    have j1 : (1 : Int) < (vl : Int) := by omega
    obtain ⟨c, hc1, hcl, hpk, d, hd1, hdl⟩ := H4.out k4 j2
    obtain ⟨b2, o2, hva, hb2, hcz⟩ := row_cellD HK.out (i := 1) (by omega)
    rw [hc1] at hcz
    subst hva
    obtain ⟨b3, o3, v3, ha, _, hb3, hc3, hr3, _⟩ := HN.out.at hcl
    subst ha
    obtain ⟨va3, vl3, vc3⟩ := v3
    obtain ⟨z, hz⟩ : ∃ z, z = xs.getD c Pl.Nd.zero := ⟨_, rfl⟩
    have HZ : Hid (z = Pl.nd xs c) := hz
    rw [← hz] at hc3 hr3
    obtain ⟨d0, d1, d2, d3, d4, d5, d6⟩ := nd_cells hc3
    have hv3 : z.kids.length = vl3 := hr3.1
    have hcll : (c : Int) < (len : Int) := by omega
    have HNV : Hid (∀ u : World, Below w.heap.size w u → Calls Tryz.prog 56 #[.pointer (some ⟨gc, 0, none⟩), .agg #[.int .i64 z.k, .int .i64 z.m, .int .i64 z.n, .string z.s, .slice va3 vl3 vc3, .int .i64 z.line, .int .i64 z.col]] u fun e w' => e = .returned (.bool (decide (z.s.size = 0 ∧ (Pl.nd xs d).k = 1 ∧ (Pl.nd xs d).n = 1))) ∧ Below u.heap.size u w') := fun u hu =>
      isNamelessVoid_is gc (some ⟨b3, o3, none⟩) len cap xs z va3 vl3 vc3 d u ((hu.cell (p := ⟨gc, 0, none⟩) hgc).trans HC.out) (HN.out.keep hu) (hr3.keep hu) (by rw [← hv3, HZ.out]; exact hpk) (by rw [HZ.out]; exact hd1) hdl
    obtain ⟨NV, hNV⟩ : ∃ NV, NV = decide (z.s.size = 0 ∧ (Pl.nd xs d).k = 1 ∧ (Pl.nd xs d).n = 1) := ⟨_, rfl⟩
    rw [← hNV] at HNV
    have HF : Hid (R = !NV) := by
      show R = !NV
      have e1 : Pl.voidP xs (x.kids.getD 1 0).toNat ↔ (z.s.size = 0 ∧ (Pl.nd xs d).k = 1 ∧ (Pl.nd xs d).n = 1) := by
        unfold Pl.voidP
        rw [hc1, Int.toNat_natCast, ← HZ.out, show z.kids.getD 0 0 = (d : Int) by rw [HZ.out]; exact hd1, Int.toNat_natCast]
      rw [HR.out, hNV]
      by_cases hh : z.s.size = 0 ∧ (Pl.nd xs d).k = 1 ∧ (Pl.nd xs d).n = 1
      · rw [decide_eq_true hh]
        exact Pl.isP_no fun q => q.void k4 (by rw [HVL.out]; exact j2) (e1.mpr hh)
      · rw [decide_eq_false hh]
        exact Pl.isP_yes ⟨fun q => absurd q k48, fun _ _ q => hh (e1.mp q), fun q => absurd (k4.symm.trans q) (by decide)⟩
    have e0 : w1.cell? ⟨b3, o3 + c * 7, none⟩ = some (.int .i64 z.k) := (HB1.out.cell (p := ⟨b3, o3 + c * 7, none⟩) hb3).trans d0
    have e1 : w1.cell? ⟨b3, o3 + c * 7 + 1, none⟩ = some (.int .i64 z.m) := (HB1.out.cell (p := ⟨b3, o3 + c * 7 + 1, none⟩) hb3).trans d1
    have e2 : w1.cell? ⟨b3, o3 + c * 7 + 2, none⟩ = some (.int .i64 z.n) := (HB1.out.cell (p := ⟨b3, o3 + c * 7 + 2, none⟩) hb3).trans d2
    have e3 : w1.cell? ⟨b3, o3 + c * 7 + 3, none⟩ = some (.string z.s) := (HB1.out.cell (p := ⟨b3, o3 + c * 7 + 3, none⟩) hb3).trans d3
    have e4 : w1.cell? ⟨b3, o3 + c * 7 + 4, none⟩ = some (.slice va3 vl3 vc3) := (HB1.out.cell (p := ⟨b3, o3 + c * 7 + 4, none⟩) hb3).trans d4
    have e5 : w1.cell? ⟨b3, o3 + c * 7 + 5, none⟩ = some (.int .i64 z.line) := (HB1.out.cell (p := ⟨b3, o3 + c * 7 + 5, none⟩) hb3).trans d5
    have e6 : w1.cell? ⟨b3, o3 + c * 7 + 6, none⟩ = some (.int .i64 z.col) := (HB1.out.cell (p := ⟨b3, o3 + c * 7 + 6, none⟩) hb3).trans d6
    have g0 : w1.cell? ⟨gc, 0, none⟩ = some (.slice (some ⟨b3, o3, none⟩) len cap) := (HB1.out.cell (p := ⟨gc, 0, none⟩) hgc).trans HC.out
    have f0 : w1.cell? ⟨b2, o2 + 1, none⟩ = some (.int .i64 (c : Int)) := (HB1.out.cell (p := ⟨b2, o2 + 1, none⟩) hb2).trans hcz
    clear d0 d1 d2 d3 d4 d5 d6 hcz hNV hc1 hd1 hpk hc3 hr3 hv3 hz k4 k48 j2 x1 HC HC2 H4 H21 HK
    go_enter Tryz.func34, Tryz.ntmps34
    go_upto_region 1 with fail
    rw [← hw1]
    clear hw1
    go_upto_region 5 with fail
    go_region_with (go_at_call 56; refine (HNV.out _ (by repeat (first | with_reducible exact HB1.out | refine Below.drew ?_ | refine below_drewN ?_ _))).mono ?_; rintro e u2 ⟨rfl, d2⟩; have D2 : Hid (Below w.heap.size w u2) := (by repeat (first | with_reducible exact HB1.out | refine Below.drew ?_ | refine below_drewN ?_ _) : Below w.heap.size w _).trans (d2.mono (by have := HB1.out.size; simp; omega)); clear d2)
    all_goals
      go_wp2_with fail
      go_ret
      refine ⟨ret_bool HF.out.symm, ?_⟩
      repeat (first | with_reducible exact D2.out | refine Below.drew ?_ | refine below_drewN ?_ _)
  have k4b : (x.k == 4) = false := by simpa using k4
  by_cases k21 : x.k = 21
  rotate_left
  · have k21b : (x.k == 21) = false := by simpa using k21
    have HF : Hid (R = true) := by show R = true; rw [HR.out]; exact Pl.isP_yes ⟨fun q => absurd q k48, fun q => absurd q k4, fun q => absurd q k21⟩
    clear k21 k4 k48
    go_enter Tryz.func34, Tryz.ntmps34
    go_wp2_with fail
    go_ret
    exact ⟨ret_bool HF.out.symm, below_alloc _ _⟩
  have k21b : (x.k == 21) = true := by simpa using k21
  obtain ⟨w1, hw1⟩ : ∃ w1 : World, w1 = w.alloc (.cells #[.int .i64 x.k, .int .i64 x.m, .int .i64 x.n, .string x.s, .slice va vl vc, .int .i64 x.line, .int .i64 x.col] 38) := ⟨_, rfl⟩
  have HB1 : Hid (Below w.heap.size w w1) := by rw [hw1]; exact below_alloc _ _
  have x1 : w1.heap[w.heap.size]? = some (.cells #[.int .i64 x.k, .int .i64 x.m, .int .i64 x.n, .string x.s, .slice va vl vc, .int .i64 x.line, .int .i64 x.col] 38 (0, 0)) := by rw [hw1]; exact heap_alloc_new w _
  have n0 : w1.cell? ⟨w.heap.size, 0, none⟩ = some (.int .i64 x.k) := cell_of_row w1 _ 0 _ 38 (0, 0) x1
  have n4 : w1.cell? ⟨w.heap.size, 4, none⟩ = some (.slice va vl vc) := cell_of_row w1 _ 4 _ 38 (0, 0) x1
  have HDN : Hid (∀ n, Below w.heap.size w (w1.drewN n)) := fun n => below_drewN HB1.out n
  by_cases j3 : vl = 3
  rotate_left
  · have j3b : ((vl : Int) == 3) = false := by simp; omega
    have j3c : ((vl : Int) != 3) = true := by simp; omega
    have HF : Hid (R = true) := by
      show R = true
      rw [HR.out]
      exact Pl.isP_yes ⟨fun q => absurd q k48, fun q => absurd q k4, fun _ q => absurd (HVL.out.symm.trans q) j3⟩
    clear k21 k4 j3 k48 x1
    go_enter Tryz.func34, Tryz.ntmps34
    go_upto_region 1 with fail
    rw [← hw1]
    clear hw1
    go_upto_region 7 with fail
    go_big_quiet (fail)
    go_wp2_with fail
    go_ret
    exact ⟨ret_bool HF.out.symm, HDN.out _⟩
  have j3b : ((vl : Int) == 3) = true := by simp; omega
  have j3c : ((vl : Int) != 3) = false := by simp; omega
  have j1 : (1 : Int) < (vl : Int) := by omega
  obtain ⟨c, hc1, hcl, g, hob, hg, hcell⟩ := H21.out k21 j3
  obtain ⟨b2, o2, hva, hb2, hcz⟩ := row_cellD HK.out (i := 1) (by omega)
  rw [hc1] at hcz
  subst hva
  subst hob
  have hcli : (c : Int) < (ol : Int) := by omega
  obtain ⟨ov, hov⟩ : ∃ ov, ov = o.getD c false := ⟨_, rfl⟩
  rw [← hov] at hcell
  have HF : Hid (R = !ov) := by
    show R = !ov
    rw [HR.out]
    have e1 : o.getD (x.kids.getD 1 0).toNat false = ov := by rw [hc1, Int.toNat_natCast, hov]
    cases hh : ov
    · exact Pl.isP_yes ⟨fun q => absurd q k48, fun q => absurd q k4, fun _ _ q => by rw [e1, hh] at q; cases q⟩
    · exact Pl.isP_no fun q => q.els k21 (by rw [HVL.out]; exact j3) (by rw [e1, hh])
  have g2 : w1.cell? ⟨gc, 2, none⟩ = some (.slice (some ⟨g, 0, none⟩) ol oc) := (HB1.out.cell (p := ⟨gc, 2, none⟩) hgc).trans HC2.out
  have f0 : w1.cell? ⟨b2, o2 + 1, none⟩ = some (.int .i64 (c : Int)) := (HB1.out.cell (p := ⟨b2, o2 + 1, none⟩) hb2).trans hcz
  have f1 : w1.cell? ⟨g, c, none⟩ = some (.bool ov) := (HB1.out.cell (p := ⟨g, c, none⟩) hg).trans hcell
  clear hov hcell hcz hc1 k21 k4 j3 k48 x1 HC HC2 H4 H21 HK
  go_enter Tryz.func34, Tryz.ntmps34
  go_upto_region 1 with fail
  rw [← hw1]
  clear hw1
  go_upto_region 7 with fail
  go_big_quiet (fail)
  go_wp2_with fail
  go_ret
  exact ⟨ret_bool HF.out.symm, HDN.out _⟩
end Go.Proofs.YteadglnenaiaaaaGreatDoor.W
