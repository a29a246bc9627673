import Derived.Test.YteadglnenaiaaaaGreatDoorK37
import Derived.Test.YteadglnenaiaaaaGreatDoorK29
import Derived.Deep.RegionWith
import Derived.Deep.QuietTactic
import Derived.BigQuiet
set_option linter.unusedVariables false
set_option linter.unusedSimpArgs false
namespace Go.Proofs.YteadglnenaiaaaaGreatDoor.W
open Go.RowKit
set_option maxRecDepth 8000 in
set_option maxHeartbeats 8000000 in
theorem isNamelessVoid_is {lo lo2 : Nat} (gc : Nat) (a : Option Addr) (len cap : Nat) (xs : List Pl.Nd) (x : Pl.Nd) (va : Option Addr) (vl vc : Nat) (c : Nat) (w : World) (hc : w.cell? ⟨gc, 0, none⟩ = some (.slice a len cap)) (hn : NRow lo w a len cap xs) (hk : Row .i64 lo2 w va vl vc x.kids) (hv : 1 ≤ vl) (hc1 : x.kids.getD 0 0 = (c : Int)) (hcl : c < len) :
    Calls Tryz.prog 56 #[.pointer (some ⟨gc, 0, none⟩), .agg #[.int .i64 x.k, .int .i64 x.m, .int .i64 x.n, .string x.s, .slice va vl vc, .int .i64 x.line, .int .i64 x.col]] w fun e w' => e = .returned (.bool (decide (x.s.size = 0 ∧ (Pl.nd xs c).k = 1 ∧ (Pl.nd xs c).n = 1))) ∧ Below w.heap.size w w' := by
  obtain ⟨R, hR⟩ : ∃ R, R = decide (x.s.size = 0 ∧ (Pl.nd xs c).k = 1 ∧ (Pl.nd xs c).n = 1) := ⟨_, rfl⟩
  rw [← hR]
  have HR : Hid (R = decide (x.s.size = 0 ∧ (Pl.nd xs c).k = 1 ∧ (Pl.nd xs c).n = 1)) := hR
  obtain ⟨b2, o2, hva, hb2, hcz⟩ := row_cellD hk (i := 0) (by omega)
  rw [hc1, Nat.add_zero] at hcz
  subst hva
  obtain ⟨b3, o3, v3, ha, _, hb3, hc3, _, _⟩ := hn.at hcl
  subst ha
  obtain ⟨va3, vl3, vc3⟩ := v3
  obtain ⟨z, hz⟩ : ∃ z, z = xs.getD c Pl.Nd.zero := ⟨_, rfl⟩
  have HZ : Hid (z = Pl.nd xs c) := hz
  rw [← hz] at hc3
  obtain ⟨d0, d1, d2, d3, d4, d5, d6⟩ := nd_cells hc3
  have hgc : gc < w.heap.size := block_lt_of_cell hc
  have hcll : (c : Int) < (len : Int) := by omega
  have hvi : (0 : Int) < (vl : Int) := by omega
  rw [← HZ.out] at HR
  clear hR hc3 hz hk hn hc1
  have key : ∀ o, (∀ p : Addr, p.block < w.heap.size → (w.alloc o).cell? p = w.cell? p) := fun o p hp => (below_alloc w o).cell hp
  obtain ⟨w1, hw1⟩ : ∃ w1 : World, w1 = w.alloc (.cells #[.int .i64 x.k, .int .i64 x.m, .int .i64 x.n, .string x.s, .slice (some ⟨b2, o2, none⟩) vl vc, .int .i64 x.line, .int .i64 x.col] 38) := ⟨_, rfl⟩
  have HB1 : Hid (Below w.heap.size w w1) := by rw [hw1]; exact below_alloc _ _
  have x1 : w1.heap[w.heap.size]? = some (.cells #[.int .i64 x.k, .int .i64 x.m, .int .i64 x.n, .string x.s, .slice (some ⟨b2, o2, none⟩) vl vc, .int .i64 x.line, .int .i64 x.col] 38 (0, 0)) := by rw [hw1]; exact heap_alloc_new w _
  have hz1 : w.heap.size < w1.heap.size := (Array.getElem?_eq_some_iff.1 x1).1
  have HX1 : Hid (w1.heap[w.heap.size]? = some (.cells #[.int .i64 x.k, .int .i64 x.m, .int .i64 x.n, .string x.s, .slice (some ⟨b2, o2, none⟩) vl vc, .int .i64 x.line, .int .i64 x.col] 38 (0, 0))) := x1
  have n4 : w1.cell? ⟨w.heap.size, 4, none⟩ = some (.slice (some ⟨b2, o2, none⟩) vl vc) := cell_of_row w1 _ 4 _ 38 (0, 0) x1
  have n3 : w1.cell? ⟨w.heap.size, 3, none⟩ = some (.string x.s) := cell_of_row w1 _ 3 _ 38 (0, 0) x1
  have e0 : w1.cell? ⟨b3, o3 + c * 7, none⟩ = some (.int .i64 z.k) := (HB1.out.cell (p := ⟨b3, o3 + c * 7, none⟩) hb3).trans d0
  have e1 : w1.cell? ⟨b3, o3 + c * 7 + 1, none⟩ = some (.int .i64 z.m) := (HB1.out.cell (p := ⟨b3, o3 + c * 7 + 1, none⟩) hb3).trans d1
  have e2 : w1.cell? ⟨b3, o3 + c * 7 + 2, none⟩ = some (.int .i64 z.n) := (HB1.out.cell (p := ⟨b3, o3 + c * 7 + 2, none⟩) hb3).trans d2
  have e3 : w1.cell? ⟨b3, o3 + c * 7 + 3, none⟩ = some (.string z.s) := (HB1.out.cell (p := ⟨b3, o3 + c * 7 + 3, none⟩) hb3).trans d3
  have e4 : w1.cell? ⟨b3, o3 + c * 7 + 4, none⟩ = some (.slice va3 vl3 vc3) := (HB1.out.cell (p := ⟨b3, o3 + c * 7 + 4, none⟩) hb3).trans d4
  have e5 : w1.cell? ⟨b3, o3 + c * 7 + 5, none⟩ = some (.int .i64 z.line) := (HB1.out.cell (p := ⟨b3, o3 + c * 7 + 5, none⟩) hb3).trans d5
  have e6 : w1.cell? ⟨b3, o3 + c * 7 + 6, none⟩ = some (.int .i64 z.col) := (HB1.out.cell (p := ⟨b3, o3 + c * 7 + 6, none⟩) hb3).trans d6
  have g0 : w1.cell? ⟨gc, 0, none⟩ = some (.slice (some ⟨b3, o3, none⟩) len cap) := (HB1.out.cell (p := ⟨gc, 0, none⟩) hgc).trans hc
  have f0 : w1.cell? ⟨b2, o2, none⟩ = some (.int .i64 (c : Int)) := (HB1.out.cell (p := ⟨b2, o2, none⟩) hb2).trans hcz
  have hb2' : b2 < w1.heap.size := by omega
  have hb3' : b3 < w1.heap.size := by omega
  have hgc' : gc < w1.heap.size := by omega
  clear d0 d1 d2 d3 d4 d5 d6 hc hcz key x1
  go_enter Tryz.func56, Tryz.ntmps56
  go_upto_region 1 with fail
  rw [← hw1]
  clear hw1
  go_cut [5] from 6 to 15 (fun s5 wx => s5 = .pointer (some ⟨w1.heap.size, 0, none⟩) ∧ wx.heap[w1.heap.size]? = some (.cells #[.int .i64 z.k, .int .i64 z.m, .int .i64 z.n, .string z.s, .slice va3 vl3 vc3, .int .i64 z.line, .int .i64 z.col] 38 (0, 0)) ∧ Below w1.heap.size w1 wx)
  case first =>
    go_region_with (fail)
    all_goals
      go_wp2_with fail
      go_meet
      exact ⟨rfl, heap_alloc_new w1 _, (below_alloc _ _).drew⟩
  case rest =>
  obtain ⟨rfl, hx5, hb5⟩ := hcut
  obtain ⟨y, rfl⟩ : ∃ y : World, y = wc := ⟨_, rfl⟩
  have m3 : y.cell? ⟨w.heap.size, 3, none⟩ = some (.string x.s) := (hb5.cell (p := ⟨w.heap.size, 3, none⟩) hz1).trans n3
  have z0 : y.cell? ⟨w1.heap.size, 0, none⟩ = some (.int .i64 z.k) := cell_of_row y _ 0 _ 38 (0, 0) hx5
  have z2 : y.cell? ⟨w1.heap.size, 2, none⟩ = some (.int .i64 z.n) := cell_of_row y _ 2 _ 38 (0, 0) hx5
  have HBF : Hid (Below w.heap.size w y) := HB1.out.trans (hb5.mono (by omega))
  clear hx5 hb5 n3 n4 e0 e1 e2 e3 e4 e5 e6 f0 g0
  by_cases s0 : x.s.size = 0
  rotate_left
  · have s0e : x.s.toList.isEmpty = false := by rw [← Bool.not_eq_true, List.isEmpty_iff, Pl.nil_iff]; exact s0
    have s0b : (x.s.toList == []) = false := by simpa using fun q => s0 ((Pl.nil_iff _).mp q)
    have HF : Hid (R = false) := by show R = false; rw [HR.out]; exact decide_eq_false fun q => s0 q.1
    clear s0
    go_wp2_with fail
    go_ret
    exact ⟨ret_bool HF.out.symm, HBF.out⟩
  have s0e : x.s.toList.isEmpty = true := by rw [List.isEmpty_iff, Pl.nil_iff]; exact s0
  have s0b : (x.s.toList == []) = true := by simpa using (Pl.nil_iff _).mpr s0
  by_cases q1 : z.k = 1
  rotate_left
  · have q1b : (z.k == 1) = false := by simpa using q1
    have HF : Hid (R = false) := by show R = false; rw [HR.out]; exact decide_eq_false fun q => q1 q.2.1
    clear q1
    go_wp2_with fail
    go_ret
    exact ⟨ret_bool HF.out.symm, HBF.out⟩
  have q1b : (z.k == 1) = true := by simpa using q1
  by_cases q2 : z.n = 1
  · have q2b : (z.n == 1) = true := by simpa using q2
    have HF : Hid (R = true) := by show R = true; rw [HR.out]; exact decide_eq_true ⟨s0, q1, q2⟩
    clear q1 q2
    go_wp2_with fail
    go_ret
    exact ⟨ret_bool HF.out.symm, HBF.out⟩
  · have q2b : (z.n == 1) = false := by simpa using q2
    have HF : Hid (R = false) := by show R = false; rw [HR.out]; exact decide_eq_false fun q => q2 q.2.2
    clear q1 q2
    go_wp2_with fail
    go_ret
    exact ⟨ret_bool HF.out.symm, HBF.out⟩
set_option maxRecDepth 8000 in
set_option maxHeartbeats 8000000 in
theorem isOpen_is {lo : Nat} (gc : Nat) (ob : Option Addr) (ol oc : Nat) (o : List Bool) (x : Pl.Nd) (va : Option Addr) (vl vc : Nat) (w : World) (hc : w.cell? ⟨gc, 2, none⟩ = some (.slice ob ol oc)) (hk : Row .i64 lo w va vl vc x.kids) (hlast : Pl.lastB x.k = true → ∃ c : Nat, 1 ≤ vl ∧ x.kids.getD (vl - 1) 0 = (c : Int) ∧ c < ol ∧ ∃ g, ob = some ⟨g, 0, none⟩ ∧ g < w.heap.size ∧ w.cell? ⟨g, c, none⟩ = some (.bool (o.getD c false))) :
    Calls Tryz.prog 35 #[.pointer (some ⟨gc, 0, none⟩), .agg #[.int .i64 x.k, .int .i64 x.m, .int .i64 x.n, .string x.s, .slice va vl vc, .int .i64 x.line, .int .i64 x.col]] w fun e w' => e = .returned (.bool (Pl.opN o x)) ∧ Below w.heap.size w w' := by
  obtain ⟨R, hR⟩ : ∃ R, R = Pl.opN o x := ⟨_, rfl⟩
  rw [← hR]
  have HR : Hid (R = Pl.opN o x) := hR
  have HVL : Hid (x.kids.length = vl) := hk.1
  have HK : Hid (Row .i64 lo w va vl vc x.kids) := hk
  have hvl : (vl : Int) ≤ 9223372036854775807 := by have := hk.small; omega
  have hgc : gc < w.heap.size := block_lt_of_cell hc
  have HC : Hid (w.cell? ⟨gc, 2, none⟩ = some (.slice ob ol oc)) := hc
  have HL : Hid (Pl.lastB x.k = true → ∃ c : Nat, 1 ≤ vl ∧ x.kids.getD (vl - 1) 0 = (c : Int) ∧ c < ol ∧ ∃ g, ob = some ⟨g, 0, none⟩ ∧ g < w.heap.size ∧ w.cell? ⟨g, c, none⟩ = some (.bool (o.getD c false))) := hlast
  clear hR hk hlast hc
  by_cases kA : x.k = 21 ∧ vl = 2
  · obtain ⟨k21, j2⟩ := kA
    have k21b : (x.k == 21) = true := by simpa using k21
    have j2b : ((vl : Int) == 2) = true := by simp; omega
    have HF : Hid (R = true) := by
      show R = true
      rw [HR.out]; unfold Pl.opN
      rw [decide_eq_true k21, decide_eq_true (by rw [HVL.out]; exact j2)]; rfl
    clear k21 j2
    go_enter Tryz.func35, Tryz.ntmps35
    go_wp2_with fail
    go_ret
    exact ⟨ret_bool HF.out.symm, below_alloc _ _⟩
  have HNA : Hid ((decide (x.k = 21) && decide (x.kids.length = 2)) = false) := by
    show (decide (x.k = 21) && decide (x.kids.length = 2)) = false
    rw [HVL.out]
    simp only [Bool.and_eq_false_iff, decide_eq_false_iff_not]
    omega
  by_cases hla : Pl.lastB x.k = true
  rotate_left
  · have HF : Hid (R = false) := by
      show R = false
      rw [HR.out]; unfold Pl.opN
      have e2 : decide (x.k = 21 ∨ x.k = 22 ∨ (24 ≤ x.k ∧ x.k ≤ 28)) = false := Bool.not_eq_true _ ▸ hla
      rw [HNA.out, e2]; rfl
    have hno : ¬ (x.k = 21 ∨ x.k = 22 ∨ (24 ≤ x.k ∧ x.k ≤ 28)) := fun q => hla (decide_eq_true q)
    have n21 : (x.k == 21) = false := by simp; omega
    have n22 : (x.k == 22) = false := by simp; omega
    have n24 : (x.k == 24) = false := by simp; omega
    have n25 : (x.k == 25) = false := by simp; omega
    have n26 : (x.k == 26) = false := by simp; omega
    have n27 : (x.k == 27) = false := by simp; omega
    have n28 : (x.k == 28) = false := by simp; omega
    clear hla hno kA
    go_enter Tryz.func35, Tryz.ntmps35
    go_wp2_with fail
    go_ret
    exact ⟨ret_bool HF.out.symm, below_alloc _ _⟩
  obtain ⟨c, hv1, hc1, hcl, g, hob, hg, hcell⟩ := HL.out hla
  obtain ⟨q, hq⟩ : ∃ q : Nat, (vl : Int) - 1 = (q : Int) := ⟨vl - 1, by omega⟩
  have hqw : IntKind.i64.wrap ((vl : Int) - 1) = (q : Int) := by rw [IntKind.wrap_i64]; omega
  have hqv : q < vl := by omega
  have hqv2 : (q : Int) < (vl : Int) := by omega
  have hcli : (c : Int) < (ol : Int) := by omega
  have hqe : vl - 1 = q := by omega
  rw [hqe] at hc1
  obtain ⟨b2, o2, hva, hb2, hcz⟩ := row_cellD HK.out hqv
  rw [hc1] at hcz
  subst hva
  subst hob
  have HF : Hid (R = o.getD c false) := by
    show R = _
    rw [HR.out]; unfold Pl.opN
    have e2 : decide (x.k = 21 ∨ x.k = 22 ∨ (24 ≤ x.k ∧ x.k ≤ 28)) = true := hla
    have e1 : x.kids.length - 1 = q := by rw [HVL.out]; exact hqe
    rw [HNA.out, e1, hc1, Int.toNat_natCast, e2]; simp
  obtain ⟨w1, hw1⟩ : ∃ w1 : World, w1 = w.alloc (.cells #[.int .i64 x.k, .int .i64 x.m, .int .i64 x.n, .string x.s, .slice (some ⟨b2, o2, none⟩) vl vc, .int .i64 x.line, .int .i64 x.col] 38) := ⟨_, rfl⟩
  have HB1 : Hid (Below w.heap.size w w1) := by rw [hw1]; exact below_alloc _ _
  have x1 : w1.heap[w.heap.size]? = some (.cells #[.int .i64 x.k, .int .i64 x.m, .int .i64 x.n, .string x.s, .slice (some ⟨b2, o2, none⟩) vl vc, .int .i64 x.line, .int .i64 x.col] 38 (0, 0)) := by rw [hw1]; exact heap_alloc_new w _
  have n0 : w1.cell? ⟨w.heap.size, 0, none⟩ = some (.int .i64 x.k) := cell_of_row w1 _ 0 _ 38 (0, 0) x1
  have n4 : w1.cell? ⟨w.heap.size, 4, none⟩ = some (.slice (some ⟨b2, o2, none⟩) vl vc) := cell_of_row w1 _ 4 _ 38 (0, 0) x1
  have g2 : w1.cell? ⟨gc, 2, none⟩ = some (.slice (some ⟨g, 0, none⟩) ol oc) := (HB1.out.cell (p := ⟨gc, 2, none⟩) hgc).trans HC.out
  have f0 : w1.cell? ⟨b2, o2 + q, none⟩ = some (.int .i64 (c : Int)) := (HB1.out.cell (p := ⟨b2, o2 + q, none⟩) hb2).trans hcz
  have f1 : w1.cell? ⟨g, c, none⟩ = some (.bool (o.getD c false)) := (HB1.out.cell (p := ⟨g, c, none⟩) hg).trans hcell
  obtain ⟨ov, hov⟩ : ∃ ov, ov = o.getD c false := ⟨_, rfl⟩
  rw [← hov] at f1 HF
  have HDN : Hid (∀ n, Below w.heap.size w (w1.drewN n)) := fun n => below_drewN HB1.out n
  have HLA : Hid (x.k = 21 ∨ x.k = 22 ∨ (24 ≤ x.k ∧ x.k ≤ 28)) := by
    show x.k = 21 ∨ x.k = 22 ∨ (24 ≤ x.k ∧ x.k ≤ 28)
    exact of_decide_eq_true hla
  have HKA : Hid (¬ (x.k = 21 ∧ vl = 2)) := kA
  clear hov hcell hcz hqe hc1 hla kA x1 HC
  by_cases k21 : x.k = 21
  · have k21b : (x.k == 21) = true := by simpa using k21
    have j2b : ((vl : Int) == 2) = false := by have := HKA.out; simp; omega
    clear k21
    go_enter Tryz.func35, Tryz.ntmps35
    go_upto_region 1 with fail
    rw [← hw1]
    clear hw1
    go_upto_region 12 with fail
    go_big_quiet (fail)
    go_wp2_with fail
    go_ret
    exact ⟨ret_bool HF.out.symm, HDN.out _⟩
  by_cases k22 : x.k = 22
  · have k22b : (x.k == 22) = true := by simpa using k22
    have n21 : (x.k == 21) = false := by simp; omega
    clear k22
    go_enter Tryz.func35, Tryz.ntmps35
    go_upto_region 1 with fail
    rw [← hw1]
    clear hw1
    go_upto_region 12 with fail
    go_big_quiet (fail)
    go_wp2_with fail
    go_ret
    exact ⟨ret_bool HF.out.symm, HDN.out _⟩
  by_cases k24 : x.k = 24
  · have k24b : (x.k == 24) = true := by simpa using k24
    have n21 : (x.k == 21) = false := by simp; omega
    have n22 : (x.k == 22) = false := by simp; omega
    clear k24
    go_enter Tryz.func35, Tryz.ntmps35
    go_upto_region 1 with fail
    rw [← hw1]
    clear hw1
    go_upto_region 12 with fail
    go_big_quiet (fail)
    go_wp2_with fail
    go_ret
    exact ⟨ret_bool HF.out.symm, HDN.out _⟩
  by_cases k25 : x.k = 25
  · have k25b : (x.k == 25) = true := by simpa using k25
    have n21 : (x.k == 21) = false := by simp; omega
    have n22 : (x.k == 22) = false := by simp; omega
    have n24 : (x.k == 24) = false := by simp; omega
    clear k25
    go_enter Tryz.func35, Tryz.ntmps35
    go_upto_region 1 with fail
    rw [← hw1]
    clear hw1
    go_upto_region 12 with fail
    go_big_quiet (fail)
    go_wp2_with fail
    go_ret
    exact ⟨ret_bool HF.out.symm, HDN.out _⟩
  by_cases k26 : x.k = 26
  · have k26b : (x.k == 26) = true := by simpa using k26
    have n21 : (x.k == 21) = false := by simp; omega
    have n22 : (x.k == 22) = false := by simp; omega
    have n24 : (x.k == 24) = false := by simp; omega
    have n25 : (x.k == 25) = false := by simp; omega
    clear k26
    go_enter Tryz.func35, Tryz.ntmps35
    go_upto_region 1 with fail
    rw [← hw1]
    clear hw1
    go_upto_region 12 with fail
    go_big_quiet (fail)
    go_wp2_with fail
    go_ret
    exact ⟨ret_bool HF.out.symm, HDN.out _⟩
  by_cases k27 : x.k = 27
  · have k27b : (x.k == 27) = true := by simpa using k27
    have n21 : (x.k == 21) = false := by simp; omega
    have n22 : (x.k == 22) = false := by simp; omega
    have n24 : (x.k == 24) = false := by simp; omega
    have n25 : (x.k == 25) = false := by simp; omega
    have n26 : (x.k == 26) = false := by simp; omega
    clear k27
    go_enter Tryz.func35, Tryz.ntmps35
    go_upto_region 1 with fail
    rw [← hw1]
    clear hw1
    go_upto_region 12 with fail
    go_big_quiet (fail)
    go_wp2_with fail
    go_ret
    exact ⟨ret_bool HF.out.symm, HDN.out _⟩
  by_cases k28 : x.k = 28
  · have k28b : (x.k == 28) = true := by simpa using k28
    have n21 : (x.k == 21) = false := by simp; omega
    have n22 : (x.k == 22) = false := by simp; omega
    have n24 : (x.k == 24) = false := by simp; omega
    have n25 : (x.k == 25) = false := by simp; omega
    have n26 : (x.k == 26) = false := by simp; omega
    have n27 : (x.k == 27) = false := by simp; omega
    clear k28
    go_enter Tryz.func35, Tryz.ntmps35
    go_upto_region 1 with fail
    rw [← hw1]
    clear hw1
    go_upto_region 12 with fail
    go_big_quiet (fail)
    go_wp2_with fail
    go_ret
    exact ⟨ret_bool HF.out.symm, HDN.out _⟩
  exfalso
  have := HLA.out
  omega
end Go.Proofs.YteadglnenaiaaaaGreatDoor.W
