import Derived.Test.YtgpmplcamdophaaDoorLnB
import Derived.Deep.Cut
import Derived.Deep.Light
import Derived.Test.YtgpmplcamdophaaDoorSl
import Derived.Deep.RegionWith
import Derived.Deep.QuietTactic
import Derived.BigQuiet
set_option linter.unusedVariables false
set_option linter.unusedSimpArgs false
namespace Go.Proofs.YtgpmplcamdophaaDoor.W
open Go.RowKit
set_option maxRecDepth 20000 in
set_option maxHeartbeats 4000000 in
theorem specLine_1 (op rd r1 r2 im n : Int) (s : ByteArray) (w : World) : Calls Tryd.prog 19 #[.agg #[.int .i64 1, .int .i64 op, .int .i64 rd, .int .i64 r1, .int .i64 r2, .int .i64 im, .string s, .int .i64 n]] w fun e w' => e = .returned (.bool (Pl.sy s true && decide (0 ≤ n ∧ n ≤ 0) && (Pl.onlyRegs op rd r1 r2 im false false))) ∧ Below w.heap.size w w' := by
  obtain ⟨R, hR⟩ : ∃ R, R = (Pl.sy s true && decide (0 ≤ n ∧ n ≤ 0) && (Pl.onlyRegs op rd r1 r2 im false false)) := ⟨_, rfl⟩
  rw [← hR]
  have HR : Hid (R = (Pl.sy s true && decide (0 ≤ n ∧ n ≤ 0) && (Pl.onlyRegs op rd r1 r2 im false false))) := hR
  clear hR
  go_enter Tryd.func19, Tryd.ntmps19
  go_wp2_with fail
  refine (l4Regs_any _ _ _ _ _ _ _ _).mono ?_
  rintro e u1 ⟨rfl, d1⟩
  have hr := kept_row d1; have kl1 : ∀ j, u1.cell? ⟨w.heap.size, j, none⟩ = (#[.int .i64 1, .int .i64 op, .int .i64 rd, .int .i64 r1, .int .i64 r2, .int .i64 im, .string s, .int .i64 n] : Array Value)[j]? := (fun j => cell_of_row u1 w.heap.size j _ 46 (0, 0) hr); have B1 : Hid (Below w.heap.size w u1) := ((Below.refl _ _).alloc (Nat.le_refl _) _).trans (d1.mono (by simp)); have Z1 : Hid (w.heap.size < u1.heap.size) := (by have := d1.size; simp at this; show w.heap.size < u1.heap.size; omega); clear d1 hr
  obtain ⟨z0, hz0⟩ : ∃ z, z = Pl.onlyRegs op rd r1 r2 im false false := ⟨_, rfl⟩
  rw [← hz0]
  have HZ : Hid (z0 = Pl.onlyRegs op rd r1 r2 im false false) := hz0
  clear hz0
  cases hl : Pl.lab s <;> cases z0
  all_goals
    go_wp2_with (first | (go_at_call 31; refine (l4NameOk_any _ _).mono ?_; rintro e u3 ⟨rfl, h3⟩; rw [h3, hl]; clear h3))
    all_goals
      go_ret
      refine ⟨ret_bool (Eq.trans ?_ HR.out.symm), (by first | exact B2.out | exact B1.out)⟩
      have hz0 := HZ.out.symm
      go_light
      clear kl1 HR HZ
      (try clear kl2)
      first
        | (rw [decide_eq_false (p := 0 ≤ n ∧ n ≤ 0) (by omega)]; simp; done)
        | (rw [decide_eq_true (p := 0 ≤ n ∧ n ≤ 0) (by omega)]; simp_all [Pl.sy]; done)
        | (simp_all [Pl.sy]; done)
        | (simp_all [Pl.sy] <;> omega)
        | (rw [Bool.eq_iff_iff]; simp_all [Pl.sy] <;> omega)
set_option maxRecDepth 20000 in
set_option maxHeartbeats 4000000 in
theorem specLine_7 (op rd r1 r2 im n : Int) (s : ByteArray) (w : World) : Calls Tryd.prog 19 #[.agg #[.int .i64 7, .int .i64 op, .int .i64 rd, .int .i64 r1, .int .i64 r2, .int .i64 im, .string s, .int .i64 n]] w fun e w' => e = .returned (.bool (Pl.sy s true && decide (0 ≤ n ∧ n ≤ 0) && (Pl.onlyRegs op rd r1 r2 im false false))) ∧ Below w.heap.size w w' := by
  obtain ⟨R, hR⟩ : ∃ R, R = (Pl.sy s true && decide (0 ≤ n ∧ n ≤ 0) && (Pl.onlyRegs op rd r1 r2 im false false)) := ⟨_, rfl⟩
  rw [← hR]
  have HR : Hid (R = (Pl.sy s true && decide (0 ≤ n ∧ n ≤ 0) && (Pl.onlyRegs op rd r1 r2 im false false))) := hR
  clear hR
  go_enter Tryd.func19, Tryd.ntmps19
  go_wp2_with fail
  refine (l4Regs_any _ _ _ _ _ _ _ _).mono ?_
  rintro e u1 ⟨rfl, d1⟩
  have hr := kept_row d1; have kl1 : ∀ j, u1.cell? ⟨w.heap.size, j, none⟩ = (#[.int .i64 7, .int .i64 op, .int .i64 rd, .int .i64 r1, .int .i64 r2, .int .i64 im, .string s, .int .i64 n] : Array Value)[j]? := (fun j => cell_of_row u1 w.heap.size j _ 46 (0, 0) hr); have B1 : Hid (Below w.heap.size w u1) := ((Below.refl _ _).alloc (Nat.le_refl _) _).trans (d1.mono (by simp)); have Z1 : Hid (w.heap.size < u1.heap.size) := (by have := d1.size; simp at this; show w.heap.size < u1.heap.size; omega); clear d1 hr
  obtain ⟨z0, hz0⟩ : ∃ z, z = Pl.onlyRegs op rd r1 r2 im false false := ⟨_, rfl⟩
  rw [← hz0]
  have HZ : Hid (z0 = Pl.onlyRegs op rd r1 r2 im false false) := hz0
  clear hz0
  cases hl : Pl.lab s <;> cases z0
  all_goals
    go_wp2_with (first | (go_at_call 31; refine (l4NameOk_any _ _).mono ?_; rintro e u3 ⟨rfl, h3⟩; rw [h3, hl]; clear h3))
    all_goals
      go_ret
      refine ⟨ret_bool (Eq.trans ?_ HR.out.symm), (by first | exact B2.out | exact B1.out)⟩
      have hz0 := HZ.out.symm
      go_light
      clear kl1 HR HZ
      (try clear kl2)
      first
        | (rw [decide_eq_false (p := 0 ≤ n ∧ n ≤ 0) (by omega)]; simp; done)
        | (rw [decide_eq_true (p := 0 ≤ n ∧ n ≤ 0) (by omega)]; simp_all [Pl.sy]; done)
        | (simp_all [Pl.sy]; done)
        | (simp_all [Pl.sy] <;> omega)
        | (rw [Bool.eq_iff_iff]; simp_all [Pl.sy] <;> omega)
set_option maxRecDepth 20000 in
set_option maxHeartbeats 4000000 in
theorem specLine_8 (op rd r1 r2 im n : Int) (s : ByteArray) (w : World) : Calls Tryd.prog 19 #[.agg #[.int .i64 8, .int .i64 op, .int .i64 rd, .int .i64 r1, .int .i64 r2, .int .i64 im, .string s, .int .i64 n]] w fun e w' => e = .returned (.bool (Pl.sy s true && decide (0 ≤ n ∧ n ≤ 0) && (Pl.onlyRegs op rd r1 r2 im false false))) ∧ Below w.heap.size w w' := by
  obtain ⟨R, hR⟩ : ∃ R, R = (Pl.sy s true && decide (0 ≤ n ∧ n ≤ 0) && (Pl.onlyRegs op rd r1 r2 im false false)) := ⟨_, rfl⟩
  rw [← hR]
  have HR : Hid (R = (Pl.sy s true && decide (0 ≤ n ∧ n ≤ 0) && (Pl.onlyRegs op rd r1 r2 im false false))) := hR
  clear hR
  go_enter Tryd.func19, Tryd.ntmps19
  go_wp2_with fail
  refine (l4Regs_any _ _ _ _ _ _ _ _).mono ?_
  rintro e u1 ⟨rfl, d1⟩
  have hr := kept_row d1; have kl1 : ∀ j, u1.cell? ⟨w.heap.size, j, none⟩ = (#[.int .i64 8, .int .i64 op, .int .i64 rd, .int .i64 r1, .int .i64 r2, .int .i64 im, .string s, .int .i64 n] : Array Value)[j]? := (fun j => cell_of_row u1 w.heap.size j _ 46 (0, 0) hr); have B1 : Hid (Below w.heap.size w u1) := ((Below.refl _ _).alloc (Nat.le_refl _) _).trans (d1.mono (by simp)); have Z1 : Hid (w.heap.size < u1.heap.size) := (by have := d1.size; simp at this; show w.heap.size < u1.heap.size; omega); clear d1 hr
  obtain ⟨z0, hz0⟩ : ∃ z, z = Pl.onlyRegs op rd r1 r2 im false false := ⟨_, rfl⟩
  rw [← hz0]
  have HZ : Hid (z0 = Pl.onlyRegs op rd r1 r2 im false false) := hz0
  clear hz0
  cases hl : Pl.lab s <;> cases z0
  all_goals
    go_wp2_with (first | (go_at_call 31; refine (l4NameOk_any _ _).mono ?_; rintro e u3 ⟨rfl, h3⟩; rw [h3, hl]; clear h3))
    all_goals
      go_ret
      refine ⟨ret_bool (Eq.trans ?_ HR.out.symm), (by first | exact B2.out | exact B1.out)⟩
      have hz0 := HZ.out.symm
      go_light
      clear kl1 HR HZ
      (try clear kl2)
      first
        | (rw [decide_eq_false (p := 0 ≤ n ∧ n ≤ 0) (by omega)]; simp; done)
        | (rw [decide_eq_true (p := 0 ≤ n ∧ n ≤ 0) (by omega)]; simp_all [Pl.sy]; done)
        | (simp_all [Pl.sy]; done)
        | (simp_all [Pl.sy] <;> omega)
        | (rw [Bool.eq_iff_iff]; simp_all [Pl.sy] <;> omega)
set_option maxRecDepth 20000 in
set_option maxHeartbeats 4000000 in
theorem specLine_no (k : Int) (h : k < 1 ∨ 16 < k) (op rd r1 r2 im n : Int) (s : ByteArray) (w : World) : Calls Tryd.prog 19 #[.agg #[.int .i64 k, .int .i64 op, .int .i64 rd, .int .i64 r1, .int .i64 r2, .int .i64 im, .string s, .int .i64 n]] w fun e w' => e = .returned (.bool false) ∧ Below w.heap.size w w' := by
  go_enter Tryd.func19, Tryd.ntmps19
  go_wp2_with fail
  refine (l4Regs_any _ _ _ _ _ _ _ _).mono ?_
  rintro e u1 ⟨rfl, d1⟩
  have hr := kept_row d1
  have kl1 : ∀ j, u1.cell? ⟨w.heap.size, j, none⟩ = (#[.int .i64 k, .int .i64 op, .int .i64 rd, .int .i64 r1, .int .i64 r2, .int .i64 im, .string s, .int .i64 n] : Array Value)[j]? := fun j => cell_of_row u1 w.heap.size j _ 46 (0, 0) hr
  have B1 : Hid (Below w.heap.size w u1) := ((Below.refl _ _).alloc (Nat.le_refl _) _).trans (d1.mono (by simp))
  clear d1 hr
  have k1 : (k == 1) = false := by rw [beq_eq_false_iff_ne]; omega
  have k2 : (k == 2) = false := by rw [beq_eq_false_iff_ne]; omega
  have k3 : (k == 3) = false := by rw [beq_eq_false_iff_ne]; omega
  have k4 : (k == 4) = false := by rw [beq_eq_false_iff_ne]; omega
  have k5 : (k == 5) = false := by rw [beq_eq_false_iff_ne]; omega
  have k6 : (k == 6) = false := by rw [beq_eq_false_iff_ne]; omega
  have k7 : (k == 7) = false := by rw [beq_eq_false_iff_ne]; omega
  have k8 : (k == 8) = false := by rw [beq_eq_false_iff_ne]; omega
  have k9 : (k == 9) = false := by rw [beq_eq_false_iff_ne]; omega
  have k10 : (k == 10) = false := by rw [beq_eq_false_iff_ne]; omega
  have k11 : (k == 11) = false := by rw [beq_eq_false_iff_ne]; omega
  have k12 : (k == 12) = false := by rw [beq_eq_false_iff_ne]; omega
  have k13 : (k == 13) = false := by rw [beq_eq_false_iff_ne]; omega
  have k14 : (k == 14) = false := by rw [beq_eq_false_iff_ne]; omega
  have k15 : (k == 15) = false := by rw [beq_eq_false_iff_ne]; omega
  have k16 : (k == 16) = false := by rw [beq_eq_false_iff_ne]; omega
  rcases h with h | h
  · have hA : decide (k < 12) = true := decide_eq_true (by omega)
    clear h
    cases hie : s.toList.isEmpty <;> cases hz : Pl.onlyRegs op rd r1 r2 im false false
    all_goals
      go_wp2
      go_ret
      exact ⟨rfl, B1.out⟩
  · have hA : decide (k < 12) = false := decide_eq_false (by omega)
    have hB : decide (15 < k) = true := decide_eq_true (by omega)
    clear h
    cases hie : s.toList.isEmpty <;> cases hz : Pl.onlyRegs op rd r1 r2 im false false
    all_goals
      go_wp2
      go_ret
      exact ⟨rfl, B1.out⟩
end Go.Proofs.YtgpmplcamdophaaDoor.W
namespace Go.Proofs.YtgpmplcamdophaaDoor.W
open Go.RowKit
set_option maxRecDepth 20000 in
set_option maxHeartbeats 4000000 in
theorem specLine_4 (op rd r1 r2 im n : Int) (s : ByteArray) (w : World) : Calls Tryd.prog 19 #[.agg #[.int .i64 4, .int .i64 op, .int .i64 rd, .int .i64 r1, .int .i64 r2, .int .i64 im, .string s, .int .i64 n]] w fun e w' => e = .returned (.bool (Pl.sy s false && decide (0 ≤ n ∧ n ≤ 4294967295) && (Pl.onlyRegs op rd r1 r2 im true false))) ∧ Below w.heap.size w w' := by
  obtain ⟨R, hR⟩ : ∃ R, R = (Pl.sy s false && decide (0 ≤ n ∧ n ≤ 4294967295) && (Pl.onlyRegs op rd r1 r2 im true false)) := ⟨_, rfl⟩
  rw [← hR]
  have HR : Hid (R = (Pl.sy s false && decide (0 ≤ n ∧ n ≤ 4294967295) && (Pl.onlyRegs op rd r1 r2 im true false))) := hR
  clear hR
  go_enter Tryd.func19, Tryd.ntmps19
  go_wp2_with fail
  refine (l4Regs_any _ _ _ _ _ _ _ _).mono ?_
  rintro e u1 ⟨rfl, d1⟩
  have hr := kept_row d1; have kl1 : ∀ j, u1.cell? ⟨w.heap.size, j, none⟩ = (#[.int .i64 4, .int .i64 op, .int .i64 rd, .int .i64 r1, .int .i64 r2, .int .i64 im, .string s, .int .i64 n] : Array Value)[j]? := (fun j => cell_of_row u1 w.heap.size j _ 46 (0, 0) hr); have B1 : Hid (Below w.heap.size w u1) := ((Below.refl _ _).alloc (Nat.le_refl _) _).trans (d1.mono (by simp)); have Z1 : Hid (w.heap.size < u1.heap.size) := (by have := d1.size; simp at this; show w.heap.size < u1.heap.size; omega); clear d1 hr
  obtain ⟨z0, hz0⟩ : ∃ z, z = Pl.onlyRegs op rd r1 r2 im false false := ⟨_, rfl⟩
  rw [← hz0]
  have HZ : Hid (z0 = Pl.onlyRegs op rd r1 r2 im false false) := hz0
  clear hz0
  cases hie : s.toList.isEmpty <;> cases hz : Pl.onlyRegs op rd r1 r2 im true false
  all_goals
    go_wp2_with (first | (go_at_call 28; refine (l4Regs_any _ _ _ _ _ _ _ _).mono ?_; rintro e u2 ⟨rfl, d2⟩; rw [hz]; have kl2 : ∀ j, u2.cell? ⟨w.heap.size, j, none⟩ = (#[.int .i64 4, .int .i64 op, .int .i64 rd, .int .i64 r1, .int .i64 r2, .int .i64 im, .string s, .int .i64 n] : Array Value)[j]? := (fun j => (d2.cell (p := ⟨w.heap.size, j, none⟩) Z1.out).trans (kl1 j)); have B2 : Hid (Below w.heap.size w u2) := B1.out.trans (d2.mono B1.out.size); have Z2 : Hid (w.heap.size < u2.heap.size) := Nat.lt_of_lt_of_le Z1.out d2.size; clear d2) | (go_at_call 32; refine (l3WordOk_at _ _).mono ?_; rintro e u3 ⟨rfl, h3⟩; rw [h3]; clear h3))
    all_goals
      go_ret
      refine ⟨ret_bool (Eq.trans ?_ HR.out.symm), (by first | exact B2.out | exact B1.out)⟩
      have hz0 := HZ.out.symm
      go_light
      clear kl1 HR HZ
      (try clear kl2)
      first
        | (rw [decide_eq_false (p := 0 ≤ n ∧ n ≤ 4294967295) (by omega)]; simp; done)
        | (rw [decide_eq_true (p := 0 ≤ n ∧ n ≤ 4294967295) (by omega)]; simp_all [Pl.sy, Pl.emp]; done)
        | (simp_all [Pl.sy, Pl.emp]; done)
        | (simp_all [Pl.sy, Pl.emp] <;> omega)
        | (rw [Bool.eq_iff_iff]; simp_all [Pl.sy, Pl.emp] <;> omega)
set_option maxRecDepth 20000 in
set_option maxHeartbeats 4000000 in
theorem specLine_5 (op rd r1 r2 im n : Int) (s : ByteArray) (w : World) : Calls Tryd.prog 19 #[.agg #[.int .i64 5, .int .i64 op, .int .i64 rd, .int .i64 r1, .int .i64 r2, .int .i64 im, .string s, .int .i64 n]] w fun e w' => e = .returned (.bool (Pl.sy s true && decide ((-2147483648) ≤ n ∧ n ≤ 2147483647) && (Pl.onlyRegs op rd r1 r2 im true false))) ∧ Below w.heap.size w w' := by
  obtain ⟨R, hR⟩ : ∃ R, R = (Pl.sy s true && decide ((-2147483648) ≤ n ∧ n ≤ 2147483647) && (Pl.onlyRegs op rd r1 r2 im true false)) := ⟨_, rfl⟩
  rw [← hR]
  have HR : Hid (R = (Pl.sy s true && decide ((-2147483648) ≤ n ∧ n ≤ 2147483647) && (Pl.onlyRegs op rd r1 r2 im true false))) := hR
  clear hR
  go_enter Tryd.func19, Tryd.ntmps19
  go_wp2_with fail
  refine (l4Regs_any _ _ _ _ _ _ _ _).mono ?_
  rintro e u1 ⟨rfl, d1⟩
  have hr := kept_row d1; have kl1 : ∀ j, u1.cell? ⟨w.heap.size, j, none⟩ = (#[.int .i64 5, .int .i64 op, .int .i64 rd, .int .i64 r1, .int .i64 r2, .int .i64 im, .string s, .int .i64 n] : Array Value)[j]? := (fun j => cell_of_row u1 w.heap.size j _ 46 (0, 0) hr); have B1 : Hid (Below w.heap.size w u1) := ((Below.refl _ _).alloc (Nat.le_refl _) _).trans (d1.mono (by simp)); have Z1 : Hid (w.heap.size < u1.heap.size) := (by have := d1.size; simp at this; show w.heap.size < u1.heap.size; omega); clear d1 hr
  obtain ⟨z0, hz0⟩ : ∃ z, z = Pl.onlyRegs op rd r1 r2 im false false := ⟨_, rfl⟩
  rw [← hz0]
  have HZ : Hid (z0 = Pl.onlyRegs op rd r1 r2 im false false) := hz0
  clear hz0
  cases hl : Pl.lab s <;> cases hz : Pl.onlyRegs op rd r1 r2 im true false
  all_goals
    go_wp2_with (first | (go_at_call 31; refine (l4NameOk_any _ _).mono ?_; rintro e u3 ⟨rfl, h3⟩; rw [h3, hl]; clear h3) | (go_at_call 28; refine (l4Regs_any _ _ _ _ _ _ _ _).mono ?_; rintro e u2 ⟨rfl, d2⟩; rw [hz]; have kl2 : ∀ j, u2.cell? ⟨w.heap.size, j, none⟩ = (#[.int .i64 5, .int .i64 op, .int .i64 rd, .int .i64 r1, .int .i64 r2, .int .i64 im, .string s, .int .i64 n] : Array Value)[j]? := (fun j => (d2.cell (p := ⟨w.heap.size, j, none⟩) Z1.out).trans (kl1 j)); have B2 : Hid (Below w.heap.size w u2) := B1.out.trans (d2.mono B1.out.size); have Z2 : Hid (w.heap.size < u2.heap.size) := Nat.lt_of_lt_of_le Z1.out d2.size; clear d2) | (go_at_call 33; refine (l4Far_any _ _).mono ?_; rintro e u3 ⟨rfl, h3⟩; rw [h3]; clear h3))
    all_goals
      go_ret
      refine ⟨ret_bool (Eq.trans ?_ HR.out.symm), (by first | exact B2.out | exact B1.out)⟩
      have hz0 := HZ.out.symm
      go_light
      clear kl1 HR HZ
      (try clear kl2)
      first
        | (rw [decide_eq_false (p := (-2147483648) ≤ n ∧ n ≤ 2147483647) (by omega)]; simp; done)
        | (rw [decide_eq_true (p := (-2147483648) ≤ n ∧ n ≤ 2147483647) (by omega)]; simp_all [Pl.sy]; done)
        | (simp_all [Pl.sy]; done)
        | (simp_all [Pl.sy] <;> omega)
        | (rw [Bool.eq_iff_iff]; simp_all [Pl.sy] <;> omega)
set_option maxRecDepth 20000 in
set_option maxHeartbeats 4000000 in
theorem specLine_6 (op rd r1 r2 im n : Int) (s : ByteArray) (w : World) : Calls Tryd.prog 19 #[.agg #[.int .i64 6, .int .i64 op, .int .i64 rd, .int .i64 r1, .int .i64 r2, .int .i64 im, .string s, .int .i64 n]] w fun e w' => e = .returned (.bool (Pl.sy s false && decide (0 ≤ n ∧ n ≤ 0) && (Pl.onlyRegs op rd r1 r2 im true true))) ∧ Below w.heap.size w w' := by
  obtain ⟨R, hR⟩ : ∃ R, R = (Pl.sy s false && decide (0 ≤ n ∧ n ≤ 0) && (Pl.onlyRegs op rd r1 r2 im true true)) := ⟨_, rfl⟩
  rw [← hR]
  have HR : Hid (R = (Pl.sy s false && decide (0 ≤ n ∧ n ≤ 0) && (Pl.onlyRegs op rd r1 r2 im true true))) := hR
  clear hR
  go_enter Tryd.func19, Tryd.ntmps19
  go_wp2_with fail
  refine (l4Regs_any _ _ _ _ _ _ _ _).mono ?_
  rintro e u1 ⟨rfl, d1⟩
  have hr := kept_row d1; have kl1 : ∀ j, u1.cell? ⟨w.heap.size, j, none⟩ = (#[.int .i64 6, .int .i64 op, .int .i64 rd, .int .i64 r1, .int .i64 r2, .int .i64 im, .string s, .int .i64 n] : Array Value)[j]? := (fun j => cell_of_row u1 w.heap.size j _ 46 (0, 0) hr); have B1 : Hid (Below w.heap.size w u1) := ((Below.refl _ _).alloc (Nat.le_refl _) _).trans (d1.mono (by simp)); have Z1 : Hid (w.heap.size < u1.heap.size) := (by have := d1.size; simp at this; show w.heap.size < u1.heap.size; omega); clear d1 hr
  obtain ⟨z0, hz0⟩ : ∃ z, z = Pl.onlyRegs op rd r1 r2 im false false := ⟨_, rfl⟩
  rw [← hz0]
  have HZ : Hid (z0 = Pl.onlyRegs op rd r1 r2 im false false) := hz0
  clear hz0
  cases hie : s.toList.isEmpty <;> cases hz : Pl.onlyRegs op rd r1 r2 im true true
  all_goals
    go_wp2_with (first | (go_at_call 28; refine (l4Regs_any _ _ _ _ _ _ _ _).mono ?_; rintro e u2 ⟨rfl, d2⟩; rw [hz]; have kl2 : ∀ j, u2.cell? ⟨w.heap.size, j, none⟩ = (#[.int .i64 6, .int .i64 op, .int .i64 rd, .int .i64 r1, .int .i64 r2, .int .i64 im, .string s, .int .i64 n] : Array Value)[j]? := (fun j => (d2.cell (p := ⟨w.heap.size, j, none⟩) Z1.out).trans (kl1 j)); have B2 : Hid (Below w.heap.size w u2) := B1.out.trans (d2.mono B1.out.size); have Z2 : Hid (w.heap.size < u2.heap.size) := Nat.lt_of_lt_of_le Z1.out d2.size; clear d2))
    all_goals
      go_ret
      refine ⟨ret_bool (Eq.trans ?_ HR.out.symm), (by first | exact B2.out | exact B1.out)⟩
      have hz0 := HZ.out.symm
      go_light
      clear kl1 HR HZ
      (try clear kl2)
      first
        | (rw [decide_eq_false (p := 0 ≤ n ∧ n ≤ 0) (by omega)]; simp; done)
        | (rw [decide_eq_true (p := 0 ≤ n ∧ n ≤ 0) (by omega)]; simp_all [Pl.sy, Pl.emp]; done)
        | (simp_all [Pl.sy, Pl.emp]; done)
        | (simp_all [Pl.sy, Pl.emp] <;> omega)
        | (rw [Bool.eq_iff_iff]; simp_all [Pl.sy, Pl.emp] <;> omega)
end Go.Proofs.YtgpmplcamdophaaDoor.W
namespace Go.Proofs.YtgpmplcamdophaaDoor.W
open Go.RowKit
set_option maxRecDepth 20000 in
set_option maxHeartbeats 4000000 in
theorem specLine_9 (op rd r1 r2 im n : Int) (s : ByteArray) (w : World) : Calls Tryd.prog 19 #[.agg #[.int .i64 9, .int .i64 op, .int .i64 rd, .int .i64 r1, .int .i64 r2, .int .i64 im, .string s, .int .i64 n]] w fun e w' => e = .returned (.bool (Pl.sy s false && decide (0 ≤ n ∧ n ≤ 0) && (Pl.onlyRegs op rd r1 r2 im false false))) ∧ Below w.heap.size w w' := by
  obtain ⟨R, hR⟩ : ∃ R, R = (Pl.sy s false && decide (0 ≤ n ∧ n ≤ 0) && (Pl.onlyRegs op rd r1 r2 im false false)) := ⟨_, rfl⟩
  rw [← hR]
  have HR : Hid (R = (Pl.sy s false && decide (0 ≤ n ∧ n ≤ 0) && (Pl.onlyRegs op rd r1 r2 im false false))) := hR
  clear hR
  go_enter Tryd.func19, Tryd.ntmps19
  go_wp2_with fail
  refine (l4Regs_any _ _ _ _ _ _ _ _).mono ?_
  rintro e u1 ⟨rfl, d1⟩
  have hr := kept_row d1; have kl1 : ∀ j, u1.cell? ⟨w.heap.size, j, none⟩ = (#[.int .i64 9, .int .i64 op, .int .i64 rd, .int .i64 r1, .int .i64 r2, .int .i64 im, .string s, .int .i64 n] : Array Value)[j]? := (fun j => cell_of_row u1 w.heap.size j _ 46 (0, 0) hr); have B1 : Hid (Below w.heap.size w u1) := ((Below.refl _ _).alloc (Nat.le_refl _) _).trans (d1.mono (by simp)); have Z1 : Hid (w.heap.size < u1.heap.size) := (by have := d1.size; simp at this; show w.heap.size < u1.heap.size; omega); clear d1 hr
  obtain ⟨z0, hz0⟩ : ∃ z, z = Pl.onlyRegs op rd r1 r2 im false false := ⟨_, rfl⟩
  rw [← hz0]
  have HZ : Hid (z0 = Pl.onlyRegs op rd r1 r2 im false false) := hz0
  clear hz0
  cases hie : s.toList.isEmpty <;> cases z0
  all_goals
    go_wp2_with fail
    all_goals
      go_ret
      refine ⟨ret_bool (Eq.trans ?_ HR.out.symm), (by first | exact B2.out | exact B1.out)⟩
      have hz0 := HZ.out.symm
      go_light
      clear kl1 HR HZ
      (try clear kl2)
      first
        | (rw [decide_eq_false (p := 0 ≤ n ∧ n ≤ 0) (by omega)]; simp; done)
        | (rw [decide_eq_true (p := 0 ≤ n ∧ n ≤ 0) (by omega)]; simp_all [Pl.sy, Pl.emp]; done)
        | (simp_all [Pl.sy, Pl.emp]; done)
        | (simp_all [Pl.sy, Pl.emp] <;> omega)
        | (rw [Bool.eq_iff_iff]; simp_all [Pl.sy, Pl.emp] <;> omega)
set_option maxRecDepth 20000 in
set_option maxHeartbeats 4000000 in
theorem specLine_10 (op rd r1 r2 im n : Int) (s : ByteArray) (w : World) : Calls Tryd.prog 19 #[.agg #[.int .i64 10, .int .i64 op, .int .i64 rd, .int .i64 r1, .int .i64 r2, .int .i64 im, .string s, .int .i64 n]] w fun e w' => e = .returned (.bool (Pl.sy s false && decide (0 ≤ n ∧ n ≤ 0) && (Pl.onlyRegs op rd r1 r2 im false false))) ∧ Below w.heap.size w w' := by
  obtain ⟨R, hR⟩ : ∃ R, R = (Pl.sy s false && decide (0 ≤ n ∧ n ≤ 0) && (Pl.onlyRegs op rd r1 r2 im false false)) := ⟨_, rfl⟩
  rw [← hR]
  have HR : Hid (R = (Pl.sy s false && decide (0 ≤ n ∧ n ≤ 0) && (Pl.onlyRegs op rd r1 r2 im false false))) := hR
  clear hR
  go_enter Tryd.func19, Tryd.ntmps19
  go_wp2_with fail
  refine (l4Regs_any _ _ _ _ _ _ _ _).mono ?_
  rintro e u1 ⟨rfl, d1⟩
  have hr := kept_row d1; have kl1 : ∀ j, u1.cell? ⟨w.heap.size, j, none⟩ = (#[.int .i64 10, .int .i64 op, .int .i64 rd, .int .i64 r1, .int .i64 r2, .int .i64 im, .string s, .int .i64 n] : Array Value)[j]? := (fun j => cell_of_row u1 w.heap.size j _ 46 (0, 0) hr); have B1 : Hid (Below w.heap.size w u1) := ((Below.refl _ _).alloc (Nat.le_refl _) _).trans (d1.mono (by simp)); have Z1 : Hid (w.heap.size < u1.heap.size) := (by have := d1.size; simp at this; show w.heap.size < u1.heap.size; omega); clear d1 hr
  obtain ⟨z0, hz0⟩ : ∃ z, z = Pl.onlyRegs op rd r1 r2 im false false := ⟨_, rfl⟩
  rw [← hz0]
  have HZ : Hid (z0 = Pl.onlyRegs op rd r1 r2 im false false) := hz0
  clear hz0
  cases hie : s.toList.isEmpty <;> cases z0
  all_goals
    go_wp2_with fail
    all_goals
      go_ret
      refine ⟨ret_bool (Eq.trans ?_ HR.out.symm), (by first | exact B2.out | exact B1.out)⟩
      have hz0 := HZ.out.symm
      go_light
      clear kl1 HR HZ
      (try clear kl2)
      first
        | (rw [decide_eq_false (p := 0 ≤ n ∧ n ≤ 0) (by omega)]; simp; done)
        | (rw [decide_eq_true (p := 0 ≤ n ∧ n ≤ 0) (by omega)]; simp_all [Pl.sy, Pl.emp]; done)
        | (simp_all [Pl.sy, Pl.emp]; done)
        | (simp_all [Pl.sy, Pl.emp] <;> omega)
        | (rw [Bool.eq_iff_iff]; simp_all [Pl.sy, Pl.emp] <;> omega)
set_option maxRecDepth 20000 in
set_option maxHeartbeats 4000000 in
theorem specLine_11 (op rd r1 r2 im n : Int) (s : ByteArray) (w : World) : Calls Tryd.prog 19 #[.agg #[.int .i64 11, .int .i64 op, .int .i64 rd, .int .i64 r1, .int .i64 r2, .int .i64 im, .string s, .int .i64 n]] w fun e w' => e = .returned (.bool (Pl.sy s false && decide (0 ≤ n ∧ n ≤ 0) && (Pl.onlyRegs op rd r1 r2 im false false))) ∧ Below w.heap.size w w' := by
  obtain ⟨R, hR⟩ : ∃ R, R = (Pl.sy s false && decide (0 ≤ n ∧ n ≤ 0) && (Pl.onlyRegs op rd r1 r2 im false false)) := ⟨_, rfl⟩
  rw [← hR]
  have HR : Hid (R = (Pl.sy s false && decide (0 ≤ n ∧ n ≤ 0) && (Pl.onlyRegs op rd r1 r2 im false false))) := hR
  clear hR
  go_enter Tryd.func19, Tryd.ntmps19
  go_wp2_with fail
  refine (l4Regs_any _ _ _ _ _ _ _ _).mono ?_
  rintro e u1 ⟨rfl, d1⟩
  have hr := kept_row d1; have kl1 : ∀ j, u1.cell? ⟨w.heap.size, j, none⟩ = (#[.int .i64 11, .int .i64 op, .int .i64 rd, .int .i64 r1, .int .i64 r2, .int .i64 im, .string s, .int .i64 n] : Array Value)[j]? := (fun j => cell_of_row u1 w.heap.size j _ 46 (0, 0) hr); have B1 : Hid (Below w.heap.size w u1) := ((Below.refl _ _).alloc (Nat.le_refl _) _).trans (d1.mono (by simp)); have Z1 : Hid (w.heap.size < u1.heap.size) := (by have := d1.size; simp at this; show w.heap.size < u1.heap.size; omega); clear d1 hr
  obtain ⟨z0, hz0⟩ : ∃ z, z = Pl.onlyRegs op rd r1 r2 im false false := ⟨_, rfl⟩
  rw [← hz0]
  have HZ : Hid (z0 = Pl.onlyRegs op rd r1 r2 im false false) := hz0
  clear hz0
  cases hie : s.toList.isEmpty <;> cases z0
  all_goals
    go_wp2_with fail
    all_goals
      go_ret
      refine ⟨ret_bool (Eq.trans ?_ HR.out.symm), (by first | exact B2.out | exact B1.out)⟩
      have hz0 := HZ.out.symm
      go_light
      clear kl1 HR HZ
      (try clear kl2)
      first
        | (rw [decide_eq_false (p := 0 ≤ n ∧ n ≤ 0) (by omega)]; simp; done)
        | (rw [decide_eq_true (p := 0 ≤ n ∧ n ≤ 0) (by omega)]; simp_all [Pl.sy, Pl.emp]; done)
        | (simp_all [Pl.sy, Pl.emp]; done)
        | (simp_all [Pl.sy, Pl.emp] <;> omega)
        | (rw [Bool.eq_iff_iff]; simp_all [Pl.sy, Pl.emp] <;> omega)
set_option maxRecDepth 20000 in
set_option maxHeartbeats 4000000 in
theorem specLine_16 (op rd r1 r2 im n : Int) (s : ByteArray) (w : World) : Calls Tryd.prog 19 #[.agg #[.int .i64 16, .int .i64 op, .int .i64 rd, .int .i64 r1, .int .i64 r2, .int .i64 im, .string s, .int .i64 n]] w fun e w' => e = .returned (.bool (Pl.sy s false && decide (1 ≤ n ∧ n ≤ 4) && (Pl.onlyRegs op rd r1 r2 im false false && n != 3))) ∧ Below w.heap.size w w' := by
  obtain ⟨R, hR⟩ : ∃ R, R = (Pl.sy s false && decide (1 ≤ n ∧ n ≤ 4) && (Pl.onlyRegs op rd r1 r2 im false false && n != 3)) := ⟨_, rfl⟩
  rw [← hR]
  have HR : Hid (R = (Pl.sy s false && decide (1 ≤ n ∧ n ≤ 4) && (Pl.onlyRegs op rd r1 r2 im false false && n != 3))) := hR
  clear hR
  go_enter Tryd.func19, Tryd.ntmps19
  go_wp2_with fail
  refine (l4Regs_any _ _ _ _ _ _ _ _).mono ?_
  rintro e u1 ⟨rfl, d1⟩
  have hr := kept_row d1; have kl1 : ∀ j, u1.cell? ⟨w.heap.size, j, none⟩ = (#[.int .i64 16, .int .i64 op, .int .i64 rd, .int .i64 r1, .int .i64 r2, .int .i64 im, .string s, .int .i64 n] : Array Value)[j]? := (fun j => cell_of_row u1 w.heap.size j _ 46 (0, 0) hr); have B1 : Hid (Below w.heap.size w u1) := ((Below.refl _ _).alloc (Nat.le_refl _) _).trans (d1.mono (by simp)); have Z1 : Hid (w.heap.size < u1.heap.size) := (by have := d1.size; simp at this; show w.heap.size < u1.heap.size; omega); clear d1 hr
  obtain ⟨z0, hz0⟩ : ∃ z, z = Pl.onlyRegs op rd r1 r2 im false false := ⟨_, rfl⟩
  rw [← hz0]
  have HZ : Hid (z0 = Pl.onlyRegs op rd r1 r2 im false false) := hz0
  clear hz0
  cases hie : s.toList.isEmpty <;> cases z0
  all_goals
    go_wp2_with fail
    all_goals
      go_ret
      refine ⟨ret_bool (Eq.trans ?_ HR.out.symm), (by first | exact B2.out | exact B1.out)⟩
      have hz0 := HZ.out.symm
      go_light
      clear kl1 HR HZ
      (try clear kl2)
      first
        | (rw [decide_eq_false (p := 1 ≤ n ∧ n ≤ 4) (by omega)]; simp; done)
        | (rw [decide_eq_true (p := 1 ≤ n ∧ n ≤ 4) (by omega)]; simp_all [Pl.sy, Pl.emp]; done)
        | (simp_all [Pl.sy, Pl.emp]; done)
        | (simp_all [Pl.sy, Pl.emp] <;> omega)
        | (rw [Bool.eq_iff_iff]; simp_all [Pl.sy, Pl.emp] <;> omega)
end Go.Proofs.YtgpmplcamdophaaDoor.W
