import Derived.Test.YtgpmplcamdophaaDoorLnB
import Derived.Deep.Cut
import Derived.Deep.Light
import Derived.Test.YtgpmplcamdophaaDoorSl
import Derived.Deep.RegionWith
import Derived.Deep.QuietTactic
import Derived.BigQuiet
set_option linter.unusedVariables false
set_option linter.unusedSimpArgs false
namespace Go.Proofs.YtgpmplcamdophaaDoor.W
open Go.RowKit
set_option maxRecDepth 20000 in
set_option maxHeartbeats 4000000 in
theorem specLine_12 (op rd r1 r2 im n : Int) (s : ByteArray) (w : World) : Calls Tryd.prog 19 #[.agg #[.int .i64 12, .int .i64 op, .int .i64 rd, .int .i64 r1, .int .i64 r2, .int .i64 im, .string s, .int .i64 n]] w fun e w' => e = .returned (.bool (Pl.sy s false && decide (0 ≤ n ∧ n ≤ 255) && (Pl.onlyRegs op rd r1 r2 im false false))) ∧ Below w.heap.size w w' := by
  obtain ⟨R, hR⟩ : ∃ R, R = (Pl.sy s false && decide (0 ≤ n ∧ n ≤ 255) && (Pl.onlyRegs op rd r1 r2 im false false)) := ⟨_, rfl⟩
  rw [← hR]
  have HR : Hid (R = (Pl.sy s false && decide (0 ≤ n ∧ n ≤ 255) && (Pl.onlyRegs op rd r1 r2 im false false))) := hR
  clear hR
  go_enter Tryd.func19, Tryd.ntmps19
  go_wp2_with fail
  refine (l4Regs_any _ _ _ _ _ _ _ _).mono ?_
  rintro e u1 ⟨rfl, d1⟩
  have hr := kept_row d1; have kl1 : ∀ j, u1.cell? ⟨w.heap.size, j, none⟩ = (#[.int .i64 12, .int .i64 op, .int .i64 rd, .int .i64 r1, .int .i64 r2, .int .i64 im, .string s, .int .i64 n] : Array Value)[j]? := (fun j => cell_of_row u1 w.heap.size j _ 46 (0, 0) hr); have B1 : Hid (Below w.heap.size w u1) := ((Below.refl _ _).alloc (Nat.le_refl _) _).trans (d1.mono (by simp)); have Z1 : Hid (w.heap.size < u1.heap.size) := (by have := d1.size; simp at this; show w.heap.size < u1.heap.size; omega); clear d1 hr
  obtain ⟨z0, hz0⟩ : ∃ z, z = Pl.onlyRegs op rd r1 r2 im false false := ⟨_, rfl⟩
  rw [← hz0]
  have HZ : Hid (z0 = Pl.onlyRegs op rd r1 r2 im false false) := hz0
  clear hz0
  cases hie : s.toList.isEmpty
  · go_wp2_with fail
    all_goals
      go_ret
      refine ⟨ret_bool (Eq.trans ?_ HR.out.symm), (by first | exact B2.out | exact B1.out)⟩
      have hz0 := HZ.out.symm
      go_light
      clear kl1 HR HZ
      (try clear kl2)
      first
        | (rw [decide_eq_false (p := 0 ≤ n ∧ n ≤ 255) (by omega)]; simp; done)
        | (rw [decide_eq_true (p := 0 ≤ n ∧ n ≤ 255) (by omega)]; simp_all [Pl.sy, Pl.emp]; done)
        | (simp_all [Pl.sy, Pl.emp]; done)
        | (simp_all [Pl.sy, Pl.emp] <;> omega)
        | (rw [Bool.eq_iff_iff]; simp_all [Pl.sy, Pl.emp] <;> omega)
  cases z0
  · go_wp2_with fail
    all_goals
      go_ret
      refine ⟨ret_bool (Eq.trans ?_ HR.out.symm), (by first | exact B2.out | exact B1.out)⟩
      have hz0 := HZ.out.symm
      go_light
      clear kl1 HR HZ
      (try clear kl2)
      first
        | (rw [decide_eq_false (p := 0 ≤ n ∧ n ≤ 255) (by omega)]; simp; done)
        | (rw [decide_eq_true (p := 0 ≤ n ∧ n ≤ 255) (by omega)]; simp_all [Pl.sy, Pl.emp]; done)
        | (simp_all [Pl.sy, Pl.emp]; done)
        | (simp_all [Pl.sy, Pl.emp] <;> omega)
        | (rw [Bool.eq_iff_iff]; simp_all [Pl.sy, Pl.emp] <;> omega)
  have k7 : u1.cell? ⟨w.heap.size, 7, none⟩ = some (.int .i64 n) := kl1 7
  by_cases h0 : 0 ≤ n
  · have hd0 : decide (0 ≤ n) = true := decide_eq_true h0
    go_wp2_with fail
    have hne : ¬ w.heap.size = u1.heap.size := by have := Z1.out; omega
    have ka : ∀ o, (u1.alloc o).cell? ⟨w.heap.size, 7, none⟩ = some (.int .i64 n) := fun o => (((Below.refl u1.heap.size u1).alloc (Nat.le_refl _) o).cell (p := ⟨w.heap.size, 7, none⟩) Z1.out).trans k7
    go_region_with (fail)
    all_goals go_wp2
    all_goals
      go_ret
      refine ⟨ret_bool (Eq.trans ?_ HR.out.symm), (by repeat (first | exact B1.out | refine Below.drew ?_ | refine below_drewN ?_ _ | refine Below.alloc ?_ (by have := Z1.out; simp; omega) _))⟩
      have hz0 := HZ.out.symm
      go_light
      clear kl1 HR HZ k7
      (try clear kl2)
      first
        | (rw [decide_eq_false (p := 0 ≤ n ∧ n ≤ 255) (by omega)]; simp; done)
        | (rw [decide_eq_true (p := 0 ≤ n ∧ n ≤ 255) (by omega)]; simp_all [Pl.sy, Pl.emp]; done)
        | (simp_all [Pl.sy, Pl.emp]; done)
        | (simp_all [Pl.sy, Pl.emp] <;> omega)
        | (rw [Bool.eq_iff_iff]; simp_all [Pl.sy, Pl.emp] <;> omega)
  · have hd0 : decide (0 ≤ n) = false := decide_eq_false h0
    go_wp2_with fail
    clear h0
    go_quiet (fail)
    go_wp2
    all_goals
      go_ret
      refine ⟨ret_bool (Eq.trans ?_ HR.out.symm), (by repeat (first | exact B1.out | refine Below.drew ?_ | refine below_drewN ?_ _ | refine Below.alloc ?_ (by have := Z1.out; simp; omega) _))⟩
      have h0 : ¬ 0 ≤ n := of_decide_eq_false hd0
      have hz0 := HZ.out.symm
      go_light
      clear kl1 HR HZ k7
      (try clear kl2)
      first
        | (rw [decide_eq_false (p := 0 ≤ n ∧ n ≤ 255) (by omega)]; simp; done)
        | (rw [decide_eq_true (p := 0 ≤ n ∧ n ≤ 255) (by omega)]; simp_all [Pl.sy, Pl.emp]; done)
        | (simp_all [Pl.sy, Pl.emp]; done)
        | (simp_all [Pl.sy, Pl.emp] <;> omega)
        | (rw [Bool.eq_iff_iff]; simp_all [Pl.sy, Pl.emp] <;> omega)
set_option maxRecDepth 20000 in
set_option maxHeartbeats 4000000 in
theorem specLine_13 (op rd r1 r2 im n : Int) (s : ByteArray) (w : World) : Calls Tryd.prog 19 #[.agg #[.int .i64 13, .int .i64 op, .int .i64 rd, .int .i64 r1, .int .i64 r2, .int .i64 im, .string s, .int .i64 n]] w fun e w' => e = .returned (.bool (Pl.sy s false && decide (0 ≤ n ∧ n ≤ 65535) && (Pl.onlyRegs op rd r1 r2 im false false))) ∧ Below w.heap.size w w' := by
  obtain ⟨R, hR⟩ : ∃ R, R = (Pl.sy s false && decide (0 ≤ n ∧ n ≤ 65535) && (Pl.onlyRegs op rd r1 r2 im false false)) := ⟨_, rfl⟩
  rw [← hR]
  have HR : Hid (R = (Pl.sy s false && decide (0 ≤ n ∧ n ≤ 65535) && (Pl.onlyRegs op rd r1 r2 im false false))) := hR
  clear hR
  go_enter Tryd.func19, Tryd.ntmps19
  go_wp2_with fail
  refine (l4Regs_any _ _ _ _ _ _ _ _).mono ?_
  rintro e u1 ⟨rfl, d1⟩
  have hr := kept_row d1; have kl1 : ∀ j, u1.cell? ⟨w.heap.size, j, none⟩ = (#[.int .i64 13, .int .i64 op, .int .i64 rd, .int .i64 r1, .int .i64 r2, .int .i64 im, .string s, .int .i64 n] : Array Value)[j]? := (fun j => cell_of_row u1 w.heap.size j _ 46 (0, 0) hr); have B1 : Hid (Below w.heap.size w u1) := ((Below.refl _ _).alloc (Nat.le_refl _) _).trans (d1.mono (by simp)); have Z1 : Hid (w.heap.size < u1.heap.size) := (by have := d1.size; simp at this; show w.heap.size < u1.heap.size; omega); clear d1 hr
  obtain ⟨z0, hz0⟩ : ∃ z, z = Pl.onlyRegs op rd r1 r2 im false false := ⟨_, rfl⟩
  rw [← hz0]
  have HZ : Hid (z0 = Pl.onlyRegs op rd r1 r2 im false false) := hz0
  clear hz0
  cases hie : s.toList.isEmpty
  · go_wp2_with fail
    all_goals
      go_ret
      refine ⟨ret_bool (Eq.trans ?_ HR.out.symm), (by first | exact B2.out | exact B1.out)⟩
      have hz0 := HZ.out.symm
      go_light
      clear kl1 HR HZ
      (try clear kl2)
      first
        | (rw [decide_eq_false (p := 0 ≤ n ∧ n ≤ 65535) (by omega)]; simp; done)
        | (rw [decide_eq_true (p := 0 ≤ n ∧ n ≤ 65535) (by omega)]; simp_all [Pl.sy, Pl.emp]; done)
        | (simp_all [Pl.sy, Pl.emp]; done)
        | (simp_all [Pl.sy, Pl.emp] <;> omega)
        | (rw [Bool.eq_iff_iff]; simp_all [Pl.sy, Pl.emp] <;> omega)
  cases z0
  · go_wp2_with fail
    all_goals
      go_ret
      refine ⟨ret_bool (Eq.trans ?_ HR.out.symm), (by first | exact B2.out | exact B1.out)⟩
      have hz0 := HZ.out.symm
      go_light
      clear kl1 HR HZ
      (try clear kl2)
      first
        | (rw [decide_eq_false (p := 0 ≤ n ∧ n ≤ 65535) (by omega)]; simp; done)
        | (rw [decide_eq_true (p := 0 ≤ n ∧ n ≤ 65535) (by omega)]; simp_all [Pl.sy, Pl.emp]; done)
        | (simp_all [Pl.sy, Pl.emp]; done)
        | (simp_all [Pl.sy, Pl.emp] <;> omega)
        | (rw [Bool.eq_iff_iff]; simp_all [Pl.sy, Pl.emp] <;> omega)
  have k7 : u1.cell? ⟨w.heap.size, 7, none⟩ = some (.int .i64 n) := kl1 7
  by_cases h0 : 0 ≤ n
  · have hd0 : decide (0 ≤ n) = true := decide_eq_true h0
    go_wp2_with fail
    have hne : ¬ w.heap.size = u1.heap.size := by have := Z1.out; omega
    have ka : ∀ o, (u1.alloc o).cell? ⟨w.heap.size, 7, none⟩ = some (.int .i64 n) := fun o => (((Below.refl u1.heap.size u1).alloc (Nat.le_refl _) o).cell (p := ⟨w.heap.size, 7, none⟩) Z1.out).trans k7
    go_region_with (fail)
    all_goals go_wp2
    all_goals
      go_ret
      refine ⟨ret_bool (Eq.trans ?_ HR.out.symm), (by repeat (first | exact B1.out | refine Below.drew ?_ | refine below_drewN ?_ _ | refine Below.alloc ?_ (by have := Z1.out; simp; omega) _))⟩
      have hz0 := HZ.out.symm
      go_light
      clear kl1 HR HZ k7
      (try clear kl2)
      first
        | (rw [decide_eq_false (p := 0 ≤ n ∧ n ≤ 65535) (by omega)]; simp; done)
        | (rw [decide_eq_true (p := 0 ≤ n ∧ n ≤ 65535) (by omega)]; simp_all [Pl.sy, Pl.emp]; done)
        | (simp_all [Pl.sy, Pl.emp]; done)
        | (simp_all [Pl.sy, Pl.emp] <;> omega)
        | (rw [Bool.eq_iff_iff]; simp_all [Pl.sy, Pl.emp] <;> omega)
  · have hd0 : decide (0 ≤ n) = false := decide_eq_false h0
    go_wp2_with fail
    clear h0
    go_quiet (fail)
    go_wp2
    all_goals
      go_ret
      refine ⟨ret_bool (Eq.trans ?_ HR.out.symm), (by repeat (first | exact B1.out | refine Below.drew ?_ | refine below_drewN ?_ _ | refine Below.alloc ?_ (by have := Z1.out; simp; omega) _))⟩
      have h0 : ¬ 0 ≤ n := of_decide_eq_false hd0
      have hz0 := HZ.out.symm
      go_light
      clear kl1 HR HZ k7
      (try clear kl2)
      first
        | (rw [decide_eq_false (p := 0 ≤ n ∧ n ≤ 65535) (by omega)]; simp; done)
        | (rw [decide_eq_true (p := 0 ≤ n ∧ n ≤ 65535) (by omega)]; simp_all [Pl.sy, Pl.emp]; done)
        | (simp_all [Pl.sy, Pl.emp]; done)
        | (simp_all [Pl.sy, Pl.emp] <;> omega)
        | (rw [Bool.eq_iff_iff]; simp_all [Pl.sy, Pl.emp] <;> omega)
end Go.Proofs.YtgpmplcamdophaaDoor.W
