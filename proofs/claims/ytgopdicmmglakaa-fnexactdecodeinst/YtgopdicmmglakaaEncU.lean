import Derived.Test.YtgopdicmmglakaaEncT
import Derived.Test.YtgopdicmmglakaaWFnExactInstOk
import Derived.Deep.RegionWith
import Derived.Deep.Cut
import Derived.Deep.DeepCutAuto
namespace Go.Proofs.Ytgopdicmmglakaa.Pl
theorem cc_ranges : ∀ k : Nat, k < 43 → (1 ≤ k ∧ k ≤ 18 → cc k 0 = 51) ∧ (19 ≤ k ∧ k ≤ 27 → cc k 0 = 19) ∧ (28 ≤ k ∧ k ≤ 32 → cc k 0 = 3) ∧ (k = 33 → cc k 0 = 103) ∧ (34 ≤ k ∧ k ≤ 36 → cc k 0 = 35) ∧ (37 ≤ k ∧ k ≤ 42 → cc k 0 = 99) := by decide +kernel
theorem cc_bd' : ∀ k : Nat, k < 48 → ∀ i : Nat, i < 4 → 0 ≤ cc k i ∧ cc k i ≤ 127 := by decide +kernel
end Go.Proofs.Ytgopdicmmglakaa.Pl
namespace Go.Proofs.Ytgopdicmmglakaa.W
open Go.RowKit
set_option linter.unusedVariables false
theorem c_any (k : Nat) (h1 : 1 ≤ k) (h2 : k ≤ 42) (w : World) : Calls Try.prog 37 #[.int .i64 (k : Int)] w fun e w' => e = .returned (.int .i64 (Pl.cc k 0)) ∧ w' = w := by
  obtain ⟨a, b, c, d, e, f⟩ := Pl.cc_ranges k (by omega)
  by_cases q : k ≤ 18
  · rw [a ⟨h1, q⟩]; exact c_a k (by omega) w
  by_cases q : k ≤ 27
  · rw [b ⟨by omega, q⟩]; exact c_b k (by omega) (by omega) w
  by_cases q : k ≤ 32
  · rw [c ⟨by omega, q⟩]; exact c_c k (by omega) (by omega) w
  by_cases q : k = 33
  · rw [d q]; subst q; exact c_33 w
  by_cases q : k ≤ 36
  · rw [e ⟨by omega, q⟩]; exact c_e k (by omega) (by omega) w
  · rw [f ⟨by omega, by omega⟩]; exact c_f k (by omega) (by omega) w
theorem f7_cases (k : Nat) (h : (1 ≤ k ∧ k ≤ 18) ∨ (25 ≤ k ∧ k ≤ 27)) : k = 1 ∨ k = 2 ∨ k = 3 ∨ k = 4 ∨ k = 5 ∨ k = 6 ∨ k = 7 ∨ k = 8 ∨ k = 9 ∨ k = 10 ∨ k = 11 ∨ k = 12 ∨ k = 13 ∨ k = 14 ∨ k = 15 ∨ k = 16 ∨ k = 17 ∨ k = 18 ∨ k = 25 ∨ k = 26 ∨ k = 27 := by omega
theorem f7_any (k : Nat) (h : (1 ≤ k ∧ k ≤ 18) ∨ (25 ≤ k ∧ k ≤ 27)) (w : World) : Calls Try.prog 59 #[.int .i64 (k : Int)] w fun e w' => e = .returned (.int .i64 (Pl.cc k 2)) ∧ w' = w := by
  rcases f7_cases k h with rfl | rfl | rfl | rfl | rfl | rfl | rfl | rfl | rfl | rfl | rfl | rfl | rfl | rfl | rfl | rfl | rfl | rfl | rfl | rfl | rfl
  all_goals
    go_enter Try.func59, Try.ntmps59
    go_wp2
    go_ret
    refine ⟨ret_int ?_, rfl⟩
    kernel_rfl
theorem kept_cells' {w u : World} {cs : Array Value} {t : TypeId} (hb : Below (w.alloc (.cells cs t)).heap.size (w.alloc (.cells cs t)) u) (i : Nat) : u.cell? ⟨w.heap.size, i, none⟩ = cs[i]? :=
  cell_of_row u _ i cs t (0, 0) (kept_row hb)
set_option maxHeartbeats 1000000 in
theorem specEnc_no (n rd r1 r2 im : Int) (h : iok n rd r1 r2 im = false) (w : World) : Calls Try.prog 39 #[.agg #[.int .i64 n, .int .i64 rd, .int .i64 r1, .int .i64 r2, .int .i64 im]] w fun e w' => e = .returned (.tuple #[.int .i64 0, .bool false]) ∧ Below w.heap.size w w' := by
  go_enter Try.func39, Try.ntmps39
  go_wp2_with (go_at_call 56; refine (specInstOk_any _ _ _ _ _ _).mono ?_; rintro e u1 ⟨rfl, hb1⟩)
  go_ret2
  exact ⟨rfl, ((Below.refl _ _).alloc (Nat.le_refl _) _).trans (hb1.mono (by simp))⟩
end Go.Proofs.Ytgopdicmmglakaa.W
