import Derived.Test.YtgopdicmmglakaaFormS
import Derived.Test.YtgopdicmmglakaaAluMath
import Derived.Deep.QuietTactic
import Derived.BigQuiet
import Derived.Great.Walk
namespace Go.Proofs.Ytgopdicmmglakaa.W
open Go.RowKit
set_option linter.unusedVariables false
set_option maxHeartbeats 1000000 in
theorem l2Bits_any (n x y : Int) (h l : Nat) (hx : x = h) (hy : y = l) (hl : l ≤ h) (hh : h ≤ 31) (w : World) : Calls Try.prog 54 #[.int .i64 n, .int .i64 x, .int .i64 y] w fun e w' => e = .returned (.int .i64 (Pl.wd n / Pl.pw l % Pl.pw (h - l + 1))) ∧ ∃ m, w' = w.drewN m := by
  subst hx hy
  have b := Pl.wd_bd n
  have p1 := Pl.pw_pos l
  have p2 : Pl.pw l ≤ 4294967296 := Pl.pw_mono (show l ≤ 32 by omega)
  have p3 := Pl.pw_pos (h - l + 1)
  have p4 : Pl.pw (h - l + 1) ≤ 4294967296 := Pl.pw_mono (show h - l + 1 ≤ 32 by omega)
  have z1 : ¬ Pl.pw l = 0 := by omega
  have z2 : ¬ Pl.pw (h - l + 1) = 0 := by omega
  have q1 : 0 ≤ Pl.wd n / Pl.pw l := Int.ediv_nonneg b.1 (by omega)
  have q2 : Pl.wd n / Pl.pw l ≤ 4294967295 := by have := Int.ediv_le_self (Pl.pw l) b.1; omega
  go_enter Try.func54, Try.ntmps54
  go_wp2_with fail
  go_quiet ((first | (go_at_call 73; exact Calls.quiet_of_same (specWord_any _ _)) | (go_at_call 74; exact Calls.quiet_of_same (specPower_any _ l (by omega) (by omega) _)) | (go_at_call 74; exact Calls.quiet_of_same (specPower_any _ (h - l + 1) (by omega) (by omega) _))))
  go_wp2
  go_ret
  exact ⟨rfl, _, rfl⟩
theorem c_a (n : Int) (h2 : n ≤ 18) (w : World) : Calls Try.prog 37 #[.int .i64 n] w fun e w' => e = .returned (.int .i64 51) ∧ w' = w := by
  go_enter Try.func37, Try.ntmps37
  go_wp2
  go_ret
  exact ⟨rfl, rfl⟩
theorem c_b (n : Int) (h1 : 19 ≤ n) (h2 : n ≤ 27) (w : World) : Calls Try.prog 37 #[.int .i64 n] w fun e w' => e = .returned (.int .i64 19) ∧ w' = w := by
  go_enter Try.func37, Try.ntmps37
  go_wp2
  go_ret
  exact ⟨rfl, rfl⟩
theorem c_c (n : Int) (h1 : 28 ≤ n) (h2 : n ≤ 32) (w : World) : Calls Try.prog 37 #[.int .i64 n] w fun e w' => e = .returned (.int .i64 3) ∧ w' = w := by
  go_enter Try.func37, Try.ntmps37
  go_wp2
  go_ret
  exact ⟨rfl, rfl⟩
theorem c_e (n : Int) (h1 : 34 ≤ n) (h2 : n ≤ 36) (w : World) : Calls Try.prog 37 #[.int .i64 n] w fun e w' => e = .returned (.int .i64 35) ∧ w' = w := by
  go_enter Try.func37, Try.ntmps37
  go_wp2
  go_ret
  exact ⟨rfl, rfl⟩
theorem c_f (n : Int) (h1 : 37 ≤ n) (h2 : n ≤ 42) (w : World) : Calls Try.prog 37 #[.int .i64 n] w fun e w' => e = .returned (.int .i64 99) ∧ w' = w := by
  go_enter Try.func37, Try.ntmps37
  go_wp2
  go_ret
  exact ⟨rfl, rfl⟩
theorem c_33 (w : World) : Calls Try.prog 37 #[.int .i64 33] w fun e w' => e = .returned (.int .i64 103) ∧ w' = w := by
  go_enter Try.func37, Try.ntmps37
  go_wp2
  go_ret
  exact ⟨rfl, rfl⟩
theorem c_43 (w : World) : Calls Try.prog 37 #[.int .i64 43] w fun e w' => e = .returned (.int .i64 55) ∧ Below w.heap.size w w' := by
  go_enter Try.func37, Try.ntmps37
  go_wp2
  go_ret
  exact ⟨rfl, (Below.refl _ _).alloc (Nat.le_refl _) _⟩
theorem c_44 (w : World) : Calls Try.prog 37 #[.int .i64 44] w fun e w' => e = .returned (.int .i64 23) ∧ Below w.heap.size w w' := by
  go_enter Try.func37, Try.ntmps37
  go_wp2
  go_ret
  exact ⟨rfl, (Below.refl _ _).alloc (Nat.le_refl _) _⟩
theorem c_45 (w : World) : Calls Try.prog 37 #[.int .i64 45] w fun e w' => e = .returned (.int .i64 111) ∧ Below w.heap.size w w' := by
  go_enter Try.func37, Try.ntmps37
  go_wp2
  go_ret
  exact ⟨rfl, (Below.refl _ _).alloc (Nat.le_refl _) _⟩
theorem c_46 (w : World) : Calls Try.prog 37 #[.int .i64 46] w fun e w' => e = .returned (.int .i64 115) ∧ Below w.heap.size w w' := by
  go_enter Try.func37, Try.ntmps37
  go_wp2
  go_ret
  exact ⟨rfl, (Below.refl _ _).alloc (Nat.le_refl _) _⟩
theorem c_47 (w : World) : Calls Try.prog 37 #[.int .i64 47] w fun e w' => e = .returned (.int .i64 115) ∧ Below w.heap.size w w' := by
  go_enter Try.func37, Try.ntmps37
  go_wp2
  go_ret
  exact ⟨rfl, (Below.refl _ _).alloc (Nat.le_refl _) _⟩
def f3Tab : Array Value := #[.int .i64 0, .int .i64 0, .int .i64 0, .int .i64 1, .int .i64 2, .int .i64 3, .int .i64 4, .int .i64 5, .int .i64 5, .int .i64 6, .int .i64 7, .int .i64 0, .int .i64 1, .int .i64 2, .int .i64 3, .int .i64 4, .int .i64 5, .int .i64 6, .int .i64 7, .int .i64 0, .int .i64 2, .int .i64 3, .int .i64 4, .int .i64 6, .int .i64 7, .int .i64 1, .int .i64 5, .int .i64 5, .int .i64 0, .int .i64 1, .int .i64 2, .int .i64 4, .int .i64 5, .int .i64 0, .int .i64 0, .int .i64 1, .int .i64 2, .int .i64 0, .int .i64 1, .int .i64 4, .int .i64 5, .int .i64 6, .int .i64 7]
theorem f3_at : ∀ k : Nat, k < 43 → f3Tab[k]? = some (.int .i64 (Pl.cc k 1))
  | 0, _ => by kernel_rfl
  | 1, _ => by kernel_rfl
  | 2, _ => by kernel_rfl
  | 3, _ => by kernel_rfl
  | 4, _ => by kernel_rfl
  | 5, _ => by kernel_rfl
  | 6, _ => by kernel_rfl
  | 7, _ => by kernel_rfl
  | 8, _ => by kernel_rfl
  | 9, _ => by kernel_rfl
  | 10, _ => by kernel_rfl
  | 11, _ => by kernel_rfl
  | 12, _ => by kernel_rfl
  | 13, _ => by kernel_rfl
  | 14, _ => by kernel_rfl
  | 15, _ => by kernel_rfl
  | 16, _ => by kernel_rfl
  | 17, _ => by kernel_rfl
  | 18, _ => by kernel_rfl
  | 19, _ => by kernel_rfl
  | 20, _ => by kernel_rfl
  | 21, _ => by kernel_rfl
  | 22, _ => by kernel_rfl
  | 23, _ => by kernel_rfl
  | 24, _ => by kernel_rfl
  | 25, _ => by kernel_rfl
  | 26, _ => by kernel_rfl
  | 27, _ => by kernel_rfl
  | 28, _ => by kernel_rfl
  | 29, _ => by kernel_rfl
  | 30, _ => by kernel_rfl
  | 31, _ => by kernel_rfl
  | 32, _ => by kernel_rfl
  | 33, _ => by kernel_rfl
  | 34, _ => by kernel_rfl
  | 35, _ => by kernel_rfl
  | 36, _ => by kernel_rfl
  | 37, _ => by kernel_rfl
  | 38, _ => by kernel_rfl
  | 39, _ => by kernel_rfl
  | 40, _ => by kernel_rfl
  | 41, _ => by kernel_rfl
  | 42, _ => by kernel_rfl
  | n + 43, h => absurd h (by omega)
set_option maxHeartbeats 400000 in
theorem l2F3_any (k : Nat) (hk : k < 43) (w : World) : Calls Try.prog 58 #[.int .i64 (k : Int)] w fun e w' => e = .returned (.int .i64 (Pl.cc k 1)) ∧ w' = w.alloc (.cells f3Tab 3) := by
  have hc : (w.alloc (.cells f3Tab 3)).cell? ⟨w.heap.size, k, none⟩ = some (.int .i64 (Pl.cc k 1)) := by
    rw [cell_of_row _ _ k f3Tab 3 (0, 0) (heap_alloc_new w _)]; exact f3_at k hk
  go_enter Try.func58, Try.ntmps58
  go_wp2_with (refine Great.wpList_buildSliceTo rfl 22 3 43 _ rfl w.heap.size rfl _ rfl Try.underlying22 f3Tab (by kernel_rfl) ?_)
  go_ret
  exact ⟨rfl, rfl⟩
end Go.Proofs.Ytgopdicmmglakaa.W
