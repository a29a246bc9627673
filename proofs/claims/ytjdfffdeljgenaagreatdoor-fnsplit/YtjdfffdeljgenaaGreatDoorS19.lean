import Derived.Test.YtjdfffdeljgenaaGreatDoorS18
import Derived.Test.YtjdfffdeljgenaaGreatDoorS07
import Derived.Deep.QuietTactic
import Derived.BigQuiet
import Derived.Great.Walk
import Derived.Test.YtjdfffdeljgenaaGreatDoorS12
import Derived.Deep.RegionWith
import Derived.Deep.Cut
import Derived.Deep.DeepCutAuto
set_option linter.unusedVariables false
namespace Go.Proofs.YtjdfffdeljgenaaGreatDoor.W
open Go.RowKit
set_option maxHeartbeats 1000000 in
theorem l2Bits_any (n x y : Int) (h l : Nat) (hx : x = h) (hy : y = l) (hl : l ≤ h) (hh : h ≤ 31) (w : World) : Calls Tryz.prog 91 #[.int .i64 n, .int .i64 x, .int .i64 y] w fun e w' => e = .returned (.int .i64 (Pl.wd n / Pl.pw l % Pl.pw (h - l + 1))) ∧ ∃ m, w' = w.drewN m := by
  subst hx hy
  have b := Pl.wd_bd n
  have p1 := Pl.pw_pos l
  have p2 : Pl.pw l ≤ 4294967296 := Pl.pw_mono (show l ≤ 32 by omega)
  have p3 := Pl.pw_pos (h - l + 1)
  have p4 : Pl.pw (h - l + 1) ≤ 4294967296 := Pl.pw_mono (show h - l + 1 ≤ 32 by omega)
  have z1 : ¬ Pl.pw l = 0 := by omega
  have z2 : ¬ Pl.pw (h - l + 1) = 0 := by omega
  have q1 : 0 ≤ Pl.wd n / Pl.pw l := Int.ediv_nonneg b.1 (by omega)
  have q2 : Pl.wd n / Pl.pw l ≤ 4294967295 := by have := Int.ediv_le_self (Pl.pw l) b.1; omega
  go_enter Tryz.func91, Tryz.ntmps91
  go_wp2_with fail
  go_quiet ((first | (go_at_call 75; exact Calls.quiet_of_same (specWord_any _ _)) | (go_at_call 118; exact Calls.quiet_of_same (specPower_any _ l (by omega) (by omega) _)) | (go_at_call 118; exact Calls.quiet_of_same (specPower_any _ (h - l + 1) (by omega) (by omega) _))))
  go_wp2
  go_ret
  exact ⟨rfl, _, rfl⟩
theorem c_a (n : Int) (h2 : n ≤ 18) (w : World) : Calls Tryz.prog 67 #[.int .i64 n] w fun e w' => e = .returned (.int .i64 51) ∧ w' = w := by
  go_enter Tryz.func67, Tryz.ntmps67
  go_wp2
  go_ret
  exact ⟨rfl, rfl⟩
theorem c_b (n : Int) (h1 : 19 ≤ n) (h2 : n ≤ 27) (w : World) : Calls Tryz.prog 67 #[.int .i64 n] w fun e w' => e = .returned (.int .i64 19) ∧ w' = w := by
  go_enter Tryz.func67, Tryz.ntmps67
  go_wp2
  go_ret
  exact ⟨rfl, rfl⟩
theorem c_c (n : Int) (h1 : 28 ≤ n) (h2 : n ≤ 32) (w : World) : Calls Tryz.prog 67 #[.int .i64 n] w fun e w' => e = .returned (.int .i64 3) ∧ w' = w := by
  go_enter Tryz.func67, Tryz.ntmps67
  go_wp2
  go_ret
  exact ⟨rfl, rfl⟩
theorem c_e (n : Int) (h1 : 34 ≤ n) (h2 : n ≤ 36) (w : World) : Calls Tryz.prog 67 #[.int .i64 n] w fun e w' => e = .returned (.int .i64 35) ∧ w' = w := by
  go_enter Tryz.func67, Tryz.ntmps67
  go_wp2
  go_ret
  exact ⟨rfl, rfl⟩
theorem c_f (n : Int) (h1 : 37 ≤ n) (h2 : n ≤ 42) (w : World) : Calls Tryz.prog 67 #[.int .i64 n] w fun e w' => e = .returned (.int .i64 99) ∧ w' = w := by
  go_enter Tryz.func67, Tryz.ntmps67
  go_wp2
  go_ret
  exact ⟨rfl, rfl⟩
theorem c_33 (w : World) : Calls Tryz.prog 67 #[.int .i64 33] w fun e w' => e = .returned (.int .i64 103) ∧ w' = w := by
  go_enter Tryz.func67, Tryz.ntmps67
  go_wp2
  go_ret
  exact ⟨rfl, rfl⟩
theorem c_43 (w : World) : Calls Tryz.prog 67 #[.int .i64 43] w fun e w' => e = .returned (.int .i64 55) ∧ Below w.heap.size w w' := by
  go_enter Tryz.func67, Tryz.ntmps67
  go_wp2
  go_ret
  exact ⟨rfl, (Below.refl _ _).alloc (Nat.le_refl _) _⟩
theorem c_44 (w : World) : Calls Tryz.prog 67 #[.int .i64 44] w fun e w' => e = .returned (.int .i64 23) ∧ Below w.heap.size w w' := by
  go_enter Tryz.func67, Tryz.ntmps67
  go_wp2
  go_ret
  exact ⟨rfl, (Below.refl _ _).alloc (Nat.le_refl _) _⟩
theorem c_45 (w : World) : Calls Tryz.prog 67 #[.int .i64 45] w fun e w' => e = .returned (.int .i64 111) ∧ Below w.heap.size w w' := by
  go_enter Tryz.func67, Tryz.ntmps67
  go_wp2
  go_ret
  exact ⟨rfl, (Below.refl _ _).alloc (Nat.le_refl _) _⟩
theorem c_46 (w : World) : Calls Tryz.prog 67 #[.int .i64 46] w fun e w' => e = .returned (.int .i64 115) ∧ Below w.heap.size w w' := by
  go_enter Tryz.func67, Tryz.ntmps67
  go_wp2
  go_ret
  exact ⟨rfl, (Below.refl _ _).alloc (Nat.le_refl _) _⟩
theorem c_47 (w : World) : Calls Tryz.prog 67 #[.int .i64 47] w fun e w' => e = .returned (.int .i64 115) ∧ Below w.heap.size w w' := by
  go_enter Tryz.func67, Tryz.ntmps67
  go_wp2
  go_ret
  exact ⟨rfl, (Below.refl _ _).alloc (Nat.le_refl _) _⟩
def f3Tab : Array Value := #[.int .i64 0, .int .i64 0, .int .i64 0, .int .i64 1, .int .i64 2, .int .i64 3, .int .i64 4, .int .i64 5, .int .i64 5, .int .i64 6, .int .i64 7, .int .i64 0, .int .i64 1, .int .i64 2, .int .i64 3, .int .i64 4, .int .i64 5, .int .i64 6, .int .i64 7, .int .i64 0, .int .i64 2, .int .i64 3, .int .i64 4, .int .i64 6, .int .i64 7, .int .i64 1, .int .i64 5, .int .i64 5, .int .i64 0, .int .i64 1, .int .i64 2, .int .i64 4, .int .i64 5, .int .i64 0, .int .i64 0, .int .i64 1, .int .i64 2, .int .i64 0, .int .i64 1, .int .i64 4, .int .i64 5, .int .i64 6, .int .i64 7]
theorem f3_at : ∀ k : Nat, k < 43 → f3Tab[k]? = some (.int .i64 (Pl.cc k 1))
  | 0, _ => by kernel_rfl
  | 1, _ => by kernel_rfl
  | 2, _ => by kernel_rfl
  | 3, _ => by kernel_rfl
  | 4, _ => by kernel_rfl
  | 5, _ => by kernel_rfl
  | 6, _ => by kernel_rfl
  | 7, _ => by kernel_rfl
  | 8, _ => by kernel_rfl
  | 9, _ => by kernel_rfl
  | 10, _ => by kernel_rfl
  | 11, _ => by kernel_rfl
  | 12, _ => by kernel_rfl
  | 13, _ => by kernel_rfl
  | 14, _ => by kernel_rfl
  | 15, _ => by kernel_rfl
  | 16, _ => by kernel_rfl
  | 17, _ => by kernel_rfl
  | 18, _ => by kernel_rfl
  | 19, _ => by kernel_rfl
  | 20, _ => by kernel_rfl
  | 21, _ => by kernel_rfl
  | 22, _ => by kernel_rfl
  | 23, _ => by kernel_rfl
  | 24, _ => by kernel_rfl
  | 25, _ => by kernel_rfl
  | 26, _ => by kernel_rfl
  | 27, _ => by kernel_rfl
  | 28, _ => by kernel_rfl
  | 29, _ => by kernel_rfl
  | 30, _ => by kernel_rfl
  | 31, _ => by kernel_rfl
  | 32, _ => by kernel_rfl
  | 33, _ => by kernel_rfl
  | 34, _ => by kernel_rfl
  | 35, _ => by kernel_rfl
  | 36, _ => by kernel_rfl
  | 37, _ => by kernel_rfl
  | 38, _ => by kernel_rfl
  | 39, _ => by kernel_rfl
  | 40, _ => by kernel_rfl
  | 41, _ => by kernel_rfl
  | 42, _ => by kernel_rfl
  | n + 43, h => absurd h (by omega)
set_option maxHeartbeats 400000 in
theorem l2F3_any (k : Nat) (hk : k < 43) (w : World) : Calls Tryz.prog 95 #[.int .i64 (k : Int)] w fun e w' => e = .returned (.int .i64 (Pl.cc k 1)) ∧ w' = w.alloc (.cells f3Tab 3) := by
  have hc : (w.alloc (.cells f3Tab 3)).cell? ⟨w.heap.size, k, none⟩ = some (.int .i64 (Pl.cc k 1)) := by
    rw [cell_of_row _ _ k f3Tab 3 (0, 0) (heap_alloc_new w _)]; exact f3_at k hk
  go_enter Tryz.func95, Tryz.ntmps95
  go_wp2_with (refine Great.wpList_buildSliceTo rfl 23 3 43 _ rfl w.heap.size rfl _ rfl Tryz.underlying23 f3Tab (by kernel_rfl) ?_)
  go_ret
  exact ⟨rfl, rfl⟩
end Go.Proofs.YtjdfffdeljgenaaGreatDoor.W
namespace Go.Proofs.YtjdfffdeljgenaaGreatDoor.W
open Go.RowKit
theorem drews {w u : World} (h : ∃ m, u = w.drewN m) (b : Nat) : ∃ m, u.drewN b = w.drewN m := by
  obtain ⟨m, rfl⟩ := h
  exact ⟨m + b, World.drewN_drewN _ _ _⟩
theorem l2Imm_0 (f : Int) (h : f = 1 ∨ f = 8) (n : Int) (w : World) : Calls Tryz.prog 94 #[.int .i64 f, .int .i64 n] w fun e w' => e = .returned (.int .i64 0) ∧ ∃ m, w' = w.drewN m := by
  rcases h with rfl | rfl
  all_goals
    go_enter Tryz.func94, Tryz.ntmps94
    go_wp2
    go_ret
    exact ⟨rfl, 0, rfl⟩
theorem l2Imm_3 (n : Int) (h1 : 0 ≤ n) (h2 : n ≤ 1048575) (w : World) : Calls Tryz.prog 94 #[.int .i64 3, .int .i64 n] w fun e w' => e = .returned (.int .i64 (n * 1048576)) ∧ ∃ m, w' = w.drewN m := by
  go_enter Tryz.func94, Tryz.ntmps94
  go_wp2
  go_ret
  exact ⟨rfl, 0, rfl⟩
theorem l2Imm_6 (n : Int) (h1 : 0 ≤ n) (h2 : n ≤ 1048575) (w : World) : Calls Tryz.prog 94 #[.int .i64 6, .int .i64 n] w fun e w' => e = .returned (.int .i64 (n * 4096)) ∧ ∃ m, w' = w.drewN m := by
  go_enter Tryz.func94, Tryz.ntmps94
  go_wp2
  go_ret
  exact ⟨rfl, 0, rfl⟩
set_option maxHeartbeats 1000000 in
theorem l2Imm_2 (n : Int) (w : World) : Calls Tryz.prog 94 #[.int .i64 2, .int .i64 n] w fun e w' => e = .returned (.int .i64 (Pl.wd n / Pl.pw 0 % Pl.pw 12 * 1048576)) ∧ ∃ m, w' = w.drewN m := by
  have b0 : 0 ≤ Pl.wd n / Pl.pw 0 % Pl.pw 12 ∧ Pl.wd n / Pl.pw 0 % Pl.pw 12 ≤ 4095 := by
    have h := Int.emod_nonneg (Pl.wd n / Pl.pw 0) (Int.ne_of_gt (Pl.pw_pos 12))
    have h' := Int.emod_lt_of_pos (Pl.wd n / Pl.pw 0) (Pl.pw_pos 12)
    have e : Pl.pw 12 = 4096 := by decide
    omega
  go_enter Tryz.func94, Tryz.ntmps94
  go_wp2_with fail
  refine (l2Bits_any _ _ _ 11 0 rfl rfl (by decide) (by decide) _).mono ?_
  rintro e w' ⟨rfl, m0, rfl⟩
  go_wp2
  go_ret
  exact ⟨rfl, _, rfl⟩
set_option maxHeartbeats 1000000 in
theorem l2Imm_4 (n : Int) (w : World) : Calls Tryz.prog 94 #[.int .i64 4, .int .i64 n] w fun e w' => e = .returned (.int .i64 (Pl.wd n / Pl.pw 5 % Pl.pw 7 * 33554432 + Pl.wd n / Pl.pw 0 % Pl.pw 5 * 128)) ∧ ∃ m, w' = w.drewN m := by
  have b0 : 0 ≤ Pl.wd n / Pl.pw 5 % Pl.pw 7 ∧ Pl.wd n / Pl.pw 5 % Pl.pw 7 ≤ 127 := by
    have h := Int.emod_nonneg (Pl.wd n / Pl.pw 5) (Int.ne_of_gt (Pl.pw_pos 7))
    have h' := Int.emod_lt_of_pos (Pl.wd n / Pl.pw 5) (Pl.pw_pos 7)
    have e : Pl.pw 7 = 128 := by decide
    omega
  have b1 : 0 ≤ Pl.wd n / Pl.pw 0 % Pl.pw 5 ∧ Pl.wd n / Pl.pw 0 % Pl.pw 5 ≤ 31 := by
    have h := Int.emod_nonneg (Pl.wd n / Pl.pw 0) (Int.ne_of_gt (Pl.pw_pos 5))
    have h' := Int.emod_lt_of_pos (Pl.wd n / Pl.pw 0) (Pl.pw_pos 5)
    have e : Pl.pw 5 = 32 := by decide
    omega
  go_enter Tryz.func94, Tryz.ntmps94
  go_wp2_with fail
  refine (l2Bits_any _ _ _ 11 5 rfl rfl (by decide) (by decide) _).mono ?_
  rintro e w' ⟨rfl, m0, rfl⟩
  go_wp2_with fail
  refine (l2Bits_any _ _ _ 4 0 rfl rfl (by decide) (by decide) _).mono ?_
  rintro e w' ⟨rfl, m1, rfl⟩
  go_wp2
  go_ret
  first | exact ⟨rfl, _, rfl⟩ | exact ⟨rfl, drews (drews ⟨0, rfl⟩ _) _⟩ | exact ⟨rfl, drews (drews (drews (drews ⟨0, rfl⟩ _) _) _) _⟩
set_option maxHeartbeats 1000000 in
theorem l2Imm_5 (n : Int) (w : World) : Calls Tryz.prog 94 #[.int .i64 5, .int .i64 n] w fun e w' => e = .returned (.int .i64 (Pl.wd n / Pl.pw 12 % Pl.pw 1 * 2147483648 + Pl.wd n / Pl.pw 5 % Pl.pw 6 * 33554432 + Pl.wd n / Pl.pw 1 % Pl.pw 4 * 256 + Pl.wd n / Pl.pw 11 % Pl.pw 1 * 128)) ∧ ∃ m, w' = w.drewN m := by
  have b0 : 0 ≤ Pl.wd n / Pl.pw 12 % Pl.pw 1 ∧ Pl.wd n / Pl.pw 12 % Pl.pw 1 ≤ 1 := by
    have h := Int.emod_nonneg (Pl.wd n / Pl.pw 12) (Int.ne_of_gt (Pl.pw_pos 1))
    have h' := Int.emod_lt_of_pos (Pl.wd n / Pl.pw 12) (Pl.pw_pos 1)
    have e : Pl.pw 1 = 2 := by decide
    omega
  have b1 : 0 ≤ Pl.wd n / Pl.pw 5 % Pl.pw 6 ∧ Pl.wd n / Pl.pw 5 % Pl.pw 6 ≤ 63 := by
    have h := Int.emod_nonneg (Pl.wd n / Pl.pw 5) (Int.ne_of_gt (Pl.pw_pos 6))
    have h' := Int.emod_lt_of_pos (Pl.wd n / Pl.pw 5) (Pl.pw_pos 6)
    have e : Pl.pw 6 = 64 := by decide
    omega
  have b2 : 0 ≤ Pl.wd n / Pl.pw 1 % Pl.pw 4 ∧ Pl.wd n / Pl.pw 1 % Pl.pw 4 ≤ 15 := by
    have h := Int.emod_nonneg (Pl.wd n / Pl.pw 1) (Int.ne_of_gt (Pl.pw_pos 4))
    have h' := Int.emod_lt_of_pos (Pl.wd n / Pl.pw 1) (Pl.pw_pos 4)
    have e : Pl.pw 4 = 16 := by decide
    omega
  have b3 : 0 ≤ Pl.wd n / Pl.pw 11 % Pl.pw 1 ∧ Pl.wd n / Pl.pw 11 % Pl.pw 1 ≤ 1 := by
    have h := Int.emod_nonneg (Pl.wd n / Pl.pw 11) (Int.ne_of_gt (Pl.pw_pos 1))
    have h' := Int.emod_lt_of_pos (Pl.wd n / Pl.pw 11) (Pl.pw_pos 1)
    have e : Pl.pw 1 = 2 := by decide
    omega
  go_enter Tryz.func94, Tryz.ntmps94
  go_wp2_with fail
  refine (l2Bits_any _ _ _ 12 12 rfl rfl (by decide) (by decide) _).mono ?_
  rintro e w' ⟨rfl, m0, rfl⟩
  go_wp2_with fail
  refine (l2Bits_any _ _ _ 10 5 rfl rfl (by decide) (by decide) _).mono ?_
  rintro e w' ⟨rfl, m1, rfl⟩
  go_wp2_with fail
  refine (l2Bits_any _ _ _ 4 1 rfl rfl (by decide) (by decide) _).mono ?_
  rintro e w' ⟨rfl, m2, rfl⟩
  go_wp2_with fail
  refine (l2Bits_any _ _ _ 11 11 rfl rfl (by decide) (by decide) _).mono ?_
  rintro e w' ⟨rfl, m3, rfl⟩
  go_wp2
  go_ret
  first | exact ⟨rfl, _, rfl⟩ | exact ⟨rfl, drews (drews ⟨0, rfl⟩ _) _⟩ | exact ⟨rfl, drews (drews (drews (drews ⟨0, rfl⟩ _) _) _) _⟩
set_option maxHeartbeats 1000000 in
theorem l2Imm_7 (n : Int) (w : World) : Calls Tryz.prog 94 #[.int .i64 7, .int .i64 n] w fun e w' => e = .returned (.int .i64 (Pl.wd n / Pl.pw 20 % Pl.pw 1 * 2147483648 + Pl.wd n / Pl.pw 1 % Pl.pw 10 * 2097152 + Pl.wd n / Pl.pw 11 % Pl.pw 1 * 1048576 + Pl.wd n / Pl.pw 12 % Pl.pw 8 * 4096)) ∧ ∃ m, w' = w.drewN m := by
  have b0 : 0 ≤ Pl.wd n / Pl.pw 20 % Pl.pw 1 ∧ Pl.wd n / Pl.pw 20 % Pl.pw 1 ≤ 1 := by
    have h := Int.emod_nonneg (Pl.wd n / Pl.pw 20) (Int.ne_of_gt (Pl.pw_pos 1))
    have h' := Int.emod_lt_of_pos (Pl.wd n / Pl.pw 20) (Pl.pw_pos 1)
    have e : Pl.pw 1 = 2 := by decide
    omega
  have b1 : 0 ≤ Pl.wd n / Pl.pw 1 % Pl.pw 10 ∧ Pl.wd n / Pl.pw 1 % Pl.pw 10 ≤ 1023 := by
    have h := Int.emod_nonneg (Pl.wd n / Pl.pw 1) (Int.ne_of_gt (Pl.pw_pos 10))
    have h' := Int.emod_lt_of_pos (Pl.wd n / Pl.pw 1) (Pl.pw_pos 10)
    have e : Pl.pw 10 = 1024 := by decide
    omega
  have b2 : 0 ≤ Pl.wd n / Pl.pw 11 % Pl.pw 1 ∧ Pl.wd n / Pl.pw 11 % Pl.pw 1 ≤ 1 := by
    have h := Int.emod_nonneg (Pl.wd n / Pl.pw 11) (Int.ne_of_gt (Pl.pw_pos 1))
    have h' := Int.emod_lt_of_pos (Pl.wd n / Pl.pw 11) (Pl.pw_pos 1)
    have e : Pl.pw 1 = 2 := by decide
    omega
  have b3 : 0 ≤ Pl.wd n / Pl.pw 12 % Pl.pw 8 ∧ Pl.wd n / Pl.pw 12 % Pl.pw 8 ≤ 255 := by
    have h := Int.emod_nonneg (Pl.wd n / Pl.pw 12) (Int.ne_of_gt (Pl.pw_pos 8))
    have h' := Int.emod_lt_of_pos (Pl.wd n / Pl.pw 12) (Pl.pw_pos 8)
    have e : Pl.pw 8 = 256 := by decide
    omega
  go_enter Tryz.func94, Tryz.ntmps94
  go_wp2_with fail
  refine (l2Bits_any _ _ _ 20 20 rfl rfl (by decide) (by decide) _).mono ?_
  rintro e w' ⟨rfl, m0, rfl⟩
  go_wp2_with fail
  refine (l2Bits_any _ _ _ 10 1 rfl rfl (by decide) (by decide) _).mono ?_
  rintro e w' ⟨rfl, m1, rfl⟩
  go_wp2_with fail
  refine (l2Bits_any _ _ _ 11 11 rfl rfl (by decide) (by decide) _).mono ?_
  rintro e w' ⟨rfl, m2, rfl⟩
  go_wp2_with fail
  refine (l2Bits_any _ _ _ 19 12 rfl rfl (by decide) (by decide) _).mono ?_
  rintro e w' ⟨rfl, m3, rfl⟩
  go_wp2
  go_ret
  first | exact ⟨rfl, _, rfl⟩ | exact ⟨rfl, drews (drews ⟨0, rfl⟩ _) _⟩ | exact ⟨rfl, drews (drews (drews (drews ⟨0, rfl⟩ _) _) _) _⟩
end Go.Proofs.YtjdfffdeljgenaaGreatDoor.W
namespace Go.Proofs.YtjdfffdeljgenaaGreatDoor.Pl
theorem cc_ranges : ∀ k : Nat, k < 43 → (1 ≤ k ∧ k ≤ 18 → cc k 0 = 51) ∧ (19 ≤ k ∧ k ≤ 27 → cc k 0 = 19) ∧ (28 ≤ k ∧ k ≤ 32 → cc k 0 = 3) ∧ (k = 33 → cc k 0 = 103) ∧ (34 ≤ k ∧ k ≤ 36 → cc k 0 = 35) ∧ (37 ≤ k ∧ k ≤ 42 → cc k 0 = 99) := by decide +kernel
theorem cc_bd' : ∀ k : Nat, k < 48 → ∀ i : Nat, i < 4 → 0 ≤ cc k i ∧ cc k i ≤ 127 := by decide +kernel
end Go.Proofs.YtjdfffdeljgenaaGreatDoor.Pl
namespace Go.Proofs.YtjdfffdeljgenaaGreatDoor.W
open Go.RowKit
theorem c_any (k : Nat) (h1 : 1 ≤ k) (h2 : k ≤ 42) (w : World) : Calls Tryz.prog 67 #[.int .i64 (k : Int)] w fun e w' => e = .returned (.int .i64 (Pl.cc k 0)) ∧ w' = w := by
  obtain ⟨a, b, c, d, e, f⟩ := Pl.cc_ranges k (by omega)
  by_cases q : k ≤ 18
  · rw [a ⟨h1, q⟩]; exact c_a k (by omega) w
  by_cases q : k ≤ 27
  · rw [b ⟨by omega, q⟩]; exact c_b k (by omega) (by omega) w
  by_cases q : k ≤ 32
  · rw [c ⟨by omega, q⟩]; exact c_c k (by omega) (by omega) w
  by_cases q : k = 33
  · rw [d q]; subst q; exact c_33 w
  by_cases q : k ≤ 36
  · rw [e ⟨by omega, q⟩]; exact c_e k (by omega) (by omega) w
  · rw [f ⟨by omega, by omega⟩]; exact c_f k (by omega) (by omega) w
theorem f7_cases (k : Nat) (h : (1 ≤ k ∧ k ≤ 18) ∨ (25 ≤ k ∧ k ≤ 27)) : k = 1 ∨ k = 2 ∨ k = 3 ∨ k = 4 ∨ k = 5 ∨ k = 6 ∨ k = 7 ∨ k = 8 ∨ k = 9 ∨ k = 10 ∨ k = 11 ∨ k = 12 ∨ k = 13 ∨ k = 14 ∨ k = 15 ∨ k = 16 ∨ k = 17 ∨ k = 18 ∨ k = 25 ∨ k = 26 ∨ k = 27 := by omega
theorem f7_any (k : Nat) (h : (1 ≤ k ∧ k ≤ 18) ∨ (25 ≤ k ∧ k ≤ 27)) (w : World) : Calls Tryz.prog 96 #[.int .i64 (k : Int)] w fun e w' => e = .returned (.int .i64 (Pl.cc k 2)) ∧ w' = w := by
  rcases f7_cases k h with rfl | rfl | rfl | rfl | rfl | rfl | rfl | rfl | rfl | rfl | rfl | rfl | rfl | rfl | rfl | rfl | rfl | rfl | rfl | rfl | rfl
  all_goals
    go_enter Tryz.func96, Tryz.ntmps96
    go_wp2
    go_ret
    refine ⟨ret_int ?_, rfl⟩
    kernel_rfl
theorem kept_cells' {w u : World} {cs : Array Value} {t : TypeId} (hb : Below (w.alloc (.cells cs t)).heap.size (w.alloc (.cells cs t)) u) (i : Nat) : u.cell? ⟨w.heap.size, i, none⟩ = cs[i]? :=
  cell_of_row u _ i cs t (0, 0) (kept_row hb)
set_option maxHeartbeats 1000000 in
theorem specEnc_no (n rd r1 r2 im : Int) (h : iok n rd r1 r2 im = false) (w : World) : Calls Tryz.prog 69 #[.agg #[.int .i64 n, .int .i64 rd, .int .i64 r1, .int .i64 r2, .int .i64 im]] w fun e w' => e = .returned (.tuple #[.int .i64 0, .bool false]) ∧ Below w.heap.size w w' := by
  go_enter Tryz.func69, Tryz.ntmps69
  go_wp2_with (go_at_call 93; refine (specInstOk_any _ _ _ _ _ _).mono ?_; rintro e u1 ⟨rfl, hb1⟩)
  go_ret2
  exact ⟨rfl, ((Below.refl _ _).alloc (Nat.le_refl _) _).trans (hb1.mono (by simp))⟩
end Go.Proofs.YtjdfffdeljgenaaGreatDoor.W
namespace Go.Proofs.YtjdfffdeljgenaaGreatDoor.W
open Go.RowKit
theorem vint' {k : IntKind} {a b : Int} (h : a = b) : Value.int k a = Value.int k b := by rw [h]
set_option maxHeartbeats 2000000 in
theorem specEnc_1 (k : Nat) (h1 : 1 ≤ k) (h2 : k ≤ 42) (HF : Hid (Pl.fmN k = 1)) (HG : Hid (1 ≤ k ∧ k ≤ 18)) (rd r1 r2 im : Int) (h : iok k rd r1 r2 im = true) (w : World)
    (d1 : 0 ≤ rd ∧ rd ≤ 31) (d2 : 0 ≤ r1 ∧ r1 ≤ 31) (d3 : 0 ≤ r2 ∧ r2 ≤ 31) (d4 : -1048576 ≤ im ∧ im ≤ 1048575) :
    Calls Tryz.prog 69 #[.agg #[.int .i64 k, .int .i64 rd, .int .i64 r1, .int .i64 r2, .int .i64 im]] w fun e w' => e = .returned (.tuple #[.int .i64 (Pl.cc k 0 + (Pl.cc k 1 * 4096 + r1 * 32768) + Pl.cc k 2 * 33554432 + r2 * 1048576 + rd * 128), .bool true]) ∧ Below w.heap.size w w' := by
  have q0 := Pl.cc_bd' k (by omega) 0 (by decide)
  have q1 := Pl.cc_bd' k (by omega) 1 (by decide)
  have q2 := Pl.cc_bd' k (by omega) 2 (by decide)
  have hk : ∀ w, Calls Tryz.prog 89 #[.int .i64 k] w fun e w' => e = .returned (.int .i64 1) ∧ w' = w := fun w => by
    have := form_any k h1 (by omega) w
    rw [HF.out] at this; exact this
  have HK : Hid (∀ w, Calls Tryz.prog 89 #[.int .i64 k] w fun e w' => e = .returned (.int .i64 1) ∧ w' = w) := hk
  clear hk
  go_enter Tryz.func69, Tryz.ntmps69
  go_wp2_with fail
  refine (specInstOk_any _ _ _ _ _ _).mono ?_
  rintro e u1 ⟨rfl, hb1⟩
  have c0 : u1.cell? ⟨w.heap.size, 0, none⟩ = some (.int .i64 k) := kept_cells' hb1 0
  have c1 : u1.cell? ⟨w.heap.size, 1, none⟩ = some (.int .i64 rd) := kept_cells' hb1 1
  have c2 : u1.cell? ⟨w.heap.size, 2, none⟩ = some (.int .i64 r1) := kept_cells' hb1 2
  have c3 : u1.cell? ⟨w.heap.size, 3, none⟩ = some (.int .i64 r2) := kept_cells' hb1 3
  have c4 : u1.cell? ⟨w.heap.size, 4, none⟩ = some (.int .i64 im) := kept_cells' hb1 4
  have hz : w.heap.size + 1 ≤ u1.heap.size := by have := hb1.size; simpa using this
  have HB : Hid (Below w.heap.size w u1) := ((Below.refl _ _).alloc (Nat.le_refl _) _).trans (hb1.mono (by simp))
  have n0 : ¬ w.heap.size = u1.heap.size := by omega
  clear hb1
  go_wp2_with (go_at_call 89; refine (HK.out _).mono ?_; rintro e u2 ⟨rfl, rfl⟩)
  go_quiet ((first | (go_at_call 67; exact Calls.quiet_of_same (c_any k h1 h2 _)) | (go_at_call 94; exact Calls.quiet_of (l2Imm_0 1 (Or.inl rfl) _ _))))
  go_upto_region 8 with fail
  obtain ⟨U, hU⟩ : ∃ U, u2.drewN nq = U := ⟨_, rfl⟩
  have m0 : U.cell? ⟨w.heap.size, 0, none⟩ = some (.int .i64 k) := by rw [← hU]; exact c0
  have m1 : U.cell? ⟨w.heap.size, 1, none⟩ = some (.int .i64 rd) := by rw [← hU]; exact c1
  have m2 : U.cell? ⟨w.heap.size, 2, none⟩ = some (.int .i64 r1) := by rw [← hU]; exact c2
  have m3 : U.cell? ⟨w.heap.size, 3, none⟩ = some (.int .i64 r2) := by rw [← hU]; exact c3
  have hlt : w.heap.size < U.heap.size := by rw [← hU]; exact hz
  have HW : Hid (Below w.heap.size w U) := by rw [← hU]; exact ⟨HB.out.os, HB.out.tape, HB.out.output, HB.out.size, HB.out.block⟩
  rw [hU]
  have k2 : ∀ o, (U.alloc o).cell? ⟨w.heap.size, 2, none⟩ = some (.int .i64 r1) := fun o => (((Below.refl U.heap.size U).alloc (Nat.le_refl _) o).cell (p := ⟨w.heap.size, 2, none⟩) hlt).trans m2
  have k3 : ∀ o, (U.alloc o).cell? ⟨w.heap.size, 3, none⟩ = some (.int .i64 r2) := fun o => (((Below.refl U.heap.size U).alloc (Nat.le_refl _) o).cell (p := ⟨w.heap.size, 3, none⟩) hlt).trans m3
  have HL : Hid (w.heap.size < U.heap.size) := hlt
  have n1 : ¬ w.heap.size = U.heap.size := by omega
  clear hU c0 c1 c2 c3 c4 hlt HB n0 hz HK
  go_cut [5] from 30 to 39 (fun v5 wx => v5 = .int .i64 (Pl.cc k 0 + (Pl.cc k 1 * 4096 + r1 * 32768)) ∧ Below U.heap.size U wx)
  case first =>
    go_region_with (go_at_call 95; refine (l2F3_any k (by omega) _).mono ?_; rintro e v1 ⟨rfl, rfl⟩)
    all_goals
      go_wp2_with fail
      go_meet
      exact ⟨vint' (by first | rfl | (simp only [IntKind.wrap_i64]; omega)), (by repeat (first | exact Below.refl _ _ | refine Below.drew ?_ | refine Below.alloc ?_ (by simp <;> omega) _))⟩
  case rest =>
    obtain ⟨rfl, hbx⟩ := hcut
    have e0 : wc.cell? ⟨w.heap.size, 0, none⟩ = some (.int .i64 k) := (hbx.cell (p := ⟨w.heap.size, 0, none⟩) HL.out).trans m0
    have e1 : wc.cell? ⟨w.heap.size, 1, none⟩ = some (.int .i64 rd) := (hbx.cell (p := ⟨w.heap.size, 1, none⟩) HL.out).trans m1
    have e3 : wc.cell? ⟨w.heap.size, 3, none⟩ = some (.int .i64 r2) := (hbx.cell (p := ⟨w.heap.size, 3, none⟩) HL.out).trans m3
    have HE : Hid (Below w.heap.size w wc) := HW.out.trans (hbx.mono (Nat.le_of_lt HL.out))
    clear m0 m1 m2 m3 k2 k3 n1 hbx HL HW
    go_wp2_with (go_at_call 96; refine (f7_any k (by have := HG.out; omega) _).mono ?_; rintro e v1 ⟨rfl, rfl⟩)
    go_ret2
    exact ⟨ret2 rfl rfl, HE.out⟩
set_option maxHeartbeats 2000000 in
theorem specEnc_3 (k : Nat) (h1 : 1 ≤ k) (h2 : k ≤ 42) (HF : Hid (Pl.fmN k = 3)) (HG : Hid (25 ≤ k ∧ k ≤ 27)) (rd r1 r2 im : Int) (h : iok k rd r1 r2 im = true) (w : World)
    (d1 : 0 ≤ rd ∧ rd ≤ 31) (d2 : 0 ≤ r1 ∧ r1 ≤ 31) (d3 : 0 ≤ r2 ∧ r2 ≤ 31) (d4 : -1048576 ≤ im ∧ im ≤ 31) (d6 : 0 ≤ im) :
    Calls Tryz.prog 69 #[.agg #[.int .i64 k, .int .i64 rd, .int .i64 r1, .int .i64 r2, .int .i64 im]] w fun e w' => e = .returned (.tuple #[.int .i64 (Pl.cc k 0 + (im * 1048576) + (Pl.cc k 1 * 4096 + r1 * 32768) + Pl.cc k 2 * 33554432 + r2 * 1048576 + rd * 128), .bool true]) ∧ Below w.heap.size w w' := by
  have q0 := Pl.cc_bd' k (by omega) 0 (by decide)
  have q1 := Pl.cc_bd' k (by omega) 1 (by decide)
  have q2 := Pl.cc_bd' k (by omega) 2 (by decide)
  have hk : ∀ w, Calls Tryz.prog 89 #[.int .i64 k] w fun e w' => e = .returned (.int .i64 3) ∧ w' = w := fun w => by
    have := form_any k h1 (by omega) w
    rw [HF.out] at this; exact this
  have HK : Hid (∀ w, Calls Tryz.prog 89 #[.int .i64 k] w fun e w' => e = .returned (.int .i64 3) ∧ w' = w) := hk
  clear hk
  go_enter Tryz.func69, Tryz.ntmps69
  go_wp2_with fail
  refine (specInstOk_any _ _ _ _ _ _).mono ?_
  rintro e u1 ⟨rfl, hb1⟩
  have c0 : u1.cell? ⟨w.heap.size, 0, none⟩ = some (.int .i64 k) := kept_cells' hb1 0
  have c1 : u1.cell? ⟨w.heap.size, 1, none⟩ = some (.int .i64 rd) := kept_cells' hb1 1
  have c2 : u1.cell? ⟨w.heap.size, 2, none⟩ = some (.int .i64 r1) := kept_cells' hb1 2
  have c3 : u1.cell? ⟨w.heap.size, 3, none⟩ = some (.int .i64 r2) := kept_cells' hb1 3
  have c4 : u1.cell? ⟨w.heap.size, 4, none⟩ = some (.int .i64 im) := kept_cells' hb1 4
  have hz : w.heap.size + 1 ≤ u1.heap.size := by have := hb1.size; simpa using this
  have HB : Hid (Below w.heap.size w u1) := ((Below.refl _ _).alloc (Nat.le_refl _) _).trans (hb1.mono (by simp))
  have n0 : ¬ w.heap.size = u1.heap.size := by omega
  clear hb1
  go_wp2_with (go_at_call 89; refine (HK.out _).mono ?_; rintro e u2 ⟨rfl, rfl⟩)
  go_quiet ((first | (go_at_call 67; exact Calls.quiet_of_same (c_any k h1 h2 _)) | (go_at_call 94; exact Calls.quiet_of (l2Imm_3 _ d6 (by omega) _))))
  go_upto_region 8 with fail
  obtain ⟨U, hU⟩ : ∃ U, u2.drewN nq = U := ⟨_, rfl⟩
  have m0 : U.cell? ⟨w.heap.size, 0, none⟩ = some (.int .i64 k) := by rw [← hU]; exact c0
  have m1 : U.cell? ⟨w.heap.size, 1, none⟩ = some (.int .i64 rd) := by rw [← hU]; exact c1
  have m2 : U.cell? ⟨w.heap.size, 2, none⟩ = some (.int .i64 r1) := by rw [← hU]; exact c2
  have m3 : U.cell? ⟨w.heap.size, 3, none⟩ = some (.int .i64 r2) := by rw [← hU]; exact c3
  have hlt : w.heap.size < U.heap.size := by rw [← hU]; exact hz
  have HW : Hid (Below w.heap.size w U) := by rw [← hU]; exact ⟨HB.out.os, HB.out.tape, HB.out.output, HB.out.size, HB.out.block⟩
  rw [hU]
  have k2 : ∀ o, (U.alloc o).cell? ⟨w.heap.size, 2, none⟩ = some (.int .i64 r1) := fun o => (((Below.refl U.heap.size U).alloc (Nat.le_refl _) o).cell (p := ⟨w.heap.size, 2, none⟩) hlt).trans m2
  have k3 : ∀ o, (U.alloc o).cell? ⟨w.heap.size, 3, none⟩ = some (.int .i64 r2) := fun o => (((Below.refl U.heap.size U).alloc (Nat.le_refl _) o).cell (p := ⟨w.heap.size, 3, none⟩) hlt).trans m3
  have HL : Hid (w.heap.size < U.heap.size) := hlt
  have n1 : ¬ w.heap.size = U.heap.size := by omega
  clear hU c0 c1 c2 c3 c4 hlt HB n0 hz HK
  go_cut [5] from 30 to 39 (fun v5 wx => v5 = .int .i64 (Pl.cc k 0 + (im * 1048576) + (Pl.cc k 1 * 4096 + r1 * 32768)) ∧ Below U.heap.size U wx)
  case first =>
    go_region_with (go_at_call 95; refine (l2F3_any k (by omega) _).mono ?_; rintro e v1 ⟨rfl, rfl⟩)
    all_goals
      go_wp2_with fail
      go_meet
      exact ⟨vint' (by first | rfl | (simp only [IntKind.wrap_i64]; omega)), (by repeat (first | exact Below.refl _ _ | refine Below.drew ?_ | refine Below.alloc ?_ (by simp <;> omega) _))⟩
  case rest =>
    obtain ⟨rfl, hbx⟩ := hcut
    have e0 : wc.cell? ⟨w.heap.size, 0, none⟩ = some (.int .i64 k) := (hbx.cell (p := ⟨w.heap.size, 0, none⟩) HL.out).trans m0
    have e1 : wc.cell? ⟨w.heap.size, 1, none⟩ = some (.int .i64 rd) := (hbx.cell (p := ⟨w.heap.size, 1, none⟩) HL.out).trans m1
    have e3 : wc.cell? ⟨w.heap.size, 3, none⟩ = some (.int .i64 r2) := (hbx.cell (p := ⟨w.heap.size, 3, none⟩) HL.out).trans m3
    have HE : Hid (Below w.heap.size w wc) := HW.out.trans (hbx.mono (Nat.le_of_lt HL.out))
    clear m0 m1 m2 m3 k2 k3 n1 hbx HL HW
    go_wp2_with (go_at_call 96; refine (f7_any k (by have := HG.out; omega) _).mono ?_; rintro e v1 ⟨rfl, rfl⟩)
    go_ret2
    exact ⟨ret2 rfl rfl, HE.out⟩
end Go.Proofs.YtjdfffdeljgenaaGreatDoor.W
namespace Go.Proofs.YtjdfffdeljgenaaGreatDoor.W
open Go.RowKit
set_option maxHeartbeats 2000000 in
theorem specEnc_2 (k : Nat) (h1 : 1 ≤ k) (h2 : k ≤ 42) (HF : Hid (Pl.fmN k = 2)) (HG : Hid ((19 ≤ k ∧ k ≤ 24) ∨ (28 ≤ k ∧ k ≤ 33))) (rd r1 r2 im : Int) (h : iok k rd r1 r2 im = true) (w : World)
    (d1 : 0 ≤ rd ∧ rd ≤ 31) (d2 : 0 ≤ r1 ∧ r1 ≤ 31) (d3 : 0 ≤ r2 ∧ r2 ≤ 31) (d4 : -1048576 ≤ im ∧ im ≤ 1048575) :
    Calls Tryz.prog 69 #[.agg #[.int .i64 k, .int .i64 rd, .int .i64 r1, .int .i64 r2, .int .i64 im]] w fun e w' => e = .returned (.tuple #[.int .i64 (Pl.cc k 0 + (Pl.wd im / Pl.pw 0 % Pl.pw 12 * 1048576) + (Pl.cc k 1 * 4096 + r1 * 32768) + r2 * 1048576 + rd * 128), .bool true]) ∧ Below w.heap.size w w' := by
  have b0 : 0 ≤ Pl.wd im / Pl.pw 0 % Pl.pw 12 ∧ Pl.wd im / Pl.pw 0 % Pl.pw 12 ≤ 4095 := by
    have h := Int.emod_nonneg (Pl.wd im / Pl.pw 0) (Int.ne_of_gt (Pl.pw_pos 12))
    have h' := Int.emod_lt_of_pos (Pl.wd im / Pl.pw 0) (Pl.pw_pos 12)
    have e : Pl.pw 12 = 4096 := by decide
    omega
  have q0 := Pl.cc_bd' k (by omega) 0 (by decide)
  have q1 := Pl.cc_bd' k (by omega) 1 (by decide)
  have q2 := Pl.cc_bd' k (by omega) 2 (by decide)
  have hk : ∀ w, Calls Tryz.prog 89 #[.int .i64 k] w fun e w' => e = .returned (.int .i64 2) ∧ w' = w := fun w => by
    have := form_any k h1 (by omega) w
    rw [HF.out] at this; exact this
  have HK : Hid (∀ w, Calls Tryz.prog 89 #[.int .i64 k] w fun e w' => e = .returned (.int .i64 2) ∧ w' = w) := hk
  clear hk
  go_enter Tryz.func69, Tryz.ntmps69
  go_wp2_with fail
  refine (specInstOk_any _ _ _ _ _ _).mono ?_
  rintro e u1 ⟨rfl, hb1⟩
  have c0 : u1.cell? ⟨w.heap.size, 0, none⟩ = some (.int .i64 k) := kept_cells' hb1 0
  have c1 : u1.cell? ⟨w.heap.size, 1, none⟩ = some (.int .i64 rd) := kept_cells' hb1 1
  have c2 : u1.cell? ⟨w.heap.size, 2, none⟩ = some (.int .i64 r1) := kept_cells' hb1 2
  have c3 : u1.cell? ⟨w.heap.size, 3, none⟩ = some (.int .i64 r2) := kept_cells' hb1 3
  have c4 : u1.cell? ⟨w.heap.size, 4, none⟩ = some (.int .i64 im) := kept_cells' hb1 4
  have hz : w.heap.size + 1 ≤ u1.heap.size := by have := hb1.size; simpa using this
  have HB : Hid (Below w.heap.size w u1) := ((Below.refl _ _).alloc (Nat.le_refl _) _).trans (hb1.mono (by simp))
  have n0 : ¬ w.heap.size = u1.heap.size := by omega
  clear hb1
  go_wp2_with (go_at_call 89; refine (HK.out _).mono ?_; rintro e u2 ⟨rfl, rfl⟩)
  go_quiet ((first | (go_at_call 67; exact Calls.quiet_of_same (c_any k h1 h2 _)) | (go_at_call 94; exact Calls.quiet_of (l2Imm_2 _ _))))
  go_upto_region 8 with fail
  obtain ⟨U, hU⟩ : ∃ U, u2.drewN nq = U := ⟨_, rfl⟩
  have m0 : U.cell? ⟨w.heap.size, 0, none⟩ = some (.int .i64 k) := by rw [← hU]; exact c0
  have m1 : U.cell? ⟨w.heap.size, 1, none⟩ = some (.int .i64 rd) := by rw [← hU]; exact c1
  have m2 : U.cell? ⟨w.heap.size, 2, none⟩ = some (.int .i64 r1) := by rw [← hU]; exact c2
  have m3 : U.cell? ⟨w.heap.size, 3, none⟩ = some (.int .i64 r2) := by rw [← hU]; exact c3
  have hlt : w.heap.size < U.heap.size := by rw [← hU]; exact hz
  have HW : Hid (Below w.heap.size w U) := by rw [← hU]; exact ⟨HB.out.os, HB.out.tape, HB.out.output, HB.out.size, HB.out.block⟩
  rw [hU]
  have k2 : ∀ o, (U.alloc o).cell? ⟨w.heap.size, 2, none⟩ = some (.int .i64 r1) := fun o => (((Below.refl U.heap.size U).alloc (Nat.le_refl _) o).cell (p := ⟨w.heap.size, 2, none⟩) hlt).trans m2
  have k3 : ∀ o, (U.alloc o).cell? ⟨w.heap.size, 3, none⟩ = some (.int .i64 r2) := fun o => (((Below.refl U.heap.size U).alloc (Nat.le_refl _) o).cell (p := ⟨w.heap.size, 3, none⟩) hlt).trans m3
  have HL : Hid (w.heap.size < U.heap.size) := hlt
  have n1 : ¬ w.heap.size = U.heap.size := by omega
  clear hU c0 c1 c2 c3 c4 hlt HB n0 hz HK
  go_cut [5] from 30 to 39 (fun v5 wx => v5 = .int .i64 (Pl.cc k 0 + (Pl.wd im / Pl.pw 0 % Pl.pw 12 * 1048576) + (Pl.cc k 1 * 4096 + r1 * 32768)) ∧ Below U.heap.size U wx)
  case first =>
    go_region_with (go_at_call 95; refine (l2F3_any k (by omega) _).mono ?_; rintro e v1 ⟨rfl, rfl⟩)
    all_goals
      go_wp2_with fail
      go_meet
      exact ⟨vint' (by first | rfl | (simp only [IntKind.wrap_i64]; omega)), (by repeat (first | exact Below.refl _ _ | refine Below.drew ?_ | refine Below.alloc ?_ (by simp <;> omega) _))⟩
  case rest =>
    obtain ⟨rfl, hbx⟩ := hcut
    have e0 : wc.cell? ⟨w.heap.size, 0, none⟩ = some (.int .i64 k) := (hbx.cell (p := ⟨w.heap.size, 0, none⟩) HL.out).trans m0
    have e1 : wc.cell? ⟨w.heap.size, 1, none⟩ = some (.int .i64 rd) := (hbx.cell (p := ⟨w.heap.size, 1, none⟩) HL.out).trans m1
    have e3 : wc.cell? ⟨w.heap.size, 3, none⟩ = some (.int .i64 r2) := (hbx.cell (p := ⟨w.heap.size, 3, none⟩) HL.out).trans m3
    have HE : Hid (Below w.heap.size w wc) := HW.out.trans (hbx.mono (Nat.le_of_lt HL.out))
    clear m0 m1 m2 m3 k2 k3 n1 hbx HL HW
    go_wp2
    go_ret2
    exact ⟨ret2 rfl rfl, HE.out⟩
set_option maxHeartbeats 2000000 in
theorem specEnc_4 (k : Nat) (h1 : 1 ≤ k) (h2 : k ≤ 42) (HF : Hid (Pl.fmN k = 4)) (HG : Hid (34 ≤ k ∧ k ≤ 36)) (rd r1 r2 im : Int) (h : iok k rd r1 r2 im = true) (w : World)
    (d1 : 0 ≤ rd ∧ rd ≤ 31) (d2 : 0 ≤ r1 ∧ r1 ≤ 31) (d3 : 0 ≤ r2 ∧ r2 ≤ 31) (d4 : -1048576 ≤ im ∧ im ≤ 1048575) :
    Calls Tryz.prog 69 #[.agg #[.int .i64 k, .int .i64 rd, .int .i64 r1, .int .i64 r2, .int .i64 im]] w fun e w' => e = .returned (.tuple #[.int .i64 (Pl.cc k 0 + (Pl.wd im / Pl.pw 5 % Pl.pw 7 * 33554432 + Pl.wd im / Pl.pw 0 % Pl.pw 5 * 128) + (Pl.cc k 1 * 4096 + r1 * 32768) + r2 * 1048576 + rd * 128), .bool true]) ∧ Below w.heap.size w w' := by
  have b0 : 0 ≤ Pl.wd im / Pl.pw 5 % Pl.pw 7 ∧ Pl.wd im / Pl.pw 5 % Pl.pw 7 ≤ 127 := by
    have h := Int.emod_nonneg (Pl.wd im / Pl.pw 5) (Int.ne_of_gt (Pl.pw_pos 7))
    have h' := Int.emod_lt_of_pos (Pl.wd im / Pl.pw 5) (Pl.pw_pos 7)
    have e : Pl.pw 7 = 128 := by decide
    omega
  have b1 : 0 ≤ Pl.wd im / Pl.pw 0 % Pl.pw 5 ∧ Pl.wd im / Pl.pw 0 % Pl.pw 5 ≤ 31 := by
    have h := Int.emod_nonneg (Pl.wd im / Pl.pw 0) (Int.ne_of_gt (Pl.pw_pos 5))
    have h' := Int.emod_lt_of_pos (Pl.wd im / Pl.pw 0) (Pl.pw_pos 5)
    have e : Pl.pw 5 = 32 := by decide
    omega
  have q0 := Pl.cc_bd' k (by omega) 0 (by decide)
  have q1 := Pl.cc_bd' k (by omega) 1 (by decide)
  have q2 := Pl.cc_bd' k (by omega) 2 (by decide)
  have hk : ∀ w, Calls Tryz.prog 89 #[.int .i64 k] w fun e w' => e = .returned (.int .i64 4) ∧ w' = w := fun w => by
    have := form_any k h1 (by omega) w
    rw [HF.out] at this; exact this
  have HK : Hid (∀ w, Calls Tryz.prog 89 #[.int .i64 k] w fun e w' => e = .returned (.int .i64 4) ∧ w' = w) := hk
  clear hk
  go_enter Tryz.func69, Tryz.ntmps69
  go_wp2_with fail
  refine (specInstOk_any _ _ _ _ _ _).mono ?_
  rintro e u1 ⟨rfl, hb1⟩
  have c0 : u1.cell? ⟨w.heap.size, 0, none⟩ = some (.int .i64 k) := kept_cells' hb1 0
  have c1 : u1.cell? ⟨w.heap.size, 1, none⟩ = some (.int .i64 rd) := kept_cells' hb1 1
  have c2 : u1.cell? ⟨w.heap.size, 2, none⟩ = some (.int .i64 r1) := kept_cells' hb1 2
  have c3 : u1.cell? ⟨w.heap.size, 3, none⟩ = some (.int .i64 r2) := kept_cells' hb1 3
  have c4 : u1.cell? ⟨w.heap.size, 4, none⟩ = some (.int .i64 im) := kept_cells' hb1 4
  have hz : w.heap.size + 1 ≤ u1.heap.size := by have := hb1.size; simpa using this
  have HB : Hid (Below w.heap.size w u1) := ((Below.refl _ _).alloc (Nat.le_refl _) _).trans (hb1.mono (by simp))
  have n0 : ¬ w.heap.size = u1.heap.size := by omega
  clear hb1
  go_wp2_with (go_at_call 89; refine (HK.out _).mono ?_; rintro e u2 ⟨rfl, rfl⟩)
  go_quiet ((first | (go_at_call 67; exact Calls.quiet_of_same (c_any k h1 h2 _)) | (go_at_call 94; exact Calls.quiet_of (l2Imm_4 _ _))))
  go_upto_region 8 with fail
  obtain ⟨U, hU⟩ : ∃ U, u2.drewN nq = U := ⟨_, rfl⟩
  have m0 : U.cell? ⟨w.heap.size, 0, none⟩ = some (.int .i64 k) := by rw [← hU]; exact c0
  have m1 : U.cell? ⟨w.heap.size, 1, none⟩ = some (.int .i64 rd) := by rw [← hU]; exact c1
  have m2 : U.cell? ⟨w.heap.size, 2, none⟩ = some (.int .i64 r1) := by rw [← hU]; exact c2
  have m3 : U.cell? ⟨w.heap.size, 3, none⟩ = some (.int .i64 r2) := by rw [← hU]; exact c3
  have hlt : w.heap.size < U.heap.size := by rw [← hU]; exact hz
  have HW : Hid (Below w.heap.size w U) := by rw [← hU]; exact ⟨HB.out.os, HB.out.tape, HB.out.output, HB.out.size, HB.out.block⟩
  rw [hU]
  have k2 : ∀ o, (U.alloc o).cell? ⟨w.heap.size, 2, none⟩ = some (.int .i64 r1) := fun o => (((Below.refl U.heap.size U).alloc (Nat.le_refl _) o).cell (p := ⟨w.heap.size, 2, none⟩) hlt).trans m2
  have k3 : ∀ o, (U.alloc o).cell? ⟨w.heap.size, 3, none⟩ = some (.int .i64 r2) := fun o => (((Below.refl U.heap.size U).alloc (Nat.le_refl _) o).cell (p := ⟨w.heap.size, 3, none⟩) hlt).trans m3
  have HL : Hid (w.heap.size < U.heap.size) := hlt
  have n1 : ¬ w.heap.size = U.heap.size := by omega
  clear hU c0 c1 c2 c3 c4 hlt HB n0 hz HK
  go_cut [5] from 30 to 39 (fun v5 wx => v5 = .int .i64 (Pl.cc k 0 + (Pl.wd im / Pl.pw 5 % Pl.pw 7 * 33554432 + Pl.wd im / Pl.pw 0 % Pl.pw 5 * 128) + (Pl.cc k 1 * 4096 + r1 * 32768)) ∧ Below U.heap.size U wx)
  case first =>
    go_region_with (go_at_call 95; refine (l2F3_any k (by omega) _).mono ?_; rintro e v1 ⟨rfl, rfl⟩)
    all_goals
      go_wp2_with fail
      go_meet
      exact ⟨vint' (by first | rfl | (simp only [IntKind.wrap_i64]; omega)), (by repeat (first | exact Below.refl _ _ | refine Below.drew ?_ | refine Below.alloc ?_ (by simp <;> omega) _))⟩
  case rest =>
    obtain ⟨rfl, hbx⟩ := hcut
    have e0 : wc.cell? ⟨w.heap.size, 0, none⟩ = some (.int .i64 k) := (hbx.cell (p := ⟨w.heap.size, 0, none⟩) HL.out).trans m0
    have e1 : wc.cell? ⟨w.heap.size, 1, none⟩ = some (.int .i64 rd) := (hbx.cell (p := ⟨w.heap.size, 1, none⟩) HL.out).trans m1
    have e3 : wc.cell? ⟨w.heap.size, 3, none⟩ = some (.int .i64 r2) := (hbx.cell (p := ⟨w.heap.size, 3, none⟩) HL.out).trans m3
    have HE : Hid (Below w.heap.size w wc) := HW.out.trans (hbx.mono (Nat.le_of_lt HL.out))
    clear m0 m1 m2 m3 k2 k3 n1 hbx HL HW
    go_wp2
    go_ret2
    exact ⟨ret2 rfl rfl, HE.out⟩
end Go.Proofs.YtjdfffdeljgenaaGreatDoor.W
