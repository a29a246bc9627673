import Derived.Test.YtgopdicmmglakaaEncS
namespace Go.Proofs.Ytgopdicmmglakaa.W
open Go.RowKit
set_option linter.unusedVariables false
theorem drews {w u : World} (h : ∃ m, u = w.drewN m) (b : Nat) : ∃ m, u.drewN b = w.drewN m := by
  obtain ⟨m, rfl⟩ := h
  exact ⟨m + b, World.drewN_drewN _ _ _⟩
theorem l2Imm_0 (f : Int) (h : f = 1 ∨ f = 8) (n : Int) (w : World) : Calls Try.prog 57 #[.int .i64 f, .int .i64 n] w fun e w' => e = .returned (.int .i64 0) ∧ ∃ m, w' = w.drewN m := by
  rcases h with rfl | rfl
  all_goals
    go_enter Try.func57, Try.ntmps57
    go_wp2
    go_ret
    exact ⟨rfl, 0, rfl⟩
theorem l2Imm_3 (n : Int) (h1 : 0 ≤ n) (h2 : n ≤ 1048575) (w : World) : Calls Try.prog 57 #[.int .i64 3, .int .i64 n] w fun e w' => e = .returned (.int .i64 (n * 1048576)) ∧ ∃ m, w' = w.drewN m := by
  go_enter Try.func57, Try.ntmps57
  go_wp2
  go_ret
  exact ⟨rfl, 0, rfl⟩
theorem l2Imm_6 (n : Int) (h1 : 0 ≤ n) (h2 : n ≤ 1048575) (w : World) : Calls Try.prog 57 #[.int .i64 6, .int .i64 n] w fun e w' => e = .returned (.int .i64 (n * 4096)) ∧ ∃ m, w' = w.drewN m := by
  go_enter Try.func57, Try.ntmps57
  go_wp2
  go_ret
  exact ⟨rfl, 0, rfl⟩
set_option maxHeartbeats 1000000 in
theorem l2Imm_2 (n : Int) (w : World) : Calls Try.prog 57 #[.int .i64 2, .int .i64 n] w fun e w' => e = .returned (.int .i64 (Pl.wd n / Pl.pw 0 % Pl.pw 12 * 1048576)) ∧ ∃ m, w' = w.drewN m := by
  have b0 : 0 ≤ Pl.wd n / Pl.pw 0 % Pl.pw 12 ∧ Pl.wd n / Pl.pw 0 % Pl.pw 12 ≤ 4095 := by
    have h := Int.emod_nonneg (Pl.wd n / Pl.pw 0) (Int.ne_of_gt (Pl.pw_pos 12))
    have h' := Int.emod_lt_of_pos (Pl.wd n / Pl.pw 0) (Pl.pw_pos 12)
    have e : Pl.pw 12 = 4096 := by decide
    omega
  go_enter Try.func57, Try.ntmps57
  go_wp2_with fail
  refine (l2Bits_any _ _ _ 11 0 rfl rfl (by decide) (by decide) _).mono ?_
  rintro e w' ⟨rfl, m0, rfl⟩
  go_wp2
  go_ret
  exact ⟨rfl, _, rfl⟩
set_option maxHeartbeats 1000000 in
theorem l2Imm_4 (n : Int) (w : World) : Calls Try.prog 57 #[.int .i64 4, .int .i64 n] w fun e w' => e = .returned (.int .i64 (Pl.wd n / Pl.pw 5 % Pl.pw 7 * 33554432 + Pl.wd n / Pl.pw 0 % Pl.pw 5 * 128)) ∧ ∃ m, w' = w.drewN m := by
  have b0 : 0 ≤ Pl.wd n / Pl.pw 5 % Pl.pw 7 ∧ Pl.wd n / Pl.pw 5 % Pl.pw 7 ≤ 127 := by
    have h := Int.emod_nonneg (Pl.wd n / Pl.pw 5) (Int.ne_of_gt (Pl.pw_pos 7))
    have h' := Int.emod_lt_of_pos (Pl.wd n / Pl.pw 5) (Pl.pw_pos 7)
    have e : Pl.pw 7 = 128 := by decide
    omega
  have b1 : 0 ≤ Pl.wd n / Pl.pw 0 % Pl.pw 5 ∧ Pl.wd n / Pl.pw 0 % Pl.pw 5 ≤ 31 := by
    have h := Int.emod_nonneg (Pl.wd n / Pl.pw 0) (Int.ne_of_gt (Pl.pw_pos 5))
    have h' := Int.emod_lt_of_pos (Pl.wd n / Pl.pw 0) (Pl.pw_pos 5)
    have e : Pl.pw 5 = 32 := by decide
    omega
  go_enter Try.func57, Try.ntmps57
  go_wp2_with fail
  refine (l2Bits_any _ _ _ 11 5 rfl rfl (by decide) (by decide) _).mono ?_
  rintro e w' ⟨rfl, m0, rfl⟩
  go_wp2_with fail
  refine (l2Bits_any _ _ _ 4 0 rfl rfl (by decide) (by decide) _).mono ?_
  rintro e w' ⟨rfl, m1, rfl⟩
  go_wp2
  go_ret
  first | exact ⟨rfl, _, rfl⟩ | exact ⟨rfl, drews (drews ⟨0, rfl⟩ _) _⟩ | exact ⟨rfl, drews (drews (drews (drews ⟨0, rfl⟩ _) _) _) _⟩
set_option maxHeartbeats 1000000 in
theorem l2Imm_5 (n : Int) (w : World) : Calls Try.prog 57 #[.int .i64 5, .int .i64 n] w fun e w' => e = .returned (.int .i64 (Pl.wd n / Pl.pw 12 % Pl.pw 1 * 2147483648 + Pl.wd n / Pl.pw 5 % Pl.pw 6 * 33554432 + Pl.wd n / Pl.pw 1 % Pl.pw 4 * 256 + Pl.wd n / Pl.pw 11 % Pl.pw 1 * 128)) ∧ ∃ m, w' = w.drewN m := by
  have b0 : 0 ≤ Pl.wd n / Pl.pw 12 % Pl.pw 1 ∧ Pl.wd n / Pl.pw 12 % Pl.pw 1 ≤ 1 := by
    have h := Int.emod_nonneg (Pl.wd n / Pl.pw 12) (Int.ne_of_gt (Pl.pw_pos 1))
    have h' := Int.emod_lt_of_pos (Pl.wd n / Pl.pw 12) (Pl.pw_pos 1)
    have e : Pl.pw 1 = 2 := by decide
    omega
  have b1 : 0 ≤ Pl.wd n / Pl.pw 5 % Pl.pw 6 ∧ Pl.wd n / Pl.pw 5 % Pl.pw 6 ≤ 63 := by
    have h := Int.emod_nonneg (Pl.wd n / Pl.pw 5) (Int.ne_of_gt (Pl.pw_pos 6))
    have h' := Int.emod_lt_of_pos (Pl.wd n / Pl.pw 5) (Pl.pw_pos 6)
    have e : Pl.pw 6 = 64 := by decide
    omega
  have b2 : 0 ≤ Pl.wd n / Pl.pw 1 % Pl.pw 4 ∧ Pl.wd n / Pl.pw 1 % Pl.pw 4 ≤ 15 := by
    have h := Int.emod_nonneg (Pl.wd n / Pl.pw 1) (Int.ne_of_gt (Pl.pw_pos 4))
    have h' := Int.emod_lt_of_pos (Pl.wd n / Pl.pw 1) (Pl.pw_pos 4)
    have e : Pl.pw 4 = 16 := by decide
    omega
  have b3 : 0 ≤ Pl.wd n / Pl.pw 11 % Pl.pw 1 ∧ Pl.wd n / Pl.pw 11 % Pl.pw 1 ≤ 1 := by
    have h := Int.emod_nonneg (Pl.wd n / Pl.pw 11) (Int.ne_of_gt (Pl.pw_pos 1))
    have h' := Int.emod_lt_of_pos (Pl.wd n / Pl.pw 11) (Pl.pw_pos 1)
    have e : Pl.pw 1 = 2 := by decide
    omega
  go_enter Try.func57, Try.ntmps57
  go_wp2_with fail
  refine (l2Bits_any _ _ _ 12 12 rfl rfl (by decide) (by decide) _).mono ?_
  rintro e w' ⟨rfl, m0, rfl⟩
  go_wp2_with fail
  refine (l2Bits_any _ _ _ 10 5 rfl rfl (by decide) (by decide) _).mono ?_
  rintro e w' ⟨rfl, m1, rfl⟩
  go_wp2_with fail
  refine (l2Bits_any _ _ _ 4 1 rfl rfl (by decide) (by decide) _).mono ?_
  rintro e w' ⟨rfl, m2, rfl⟩
  go_wp2_with fail
  refine (l2Bits_any _ _ _ 11 11 rfl rfl (by decide) (by decide) _).mono ?_
  rintro e w' ⟨rfl, m3, rfl⟩
  go_wp2
  go_ret
  first | exact ⟨rfl, _, rfl⟩ | exact ⟨rfl, drews (drews ⟨0, rfl⟩ _) _⟩ | exact ⟨rfl, drews (drews (drews (drews ⟨0, rfl⟩ _) _) _) _⟩
set_option maxHeartbeats 1000000 in
theorem l2Imm_7 (n : Int) (w : World) : Calls Try.prog 57 #[.int .i64 7, .int .i64 n] w fun e w' => e = .returned (.int .i64 (Pl.wd n / Pl.pw 20 % Pl.pw 1 * 2147483648 + Pl.wd n / Pl.pw 1 % Pl.pw 10 * 2097152 + Pl.wd n / Pl.pw 11 % Pl.pw 1 * 1048576 + Pl.wd n / Pl.pw 12 % Pl.pw 8 * 4096)) ∧ ∃ m, w' = w.drewN m := by
  have b0 : 0 ≤ Pl.wd n / Pl.pw 20 % Pl.pw 1 ∧ Pl.wd n / Pl.pw 20 % Pl.pw 1 ≤ 1 := by
    have h := Int.emod_nonneg (Pl.wd n / Pl.pw 20) (Int.ne_of_gt (Pl.pw_pos 1))
    have h' := Int.emod_lt_of_pos (Pl.wd n / Pl.pw 20) (Pl.pw_pos 1)
    have e : Pl.pw 1 = 2 := by decide
    omega
  have b1 : 0 ≤ Pl.wd n / Pl.pw 1 % Pl.pw 10 ∧ Pl.wd n / Pl.pw 1 % Pl.pw 10 ≤ 1023 := by
    have h := Int.emod_nonneg (Pl.wd n / Pl.pw 1) (Int.ne_of_gt (Pl.pw_pos 10))
    have h' := Int.emod_lt_of_pos (Pl.wd n / Pl.pw 1) (Pl.pw_pos 10)
    have e : Pl.pw 10 = 1024 := by decide
    omega
  have b2 : 0 ≤ Pl.wd n / Pl.pw 11 % Pl.pw 1 ∧ Pl.wd n / Pl.pw 11 % Pl.pw 1 ≤ 1 := by
    have h := Int.emod_nonneg (Pl.wd n / Pl.pw 11) (Int.ne_of_gt (Pl.pw_pos 1))
    have h' := Int.emod_lt_of_pos (Pl.wd n / Pl.pw 11) (Pl.pw_pos 1)
    have e : Pl.pw 1 = 2 := by decide
    omega
  have b3 : 0 ≤ Pl.wd n / Pl.pw 12 % Pl.pw 8 ∧ Pl.wd n / Pl.pw 12 % Pl.pw 8 ≤ 255 := by
    have h := Int.emod_nonneg (Pl.wd n / Pl.pw 12) (Int.ne_of_gt (Pl.pw_pos 8))
    have h' := Int.emod_lt_of_pos (Pl.wd n / Pl.pw 12) (Pl.pw_pos 8)
    have e : Pl.pw 8 = 256 := by decide
    omega
  go_enter Try.func57, Try.ntmps57
  go_wp2_with fail
  refine (l2Bits_any _ _ _ 20 20 rfl rfl (by decide) (by decide) _).mono ?_
  rintro e w' ⟨rfl, m0, rfl⟩
  go_wp2_with fail
  refine (l2Bits_any _ _ _ 10 1 rfl rfl (by decide) (by decide) _).mono ?_
  rintro e w' ⟨rfl, m1, rfl⟩
  go_wp2_with fail
  refine (l2Bits_any _ _ _ 11 11 rfl rfl (by decide) (by decide) _).mono ?_
  rintro e w' ⟨rfl, m2, rfl⟩
  go_wp2_with fail
  refine (l2Bits_any _ _ _ 19 12 rfl rfl (by decide) (by decide) _).mono ?_
  rintro e w' ⟨rfl, m3, rfl⟩
  go_wp2
  go_ret
  first | exact ⟨rfl, _, rfl⟩ | exact ⟨rfl, drews (drews ⟨0, rfl⟩ _) _⟩ | exact ⟨rfl, drews (drews (drews (drews ⟨0, rfl⟩ _) _) _) _⟩
end Go.Proofs.Ytgopdicmmglakaa.W
