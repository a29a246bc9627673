import Derived.Test.YtmnlhienhfmhdaaAluC
namespace Go.Proofs.Ytmnlhienhfmhdaa.W
open Go.RowKit
theorem quotA_15 (A B : Int) (a1 : 0 ≤ A) (a2 : A ≤ 4294967295) (b1 : 0 ≤ B) (b2 : B ≤ 4294967295) (w : World) : Calls Try.prog 62 #[.int .i64 15, .int .i64 A, .int .i64 B] w fun e w' => e = .returned (.int .i64 (Pl.al 15 A B)) ∧ w' = w := quot_15 A B a1 a2 b1 b2 w
theorem quotA_16 (A B : Int) (a1 : 0 ≤ A) (a2 : A ≤ 4294967295) (b1 : 0 ≤ B) (b2 : B ≤ 4294967295) (w : World) : Calls Try.prog 62 #[.int .i64 16, .int .i64 A, .int .i64 B] w fun e w' => e = .returned (.int .i64 (Pl.al 16 A B)) ∧ w' = w := quot_16 A B a1 a2 b1 b2 w
theorem quotA_17 (A B : Int) (a1 : 0 ≤ A) (a2 : A ≤ 4294967295) (b1 : 0 ≤ B) (b2 : B ≤ 4294967295) (w : World) : Calls Try.prog 62 #[.int .i64 17, .int .i64 A, .int .i64 B] w fun e w' => e = .returned (.int .i64 (Pl.al 17 A B)) ∧ w' = w := quot_17 A B a1 a2 b1 b2 w
theorem quotA_18 (A B : Int) (a1 : 0 ≤ A) (a2 : A ≤ 4294967295) (b1 : 0 ≤ B) (b2 : B ≤ 4294967295) (w : World) : Calls Try.prog 62 #[.int .i64 18, .int .i64 A, .int .i64 B] w fun e w' => e = .returned (.int .i64 (Pl.al 18 A B)) ∧ w' = w := quot_18 A B a1 a2 b1 b2 w
set_option maxHeartbeats 400000 in
theorem specAlu_10 (a b : Int) (w : World) : Calls Try.prog 31 #[.int .i64 10, .int .i64 a, .int .i64 b] w fun e w' => e = .returned (.tuple #[.int .i64 (Pl.al 10 (Pl.wd a) (Pl.wd b)), .bool true]) ∧ ∃ m, w' = w.drewN m := by
  have ha := Pl.wd_bd a
  have hb := Pl.wd_bd b
  go_enter Try.func31, Try.ntmps31
  go_wp2_with (first | (go_at_call 15; refine (specWord_any _ _).mono ?_; rintro e w1 ⟨rfl, rfl⟩) | (go_at_call 19; refine (specSigned_any _ _).mono ?_; rintro e w1 ⟨rfl, rfl⟩) | (go_at_call 60; refine (bits_and_int _ _ ha.1 ha.2 hb.1 hb.2 _).mono ?_; rintro e w1 ⟨rfl, rfl⟩))
  go_ret2
  exact ⟨ret2 (rfl) rfl, 0, rfl⟩
set_option maxHeartbeats 400000 in
theorem specAlu_11 (a b : Int) (w : World) : Calls Try.prog 31 #[.int .i64 11, .int .i64 a, .int .i64 b] w fun e w' => e = .returned (.tuple #[.int .i64 (Pl.al 11 (Pl.wd a) (Pl.wd b)), .bool true]) ∧ ∃ m, w' = w.drewN m := by
  have ha := Pl.wd_bd a
  have hb := Pl.wd_bd b
  have p1 : -281474976645120 ≤ Pl.wd a % 65536 * Pl.wd b ∧ Pl.wd a % 65536 * Pl.wd b ≤ 281474976645120 := by
    have := Pl.mul_bd (Pl.wd a % 65536) (Pl.wd b) 65535 4294967295 (by decide) (by omega) (by omega) (by omega) (by omega); omega
  have p2 : 0 ≤ Pl.wd a / 65536 * (Pl.wd b % 65536) := Int.mul_nonneg (by omega) (by omega)
  have p3 : Pl.wd a / 65536 * (Pl.wd b % 65536) ≤ 4294836225 := (Pl.mul_bd (Pl.wd a / 65536) (Pl.wd b % 65536) 65535 65535 (by decide) (by omega) (by omega) (by omega) (by omega)).2
  go_enter Try.func31, Try.ntmps31
  go_wp2_with (first | (go_at_call 15; refine (specWord_any _ _).mono ?_; rintro e w1 ⟨rfl, rfl⟩) | (go_at_call 19; refine (specSigned_any _ _).mono ?_; rintro e w1 ⟨rfl, rfl⟩))
  go_ret2
  exact ⟨ret2 (Pl.mul_eq _ _) rfl, 0, rfl⟩
set_option maxHeartbeats 400000 in
theorem specAlu_12 (a b : Int) (w : World) : Calls Try.prog 31 #[.int .i64 12, .int .i64 a, .int .i64 b] w fun e w' => e = .returned (.tuple #[.int .i64 (Pl.al 12 (Pl.wd a) (Pl.wd b)), .bool true]) ∧ ∃ m, w' = w.drewN m := by
  have ha := Pl.wd_bd a
  have hb := Pl.wd_bd b
  have ha' := Pl.sg_bd (Pl.wd a)
  have hb' := Pl.sg_bd (Pl.wd b)
  go_enter Try.func31, Try.ntmps31
  go_wp2_with (first | (go_at_call 15; refine (specWord_any _ _).mono ?_; rintro e w1 ⟨rfl, rfl⟩) | (go_at_call 19; refine (specSigned_any _ _).mono ?_; rintro e w1 ⟨rfl, rfl⟩) | (go_at_call 61; refine (high_any _ _ (by omega) (by omega) (by omega) (by omega) _).mono ?_; rintro e w1 ⟨rfl, rfl⟩))
  go_ret2
  exact ⟨ret2 (rfl) rfl, 0, rfl⟩
set_option maxHeartbeats 400000 in
theorem specAlu_13 (a b : Int) (w : World) : Calls Try.prog 31 #[.int .i64 13, .int .i64 a, .int .i64 b] w fun e w' => e = .returned (.tuple #[.int .i64 (Pl.al 13 (Pl.wd a) (Pl.wd b)), .bool true]) ∧ ∃ m, w' = w.drewN m := by
  have ha := Pl.wd_bd a
  have hb := Pl.wd_bd b
  have ha' := Pl.sg_bd (Pl.wd a)
  have hb' := Pl.sg_bd (Pl.wd b)
  go_enter Try.func31, Try.ntmps31
  go_wp2_with (first | (go_at_call 15; refine (specWord_any _ _).mono ?_; rintro e w1 ⟨rfl, rfl⟩) | (go_at_call 19; refine (specSigned_any _ _).mono ?_; rintro e w1 ⟨rfl, rfl⟩) | (go_at_call 61; refine (high_any _ _ (by omega) (by omega) (by omega) (by omega) _).mono ?_; rintro e w1 ⟨rfl, rfl⟩))
  go_ret2
  exact ⟨ret2 (rfl) rfl, 0, rfl⟩
set_option maxHeartbeats 400000 in
theorem specAlu_14 (a b : Int) (w : World) : Calls Try.prog 31 #[.int .i64 14, .int .i64 a, .int .i64 b] w fun e w' => e = .returned (.tuple #[.int .i64 (Pl.al 14 (Pl.wd a) (Pl.wd b)), .bool true]) ∧ ∃ m, w' = w.drewN m := by
  have ha := Pl.wd_bd a
  have hb := Pl.wd_bd b
  have ha' := Pl.sg_bd (Pl.wd a)
  have hb' := Pl.sg_bd (Pl.wd b)
  go_enter Try.func31, Try.ntmps31
  go_wp2_with (first | (go_at_call 15; refine (specWord_any _ _).mono ?_; rintro e w1 ⟨rfl, rfl⟩) | (go_at_call 19; refine (specSigned_any _ _).mono ?_; rintro e w1 ⟨rfl, rfl⟩) | (go_at_call 61; refine (high_any _ _ (by omega) (by omega) (by omega) (by omega) _).mono ?_; rintro e w1 ⟨rfl, rfl⟩))
  go_ret2
  exact ⟨ret2 (rfl) rfl, 0, rfl⟩
set_option maxHeartbeats 400000 in
theorem specAlu_15 (a b : Int) (w : World) : Calls Try.prog 31 #[.int .i64 15, .int .i64 a, .int .i64 b] w fun e w' => e = .returned (.tuple #[.int .i64 (Pl.al 15 (Pl.wd a) (Pl.wd b)), .bool true]) ∧ ∃ m, w' = w.drewN m := by
  have ha := Pl.wd_bd a
  have hb := Pl.wd_bd b
  go_enter Try.func31, Try.ntmps31
  go_wp2_with (first | (go_at_call 15; refine (specWord_any _ _).mono ?_; rintro e w1 ⟨rfl, rfl⟩) | (go_at_call 19; refine (specSigned_any _ _).mono ?_; rintro e w1 ⟨rfl, rfl⟩) | (go_at_call 62; refine (quotA_15 _ _ ha.1 ha.2 hb.1 hb.2 _).mono ?_; rintro e w1 ⟨rfl, rfl⟩))
  go_ret2
  exact ⟨ret2 (rfl) rfl, 0, rfl⟩
set_option maxHeartbeats 400000 in
theorem specAlu_16 (a b : Int) (w : World) : Calls Try.prog 31 #[.int .i64 16, .int .i64 a, .int .i64 b] w fun e w' => e = .returned (.tuple #[.int .i64 (Pl.al 16 (Pl.wd a) (Pl.wd b)), .bool true]) ∧ ∃ m, w' = w.drewN m := by
  have ha := Pl.wd_bd a
  have hb := Pl.wd_bd b
  go_enter Try.func31, Try.ntmps31
  go_wp2_with (first | (go_at_call 15; refine (specWord_any _ _).mono ?_; rintro e w1 ⟨rfl, rfl⟩) | (go_at_call 19; refine (specSigned_any _ _).mono ?_; rintro e w1 ⟨rfl, rfl⟩) | (go_at_call 62; refine (quotA_16 _ _ ha.1 ha.2 hb.1 hb.2 _).mono ?_; rintro e w1 ⟨rfl, rfl⟩))
  go_ret2
  exact ⟨ret2 (rfl) rfl, 0, rfl⟩
set_option maxHeartbeats 400000 in
theorem specAlu_17 (a b : Int) (w : World) : Calls Try.prog 31 #[.int .i64 17, .int .i64 a, .int .i64 b] w fun e w' => e = .returned (.tuple #[.int .i64 (Pl.al 17 (Pl.wd a) (Pl.wd b)), .bool true]) ∧ ∃ m, w' = w.drewN m := by
  have ha := Pl.wd_bd a
  have hb := Pl.wd_bd b
  go_enter Try.func31, Try.ntmps31
  go_wp2_with (first | (go_at_call 15; refine (specWord_any _ _).mono ?_; rintro e w1 ⟨rfl, rfl⟩) | (go_at_call 19; refine (specSigned_any _ _).mono ?_; rintro e w1 ⟨rfl, rfl⟩) | (go_at_call 62; refine (quotA_17 _ _ ha.1 ha.2 hb.1 hb.2 _).mono ?_; rintro e w1 ⟨rfl, rfl⟩))
  go_ret2
  exact ⟨ret2 (rfl) rfl, 0, rfl⟩
set_option maxHeartbeats 400000 in
theorem specAlu_18 (a b : Int) (w : World) : Calls Try.prog 31 #[.int .i64 18, .int .i64 a, .int .i64 b] w fun e w' => e = .returned (.tuple #[.int .i64 (Pl.al 18 (Pl.wd a) (Pl.wd b)), .bool true]) ∧ ∃ m, w' = w.drewN m := by
  have ha := Pl.wd_bd a
  have hb := Pl.wd_bd b
  go_enter Try.func31, Try.ntmps31
  go_wp2_with (first | (go_at_call 15; refine (specWord_any _ _).mono ?_; rintro e w1 ⟨rfl, rfl⟩) | (go_at_call 19; refine (specSigned_any _ _).mono ?_; rintro e w1 ⟨rfl, rfl⟩) | (go_at_call 62; refine (quotA_18 _ _ ha.1 ha.2 hb.1 hb.2 _).mono ?_; rintro e w1 ⟨rfl, rfl⟩))
  go_ret2
  exact ⟨ret2 (rfl) rfl, 0, rfl⟩
end Go.Proofs.Ytmnlhienhfmhdaa.W
