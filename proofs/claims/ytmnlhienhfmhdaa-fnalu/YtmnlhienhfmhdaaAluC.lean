import Derived.Test.YtmnlhienhfmhdaaAluSpec
namespace Go.Proofs.Ytmnlhienhfmhdaa.W
open Go.RowKit
theorem bits_and_int (A B : Int) (a1 : 0 ≤ A) (a2 : A ≤ 4294967295) (b1 : 0 ≤ B) (b2 : B ≤ 4294967295) (w : World) : Calls Try.prog 60 #[.int .i64 1, .int .i64 A, .int .i64 B] w fun e w' => e = .returned (.int .i64 ((A.toNat &&& B.toNat : Nat) : Int)) ∧ w' = w := by
  obtain ⟨x, rfl⟩ := Int.eq_ofNat_of_zero_le a1
  obtain ⟨y, rfl⟩ := Int.eq_ofNat_of_zero_le b1
  exact bits_and_any x y (by omega) (by omega) w
theorem bits_or_int (A B : Int) (a1 : 0 ≤ A) (a2 : A ≤ 4294967295) (b1 : 0 ≤ B) (b2 : B ≤ 4294967295) (w : World) : Calls Try.prog 60 #[.int .i64 2, .int .i64 A, .int .i64 B] w fun e w' => e = .returned (.int .i64 ((A.toNat ||| B.toNat : Nat) : Int)) ∧ w' = w := by
  obtain ⟨x, rfl⟩ := Int.eq_ofNat_of_zero_le a1
  obtain ⟨y, rfl⟩ := Int.eq_ofNat_of_zero_le b1
  exact bits_or_any x y (by omega) (by omega) w
theorem bits_xor_int (A B : Int) (a1 : 0 ≤ A) (a2 : A ≤ 4294967295) (b1 : 0 ≤ B) (b2 : B ≤ 4294967295) (w : World) : Calls Try.prog 60 #[.int .i64 3, .int .i64 A, .int .i64 B] w fun e w' => e = .returned (.int .i64 ((A.toNat ^^^ B.toNat : Nat) : Int)) ∧ w' = w := by
  obtain ⟨x, rfl⟩ := Int.eq_ofNat_of_zero_le a1
  obtain ⟨y, rfl⟩ := Int.eq_ofNat_of_zero_le b1
  exact bits_xor_any x y (by omega) (by omega) w
theorem specAlu_no (n a b : Int) (h : n < 1 ∨ 18 < n) (w : World) : Calls Try.prog 31 #[.int .i64 n, .int .i64 a, .int .i64 b] w fun e w' => e = .returned (.tuple #[.int .i64 0, .bool false]) ∧ ∃ m, w' = w.drewN m := by
  rcases h with h | h
  · go_enter Try.func31, Try.ntmps31
    go_wp2
    go_ret2
    exact ⟨rfl, 0, rfl⟩
  · have h' : ¬ n < 1 := by omega
    go_enter Try.func31, Try.ntmps31
    go_wp2
    go_ret2
    exact ⟨rfl, 0, rfl⟩
set_option maxHeartbeats 400000 in
theorem specAlu_1 (a b : Int) (w : World) : Calls Try.prog 31 #[.int .i64 1, .int .i64 a, .int .i64 b] w fun e w' => e = .returned (.tuple #[.int .i64 (Pl.al 1 (Pl.wd a) (Pl.wd b)), .bool true]) ∧ ∃ m, w' = w.drewN m := by
  have ha := Pl.wd_bd a
  have hb := Pl.wd_bd b
  go_enter Try.func31, Try.ntmps31
  go_wp2_with (first | (go_at_call 15; refine (specWord_any _ _).mono ?_; rintro e w1 ⟨rfl, rfl⟩) | (go_at_call 19; refine (specSigned_any _ _).mono ?_; rintro e w1 ⟨rfl, rfl⟩))
  go_ret2
  exact ⟨ret2 (rfl) rfl, 0, rfl⟩
set_option maxHeartbeats 400000 in
theorem specAlu_2 (a b : Int) (w : World) : Calls Try.prog 31 #[.int .i64 2, .int .i64 a, .int .i64 b] w fun e w' => e = .returned (.tuple #[.int .i64 (Pl.al 2 (Pl.wd a) (Pl.wd b)), .bool true]) ∧ ∃ m, w' = w.drewN m := by
  have ha := Pl.wd_bd a
  have hb := Pl.wd_bd b
  go_enter Try.func31, Try.ntmps31
  go_wp2_with (first | (go_at_call 15; refine (specWord_any _ _).mono ?_; rintro e w1 ⟨rfl, rfl⟩) | (go_at_call 19; refine (specSigned_any _ _).mono ?_; rintro e w1 ⟨rfl, rfl⟩))
  go_ret2
  exact ⟨ret2 (rfl) rfl, 0, rfl⟩
set_option maxHeartbeats 400000 in
theorem specAlu_3 (a b : Int) (w : World) : Calls Try.prog 31 #[.int .i64 3, .int .i64 a, .int .i64 b] w fun e w' => e = .returned (.tuple #[.int .i64 (Pl.al 3 (Pl.wd a) (Pl.wd b)), .bool true]) ∧ ∃ m, w' = w.drewN m := by
  have ha := Pl.wd_bd a
  have hb := Pl.wd_bd b
  have hs : 0 ≤ Pl.wd b % 32 ∧ Pl.wd b % 32 ≤ 31 := by omega
  go_enter Try.func31, Try.ntmps31
  go_wp2_with (first | (go_at_call 15; refine (specWord_any _ _).mono ?_; rintro e w1 ⟨rfl, rfl⟩) | (go_at_call 19; refine (specSigned_any _ _).mono ?_; rintro e w1 ⟨rfl, rfl⟩) | (go_at_call 59; refine (shift_l _ _ (Pl.wd b % 32).toNat (by omega) (by omega) ha.1 ha.2 _).mono ?_; rintro e w1 ⟨rfl, m, rfl⟩))
  go_ret2
  exact ⟨ret2 rfl rfl, _, rfl⟩
set_option maxHeartbeats 400000 in
theorem specAlu_4 (a b : Int) (w : World) : Calls Try.prog 31 #[.int .i64 4, .int .i64 a, .int .i64 b] w fun e w' => e = .returned (.tuple #[.int .i64 (Pl.al 4 (Pl.wd a) (Pl.wd b)), .bool true]) ∧ ∃ m, w' = w.drewN m := by
  have ha := Pl.wd_bd a
  have hb := Pl.wd_bd b
  have ha' := Pl.sg_bd (Pl.wd a)
  have hb' := Pl.sg_bd (Pl.wd b)
  by_cases h : Pl.sg (Pl.wd a) < Pl.sg (Pl.wd b)
  · go_enter Try.func31, Try.ntmps31
    go_wp2_with (first | (go_at_call 15; refine (specWord_any _ _).mono ?_; rintro e w1 ⟨rfl, rfl⟩) | (go_at_call 19; refine (specSigned_any _ _).mono ?_; rintro e w1 ⟨rfl, rfl⟩))
    go_ret2
    exact ⟨ret2 (by show _ = Pl.lt01 _ _; rw [Pl.lt01, if_pos h]) rfl, 0, rfl⟩
  · go_enter Try.func31, Try.ntmps31
    go_wp2_with (first | (go_at_call 15; refine (specWord_any _ _).mono ?_; rintro e w1 ⟨rfl, rfl⟩) | (go_at_call 19; refine (specSigned_any _ _).mono ?_; rintro e w1 ⟨rfl, rfl⟩))
    go_ret2
    exact ⟨ret2 (by show _ = Pl.lt01 _ _; rw [Pl.lt01, if_neg (by omega)]) rfl, 0, rfl⟩
set_option maxHeartbeats 400000 in
theorem specAlu_5 (a b : Int) (w : World) : Calls Try.prog 31 #[.int .i64 5, .int .i64 a, .int .i64 b] w fun e w' => e = .returned (.tuple #[.int .i64 (Pl.al 5 (Pl.wd a) (Pl.wd b)), .bool true]) ∧ ∃ m, w' = w.drewN m := by
  have ha := Pl.wd_bd a
  have hb := Pl.wd_bd b
  have ha' := Pl.sg_bd (Pl.wd a)
  have hb' := Pl.sg_bd (Pl.wd b)
  by_cases h : Pl.wd a < Pl.wd b
  · go_enter Try.func31, Try.ntmps31
    go_wp2_with (first | (go_at_call 15; refine (specWord_any _ _).mono ?_; rintro e w1 ⟨rfl, rfl⟩) | (go_at_call 19; refine (specSigned_any _ _).mono ?_; rintro e w1 ⟨rfl, rfl⟩))
    go_ret2
    exact ⟨ret2 (by show _ = Pl.lt01 _ _; rw [Pl.lt01, if_pos h]) rfl, 0, rfl⟩
  · go_enter Try.func31, Try.ntmps31
    go_wp2_with (first | (go_at_call 15; refine (specWord_any _ _).mono ?_; rintro e w1 ⟨rfl, rfl⟩) | (go_at_call 19; refine (specSigned_any _ _).mono ?_; rintro e w1 ⟨rfl, rfl⟩))
    go_ret2
    exact ⟨ret2 (by show _ = Pl.lt01 _ _; rw [Pl.lt01, if_neg (by omega)]) rfl, 0, rfl⟩
set_option maxHeartbeats 400000 in
theorem specAlu_6 (a b : Int) (w : World) : Calls Try.prog 31 #[.int .i64 6, .int .i64 a, .int .i64 b] w fun e w' => e = .returned (.tuple #[.int .i64 (Pl.al 6 (Pl.wd a) (Pl.wd b)), .bool true]) ∧ ∃ m, w' = w.drewN m := by
  have ha := Pl.wd_bd a
  have hb := Pl.wd_bd b
  go_enter Try.func31, Try.ntmps31
  go_wp2_with (first | (go_at_call 15; refine (specWord_any _ _).mono ?_; rintro e w1 ⟨rfl, rfl⟩) | (go_at_call 19; refine (specSigned_any _ _).mono ?_; rintro e w1 ⟨rfl, rfl⟩) | (go_at_call 60; refine (bits_xor_int _ _ ha.1 ha.2 hb.1 hb.2 _).mono ?_; rintro e w1 ⟨rfl, rfl⟩))
  go_ret2
  exact ⟨ret2 (rfl) rfl, 0, rfl⟩
set_option maxHeartbeats 400000 in
theorem specAlu_7 (a b : Int) (w : World) : Calls Try.prog 31 #[.int .i64 7, .int .i64 a, .int .i64 b] w fun e w' => e = .returned (.tuple #[.int .i64 (Pl.al 7 (Pl.wd a) (Pl.wd b)), .bool true]) ∧ ∃ m, w' = w.drewN m := by
  have ha := Pl.wd_bd a
  have hb := Pl.wd_bd b
  have hs : 0 ≤ Pl.wd b % 32 ∧ Pl.wd b % 32 ≤ 31 := by omega
  go_enter Try.func31, Try.ntmps31
  go_wp2_with (first | (go_at_call 15; refine (specWord_any _ _).mono ?_; rintro e w1 ⟨rfl, rfl⟩) | (go_at_call 19; refine (specSigned_any _ _).mono ?_; rintro e w1 ⟨rfl, rfl⟩) | (go_at_call 59; refine (shift_r _ _ (Pl.wd b % 32).toNat (by omega) (by omega) ha.1 ha.2 _).mono ?_; rintro e w1 ⟨rfl, rfl⟩))
  go_ret2
  exact ⟨ret2 (rfl) rfl, 0, rfl⟩
set_option maxHeartbeats 400000 in
theorem specAlu_8 (a b : Int) (w : World) : Calls Try.prog 31 #[.int .i64 8, .int .i64 a, .int .i64 b] w fun e w' => e = .returned (.tuple #[.int .i64 (Pl.al 8 (Pl.wd a) (Pl.wd b)), .bool true]) ∧ ∃ m, w' = w.drewN m := by
  have ha := Pl.wd_bd a
  have hb := Pl.wd_bd b
  have hs : 0 ≤ Pl.wd b % 32 ∧ Pl.wd b % 32 ≤ 31 := by omega
  go_enter Try.func31, Try.ntmps31
  go_wp2_with (first | (go_at_call 15; refine (specWord_any _ _).mono ?_; rintro e w1 ⟨rfl, rfl⟩) | (go_at_call 19; refine (specSigned_any _ _).mono ?_; rintro e w1 ⟨rfl, rfl⟩) | (go_at_call 59; refine (shift_a _ _ (Pl.wd b % 32).toNat (by omega) (by omega) _).mono ?_; rintro e w1 ⟨rfl, rfl⟩))
  go_ret2
  exact ⟨ret2 (rfl) rfl, 0, rfl⟩
set_option maxHeartbeats 400000 in
theorem specAlu_9 (a b : Int) (w : World) : Calls Try.prog 31 #[.int .i64 9, .int .i64 a, .int .i64 b] w fun e w' => e = .returned (.tuple #[.int .i64 (Pl.al 9 (Pl.wd a) (Pl.wd b)), .bool true]) ∧ ∃ m, w' = w.drewN m := by
  have ha := Pl.wd_bd a
  have hb := Pl.wd_bd b
  go_enter Try.func31, Try.ntmps31
  go_wp2_with (first | (go_at_call 15; refine (specWord_any _ _).mono ?_; rintro e w1 ⟨rfl, rfl⟩) | (go_at_call 19; refine (specSigned_any _ _).mono ?_; rintro e w1 ⟨rfl, rfl⟩) | (go_at_call 60; refine (bits_or_int _ _ ha.1 ha.2 hb.1 hb.2 _).mono ?_; rintro e w1 ⟨rfl, rfl⟩))
  go_ret2
  exact ⟨ret2 (rfl) rfl, 0, rfl⟩
end Go.Proofs.Ytmnlhienhfmhdaa.W
