import Derived.Test.YtjdfffdeljgenaaGreatDoorS07
import Derived.Test.YtjdfffdeljgenaaGreatDoorS00
namespace Go.Proofs.YtjdfffdeljgenaaGreatDoor.W
open Go.RowKit
theorem bits_and_int (A B : Int) (a1 : 0 ≤ A) (a2 : A ≤ 4294967295) (b1 : 0 ≤ B) (b2 : B ≤ 4294967295) (w : World) : Calls Tryz.prog 100 #[.int .i64 1, .int .i64 A, .int .i64 B] w fun e w' => e = .returned (.int .i64 ((A.toNat &&& B.toNat : Nat) : Int)) ∧ w' = w := by
  obtain ⟨x, rfl⟩ := Int.eq_ofNat_of_zero_le a1
  obtain ⟨y, rfl⟩ := Int.eq_ofNat_of_zero_le b1
  exact bits_and_any x y (by omega) (by omega) w
theorem bits_or_int (A B : Int) (a1 : 0 ≤ A) (a2 : A ≤ 4294967295) (b1 : 0 ≤ B) (b2 : B ≤ 4294967295) (w : World) : Calls Tryz.prog 100 #[.int .i64 2, .int .i64 A, .int .i64 B] w fun e w' => e = .returned (.int .i64 ((A.toNat ||| B.toNat : Nat) : Int)) ∧ w' = w := by
  obtain ⟨x, rfl⟩ := Int.eq_ofNat_of_zero_le a1
  obtain ⟨y, rfl⟩ := Int.eq_ofNat_of_zero_le b1
  exact bits_or_any x y (by omega) (by omega) w
theorem bits_xor_int (A B : Int) (a1 : 0 ≤ A) (a2 : A ≤ 4294967295) (b1 : 0 ≤ B) (b2 : B ≤ 4294967295) (w : World) : Calls Tryz.prog 100 #[.int .i64 3, .int .i64 A, .int .i64 B] w fun e w' => e = .returned (.int .i64 ((A.toNat ^^^ B.toNat : Nat) : Int)) ∧ w' = w := by
  obtain ⟨x, rfl⟩ := Int.eq_ofNat_of_zero_le a1
  obtain ⟨y, rfl⟩ := Int.eq_ofNat_of_zero_le b1
  exact bits_xor_any x y (by omega) (by omega) w
set_option maxHeartbeats 400000 in
theorem specAlu_1 (a b : Int) (w : World) : Calls Tryz.prog 71 #[.int .i64 1, .int .i64 a, .int .i64 b] w fun e w' => e = .returned (.tuple #[.int .i64 (Pl.al 1 (Pl.wd a) (Pl.wd b)), .bool true]) ∧ ∃ m, w' = w.drewN m := by
  have ha := Pl.wd_bd a
  have hb := Pl.wd_bd b
  go_enter Tryz.func71, Tryz.ntmps71
  go_wp2_with (first | (go_at_call 75; refine (specWord_any _ _).mono ?_; rintro e w1 ⟨rfl, rfl⟩) | (go_at_call 99; refine (specSigned_any _ _).mono ?_; rintro e w1 ⟨rfl, rfl⟩))
  go_ret2
  exact ⟨ret2 (rfl) rfl, 0, rfl⟩
set_option maxHeartbeats 400000 in
theorem specAlu_2 (a b : Int) (w : World) : Calls Tryz.prog 71 #[.int .i64 2, .int .i64 a, .int .i64 b] w fun e w' => e = .returned (.tuple #[.int .i64 (Pl.al 2 (Pl.wd a) (Pl.wd b)), .bool true]) ∧ ∃ m, w' = w.drewN m := by
  have ha := Pl.wd_bd a
  have hb := Pl.wd_bd b
  go_enter Tryz.func71, Tryz.ntmps71
  go_wp2_with (first | (go_at_call 75; refine (specWord_any _ _).mono ?_; rintro e w1 ⟨rfl, rfl⟩) | (go_at_call 99; refine (specSigned_any _ _).mono ?_; rintro e w1 ⟨rfl, rfl⟩))
  go_ret2
  exact ⟨ret2 (rfl) rfl, 0, rfl⟩
set_option maxHeartbeats 400000 in
theorem specAlu_3 (a b : Int) (w : World) : Calls Tryz.prog 71 #[.int .i64 3, .int .i64 a, .int .i64 b] w fun e w' => e = .returned (.tuple #[.int .i64 (Pl.al 3 (Pl.wd a) (Pl.wd b)), .bool true]) ∧ ∃ m, w' = w.drewN m := by
  have ha := Pl.wd_bd a
  have hb := Pl.wd_bd b
  have hs : 0 ≤ Pl.wd b % 32 ∧ Pl.wd b % 32 ≤ 31 := by omega
  go_enter Tryz.func71, Tryz.ntmps71
  go_wp2_with (first | (go_at_call 75; refine (specWord_any _ _).mono ?_; rintro e w1 ⟨rfl, rfl⟩) | (go_at_call 99; refine (specSigned_any _ _).mono ?_; rintro e w1 ⟨rfl, rfl⟩) | (go_at_call 98; refine (shift_l _ _ (Pl.wd b % 32).toNat (by omega) (by omega) ha.1 ha.2 _).mono ?_; rintro e w1 ⟨rfl, m, rfl⟩))
  go_ret2
  exact ⟨ret2 rfl rfl, _, rfl⟩
set_option maxHeartbeats 400000 in
theorem specAlu_4 (a b : Int) (w : World) : Calls Tryz.prog 71 #[.int .i64 4, .int .i64 a, .int .i64 b] w fun e w' => e = .returned (.tuple #[.int .i64 (Pl.al 4 (Pl.wd a) (Pl.wd b)), .bool true]) ∧ ∃ m, w' = w.drewN m := by
  have ha := Pl.wd_bd a
  have hb := Pl.wd_bd b
  have ha' := Pl.sg_bd (Pl.wd a)
  have hb' := Pl.sg_bd (Pl.wd b)
  by_cases h : Pl.sg (Pl.wd a) < Pl.sg (Pl.wd b)
  · go_enter Tryz.func71, Tryz.ntmps71
    go_wp2_with (first | (go_at_call 75; refine (specWord_any _ _).mono ?_; rintro e w1 ⟨rfl, rfl⟩) | (go_at_call 99; refine (specSigned_any _ _).mono ?_; rintro e w1 ⟨rfl, rfl⟩))
    go_ret2
    exact ⟨ret2 (by show _ = Pl.lt01 _ _; rw [Pl.lt01, if_pos h]) rfl, 0, rfl⟩
  · go_enter Tryz.func71, Tryz.ntmps71
    go_wp2_with (first | (go_at_call 75; refine (specWord_any _ _).mono ?_; rintro e w1 ⟨rfl, rfl⟩) | (go_at_call 99; refine (specSigned_any _ _).mono ?_; rintro e w1 ⟨rfl, rfl⟩))
    go_ret2
    exact ⟨ret2 (by show _ = Pl.lt01 _ _; rw [Pl.lt01, if_neg (by omega)]) rfl, 0, rfl⟩
set_option maxHeartbeats 400000 in
theorem specAlu_5 (a b : Int) (w : World) : Calls Tryz.prog 71 #[.int .i64 5, .int .i64 a, .int .i64 b] w fun e w' => e = .returned (.tuple #[.int .i64 (Pl.al 5 (Pl.wd a) (Pl.wd b)), .bool true]) ∧ ∃ m, w' = w.drewN m := by
  have ha := Pl.wd_bd a
  have hb := Pl.wd_bd b
  have ha' := Pl.sg_bd (Pl.wd a)
  have hb' := Pl.sg_bd (Pl.wd b)
  by_cases h : Pl.wd a < Pl.wd b
  · go_enter Tryz.func71, Tryz.ntmps71
    go_wp2_with (first | (go_at_call 75; refine (specWord_any _ _).mono ?_; rintro e w1 ⟨rfl, rfl⟩) | (go_at_call 99; refine (specSigned_any _ _).mono ?_; rintro e w1 ⟨rfl, rfl⟩))
    go_ret2
    exact ⟨ret2 (by show _ = Pl.lt01 _ _; rw [Pl.lt01, if_pos h]) rfl, 0, rfl⟩
  · go_enter Tryz.func71, Tryz.ntmps71
    go_wp2_with (first | (go_at_call 75; refine (specWord_any _ _).mono ?_; rintro e w1 ⟨rfl, rfl⟩) | (go_at_call 99; refine (specSigned_any _ _).mono ?_; rintro e w1 ⟨rfl, rfl⟩))
    go_ret2
    exact ⟨ret2 (by show _ = Pl.lt01 _ _; rw [Pl.lt01, if_neg (by omega)]) rfl, 0, rfl⟩
set_option maxHeartbeats 400000 in
theorem specAlu_6 (a b : Int) (w : World) : Calls Tryz.prog 71 #[.int .i64 6, .int .i64 a, .int .i64 b] w fun e w' => e = .returned (.tuple #[.int .i64 (Pl.al 6 (Pl.wd a) (Pl.wd b)), .bool true]) ∧ ∃ m, w' = w.drewN m := by
  have ha := Pl.wd_bd a
  have hb := Pl.wd_bd b
  go_enter Tryz.func71, Tryz.ntmps71
  go_wp2_with (first | (go_at_call 75; refine (specWord_any _ _).mono ?_; rintro e w1 ⟨rfl, rfl⟩) | (go_at_call 99; refine (specSigned_any _ _).mono ?_; rintro e w1 ⟨rfl, rfl⟩) | (go_at_call 100; refine (bits_xor_int _ _ ha.1 ha.2 hb.1 hb.2 _).mono ?_; rintro e w1 ⟨rfl, rfl⟩))
  go_ret2
  exact ⟨ret2 (rfl) rfl, 0, rfl⟩
set_option maxHeartbeats 400000 in
theorem specAlu_7 (a b : Int) (w : World) : Calls Tryz.prog 71 #[.int .i64 7, .int .i64 a, .int .i64 b] w fun e w' => e = .returned (.tuple #[.int .i64 (Pl.al 7 (Pl.wd a) (Pl.wd b)), .bool true]) ∧ ∃ m, w' = w.drewN m := by
  have ha := Pl.wd_bd a
  have hb := Pl.wd_bd b
  have hs : 0 ≤ Pl.wd b % 32 ∧ Pl.wd b % 32 ≤ 31 := by omega
  go_enter Tryz.func71, Tryz.ntmps71
  go_wp2_with (first | (go_at_call 75; refine (specWord_any _ _).mono ?_; rintro e w1 ⟨rfl, rfl⟩) | (go_at_call 99; refine (specSigned_any _ _).mono ?_; rintro e w1 ⟨rfl, rfl⟩) | (go_at_call 98; refine (shift_r _ _ (Pl.wd b % 32).toNat (by omega) (by omega) ha.1 ha.2 _).mono ?_; rintro e w1 ⟨rfl, rfl⟩))
  go_ret2
  exact ⟨ret2 (rfl) rfl, 0, rfl⟩
set_option maxHeartbeats 400000 in
theorem specAlu_8 (a b : Int) (w : World) : Calls Tryz.prog 71 #[.int .i64 8, .int .i64 a, .int .i64 b] w fun e w' => e = .returned (.tuple #[.int .i64 (Pl.al 8 (Pl.wd a) (Pl.wd b)), .bool true]) ∧ ∃ m, w' = w.drewN m := by
  have ha := Pl.wd_bd a
  have hb := Pl.wd_bd b
  have hs : 0 ≤ Pl.wd b % 32 ∧ Pl.wd b % 32 ≤ 31 := by omega
  go_enter Tryz.func71, Tryz.ntmps71
  go_wp2_with (first | (go_at_call 75; refine (specWord_any _ _).mono ?_; rintro e w1 ⟨rfl, rfl⟩) | (go_at_call 99; refine (specSigned_any _ _).mono ?_; rintro e w1 ⟨rfl, rfl⟩) | (go_at_call 98; refine (shift_a _ _ (Pl.wd b % 32).toNat (by omega) (by omega) _).mono ?_; rintro e w1 ⟨rfl, rfl⟩))
  go_ret2
  exact ⟨ret2 (rfl) rfl, 0, rfl⟩
set_option maxHeartbeats 400000 in
theorem specAlu_9 (a b : Int) (w : World) : Calls Tryz.prog 71 #[.int .i64 9, .int .i64 a, .int .i64 b] w fun e w' => e = .returned (.tuple #[.int .i64 (Pl.al 9 (Pl.wd a) (Pl.wd b)), .bool true]) ∧ ∃ m, w' = w.drewN m := by
  have ha := Pl.wd_bd a
  have hb := Pl.wd_bd b
  go_enter Tryz.func71, Tryz.ntmps71
  go_wp2_with (first | (go_at_call 75; refine (specWord_any _ _).mono ?_; rintro e w1 ⟨rfl, rfl⟩) | (go_at_call 99; refine (specSigned_any _ _).mono ?_; rintro e w1 ⟨rfl, rfl⟩) | (go_at_call 100; refine (bits_or_int _ _ ha.1 ha.2 hb.1 hb.2 _).mono ?_; rintro e w1 ⟨rfl, rfl⟩))
  go_ret2
  exact ⟨ret2 (rfl) rfl, 0, rfl⟩
end Go.Proofs.YtjdfffdeljgenaaGreatDoor.W
namespace Go.Proofs.YtjdfffdeljgenaaGreatDoor.W
open Go.RowKit
theorem quotA_15 (A B : Int) (a1 : 0 ≤ A) (a2 : A ≤ 4294967295) (b1 : 0 ≤ B) (b2 : B ≤ 4294967295) (w : World) : Calls Tryz.prog 102 #[.int .i64 15, .int .i64 A, .int .i64 B] w fun e w' => e = .returned (.int .i64 (Pl.al 15 A B)) ∧ w' = w := quot_15 A B a1 a2 b1 b2 w
theorem quotA_16 (A B : Int) (a1 : 0 ≤ A) (a2 : A ≤ 4294967295) (b1 : 0 ≤ B) (b2 : B ≤ 4294967295) (w : World) : Calls Tryz.prog 102 #[.int .i64 16, .int .i64 A, .int .i64 B] w fun e w' => e = .returned (.int .i64 (Pl.al 16 A B)) ∧ w' = w := quot_16 A B a1 a2 b1 b2 w
theorem quotA_17 (A B : Int) (a1 : 0 ≤ A) (a2 : A ≤ 4294967295) (b1 : 0 ≤ B) (b2 : B ≤ 4294967295) (w : World) : Calls Tryz.prog 102 #[.int .i64 17, .int .i64 A, .int .i64 B] w fun e w' => e = .returned (.int .i64 (Pl.al 17 A B)) ∧ w' = w := quot_17 A B a1 a2 b1 b2 w
theorem quotA_18 (A B : Int) (a1 : 0 ≤ A) (a2 : A ≤ 4294967295) (b1 : 0 ≤ B) (b2 : B ≤ 4294967295) (w : World) : Calls Tryz.prog 102 #[.int .i64 18, .int .i64 A, .int .i64 B] w fun e w' => e = .returned (.int .i64 (Pl.al 18 A B)) ∧ w' = w := quot_18 A B a1 a2 b1 b2 w
set_option maxHeartbeats 400000 in
theorem specAlu_10 (a b : Int) (w : World) : Calls Tryz.prog 71 #[.int .i64 10, .int .i64 a, .int .i64 b] w fun e w' => e = .returned (.tuple #[.int .i64 (Pl.al 10 (Pl.wd a) (Pl.wd b)), .bool true]) ∧ ∃ m, w' = w.drewN m := by
  have ha := Pl.wd_bd a
  have hb := Pl.wd_bd b
  go_enter Tryz.func71, Tryz.ntmps71
  go_wp2_with (first | (go_at_call 75; refine (specWord_any _ _).mono ?_; rintro e w1 ⟨rfl, rfl⟩) | (go_at_call 99; refine (specSigned_any _ _).mono ?_; rintro e w1 ⟨rfl, rfl⟩) | (go_at_call 100; refine (bits_and_int _ _ ha.1 ha.2 hb.1 hb.2 _).mono ?_; rintro e w1 ⟨rfl, rfl⟩))
  go_ret2
  exact ⟨ret2 (rfl) rfl, 0, rfl⟩
set_option maxHeartbeats 400000 in
theorem specAlu_11 (a b : Int) (w : World) : Calls Tryz.prog 71 #[.int .i64 11, .int .i64 a, .int .i64 b] w fun e w' => e = .returned (.tuple #[.int .i64 (Pl.al 11 (Pl.wd a) (Pl.wd b)), .bool true]) ∧ ∃ m, w' = w.drewN m := by
  have ha := Pl.wd_bd a
  have hb := Pl.wd_bd b
  have p1 : -281474976645120 ≤ Pl.wd a % 65536 * Pl.wd b ∧ Pl.wd a % 65536 * Pl.wd b ≤ 281474976645120 := by
    have := Pl.mul_bd (Pl.wd a % 65536) (Pl.wd b) 65535 4294967295 (by decide) (by omega) (by omega) (by omega) (by omega); omega
  have p2 : 0 ≤ Pl.wd a / 65536 * (Pl.wd b % 65536) := Int.mul_nonneg (by omega) (by omega)
  have p3 : Pl.wd a / 65536 * (Pl.wd b % 65536) ≤ 4294836225 := (Pl.mul_bd (Pl.wd a / 65536) (Pl.wd b % 65536) 65535 65535 (by decide) (by omega) (by omega) (by omega) (by omega)).2
  go_enter Tryz.func71, Tryz.ntmps71
  go_wp2_with (first | (go_at_call 75; refine (specWord_any _ _).mono ?_; rintro e w1 ⟨rfl, rfl⟩) | (go_at_call 99; refine (specSigned_any _ _).mono ?_; rintro e w1 ⟨rfl, rfl⟩))
  go_ret2
  exact ⟨ret2 (Pl.mul_eq _ _) rfl, 0, rfl⟩
set_option maxHeartbeats 400000 in
theorem specAlu_12 (a b : Int) (w : World) : Calls Tryz.prog 71 #[.int .i64 12, .int .i64 a, .int .i64 b] w fun e w' => e = .returned (.tuple #[.int .i64 (Pl.al 12 (Pl.wd a) (Pl.wd b)), .bool true]) ∧ ∃ m, w' = w.drewN m := by
  have ha := Pl.wd_bd a
  have hb := Pl.wd_bd b
  have ha' := Pl.sg_bd (Pl.wd a)
  have hb' := Pl.sg_bd (Pl.wd b)
  go_enter Tryz.func71, Tryz.ntmps71
  go_wp2_with (first | (go_at_call 75; refine (specWord_any _ _).mono ?_; rintro e w1 ⟨rfl, rfl⟩) | (go_at_call 99; refine (specSigned_any _ _).mono ?_; rintro e w1 ⟨rfl, rfl⟩) | (go_at_call 101; refine (high_any _ _ (by omega) (by omega) (by omega) (by omega) _).mono ?_; rintro e w1 ⟨rfl, rfl⟩))
  go_ret2
  exact ⟨ret2 (rfl) rfl, 0, rfl⟩
set_option maxHeartbeats 400000 in
theorem specAlu_13 (a b : Int) (w : World) : Calls Tryz.prog 71 #[.int .i64 13, .int .i64 a, .int .i64 b] w fun e w' => e = .returned (.tuple #[.int .i64 (Pl.al 13 (Pl.wd a) (Pl.wd b)), .bool true]) ∧ ∃ m, w' = w.drewN m := by
  have ha := Pl.wd_bd a
  have hb := Pl.wd_bd b
  have ha' := Pl.sg_bd (Pl.wd a)
  have hb' := Pl.sg_bd (Pl.wd b)
  go_enter Tryz.func71, Tryz.ntmps71
  go_wp2_with (first | (go_at_call 75; refine (specWord_any _ _).mono ?_; rintro e w1 ⟨rfl, rfl⟩) | (go_at_call 99; refine (specSigned_any _ _).mono ?_; rintro e w1 ⟨rfl, rfl⟩) | (go_at_call 101; refine (high_any _ _ (by omega) (by omega) (by omega) (by omega) _).mono ?_; rintro e w1 ⟨rfl, rfl⟩))
  go_ret2
  exact ⟨ret2 (rfl) rfl, 0, rfl⟩
set_option maxHeartbeats 400000 in
theorem specAlu_14 (a b : Int) (w : World) : Calls Tryz.prog 71 #[.int .i64 14, .int .i64 a, .int .i64 b] w fun e w' => e = .returned (.tuple #[.int .i64 (Pl.al 14 (Pl.wd a) (Pl.wd b)), .bool true]) ∧ ∃ m, w' = w.drewN m := by
  have ha := Pl.wd_bd a
  have hb := Pl.wd_bd b
  have ha' := Pl.sg_bd (Pl.wd a)
  have hb' := Pl.sg_bd (Pl.wd b)
  go_enter Tryz.func71, Tryz.ntmps71
  go_wp2_with (first | (go_at_call 75; refine (specWord_any _ _).mono ?_; rintro e w1 ⟨rfl, rfl⟩) | (go_at_call 99; refine (specSigned_any _ _).mono ?_; rintro e w1 ⟨rfl, rfl⟩) | (go_at_call 101; refine (high_any _ _ (by omega) (by omega) (by omega) (by omega) _).mono ?_; rintro e w1 ⟨rfl, rfl⟩))
  go_ret2
  exact ⟨ret2 (rfl) rfl, 0, rfl⟩
set_option maxHeartbeats 400000 in
theorem specAlu_15 (a b : Int) (w : World) : Calls Tryz.prog 71 #[.int .i64 15, .int .i64 a, .int .i64 b] w fun e w' => e = .returned (.tuple #[.int .i64 (Pl.al 15 (Pl.wd a) (Pl.wd b)), .bool true]) ∧ ∃ m, w' = w.drewN m := by
  have ha := Pl.wd_bd a
  have hb := Pl.wd_bd b
  go_enter Tryz.func71, Tryz.ntmps71
  go_wp2_with (first | (go_at_call 75; refine (specWord_any _ _).mono ?_; rintro e w1 ⟨rfl, rfl⟩) | (go_at_call 99; refine (specSigned_any _ _).mono ?_; rintro e w1 ⟨rfl, rfl⟩) | (go_at_call 102; refine (quotA_15 _ _ ha.1 ha.2 hb.1 hb.2 _).mono ?_; rintro e w1 ⟨rfl, rfl⟩))
  go_ret2
  exact ⟨ret2 (rfl) rfl, 0, rfl⟩
set_option maxHeartbeats 400000 in
theorem specAlu_16 (a b : Int) (w : World) : Calls Tryz.prog 71 #[.int .i64 16, .int .i64 a, .int .i64 b] w fun e w' => e = .returned (.tuple #[.int .i64 (Pl.al 16 (Pl.wd a) (Pl.wd b)), .bool true]) ∧ ∃ m, w' = w.drewN m := by
  have ha := Pl.wd_bd a
  have hb := Pl.wd_bd b
  go_enter Tryz.func71, Tryz.ntmps71
  go_wp2_with (first | (go_at_call 75; refine (specWord_any _ _).mono ?_; rintro e w1 ⟨rfl, rfl⟩) | (go_at_call 99; refine (specSigned_any _ _).mono ?_; rintro e w1 ⟨rfl, rfl⟩) | (go_at_call 102; refine (quotA_16 _ _ ha.1 ha.2 hb.1 hb.2 _).mono ?_; rintro e w1 ⟨rfl, rfl⟩))
  go_ret2
  exact ⟨ret2 (rfl) rfl, 0, rfl⟩
set_option maxHeartbeats 400000 in
theorem specAlu_17 (a b : Int) (w : World) : Calls Tryz.prog 71 #[.int .i64 17, .int .i64 a, .int .i64 b] w fun e w' => e = .returned (.tuple #[.int .i64 (Pl.al 17 (Pl.wd a) (Pl.wd b)), .bool true]) ∧ ∃ m, w' = w.drewN m := by
  have ha := Pl.wd_bd a
  have hb := Pl.wd_bd b
  go_enter Tryz.func71, Tryz.ntmps71
  go_wp2_with (first | (go_at_call 75; refine (specWord_any _ _).mono ?_; rintro e w1 ⟨rfl, rfl⟩) | (go_at_call 99; refine (specSigned_any _ _).mono ?_; rintro e w1 ⟨rfl, rfl⟩) | (go_at_call 102; refine (quotA_17 _ _ ha.1 ha.2 hb.1 hb.2 _).mono ?_; rintro e w1 ⟨rfl, rfl⟩))
  go_ret2
  exact ⟨ret2 (rfl) rfl, 0, rfl⟩
set_option maxHeartbeats 400000 in
theorem specAlu_18 (a b : Int) (w : World) : Calls Tryz.prog 71 #[.int .i64 18, .int .i64 a, .int .i64 b] w fun e w' => e = .returned (.tuple #[.int .i64 (Pl.al 18 (Pl.wd a) (Pl.wd b)), .bool true]) ∧ ∃ m, w' = w.drewN m := by
  have ha := Pl.wd_bd a
  have hb := Pl.wd_bd b
  go_enter Tryz.func71, Tryz.ntmps71
  go_wp2_with (first | (go_at_call 75; refine (specWord_any _ _).mono ?_; rintro e w1 ⟨rfl, rfl⟩) | (go_at_call 99; refine (specSigned_any _ _).mono ?_; rintro e w1 ⟨rfl, rfl⟩) | (go_at_call 102; refine (quotA_18 _ _ ha.1 ha.2 hb.1 hb.2 _).mono ?_; rintro e w1 ⟨rfl, rfl⟩))
  go_ret2
  exact ⟨ret2 (rfl) rfl, 0, rfl⟩
end Go.Proofs.YtjdfffdeljgenaaGreatDoor.W
namespace Go.Proofs.YtjdfffdeljgenaaGreatDoor.W
open Go.RowKit
theorem op_cases (n : Int) (h1 : 1 ≤ n) (h2 : n ≤ 18) : n = 1 ∨ n = 2 ∨ n = 3 ∨ n = 4 ∨ n = 5 ∨ n = 6 ∨ n = 7 ∨ n = 8 ∨ n = 9 ∨ n = 10 ∨ n = 11 ∨ n = 12 ∨ n = 13 ∨ n = 14 ∨ n = 15 ∨ n = 16 ∨ n = 17 ∨ n = 18 := by omega
theorem implAlu_yes (n a b : Int) (h1 : 1 ≤ n) (h2 : n ≤ 18) (w : World) : Calls Tryz.prog 106 #[.int .i64 n, .int .i64 a, .int .i64 b] w fun e w' => e = .returned (.tuple #[.int .i64 (Pl.al n.toNat (Pl.wd a) (Pl.wd b)), .bool true]) ∧ Below w.heap.size w w' := by
  rcases op_cases n h1 h2 with rfl | rfl | rfl | rfl | rfl | rfl | rfl | rfl | rfl | rfl | rfl | rfl | rfl | rfl | rfl | rfl | rfl | rfl
  · exact implAlu_1 a b w
  · exact implAlu_2 a b w
  · exact implAlu_3 a b w
  · exact implAlu_4 a b w
  · exact implAlu_5 a b w
  · exact implAlu_6 a b w
  · exact implAlu_7 a b w
  · exact implAlu_8 a b w
  · exact implAlu_9 a b w
  · exact implAlu_10 a b w
  · exact implAlu_11 a b w
  · exact implAlu_12 a b w
  · exact implAlu_13 a b w
  · exact implAlu_14 a b w
  · exact implAlu_15 a b w
  · exact implAlu_16 a b w
  · exact implAlu_17 a b w
  · exact implAlu_18 a b w
theorem specAlu_yes (n a b : Int) (h1 : 1 ≤ n) (h2 : n ≤ 18) (w : World) : Calls Tryz.prog 71 #[.int .i64 n, .int .i64 a, .int .i64 b] w fun e w' => e = .returned (.tuple #[.int .i64 (Pl.al n.toNat (Pl.wd a) (Pl.wd b)), .bool true]) ∧ ∃ m, w' = w.drewN m := by
  rcases op_cases n h1 h2 with rfl | rfl | rfl | rfl | rfl | rfl | rfl | rfl | rfl | rfl | rfl | rfl | rfl | rfl | rfl | rfl | rfl | rfl
  · exact specAlu_1 a b w
  · exact specAlu_2 a b w
  · exact specAlu_3 a b w
  · exact specAlu_4 a b w
  · exact specAlu_5 a b w
  · exact specAlu_6 a b w
  · exact specAlu_7 a b w
  · exact specAlu_8 a b w
  · exact specAlu_9 a b w
  · exact specAlu_10 a b w
  · exact specAlu_11 a b w
  · exact specAlu_12 a b w
  · exact specAlu_13 a b w
  · exact specAlu_14 a b w
  · exact specAlu_15 a b w
  · exact specAlu_16 a b w
  · exact specAlu_17 a b w
  · exact specAlu_18 a b w
end Go.Proofs.YtjdfffdeljgenaaGreatDoor.W
