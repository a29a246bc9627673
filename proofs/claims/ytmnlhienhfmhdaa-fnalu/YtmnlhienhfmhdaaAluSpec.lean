import Derived.Test.YtmnlhienhfmhdaaAluMath
import Derived.Deep.QuietTactic
import Derived.BigQuiet
namespace Go.Proofs.Ytmnlhienhfmhdaa.W
open Go.RowKit
theorem floor_any (n d : Int) (hd : 0 < d) (hd' : d ≤ 4611686018427387904) (h1 : -4611686018427387904 ≤ n) (h2 : n ≤ 4611686018427387904) (w : World) : Calls Try.prog 74 #[.int .i64 n, .int .i64 d] w fun e w' => e = .returned (.int .i64 (n / d)) ∧ w' = w := by
  have hb := Pl.tdiv_bd n d hd 4611686018427387904 h1 h2
  by_cases h : n.tmod d < 0
  · have h0 : n < 0 := by
      rcases Pl.tmod_cases n d with ⟨h0, h'⟩ | ⟨h0, h'⟩
      · have := Int.emod_nonneg n (Int.ne_of_gt hd); omega
      · exact h0
    have he := Pl.floor_neg n d hd h
    have HE : Hid (n.tdiv d - 1 = n / d) := he
    clear he
    go_enter Try.func74, Try.ntmps74
    go_wp2
    go_ret
    exact ⟨ret_int HE.out, rfl⟩
  · by_cases h0 : 0 ≤ n
    · have h' : ¬ n % d < 0 := by have := Int.emod_nonneg n (Int.ne_of_gt hd); omega
      clear h hb
      go_enter Try.func74, Try.ntmps74
      go_wp2
      go_ret
      exact ⟨rfl, rfl⟩
    · have he := Pl.floor_pos n d hd (by omega)
      have HE : Hid (n.tdiv d = n / d) := he
      clear he
      go_enter Try.func74, Try.ntmps74
      go_wp2
      go_ret
      exact ⟨ret_int HE.out, rfl⟩
theorem ret_ii {k l : IntKind} {a b c d : Int} (h : a = b) (h' : c = d) : Ending.returned (.tuple #[.int k a, .int l c]) = .returned (.tuple #[.int k b, .int l d]) := by rw [h, h']
theorem divide_u (a b : Int) (a1 : 0 ≤ a) (a2 : a ≤ 4294967295) (b1 : 1 ≤ b) (b2 : b ≤ 4294967295) (w : World) : Calls Try.prog 75 #[.int .i64 a, .int .i64 b] w fun e w' => e = .returned (.tuple #[.int .i64 (a / b), .int .i64 (a % b)]) ∧ w' = w := by
  have hb : (b == 0) = false := by simp; omega
  have h1 := Int.ediv_nonneg a1 (by omega : 0 ≤ b)
  have h2 := Int.ediv_le_self b a1
  have h3 := Int.emod_nonneg a (by omega : b ≠ 0)
  have h4 := Int.emod_lt_of_pos a (by omega : 0 < b)
  have h5 : a / b * b = a - a % b := by have := Int.mul_ediv_add_emod a b; rw [Int.mul_comm] at this; omega
  have h6 : 0 ≤ a / b * b := by rw [h5]; have := Int.mul_nonneg h1 (by omega : 0 ≤ b); rw [h5] at this; exact this
  have h7 : a / b * b ≤ 4294967295 := by rw [h5]; omega
  have H : Hid (a / b * b = a - a % b) := h5
  clear h5
  go_enter Try.func75, Try.ntmps75
  go_wp2
  go_ret2
  exact ⟨ret_ii rfl (by rw [H.out]; omega), rfl⟩
theorem divide_s (a b : Int) (a1 : -4294967296 ≤ a) (a2 : a ≤ 4294967296) (hb : ¬ b = 0) (w : World) : Calls Try.prog 75 #[.int .i64 a, .int .i64 b] w fun e w' => e = .returned (.tuple #[.int .i64 (a.tdiv b), .int .i64 (a.tmod b)]) ∧ w' = w := by
  have h1 := Pl.tdiv_small a b 4294967296 a1 a2
  have h2 := Pl.tmod_small a b 4294967296 a1 a2
  have h5 := Pl.tdiv_mul a b
  have h6 : -8589934592 ≤ a.tdiv b * b ∧ a.tdiv b * b ≤ 8589934592 := by rw [h5]; omega
  have H : Hid (a.tdiv b * b = a - a.tmod b) := h5
  clear h5
  go_enter Try.func75, Try.ntmps75
  go_wp2
  go_ret2
  exact ⟨ret_ii rfl (by rw [H.out]; omega), rfl⟩
set_option maxHeartbeats 400000 in
theorem high_any (a b : Int) (a1 : -2147483648 ≤ a) (a2 : a ≤ 4294967295) (b1 : -2147483648 ≤ b) (b2 : b ≤ 4294967295) (w : World) : Calls Try.prog 61 #[.int .i64 a, .int .i64 b] w fun e w' => e = .returned (.int .i64 (a * b / 4294967296)) ∧ w' = w := by
  have hl := Pl.and65535 b
  have p1 : -562949953421312 ≤ a * ((b - b % 65536) / 65536) ∧ a * ((b - b % 65536) / 65536) ≤ 562949953421312 := Pl.mul_bd a _ 4294967296 131072 (by decide) (by omega) (by omega) (by omega) (by omega)
  have p2 : -562949953421312 ≤ a * (b % 65536) ∧ a * (b % 65536) ≤ 562949953421312 := Pl.mul_bd a _ 4294967296 131072 (by decide) (by omega) (by omega) (by omega) (by omega)
  have H : Hid ((a * ((b - b % 65536) / 65536) + a * (b % 65536) / 65536) / 65536 = a * b / 4294967296) := Pl.high_eq a b
  go_enter Try.func61, Try.ntmps61
  go_wp2_with (go_at_call 74; refine (floor_any _ _ (by omega) (by omega) (by omega) (by omega) _).mono ?_; rintro e w' ⟨rfl, rfl⟩)
  go_ret
  exact ⟨ret_int H.out, rfl⟩
set_option maxHeartbeats 400000 in
theorem bits_and_any (A B : Nat) (hA : A < 4294967296) (hB : B < 4294967296) (w : World) : Calls Try.prog 60 #[.int .i64 1, .int .i64 A, .int .i64 B] w fun e w' => e = .returned (.int .i64 ((A &&& B : Nat) : Int)) ∧ w' = w := by
  have hfin := Pl.bsum_and A B hA
  generalize hf : (fun i => A.testBit i && B.testBit i) = f at hfin
  have hfk : ∀ k, f k = (A.testBit k && B.testBit k) := fun k => by rw [← hf]
  have HF : Hid (Pl.bsum f 32 = A &&& B) := hfin
  have HK : Hid (∀ k, f k = (A.testBit k && B.testBit k)) := hfk
  clear hfin hfk hf
  go_enter Try.func60, Try.ntmps60
  go_wp2
  go_loop [7, 8, 9] (fun v p i => ∃ k : Nat, k ≤ 32 ∧ i = .int .i64 k ∧ p = .int .i64 (Pl.pw k) ∧ v = .int .i64 ((Pl.bsum f k : Nat) : Int)) (fun _ _ i => 32 - (intOf i).toNat)
  case atStart => exact ⟨0, Nat.zero_le _, rfl, rfl, rfl⟩
  case round =>
    obtain ⟨k, hk, rfl, rfl, rfl⟩ := hrel
    have h1 := Pl.pw_pos k
    have h2 := Pl.bsum_pw f k
    by_cases hlt : k < 32
    · have h3 : Pl.pw k ≤ 2147483648 := Pl.pw_mono (show k ≤ 31 by omega)
      have q1 : 0 ≤ (A : Int) / Pl.pw k := Int.ediv_nonneg (by omega) (by omega)
      have q2 : 0 ≤ (B : Int) / Pl.pw k := Int.ediv_nonneg (by omega) (by omega)
      have q3 : (A : Int) / Pl.pw k ≤ 4294967295 := by have := Int.ediv_le_self (Pl.pw k) (show 0 ≤ (A : Int) by omega); omega
      have q4 : (B : Int) / Pl.pw k ≤ 4294967295 := by have := Int.ediv_le_self (Pl.pw k) (show 0 ≤ (B : Int) by omega); omega
      have bA := Pl.bit_of A k
      have bB := Pl.bit_of B k
      have S : Hid _ := Pl.bsum_step f k
      have P2 : Hid _ := Pl.pw_succ k
      cases tA : A.testBit k <;> cases tB : B.testBit k
      all_goals
        rw [tA] at bA
        rw [tB] at bB
        simp only [if_true, if_false, Bool.false_eq_true] at bA bB
        have hfv := HK.out k
        rw [tA, tB] at hfv
        have HV : Hid _ := hfv
        clear tA tB hfv
        go_wp2
        go_round
        case rel => exact ⟨k + 1, by omega, by go_num, by rw [P2.out], by rw [S.out, HV.out]; simp⟩
        case measure => simp [intOf]; omega
    · have e : k = 32 := by omega
      subst e
      go_wp2
      go_ret
      exact ⟨ret_int (by rw [HF.out]), rfl⟩
set_option maxHeartbeats 400000 in
theorem bits_or_any (A B : Nat) (hA : A < 4294967296) (hB : B < 4294967296) (w : World) : Calls Try.prog 60 #[.int .i64 2, .int .i64 A, .int .i64 B] w fun e w' => e = .returned (.int .i64 ((A ||| B : Nat) : Int)) ∧ w' = w := by
  have hfin := Pl.bsum_or A B hA hB
  generalize hf : (fun i => A.testBit i || B.testBit i) = f at hfin
  have hfk : ∀ k, f k = (A.testBit k || B.testBit k) := fun k => by rw [← hf]
  have HF : Hid (Pl.bsum f 32 = A ||| B) := hfin
  have HK : Hid (∀ k, f k = (A.testBit k || B.testBit k)) := hfk
  clear hfin hfk hf
  go_enter Try.func60, Try.ntmps60
  go_wp2
  go_loop [7, 8, 9] (fun v p i => ∃ k : Nat, k ≤ 32 ∧ i = .int .i64 k ∧ p = .int .i64 (Pl.pw k) ∧ v = .int .i64 ((Pl.bsum f k : Nat) : Int)) (fun _ _ i => 32 - (intOf i).toNat)
  case atStart => exact ⟨0, Nat.zero_le _, rfl, rfl, rfl⟩
  case round =>
    obtain ⟨k, hk, rfl, rfl, rfl⟩ := hrel
    have h1 := Pl.pw_pos k
    have h2 := Pl.bsum_pw f k
    by_cases hlt : k < 32
    · have h3 : Pl.pw k ≤ 2147483648 := Pl.pw_mono (show k ≤ 31 by omega)
      have q1 : 0 ≤ (A : Int) / Pl.pw k := Int.ediv_nonneg (by omega) (by omega)
      have q2 : 0 ≤ (B : Int) / Pl.pw k := Int.ediv_nonneg (by omega) (by omega)
      have q3 : (A : Int) / Pl.pw k ≤ 4294967295 := by have := Int.ediv_le_self (Pl.pw k) (show 0 ≤ (A : Int) by omega); omega
      have q4 : (B : Int) / Pl.pw k ≤ 4294967295 := by have := Int.ediv_le_self (Pl.pw k) (show 0 ≤ (B : Int) by omega); omega
      have bA := Pl.bit_of A k
      have bB := Pl.bit_of B k
      have S : Hid _ := Pl.bsum_step f k
      have P2 : Hid _ := Pl.pw_succ k
      cases tA : A.testBit k <;> cases tB : B.testBit k
      all_goals
        rw [tA] at bA
        rw [tB] at bB
        simp only [if_true, if_false, Bool.false_eq_true] at bA bB
        have hfv := HK.out k
        rw [tA, tB] at hfv
        have HV : Hid _ := hfv
        clear tA tB hfv
        go_wp2
        go_round
        case rel => exact ⟨k + 1, by omega, by go_num, by rw [P2.out], by rw [S.out, HV.out]; simp⟩
        case measure => simp [intOf]; omega
    · have e : k = 32 := by omega
      subst e
      go_wp2
      go_ret
      exact ⟨ret_int (by rw [HF.out]), rfl⟩
set_option maxHeartbeats 400000 in
theorem bits_xor_any (A B : Nat) (hA : A < 4294967296) (hB : B < 4294967296) (w : World) : Calls Try.prog 60 #[.int .i64 3, .int .i64 A, .int .i64 B] w fun e w' => e = .returned (.int .i64 ((A ^^^ B : Nat) : Int)) ∧ w' = w := by
  have hfin := Pl.bsum_xor A B hA hB
  generalize hf : (fun i => A.testBit i != B.testBit i) = f at hfin
  have hfk : ∀ k, f k = (A.testBit k != B.testBit k) := fun k => by rw [← hf]
  have HF : Hid (Pl.bsum f 32 = A ^^^ B) := hfin
  have HK : Hid (∀ k, f k = (A.testBit k != B.testBit k)) := hfk
  clear hfin hfk hf
  go_enter Try.func60, Try.ntmps60
  go_wp2
  go_loop [7, 8, 9] (fun v p i => ∃ k : Nat, k ≤ 32 ∧ i = .int .i64 k ∧ p = .int .i64 (Pl.pw k) ∧ v = .int .i64 ((Pl.bsum f k : Nat) : Int)) (fun _ _ i => 32 - (intOf i).toNat)
  case atStart => exact ⟨0, Nat.zero_le _, rfl, rfl, rfl⟩
  case round =>
    obtain ⟨k, hk, rfl, rfl, rfl⟩ := hrel
    have h1 := Pl.pw_pos k
    have h2 := Pl.bsum_pw f k
    by_cases hlt : k < 32
    · have h3 : Pl.pw k ≤ 2147483648 := Pl.pw_mono (show k ≤ 31 by omega)
      have q1 : 0 ≤ (A : Int) / Pl.pw k := Int.ediv_nonneg (by omega) (by omega)
      have q2 : 0 ≤ (B : Int) / Pl.pw k := Int.ediv_nonneg (by omega) (by omega)
      have q3 : (A : Int) / Pl.pw k ≤ 4294967295 := by have := Int.ediv_le_self (Pl.pw k) (show 0 ≤ (A : Int) by omega); omega
      have q4 : (B : Int) / Pl.pw k ≤ 4294967295 := by have := Int.ediv_le_self (Pl.pw k) (show 0 ≤ (B : Int) by omega); omega
      have bA := Pl.bit_of A k
      have bB := Pl.bit_of B k
      have S : Hid _ := Pl.bsum_step f k
      have P2 : Hid _ := Pl.pw_succ k
      cases tA : A.testBit k <;> cases tB : B.testBit k
      all_goals
        rw [tA] at bA
        rw [tB] at bB
        simp only [if_true, if_false, Bool.false_eq_true] at bA bB
        have hfv := HK.out k
        rw [tA, tB] at hfv
        have HV : Hid _ := hfv
        clear tA tB hfv
        go_wp2
        go_round
        case rel => exact ⟨k + 1, by omega, by go_num, by rw [P2.out], by rw [S.out, HV.out]; simp⟩
        case measure => simp [intOf]; omega
    · have e : k = 32 := by omega
      subst e
      go_wp2
      go_ret
      exact ⟨ret_int (by rw [HF.out]), rfl⟩
set_option maxHeartbeats 400000 in
theorem shift_l (A n : Int) (k : Nat) (hn : n = k) (hk : k ≤ 31) (a1 : 0 ≤ A) (a2 : A ≤ 4294967295) (w : World) : Calls Try.prog 59 #[.int .i64 3, .int .i64 A, .int .i64 n] w fun e w' => e = .returned (.int .i64 (A % Pl.pw (32 - k) * Pl.pw k)) ∧ ∃ m, w' = w.drewN m := by
  subst hn
  have p1 := Pl.pw_pos k
  have p2 := Pl.pw_pos (32 - k)
  have p3 : Pl.pw k ≤ 4294967296 := Pl.pw_mono (show k ≤ 32 by omega)
  have p4 : Pl.pw (32 - k) ≤ 4294967296 := Pl.pw_mono (show 32 - k ≤ 32 by omega)
  have hz : ¬ Pl.pw (32 - k) = 0 := by omega
  have m1 := Int.emod_nonneg A hz
  have m2 := Int.emod_lt_of_pos A p2
  have m3 : 0 ≤ A % Pl.pw (32 - k) * Pl.pw k := Int.mul_nonneg m1 (by omega)
  have m4 : A % Pl.pw (32 - k) * Pl.pw k ≤ 4294967296 * 4294967296 := (Pl.mul_bd (A % Pl.pw (32 - k)) (Pl.pw k) 4294967296 4294967296 (by decide) (by omega) (by omega) (by omega) (by omega)).2
  have m5 : A % Pl.pw (32 - k) * Pl.pw k ≤ 4294967296 := by
    have e : Pl.pw (32 - k) * Pl.pw k = 4294967296 := by
      unfold Pl.pw; rw [← Int.pow_add]; have : 32 - k + k = 32 := by omega
      rw [this]; decide
    have := Int.mul_le_mul_of_nonneg_right (Int.le_of_lt m2) (Int.le_of_lt p1); omega
  clear m4
  go_enter Try.func59, Try.ntmps59
  go_wp2_with fail
  go_quiet ((first | (go_at_call 45; exact Calls.quiet_of_same (specPower_any _ (32 - k) (by omega) (by omega) _)) | (go_at_call 45; exact Calls.quiet_of_same (specPower_any _ k (by omega) (by omega) _))))
  go_wp2
  go_ret
  exact ⟨rfl, _, rfl⟩
set_option maxHeartbeats 400000 in
theorem shift_r (A n : Int) (k : Nat) (hn : n = k) (hk : k ≤ 31) (a1 : 0 ≤ A) (a2 : A ≤ 4294967295) (w : World) : Calls Try.prog 59 #[.int .i64 7, .int .i64 A, .int .i64 n] w fun e w' => e = .returned (.int .i64 (A / Pl.pw k)) ∧ w' = w := by
  subst hn
  have p1 := Pl.pw_pos k
  have p3 : Pl.pw k ≤ 4294967296 := Pl.pw_mono (show k ≤ 32 by omega)
  have q1 : 0 ≤ A / Pl.pw k := Int.ediv_nonneg (by omega) (by omega)
  have q3 : A / Pl.pw k ≤ 4294967295 := by have := Int.ediv_le_self (Pl.pw k) a1; omega
  go_enter Try.func59, Try.ntmps59
  go_wp2_with (go_at_call 45; refine (specPower_any _ k (by omega) (by omega) _).mono ?_; rintro e w' ⟨rfl, rfl⟩)
  go_ret
  exact ⟨rfl, rfl⟩
set_option maxHeartbeats 400000 in
theorem shift_a (A n : Int) (k : Nat) (hn : n = k) (hk : k ≤ 31) (w : World) : Calls Try.prog 59 #[.int .i64 8, .int .i64 A, .int .i64 n] w fun e w' => e = .returned (.int .i64 (Pl.wd (Pl.sg A / Pl.pw k))) ∧ w' = w := by
  subst hn
  have s1 := Pl.sg_bd A
  have p1 := Pl.pw_pos k
  have p3 : Pl.pw k ≤ 4294967296 := Pl.pw_mono (show k ≤ 32 by omega)
  go_enter Try.func59, Try.ntmps59
  go_wp2_with (first | (go_at_call 19; refine (specSigned_any _ _).mono ?_; rintro e w' ⟨rfl, rfl⟩) | (go_at_call 45; refine (specPower_any _ k (by omega) (by omega) _).mono ?_; rintro e w' ⟨rfl, rfl⟩) | (go_at_call 74; refine (floor_any _ _ (by omega) (by omega) (by omega) (by omega) _).mono ?_; rintro e w' ⟨rfl, rfl⟩) | (go_at_call 15; refine (specWord_any _ _).mono ?_; rintro e w' ⟨rfl, rfl⟩))
  go_ret
  exact ⟨rfl, rfl⟩
set_option maxHeartbeats 400000 in
theorem quot_15 (A B : Int) (a1 : 0 ≤ A) (a2 : A ≤ 4294967295) (b1 : 0 ≤ B) (b2 : B ≤ 4294967295) (w : World) : Calls Try.prog 62 #[.int .i64 15, .int .i64 A, .int .i64 B] w fun e w' => e = .returned (.int .i64 (if B = 0 then 4294967295 else Pl.wd ((Pl.sg A).tdiv (Pl.sg B)))) ∧ w' = w := by
  by_cases h0 : B = 0
  · subst h0
    go_enter Try.func62, Try.ntmps62
    go_wp2
    go_ret
    exact ⟨rfl, rfl⟩
  · rw [if_neg h0]
    have h1 : 1 ≤ B := by omega
    have s1 := Pl.sg_bd A
    have s2 := Pl.sg_bd B
    have s3 : ¬ Pl.sg B = 0 := by unfold Pl.sg; omega
    go_enter Try.func62, Try.ntmps62
    go_wp2_with fail
    refine (divide_u _ _ a1 a2 h1 b2 _).mono ?_
    rintro e w' ⟨rfl, rfl⟩
    go_wp2_with (first | (go_at_call 19; refine (specSigned_any _ _).mono ?_; rintro e w' ⟨rfl, rfl⟩) | (go_at_call 75; refine (divide_s _ _ (by omega) (by omega) s3 _).mono ?_; rintro e w' ⟨rfl, rfl⟩) | (go_at_call 15; refine (specWord_any _ _).mono ?_; rintro e w' ⟨rfl, rfl⟩))
    go_ret
    exact ⟨rfl, rfl⟩
set_option maxHeartbeats 400000 in
theorem quot_16 (A B : Int) (a1 : 0 ≤ A) (a2 : A ≤ 4294967295) (b1 : 0 ≤ B) (b2 : B ≤ 4294967295) (w : World) : Calls Try.prog 62 #[.int .i64 16, .int .i64 A, .int .i64 B] w fun e w' => e = .returned (.int .i64 (if B = 0 then 4294967295 else Pl.wd (A / B))) ∧ w' = w := by
  by_cases h0 : B = 0
  · subst h0
    go_enter Try.func62, Try.ntmps62
    go_wp2
    go_ret
    exact ⟨rfl, rfl⟩
  · rw [if_neg h0]
    have h1 : 1 ≤ B := by omega
    have s1 := Pl.sg_bd A
    have s2 := Pl.sg_bd B
    have s3 : ¬ Pl.sg B = 0 := by unfold Pl.sg; omega
    go_enter Try.func62, Try.ntmps62
    go_wp2_with (first | (go_at_call 75; refine (divide_u _ _ a1 a2 h1 b2 _).mono ?_; rintro e w' ⟨rfl, rfl⟩) | (go_at_call 15; refine (specWord_any _ _).mono ?_; rintro e w' ⟨rfl, rfl⟩))
    go_ret
    exact ⟨rfl, rfl⟩
set_option maxHeartbeats 400000 in
theorem quot_17 (A B : Int) (a1 : 0 ≤ A) (a2 : A ≤ 4294967295) (b1 : 0 ≤ B) (b2 : B ≤ 4294967295) (w : World) : Calls Try.prog 62 #[.int .i64 17, .int .i64 A, .int .i64 B] w fun e w' => e = .returned (.int .i64 (if B = 0 then A else Pl.wd ((Pl.sg A).tmod (Pl.sg B)))) ∧ w' = w := by
  by_cases h0 : B = 0
  · subst h0
    go_enter Try.func62, Try.ntmps62
    go_wp2
    go_ret
    exact ⟨rfl, rfl⟩
  · rw [if_neg h0]
    have h1 : 1 ≤ B := by omega
    have s1 := Pl.sg_bd A
    have s2 := Pl.sg_bd B
    have s3 : ¬ Pl.sg B = 0 := by unfold Pl.sg; omega
    go_enter Try.func62, Try.ntmps62
    go_wp2_with fail
    refine (divide_u _ _ a1 a2 h1 b2 _).mono ?_
    rintro e w' ⟨rfl, rfl⟩
    go_wp2_with (first | (go_at_call 19; refine (specSigned_any _ _).mono ?_; rintro e w' ⟨rfl, rfl⟩) | (go_at_call 75; refine (divide_s _ _ (by omega) (by omega) s3 _).mono ?_; rintro e w' ⟨rfl, rfl⟩) | (go_at_call 15; refine (specWord_any _ _).mono ?_; rintro e w' ⟨rfl, rfl⟩))
    go_ret
    exact ⟨rfl, rfl⟩
set_option maxHeartbeats 400000 in
theorem quot_18 (A B : Int) (a1 : 0 ≤ A) (a2 : A ≤ 4294967295) (b1 : 0 ≤ B) (b2 : B ≤ 4294967295) (w : World) : Calls Try.prog 62 #[.int .i64 18, .int .i64 A, .int .i64 B] w fun e w' => e = .returned (.int .i64 (if B = 0 then A else Pl.wd (A % B))) ∧ w' = w := by
  by_cases h0 : B = 0
  · subst h0
    go_enter Try.func62, Try.ntmps62
    go_wp2
    go_ret
    exact ⟨rfl, rfl⟩
  · rw [if_neg h0]
    have h1 : 1 ≤ B := by omega
    have s1 := Pl.sg_bd A
    have s2 := Pl.sg_bd B
    have s3 : ¬ Pl.sg B = 0 := by unfold Pl.sg; omega
    go_enter Try.func62, Try.ntmps62
    go_wp2_with (first | (go_at_call 75; refine (divide_u _ _ a1 a2 h1 b2 _).mono ?_; rintro e w' ⟨rfl, rfl⟩) | (go_at_call 15; refine (specWord_any _ _).mono ?_; rintro e w' ⟨rfl, rfl⟩))
    go_ret
    exact ⟨rfl, rfl⟩
end Go.Proofs.Ytmnlhienhfmhdaa.W
