import Derived.Test.YtfcfnbncgadomaaQ00
import Derived.Deep.QuietTactic
import Derived.BigQuiet
import Derived.Great.Walk
import Derived.Deep.RegionWith
import Derived.Deep.Cut
import Derived.Deep.DeepCutAuto
set_option linter.unusedVariables false
namespace Go.Proofs.Ytfcfnbncgadomaa.Pl
open Go.RowKit
theorem wrap64_in (n : Int) (h1 : -9223372036854775808 ≤ n) (h2 : n ≤ 9223372036854775807) : IntKind.i64.wrap n = n := IntWalk.i64_in n ⟨h1, h2⟩
theorem bits_and64 (x y : Int) : bits .and .i64 x y = IntKind.i64.wrap (((BitVec.ofInt 64 x &&& BitVec.ofInt 64 y).toNat : Nat) : Int) := rfl
theorem bits_or64 (x y : Int) : bits .or .i64 x y = IntKind.i64.wrap (((BitVec.ofInt 64 x ||| BitVec.ofInt 64 y).toNat : Nat) : Int) := rfl
theorem bits_xor64 (x y : Int) : bits .xor .i64 x y = IntKind.i64.wrap (((BitVec.ofInt 64 x ^^^ BitVec.ofInt 64 y).toNat : Nat) : Int) := rfl
theorem mask64 (x : Int) (i : Nat) (hi : i ≤ 62) : bits .and .i64 x (2 ^ i - 1) = x % 2 ^ i := by
  have hpos : 0 < 2 ^ i := Nat.two_pow_pos i
  have hc : ((2 : Int) ^ i - 1) = ((2 ^ i - 1 : Nat) : Int) := by rw [Int.natCast_sub hpos]; simp
  have hle : (2 : Nat) ^ i ≤ 2 ^ 62 := Nat.pow_le_pow_right (by decide) hi
  have hdvd : (2 : Nat) ^ i ∣ 2 ^ 64 := Nat.pow_dvd_pow 2 (by omega)
  have h64 : (2 : Nat) ^ 62 = 4611686018427387904 := by decide
  have h65 : (2 : Nat) ^ 64 = 18446744073709551616 := by decide
  have e1 : (2 ^ i - 1) % 2 ^ 64 = 2 ^ i - 1 := Nat.mod_eq_of_lt (by omega)
  rw [bits_and64, hc]
  simp only [BitVec.ofInt_natCast, BitVec.toNat_and, BitVec.toNat_ofNat, e1, Nat.and_two_pow_sub_one_eq_mod, BitVec.toNat_ofInt]
  have hm := Nat.mod_lt (x % ((2 ^ 64 : Nat) : Int)).toNat hpos
  rw [wrap64_in _ (by omega) (by omega)]
  have hx : 0 ≤ x % ((2 ^ 64 : Nat) : Int) := Int.emod_nonneg _ (by omega)
  rw [Int.natCast_emod, Int.toNat_of_nonneg hx]
  have hd' : (((2 ^ i : Nat) : Int)) ∣ ((2 ^ 64 : Nat) : Int) := Int.natCast_dvd_natCast.2 hdvd
  rw [Int.emod_emod_of_dvd _ hd']
  simp
theorem and31 (x : Int) : bits .and .i64 x 31 = x % 32 := mask64 x 5 (by decide)
theorem and65535 (x : Int) : bits .and .i64 x 65535 = x % 65536 := mask64 x 16 (by decide)
theorem bits_words (a b : Nat) (ha : a < 4294967296) (hb : b < 4294967296) :
    bits .and .i64 a b = ((a &&& b : Nat) : Int) ∧ bits .or .i64 a b = ((a ||| b : Nat) : Int) ∧ bits .xor .i64 a b = ((a ^^^ b : Nat) : Int) := by
  have ha' : a % 2 ^ 64 = a := Nat.mod_eq_of_lt (by omega)
  have hb' : b % 2 ^ 64 = b := Nat.mod_eq_of_lt (by omega)
  have h1 : a &&& b < 2 ^ 32 := Nat.lt_of_le_of_lt Nat.and_le_left ha
  have h2 : a ||| b < 2 ^ 32 := Nat.or_lt_two_pow ha hb
  have h3 : a ^^^ b < 2 ^ 32 := Nat.xor_lt_two_pow ha hb
  refine ⟨?_, ?_, ?_⟩
  · rw [bits_and64]; simp only [BitVec.ofInt_natCast, BitVec.toNat_and, BitVec.toNat_ofNat, ha', hb']
    rw [wrap64_in _ (by omega) (by omega)]
  · rw [bits_or64]; simp only [BitVec.ofInt_natCast, BitVec.toNat_or, BitVec.toNat_ofNat, ha', hb']
    rw [wrap64_in _ (by omega) (by omega)]
  · rw [bits_xor64]; simp only [BitVec.ofInt_natCast, BitVec.toNat_xor, BitVec.toNat_ofNat, ha', hb']
    rw [wrap64_in _ (by omega) (by omega)]
/-- the sum of the places below n at which f holds -/
def bsum (f : Nat → Bool) : Nat → Nat
  | 0 => 0
  | n + 1 => bsum f n + if f n then 2 ^ n else 0
theorem mod_succ (x n : Nat) : x % 2 ^ (n + 1) = x % 2 ^ n + if x.testBit n then 2 ^ n else 0 := by
  rw [Nat.mod_pow_succ, Nat.testBit_eq_decide_div_mod_eq]
  rcases Nat.mod_two_eq_zero_or_one (x / 2 ^ n) with h | h <;> simp [h]
theorem bsum_mod (x n : Nat) : bsum (fun i => x.testBit i) n = x % 2 ^ n := by
  induction n with
  | zero => simp [bsum, Nat.mod_one]
  | succ n ih => rw [mod_succ, ← ih]; rfl
theorem bsum_lt (f : Nat → Bool) (n : Nat) : bsum f n < 2 ^ n := by
  induction n with
  | zero => simp [bsum]
  | succ n ih => simp only [bsum, Nat.pow_succ]; split <;> omega
theorem bsum_and (a b : Nat) (ha : a < 2 ^ 32) : bsum (fun i => a.testBit i && b.testBit i) 32 = a &&& b := by
  have h : (fun i => a.testBit i && b.testBit i) = fun i => (a &&& b).testBit i := by funext i; simp
  rw [h, bsum_mod]; exact Nat.mod_eq_of_lt (Nat.lt_of_le_of_lt Nat.and_le_left ha)
theorem bsum_or (a b : Nat) (ha : a < 2 ^ 32) (hb : b < 2 ^ 32) : bsum (fun i => a.testBit i || b.testBit i) 32 = a ||| b := by
  have h : (fun i => a.testBit i || b.testBit i) = fun i => (a ||| b).testBit i := by funext i; simp
  rw [h, bsum_mod]; exact Nat.mod_eq_of_lt (Nat.or_lt_two_pow ha hb)
theorem bsum_xor (a b : Nat) (ha : a < 2 ^ 32) (hb : b < 2 ^ 32) : bsum (fun i => a.testBit i != b.testBit i) 32 = a ^^^ b := by
  have h : (fun i => a.testBit i != b.testBit i) = fun i => (a ^^^ b).testBit i := by funext i; simp
  rw [h, bsum_mod]; exact Nat.mod_eq_of_lt (Nat.xor_lt_two_pow ha hb)
/-- floors -/
theorem floor_neg (n d : Int) (hd : 0 < d) (h : n.tmod d < 0) : n.tdiv d - 1 = n / d := by
  have h1 := Int.mul_tdiv_add_tmod n d
  have h2 : n.tmod d > -d := by
    rcases tmod_cases n d with ⟨_, h'⟩ | ⟨_, h'⟩
    · have := Int.emod_nonneg n (Int.ne_of_gt hd); omega
    · have := Int.emod_lt_of_pos (-n) hd; omega
  have h3 : n = (n.tmod d + d) + d * (n.tdiv d - 1) := by rw [Int.mul_sub, Int.mul_one]; omega
  have h4 : n / d = (n.tmod d + d) / d + (n.tdiv d - 1) := by
    have h5 := Int.add_mul_ediv_left (n.tmod d + d) (n.tdiv d - 1) (Int.ne_of_gt hd)
    rw [← h3] at h5; exact h5
  rw [h4, Int.ediv_eq_zero_of_lt (by omega) (by omega)]; omega
theorem floor_pos (n d : Int) (hd : 0 < d) (h : 0 ≤ n.tmod d) : n.tdiv d = n / d := by
  rcases tmod_cases n d with ⟨h0, h'⟩ | ⟨h0, h'⟩
  · exact Int.tdiv_eq_ediv_of_nonneg h0
  · have h2 := Int.emod_nonneg (-n) (Int.ne_of_gt hd)
    have h3 : n.tmod d = 0 := by omega
    have h1 := Int.mul_tdiv_add_tmod n d
    rw [h3, Int.add_zero] at h1
    have h5 : n / d = n.tdiv d := by
      have := Int.mul_ediv_cancel_left (n.tdiv d) (Int.ne_of_gt hd)
      rw [h1] at this; exact this
    exact h5.symm
theorem tdiv_bd (n d : Int) (hd : 0 < d) (B : Int) (h1 : -B ≤ n) (h2 : n ≤ B) : -B ≤ n.tdiv d ∧ n.tdiv d ≤ B := by
  rcases tdiv_cases n d with ⟨h0, h⟩ | ⟨h0, h⟩
  · rw [h]; have a := Int.ediv_nonneg h0 (Int.le_of_lt hd); have b := Int.ediv_le_self d h0; omega
  · rw [h]; have h0' : 0 ≤ -n := by omega
    have a := Int.ediv_nonneg h0' (Int.le_of_lt hd); have b := Int.ediv_le_self d h0'; omega
theorem floor_bd (n d : Int) (hd : 0 < d) (B : Int) (hB : 0 ≤ B) (h1 : -B ≤ n) (h2 : n ≤ B) : -B ≤ n / d ∧ n / d ≤ B := by
  constructor
  · exact Int.le_ediv_of_mul_le hd (by have := Int.mul_le_mul_of_nonneg_left (show 1 ≤ d by omega) hB; rw [Int.mul_one] at this; have e : -B * d = -(B * d) := Int.neg_mul _ _; omega)
  · by_cases h0 : 0 ≤ n
    · have b := Int.ediv_le_self d h0; omega
    · have := Int.ediv_neg_of_neg_of_pos (by omega : n < 0) hd; omega
theorem tdiv_small (a b B : Int) (h1 : -B ≤ a) (h2 : a ≤ B) : -B ≤ a.tdiv b ∧ a.tdiv b ≤ B := by
  have h := Int.natAbs_tdiv_le_natAbs a b
  omega
theorem tdiv_mul (a b : Int) : a.tdiv b * b = a - a.tmod b := by
  have h := Int.mul_tdiv_add_tmod a b
  rw [Int.mul_comm] at h; omega
theorem tmod_small (a b B : Int) (h1 : -B ≤ a) (h2 : a ≤ B) : -B ≤ a.tmod b ∧ a.tmod b ≤ B := by
  rcases tmod_cases a b with ⟨h0, h⟩ | ⟨h0, h⟩
  · rw [h]
    by_cases hb : b = 0
    · subst hb; simp; omega
    · have h3 := Int.emod_nonneg a hb
      have h4 : a % b ≤ a := by
        have h5 := Int.mul_ediv_add_emod a b
        by_cases hp : 0 < b
        · have := Int.mul_nonneg (Int.le_of_lt hp) (Int.ediv_nonneg h0 (Int.le_of_lt hp)); omega
        · have := Int.ediv_nonpos_of_nonneg_of_nonpos h0 (by omega : b ≤ 0)
          have := Int.mul_nonneg_of_nonpos_of_nonpos (by omega : b ≤ 0) this; omega
      omega
  · rw [h]
    by_cases hb : b = 0
    · subst hb; simp; omega
    · have h0' : 0 ≤ -a := by omega
      have h3 := Int.emod_nonneg (-a) hb
      have h4 : -a % b ≤ -a := by
        have h5 := Int.mul_ediv_add_emod (-a) b
        by_cases hp : 0 < b
        · have := Int.mul_nonneg (Int.le_of_lt hp) (Int.ediv_nonneg h0' (Int.le_of_lt hp)); omega
        · have := Int.ediv_nonpos_of_nonneg_of_nonpos h0' (by omega : b ≤ 0)
          have := Int.mul_nonneg_of_nonpos_of_nonpos (by omega : b ≤ 0) this; omega
      omega
theorem mul_bd (a b X Y : Int) (hY : 0 ≤ Y) (a1 : -X ≤ a) (a2 : a ≤ X) (b1 : -Y ≤ b) (b2 : b ≤ Y) : -(X * Y) ≤ a * b ∧ a * b ≤ X * Y := by
  have h : (a * b).natAbs ≤ (X * Y).natAbs := by
    rw [Int.natAbs_mul, Int.natAbs_mul]; exact Nat.mul_le_mul (by omega) (by omega)
  have h0 : 0 ≤ X * Y := Int.mul_nonneg (by omega) hY
  omega
/-- the high half of a product by the halves of the second -/
theorem high_eq (a b : Int) : (a * ((b - b % 65536) / 65536) + a * (b % 65536) / 65536) / 65536 = a * b / 4294967296 := by
  have e1 : (b - b % 65536) / 65536 = b / 65536 := by omega
  have e2 : a * b = a * (b % 65536) + 65536 * (a * (b / 65536)) := by
    have : b = b % 65536 + 65536 * (b / 65536) := by omega
    have e : a * b = a * (b % 65536 + 65536 * (b / 65536)) := by rw [← this]
    rw [e, Int.mul_add]; congr 1; rw [← Int.mul_assoc, Int.mul_comm a 65536, Int.mul_assoc]
  have e3 : a * b / 4294967296 = a * b / 65536 / 65536 := by generalize a * b = x; omega
  rw [e1, e3, e2, Int.add_mul_ediv_left _ _ (by decide)]
  congr 1; omega
theorem bit_of (A k : Nat) : (A : Int) / pw k % 2 = if A.testBit k then 1 else 0 := by
  have e : (A : Int) / pw k % 2 = ((A / 2 ^ k % 2 : Nat) : Int) := by unfold pw; simp
  rw [e, Nat.testBit_eq_decide_div_mod_eq]
  rcases Nat.mod_two_eq_zero_or_one (A / 2 ^ k) with h | h <;> simp [h]
theorem pw_nat (k : Nat) : pw k = ((2 ^ k : Nat) : Int) := by unfold pw; simp
theorem bsum_pw (f : Nat → Bool) (k : Nat) : ((bsum f k : Nat) : Int) < pw k := by rw [pw_nat]; exact Int.ofNat_lt.2 (bsum_lt f k)
theorem bsum_step (f : Nat → Bool) (k : Nat) : ((bsum f (k + 1) : Nat) : Int) = (bsum f k : Int) + if f k then pw k else 0 := by
  rw [pw_nat]; simp only [bsum]; split <;> simp
def lt01 (x y : Int) : Int := if x < y then 1 else 0
def shn (B : Int) : Nat := (B % 32).toNat
/-- what Alu gives of two words -/
def al : Nat → Int → Int → Int
  | 1, A, B => wd (A + B)
  | 2, A, B => wd (A - B)
  | 3, A, B => A % pw (32 - shn B) * pw (shn B)
  | 4, A, B => lt01 (sg A) (sg B)
  | 5, A, B => lt01 A B
  | 6, A, B => ((A.toNat ^^^ B.toNat : Nat) : Int)
  | 7, A, B => A / pw (shn B)
  | 8, A, B => wd (sg A / pw (shn B))
  | 9, A, B => ((A.toNat ||| B.toNat : Nat) : Int)
  | 10, A, B => ((A.toNat &&& B.toNat : Nat) : Int)
  | 11, A, B => wd (A * B)
  | 12, A, B => wd (sg A * sg B / 4294967296)
  | 13, A, B => wd (sg A * B / 4294967296)
  | 14, A, B => wd (A * B / 4294967296)
  | 15, A, B => if B = 0 then 4294967295 else wd ((sg A).tdiv (sg B))
  | 16, A, B => if B = 0 then 4294967295 else wd (A / B)
  | 17, A, B => if B = 0 then A else wd ((sg A).tmod (sg B))
  | 18, A, B => if B = 0 then A else wd (A % B)
  | _, _, _ => 0
theorem wd_wrap64 (x : Int) : wd (wrap64 x) = wd x := by unfold wd wrap64; omega
theorem wd_word (A : Int) (h1 : 0 ≤ A) (h2 : A ≤ 4294967295) : wd A = A := by unfold wd; omega
theorem bits_int (A B : Int) (a1 : 0 ≤ A) (a2 : A ≤ 4294967295) (b1 : 0 ≤ B) (b2 : B ≤ 4294967295) :
    wd (bits .and .i64 A B) = ((A.toNat &&& B.toNat : Nat) : Int) ∧ wd (bits .or .i64 A B) = ((A.toNat ||| B.toNat : Nat) : Int) ∧ wd (bits .xor .i64 A B) = ((A.toNat ^^^ B.toNat : Nat) : Int) := by
  obtain ⟨a, rfl⟩ := Int.eq_ofNat_of_zero_le a1
  obtain ⟨b, rfl⟩ := Int.eq_ofNat_of_zero_le b1
  have ha : a < 4294967296 := by omega
  have hb : b < 4294967296 := by omega
  obtain ⟨e1, e2, e3⟩ := bits_words a b ha hb
  have h1 : a &&& b < 2 ^ 32 := Nat.lt_of_le_of_lt Nat.and_le_left ha
  have h2 : a ||| b < 2 ^ 32 := Nat.or_lt_two_pow ha hb
  have h3 : a ^^^ b < 2 ^ 32 := Nat.xor_lt_two_pow ha hb
  rw [e1, e2, e3]
  simp only [Int.toNat_natCast]
  exact ⟨wd_word _ (by omega) (by omega), wd_word _ (by omega) (by omega), wd_word _ (by omega) (by omega)⟩
theorem pow_pw (k : Nat) (hk : k ≤ 31) : (2 : Int) ^ min k 64 = pw k := by
  have e : min k 64 = k := by omega
  rw [e]; rfl
theorem shl_eq (A : Int) (k : Nat) (hk : k ≤ 31) : wd (A * pw k) = A % pw (32 - k) * pw k := by
  have e : pw (32 - k) * pw k = 4294967296 := by
    unfold pw; rw [← Int.pow_add]; have : 32 - k + k = 32 := by omega
    rw [this]; decide
  unfold wd
  rw [← e, Int.mul_comm A, Int.mul_comm (pw (32 - k)), Int.mul_emod_mul_of_pos _ _ (pw_pos k), Int.mul_comm]
theorem mul_eq (A B : Int) : wd (A % 65536 * B + A / 65536 * (B % 65536) % 65536 * 65536) = wd (A * B) := by
  have e : A * B = A % 65536 * B + A / 65536 * B * 65536 := by
    have h : A = A % 65536 + 65536 * (A / 65536) := by omega
    have h2 : A * B = (A % 65536 + 65536 * (A / 65536)) * B := by rw [← h]
    rw [h2, Int.add_mul]; congr 1
    rw [Int.mul_comm 65536, Int.mul_assoc, Int.mul_comm 65536 B, ← Int.mul_assoc]
  rw [e]
  have e2 : A / 65536 * (B % 65536) % 65536 = A / 65536 * B % 65536 := by rw [Int.mul_emod, Int.emod_emod_of_dvd B (by decide : (65536 : Int) ∣ 65536), ← Int.mul_emod]
  rw [e2]
  generalize A / 65536 * B = x
  unfold wd; omega
end Go.Proofs.Ytfcfnbncgadomaa.Pl
namespace Go.Proofs.Ytfcfnbncgadomaa.W
open Go.RowKit
set_option maxHeartbeats 1000000 in
theorem l2Bits_any (n x y : Int) (h l : Nat) (hx : x = h) (hy : y = l) (hl : l ≤ h) (hh : h ≤ 31) (w : World) : Calls Try.prog 101 #[.int .i64 n, .int .i64 x, .int .i64 y] w fun e w' => e = .returned (.int .i64 (Pl.wd n / Pl.pw l % Pl.pw (h - l + 1))) ∧ ∃ m, w' = w.drewN m := by
  subst hx hy
  have b := Pl.wd_bd n
  have p1 := Pl.pw_pos l
  have p2 : Pl.pw l ≤ 4294967296 := Pl.pw_mono (show l ≤ 32 by omega)
  have p3 := Pl.pw_pos (h - l + 1)
  have p4 : Pl.pw (h - l + 1) ≤ 4294967296 := Pl.pw_mono (show h - l + 1 ≤ 32 by omega)
  have z1 : ¬ Pl.pw l = 0 := by omega
  have z2 : ¬ Pl.pw (h - l + 1) = 0 := by omega
  have q1 : 0 ≤ Pl.wd n / Pl.pw l := Int.ediv_nonneg b.1 (by omega)
  have q2 : Pl.wd n / Pl.pw l ≤ 4294967295 := by have := Int.ediv_le_self (Pl.pw l) b.1; omega
  go_enter Try.func101, Try.ntmps101
  go_wp2_with fail
  go_quiet ((first | (go_at_call 38; exact Calls.quiet_of_same (specWord_any _ _)) | (go_at_call 37; exact Calls.quiet_of_same (specPower_any _ l (by omega) (by omega) _)) | (go_at_call 37; exact Calls.quiet_of_same (specPower_any _ (h - l + 1) (by omega) (by omega) _))))
  go_wp2
  go_ret
  exact ⟨rfl, _, rfl⟩
theorem c_a (n : Int) (h2 : n ≤ 18) (w : World) : Calls Try.prog 91 #[.int .i64 n] w fun e w' => e = .returned (.int .i64 51) ∧ w' = w := by
  go_enter Try.func91, Try.ntmps91
  go_wp2
  go_ret
  exact ⟨rfl, rfl⟩
theorem c_b (n : Int) (h1 : 19 ≤ n) (h2 : n ≤ 27) (w : World) : Calls Try.prog 91 #[.int .i64 n] w fun e w' => e = .returned (.int .i64 19) ∧ w' = w := by
  go_enter Try.func91, Try.ntmps91
  go_wp2
  go_ret
  exact ⟨rfl, rfl⟩
theorem c_c (n : Int) (h1 : 28 ≤ n) (h2 : n ≤ 32) (w : World) : Calls Try.prog 91 #[.int .i64 n] w fun e w' => e = .returned (.int .i64 3) ∧ w' = w := by
  go_enter Try.func91, Try.ntmps91
  go_wp2
  go_ret
  exact ⟨rfl, rfl⟩
theorem c_e (n : Int) (h1 : 34 ≤ n) (h2 : n ≤ 36) (w : World) : Calls Try.prog 91 #[.int .i64 n] w fun e w' => e = .returned (.int .i64 35) ∧ w' = w := by
  go_enter Try.func91, Try.ntmps91
  go_wp2
  go_ret
  exact ⟨rfl, rfl⟩
theorem c_f (n : Int) (h1 : 37 ≤ n) (h2 : n ≤ 42) (w : World) : Calls Try.prog 91 #[.int .i64 n] w fun e w' => e = .returned (.int .i64 99) ∧ w' = w := by
  go_enter Try.func91, Try.ntmps91
  go_wp2
  go_ret
  exact ⟨rfl, rfl⟩
theorem c_33 (w : World) : Calls Try.prog 91 #[.int .i64 33] w fun e w' => e = .returned (.int .i64 103) ∧ w' = w := by
  go_enter Try.func91, Try.ntmps91
  go_wp2
  go_ret
  exact ⟨rfl, rfl⟩
theorem c_43 (w : World) : Calls Try.prog 91 #[.int .i64 43] w fun e w' => e = .returned (.int .i64 55) ∧ Below w.heap.size w w' := by
  go_enter Try.func91, Try.ntmps91
  go_wp2
  go_ret
  exact ⟨rfl, (Below.refl _ _).alloc (Nat.le_refl _) _⟩
theorem c_44 (w : World) : Calls Try.prog 91 #[.int .i64 44] w fun e w' => e = .returned (.int .i64 23) ∧ Below w.heap.size w w' := by
  go_enter Try.func91, Try.ntmps91
  go_wp2
  go_ret
  exact ⟨rfl, (Below.refl _ _).alloc (Nat.le_refl _) _⟩
theorem c_45 (w : World) : Calls Try.prog 91 #[.int .i64 45] w fun e w' => e = .returned (.int .i64 111) ∧ Below w.heap.size w w' := by
  go_enter Try.func91, Try.ntmps91
  go_wp2
  go_ret
  exact ⟨rfl, (Below.refl _ _).alloc (Nat.le_refl _) _⟩
theorem c_46 (w : World) : Calls Try.prog 91 #[.int .i64 46] w fun e w' => e = .returned (.int .i64 115) ∧ Below w.heap.size w w' := by
  go_enter Try.func91, Try.ntmps91
  go_wp2
  go_ret
  exact ⟨rfl, (Below.refl _ _).alloc (Nat.le_refl _) _⟩
theorem c_47 (w : World) : Calls Try.prog 91 #[.int .i64 47] w fun e w' => e = .returned (.int .i64 115) ∧ Below w.heap.size w w' := by
  go_enter Try.func91, Try.ntmps91
  go_wp2
  go_ret
  exact ⟨rfl, (Below.refl _ _).alloc (Nat.le_refl _) _⟩
def f3Tab : Array Value := #[.int .i64 0, .int .i64 0, .int .i64 0, .int .i64 1, .int .i64 2, .int .i64 3, .int .i64 4, .int .i64 5, .int .i64 5, .int .i64 6, .int .i64 7, .int .i64 0, .int .i64 1, .int .i64 2, .int .i64 3, .int .i64 4, .int .i64 5, .int .i64 6, .int .i64 7, .int .i64 0, .int .i64 2, .int .i64 3, .int .i64 4, .int .i64 6, .int .i64 7, .int .i64 1, .int .i64 5, .int .i64 5, .int .i64 0, .int .i64 1, .int .i64 2, .int .i64 4, .int .i64 5, .int .i64 0, .int .i64 0, .int .i64 1, .int .i64 2, .int .i64 0, .int .i64 1, .int .i64 4, .int .i64 5, .int .i64 6, .int .i64 7]
theorem f3_at : ∀ k : Nat, k < 43 → f3Tab[k]? = some (.int .i64 (Pl.cc k 1))
  | 0, _ => by kernel_rfl
  | 1, _ => by kernel_rfl
  | 2, _ => by kernel_rfl
  | 3, _ => by kernel_rfl
  | 4, _ => by kernel_rfl
  | 5, _ => by kernel_rfl
  | 6, _ => by kernel_rfl
  | 7, _ => by kernel_rfl
  | 8, _ => by kernel_rfl
  | 9, _ => by kernel_rfl
  | 10, _ => by kernel_rfl
  | 11, _ => by kernel_rfl
  | 12, _ => by kernel_rfl
  | 13, _ => by kernel_rfl
  | 14, _ => by kernel_rfl
  | 15, _ => by kernel_rfl
  | 16, _ => by kernel_rfl
  | 17, _ => by kernel_rfl
  | 18, _ => by kernel_rfl
  | 19, _ => by kernel_rfl
  | 20, _ => by kernel_rfl
  | 21, _ => by kernel_rfl
  | 22, _ => by kernel_rfl
  | 23, _ => by kernel_rfl
  | 24, _ => by kernel_rfl
  | 25, _ => by kernel_rfl
  | 26, _ => by kernel_rfl
  | 27, _ => by kernel_rfl
  | 28, _ => by kernel_rfl
  | 29, _ => by kernel_rfl
  | 30, _ => by kernel_rfl
  | 31, _ => by kernel_rfl
  | 32, _ => by kernel_rfl
  | 33, _ => by kernel_rfl
  | 34, _ => by kernel_rfl
  | 35, _ => by kernel_rfl
  | 36, _ => by kernel_rfl
  | 37, _ => by kernel_rfl
  | 38, _ => by kernel_rfl
  | 39, _ => by kernel_rfl
  | 40, _ => by kernel_rfl
  | 41, _ => by kernel_rfl
  | 42, _ => by kernel_rfl
  | n + 43, h => absurd h (by omega)
set_option maxHeartbeats 400000 in
theorem l2F3_any (k : Nat) (hk : k < 43) (w : World) : Calls Try.prog 93 #[.int .i64 (k : Int)] w fun e w' => e = .returned (.int .i64 (Pl.cc k 1)) ∧ w' = w.alloc (.cells f3Tab 3) := by
  have hc : (w.alloc (.cells f3Tab 3)).cell? ⟨w.heap.size, k, none⟩ = some (.int .i64 (Pl.cc k 1)) := by
    rw [cell_of_row _ _ k f3Tab 3 (0, 0) (heap_alloc_new w _)]; exact f3_at k hk
  go_enter Try.func93, Try.ntmps93
  go_wp2_with (refine Great.wpList_buildSliceTo rfl 23 3 43 _ rfl w.heap.size rfl _ rfl Try.underlying23 f3Tab (by kernel_rfl) ?_)
  go_ret
  exact ⟨rfl, rfl⟩
end Go.Proofs.Ytfcfnbncgadomaa.W
namespace Go.Proofs.Ytfcfnbncgadomaa.W
open Go.RowKit
theorem drews {w u : World} (h : ∃ m, u = w.drewN m) (b : Nat) : ∃ m, u.drewN b = w.drewN m := by
  obtain ⟨m, rfl⟩ := h
  exact ⟨m + b, World.drewN_drewN _ _ _⟩
theorem l2Imm_0 (f : Int) (h : f = 1 ∨ f = 8) (n : Int) (w : World) : Calls Try.prog 92 #[.int .i64 f, .int .i64 n] w fun e w' => e = .returned (.int .i64 0) ∧ ∃ m, w' = w.drewN m := by
  rcases h with rfl | rfl
  all_goals
    go_enter Try.func92, Try.ntmps92
    go_wp2
    go_ret
    exact ⟨rfl, 0, rfl⟩
theorem l2Imm_3 (n : Int) (h1 : 0 ≤ n) (h2 : n ≤ 1048575) (w : World) : Calls Try.prog 92 #[.int .i64 3, .int .i64 n] w fun e w' => e = .returned (.int .i64 (n * 1048576)) ∧ ∃ m, w' = w.drewN m := by
  go_enter Try.func92, Try.ntmps92
  go_wp2
  go_ret
  exact ⟨rfl, 0, rfl⟩
theorem l2Imm_6 (n : Int) (h1 : 0 ≤ n) (h2 : n ≤ 1048575) (w : World) : Calls Try.prog 92 #[.int .i64 6, .int .i64 n] w fun e w' => e = .returned (.int .i64 (n * 4096)) ∧ ∃ m, w' = w.drewN m := by
  go_enter Try.func92, Try.ntmps92
  go_wp2
  go_ret
  exact ⟨rfl, 0, rfl⟩
set_option maxHeartbeats 1000000 in
theorem l2Imm_2 (n : Int) (w : World) : Calls Try.prog 92 #[.int .i64 2, .int .i64 n] w fun e w' => e = .returned (.int .i64 (Pl.wd n / Pl.pw 0 % Pl.pw 12 * 1048576)) ∧ ∃ m, w' = w.drewN m := by
  have b0 : 0 ≤ Pl.wd n / Pl.pw 0 % Pl.pw 12 ∧ Pl.wd n / Pl.pw 0 % Pl.pw 12 ≤ 4095 := by
    have h := Int.emod_nonneg (Pl.wd n / Pl.pw 0) (Int.ne_of_gt (Pl.pw_pos 12))
    have h' := Int.emod_lt_of_pos (Pl.wd n / Pl.pw 0) (Pl.pw_pos 12)
    have e : Pl.pw 12 = 4096 := by decide
    omega
  go_enter Try.func92, Try.ntmps92
  go_wp2_with fail
  refine (l2Bits_any _ _ _ 11 0 rfl rfl (by decide) (by decide) _).mono ?_
  rintro e w' ⟨rfl, m0, rfl⟩
  go_wp2
  go_ret
  exact ⟨rfl, _, rfl⟩
set_option maxHeartbeats 1000000 in
theorem l2Imm_4 (n : Int) (w : World) : Calls Try.prog 92 #[.int .i64 4, .int .i64 n] w fun e w' => e = .returned (.int .i64 (Pl.wd n / Pl.pw 5 % Pl.pw 7 * 33554432 + Pl.wd n / Pl.pw 0 % Pl.pw 5 * 128)) ∧ ∃ m, w' = w.drewN m := by
  have b0 : 0 ≤ Pl.wd n / Pl.pw 5 % Pl.pw 7 ∧ Pl.wd n / Pl.pw 5 % Pl.pw 7 ≤ 127 := by
    have h := Int.emod_nonneg (Pl.wd n / Pl.pw 5) (Int.ne_of_gt (Pl.pw_pos 7))
    have h' := Int.emod_lt_of_pos (Pl.wd n / Pl.pw 5) (Pl.pw_pos 7)
    have e : Pl.pw 7 = 128 := by decide
    omega
  have b1 : 0 ≤ Pl.wd n / Pl.pw 0 % Pl.pw 5 ∧ Pl.wd n / Pl.pw 0 % Pl.pw 5 ≤ 31 := by
    have h := Int.emod_nonneg (Pl.wd n / Pl.pw 0) (Int.ne_of_gt (Pl.pw_pos 5))
    have h' := Int.emod_lt_of_pos (Pl.wd n / Pl.pw 0) (Pl.pw_pos 5)
    have e : Pl.pw 5 = 32 := by decide
    omega
  go_enter Try.func92, Try.ntmps92
  go_wp2_with fail
  refine (l2Bits_any _ _ _ 11 5 rfl rfl (by decide) (by decide) _).mono ?_
  rintro e w' ⟨rfl, m0, rfl⟩
  go_wp2_with fail
  refine (l2Bits_any _ _ _ 4 0 rfl rfl (by decide) (by decide) _).mono ?_
  rintro e w' ⟨rfl, m1, rfl⟩
  go_wp2
  go_ret
  first | exact ⟨rfl, _, rfl⟩ | exact ⟨rfl, drews (drews ⟨0, rfl⟩ _) _⟩ | exact ⟨rfl, drews (drews (drews (drews ⟨0, rfl⟩ _) _) _) _⟩
set_option maxHeartbeats 1000000 in
theorem l2Imm_5 (n : Int) (w : World) : Calls Try.prog 92 #[.int .i64 5, .int .i64 n] w fun e w' => e = .returned (.int .i64 (Pl.wd n / Pl.pw 12 % Pl.pw 1 * 2147483648 + Pl.wd n / Pl.pw 5 % Pl.pw 6 * 33554432 + Pl.wd n / Pl.pw 1 % Pl.pw 4 * 256 + Pl.wd n / Pl.pw 11 % Pl.pw 1 * 128)) ∧ ∃ m, w' = w.drewN m := by
  have b0 : 0 ≤ Pl.wd n / Pl.pw 12 % Pl.pw 1 ∧ Pl.wd n / Pl.pw 12 % Pl.pw 1 ≤ 1 := by
    have h := Int.emod_nonneg (Pl.wd n / Pl.pw 12) (Int.ne_of_gt (Pl.pw_pos 1))
    have h' := Int.emod_lt_of_pos (Pl.wd n / Pl.pw 12) (Pl.pw_pos 1)
    have e : Pl.pw 1 = 2 := by decide
    omega
  have b1 : 0 ≤ Pl.wd n / Pl.pw 5 % Pl.pw 6 ∧ Pl.wd n / Pl.pw 5 % Pl.pw 6 ≤ 63 := by
    have h := Int.emod_nonneg (Pl.wd n / Pl.pw 5) (Int.ne_of_gt (Pl.pw_pos 6))
    have h' := Int.emod_lt_of_pos (Pl.wd n / Pl.pw 5) (Pl.pw_pos 6)
    have e : Pl.pw 6 = 64 := by decide
    omega
  have b2 : 0 ≤ Pl.wd n / Pl.pw 1 % Pl.pw 4 ∧ Pl.wd n / Pl.pw 1 % Pl.pw 4 ≤ 15 := by
    have h := Int.emod_nonneg (Pl.wd n / Pl.pw 1) (Int.ne_of_gt (Pl.pw_pos 4))
    have h' := Int.emod_lt_of_pos (Pl.wd n / Pl.pw 1) (Pl.pw_pos 4)
    have e : Pl.pw 4 = 16 := by decide
    omega
  have b3 : 0 ≤ Pl.wd n / Pl.pw 11 % Pl.pw 1 ∧ Pl.wd n / Pl.pw 11 % Pl.pw 1 ≤ 1 := by
    have h := Int.emod_nonneg (Pl.wd n / Pl.pw 11) (Int.ne_of_gt (Pl.pw_pos 1))
    have h' := Int.emod_lt_of_pos (Pl.wd n / Pl.pw 11) (Pl.pw_pos 1)
    have e : Pl.pw 1 = 2 := by decide
    omega
  go_enter Try.func92, Try.ntmps92
  go_wp2_with fail
  refine (l2Bits_any _ _ _ 12 12 rfl rfl (by decide) (by decide) _).mono ?_
  rintro e w' ⟨rfl, m0, rfl⟩
  go_wp2_with fail
  refine (l2Bits_any _ _ _ 10 5 rfl rfl (by decide) (by decide) _).mono ?_
  rintro e w' ⟨rfl, m1, rfl⟩
  go_wp2_with fail
  refine (l2Bits_any _ _ _ 4 1 rfl rfl (by decide) (by decide) _).mono ?_
  rintro e w' ⟨rfl, m2, rfl⟩
  go_wp2_with fail
  refine (l2Bits_any _ _ _ 11 11 rfl rfl (by decide) (by decide) _).mono ?_
  rintro e w' ⟨rfl, m3, rfl⟩
  go_wp2
  go_ret
  first | exact ⟨rfl, _, rfl⟩ | exact ⟨rfl, drews (drews ⟨0, rfl⟩ _) _⟩ | exact ⟨rfl, drews (drews (drews (drews ⟨0, rfl⟩ _) _) _) _⟩
set_option maxHeartbeats 1000000 in
theorem l2Imm_7 (n : Int) (w : World) : Calls Try.prog 92 #[.int .i64 7, .int .i64 n] w fun e w' => e = .returned (.int .i64 (Pl.wd n / Pl.pw 20 % Pl.pw 1 * 2147483648 + Pl.wd n / Pl.pw 1 % Pl.pw 10 * 2097152 + Pl.wd n / Pl.pw 11 % Pl.pw 1 * 1048576 + Pl.wd n / Pl.pw 12 % Pl.pw 8 * 4096)) ∧ ∃ m, w' = w.drewN m := by
  have b0 : 0 ≤ Pl.wd n / Pl.pw 20 % Pl.pw 1 ∧ Pl.wd n / Pl.pw 20 % Pl.pw 1 ≤ 1 := by
    have h := Int.emod_nonneg (Pl.wd n / Pl.pw 20) (Int.ne_of_gt (Pl.pw_pos 1))
    have h' := Int.emod_lt_of_pos (Pl.wd n / Pl.pw 20) (Pl.pw_pos 1)
    have e : Pl.pw 1 = 2 := by decide
    omega
  have b1 : 0 ≤ Pl.wd n / Pl.pw 1 % Pl.pw 10 ∧ Pl.wd n / Pl.pw 1 % Pl.pw 10 ≤ 1023 := by
    have h := Int.emod_nonneg (Pl.wd n / Pl.pw 1) (Int.ne_of_gt (Pl.pw_pos 10))
    have h' := Int.emod_lt_of_pos (Pl.wd n / Pl.pw 1) (Pl.pw_pos 10)
    have e : Pl.pw 10 = 1024 := by decide
    omega
  have b2 : 0 ≤ Pl.wd n / Pl.pw 11 % Pl.pw 1 ∧ Pl.wd n / Pl.pw 11 % Pl.pw 1 ≤ 1 := by
    have h := Int.emod_nonneg (Pl.wd n / Pl.pw 11) (Int.ne_of_gt (Pl.pw_pos 1))
    have h' := Int.emod_lt_of_pos (Pl.wd n / Pl.pw 11) (Pl.pw_pos 1)
    have e : Pl.pw 1 = 2 := by decide
    omega
  have b3 : 0 ≤ Pl.wd n / Pl.pw 12 % Pl.pw 8 ∧ Pl.wd n / Pl.pw 12 % Pl.pw 8 ≤ 255 := by
    have h := Int.emod_nonneg (Pl.wd n / Pl.pw 12) (Int.ne_of_gt (Pl.pw_pos 8))
    have h' := Int.emod_lt_of_pos (Pl.wd n / Pl.pw 12) (Pl.pw_pos 8)
    have e : Pl.pw 8 = 256 := by decide
    omega
  go_enter Try.func92, Try.ntmps92
  go_wp2_with fail
  refine (l2Bits_any _ _ _ 20 20 rfl rfl (by decide) (by decide) _).mono ?_
  rintro e w' ⟨rfl, m0, rfl⟩
  go_wp2_with fail
  refine (l2Bits_any _ _ _ 10 1 rfl rfl (by decide) (by decide) _).mono ?_
  rintro e w' ⟨rfl, m1, rfl⟩
  go_wp2_with fail
  refine (l2Bits_any _ _ _ 11 11 rfl rfl (by decide) (by decide) _).mono ?_
  rintro e w' ⟨rfl, m2, rfl⟩
  go_wp2_with fail
  refine (l2Bits_any _ _ _ 19 12 rfl rfl (by decide) (by decide) _).mono ?_
  rintro e w' ⟨rfl, m3, rfl⟩
  go_wp2
  go_ret
  first | exact ⟨rfl, _, rfl⟩ | exact ⟨rfl, drews (drews ⟨0, rfl⟩ _) _⟩ | exact ⟨rfl, drews (drews (drews (drews ⟨0, rfl⟩ _) _) _) _⟩
end Go.Proofs.Ytfcfnbncgadomaa.W
namespace Go.Proofs.Ytfcfnbncgadomaa.W
open Go.RowKit
end Go.Proofs.Ytfcfnbncgadomaa.W
namespace Go.Proofs.Ytfcfnbncgadomaa.W
open Go.RowKit
theorem heap_alloc_at (w : World) (o : Obj) (g : Nat) (h : w.heap.size = g) : (w.alloc o).heap[g]? = some o := by subst h; exact heap_alloc_new w o
theorem setRow_alloc_at (w : World) (c c' : Array Value) (t : TypeId) (g : Nat) (h : w.heap.size = g) : (w.alloc (.cells c t)).setRow g c' = w.alloc (.cells c' t) := by subst h; exact World.setRow_alloc_new w c c' t
theorem wpList_load_row_g {P : Program} {ops : Array Oper} {rest : List Oper} {o : Oper} {a : Act} {w : World} {Q : Exit → Act → World → Prop} (ty : TypeId) (x : Operand) (ho : o.op = .load ty x) (hw : Region.wanted o (yielded ops a.tmps) = true)
    (g : Nat) (hx : a.eval x = .pointer (some ⟨g, 0, none⟩)) (t : TypeId) (cs : Array Value) (fr : Nat × Nat) (d : TypeDesc) (hg : w.heap[g]? = some (.cells cs t fr))
    (hu : P.underlying ty = some d) (hd : (match d with | .struct _ | .array _ _ => true | _ => false) = true) (hi : (P.info? ty).map (·.size) = some cs.size)
    (h : wpList P ops Q rest (a.put o.dst (.agg cs)) w) : wpList P ops Q (o :: rest) a w := by
  unfold wpList
  rw [if_pos hw]
  exact Or.inl (wp_load_row ty x ho g hx t cs fr d hg hu hd hi h)
theorem fm_at (k : Nat) (h1 : 1 ≤ k) (h2 : k ≤ 47) : 1 ≤ Pl.fmN k ∧ Pl.fmN k ≤ 8 ∧ Pl.fm k = (Pl.fmN k : Int) := Pl.fm_cases k (by omega) h1
end Go.Proofs.Ytfcfnbncgadomaa.W
namespace Go.Proofs.Ytfcfnbncgadomaa.W
open Go.RowKit
end Go.Proofs.Ytfcfnbncgadomaa.W
namespace Go.Proofs.Ytfcfnbncgadomaa.W
open Go.RowKit
end Go.Proofs.Ytfcfnbncgadomaa.W
namespace Go.Proofs.Ytfcfnbncgadomaa.W
open Go.RowKit
end Go.Proofs.Ytfcfnbncgadomaa.W
namespace Go.Proofs.Ytfcfnbncgadomaa.W
open Go.RowKit
end Go.Proofs.Ytfcfnbncgadomaa.W
namespace Go.Proofs.Ytfcfnbncgadomaa.W
open Go.RowKit
end Go.Proofs.Ytfcfnbncgadomaa.W
namespace Go.Proofs.Ytfcfnbncgadomaa.Pl
def rr (rd r1 r2 : Int) (j : Nat) : Int := if j = 0 then rd else if j = 1 then r1 else r2
end Go.Proofs.Ytfcfnbncgadomaa.Pl
namespace Go.Proofs.Ytfcfnbncgadomaa.W
open Go.RowKit
def RegsTo (f : Nat) (rd r1 r2 : Int) (i : Value) : Prop := i = .int .i64 0 ∨ (i = .int .i64 1 ∧ Pl.rg rd (Pl.us f 0) = true) ∨ (i = .int .i64 2 ∧ Pl.rg rd (Pl.us f 0) = true ∧ Pl.rg r1 (Pl.us f 1) = true) ∨ (i = .int .i64 3 ∧ Pl.rg rd (Pl.us f 0) = true ∧ Pl.rg r1 (Pl.us f 1) = true ∧ Pl.rg r2 (Pl.us f 2) = true)
theorem specInstOk_no (n : Int) (h : n < 1 ∨ 47 < n) (rd r1 r2 im : Int) (w : World) : Calls Try.prog 90 #[.agg #[.int .i64 n, .int .i64 rd, .int .i64 r1, .int .i64 r2, .int .i64 im]] w fun e w' => e = .returned (.bool false) ∧ Below w.heap.size w w' := by
  go_enter Try.func90, Try.ntmps90
  go_wp2_with (go_at_call 84; refine (form_no n h _).mono ?_; rintro e u1 ⟨rfl, rfl⟩)
  go_ret
  exact ⟨rfl, (Below.refl _ _).alloc (Nat.le_refl _) _⟩
set_option maxHeartbeats 1000000 in
theorem specInstOk_yes (k f : Nat) (h1 : 1 ≤ k) (h2 : k ≤ 47) (f1 : 1 ≤ f) (f2 : f ≤ 8) (HF : Hid (Pl.fmN k = f)) (rd r1 r2 im : Int) (w : World) : Calls Try.prog 90 #[.agg #[.int .i64 k, .int .i64 rd, .int .i64 r1, .int .i64 r2, .int .i64 im]] w fun e w' => e = .returned (.bool (Pl.okF f rd r1 r2 im)) ∧ Below w.heap.size w w' := by
  have hk : ∀ w, Calls Try.prog 84 #[.int .i64 k] w fun e w' => e = .returned (.int .i64 (f : Int)) ∧ w' = w := fun w => by
    have := form_any k h1 h2 w
    rw [HF.out] at this; exact this
  have HK : Hid (∀ w, Calls Try.prog 84 #[.int .i64 k] w fun e w' => e = .returned (.int .i64 (f : Int)) ∧ w' = w) := hk
  clear hk
  have f0 : ((f : Int) == 0) = false := by simp; omega
  have pb := Pl.pts_bd f (by omega)
  go_enter Try.func90, Try.ntmps90
  go_wp2_with (first | (go_at_call 84; refine (HK.out _).mono ?_; rintro e u1 ⟨rfl, rfl⟩) | (go_at_call 88; refine (parts_any f f1 f2 _).mono ?_; rintro e u2 ⟨rfl, rfl⟩))
  go_loop [6] (fun i => RegsTo f rd r1 r2 i) (fun i => 3 - (intOf i).toNat)
  case atStart => exact Or.inl rfl
  case round =>
    rcases hrel with rfl | ⟨rfl, g0⟩ | ⟨rfl, g0, g1⟩ | ⟨rfl, g0, g1, g2⟩
    · have pp := Pl.pw_pos 0
      have pq1 : 0 ≤ Pl.pts f / Pl.pw 0 := Int.ediv_nonneg pb.1 (by omega)
      have pq2 : Pl.pts f / Pl.pw 0 ≤ 14 := by have := Int.ediv_le_self (Pl.pw 0) pb.1; omega
      have bit := Pl.pts_bit f (by omega) 0 (by decide)
      by_cases c1 : rd < 0
      · have hfalse : Pl.rg rd (Pl.us f 0) = false := by simp [Pl.rg]; omega
        have HO0 : Pl.okF f rd r1 r2 im = false := by simp [Pl.okF, hfalse]
        have HO : Hid (Pl.okF f rd r1 r2 im = false) := HO0
        clear HO0
        clear bit hfalse
        go_wp2_with (go_at_call 37; refine (specPower_any 0 0 rfl (by decide) _).mono ?_; rintro e u3 ⟨rfl, rfl⟩)
        go_ret
        exact ⟨ret_bool HO.out.symm, (by repeat (first | exact Below.refl _ _ | refine Below.alloc ?_ (by simp <;> omega) _))⟩
      by_cases c2 : 31 < rd
      · have hfalse : Pl.rg rd (Pl.us f 0) = false := by simp [Pl.rg]; omega
        have HO0 : Pl.okF f rd r1 r2 im = false := by simp [Pl.okF, hfalse]
        have HO : Hid (Pl.okF f rd r1 r2 im = false) := HO0
        clear HO0
        clear bit hfalse
        go_wp2_with (go_at_call 37; refine (specPower_any 0 0 rfl (by decide) _).mono ?_; rintro e u3 ⟨rfl, rfl⟩)
        go_ret
        exact ⟨ret_bool HO.out.symm, (by repeat (first | exact Below.refl _ _ | refine Below.alloc ?_ (by simp <;> omega) _))⟩
      cases hu : Pl.us f 0
      · by_cases c3 : rd = 0
        · subst c3
          have gN : Pl.rg 0 (Pl.us f 0) = true := by rw [hu]; simp [Pl.rg]
          rw [hu, if_neg (by simp)] at bit
          have GN : Hid (Pl.rg 0 (Pl.us f 0) = true) := gN
          clear gN hu
          go_wp2_with (go_at_call 37; refine (specPower_any 0 0 rfl (by decide) _).mono ?_; rintro e u3 ⟨rfl, rfl⟩)
          go_round
          case rel => have gN := GN.out; exact Or.inr (Or.inl ⟨rfl, gN⟩)
          case measure => simp [intOf]
        · have hfalse : Pl.rg rd (Pl.us f 0) = false := by rw [hu]; simp [Pl.rg]; omega
          have HO0 : Pl.okF f rd r1 r2 im = false := by simp [Pl.okF, hfalse]
          have HO : Hid (Pl.okF f rd r1 r2 im = false) := HO0
          clear HO0
          rw [hu, if_neg (by simp)] at bit
          have c4 : (rd == 0) = false := by simpa using c3
          clear hfalse hu
          go_wp2_with (go_at_call 37; refine (specPower_any 0 0 rfl (by decide) _).mono ?_; rintro e u3 ⟨rfl, rfl⟩)
          go_ret
          exact ⟨ret_bool HO.out.symm, (by repeat (first | exact Below.refl _ _ | refine Below.alloc ?_ (by simp <;> omega) _))⟩
      · have gN : Pl.rg rd (Pl.us f 0) = true := by rw [hu]; simp [Pl.rg]; omega
        rw [hu, if_pos rfl] at bit
        have GN : Hid (Pl.rg rd (Pl.us f 0) = true) := gN
        clear gN hu
        go_wp2_with (go_at_call 37; refine (specPower_any 0 0 rfl (by decide) _).mono ?_; rintro e u3 ⟨rfl, rfl⟩)
        go_round
        case rel => have gN := GN.out; exact Or.inr (Or.inl ⟨rfl, gN⟩)
        case measure => simp [intOf]
    · have pp := Pl.pw_pos 1
      have pq1 : 0 ≤ Pl.pts f / Pl.pw 1 := Int.ediv_nonneg pb.1 (by omega)
      have pq2 : Pl.pts f / Pl.pw 1 ≤ 14 := by have := Int.ediv_le_self (Pl.pw 1) pb.1; omega
      have bit := Pl.pts_bit f (by omega) 1 (by decide)
      by_cases c1 : r1 < 0
      · have hfalse : Pl.rg r1 (Pl.us f 1) = false := by simp [Pl.rg]; omega
        have HO0 : Pl.okF f rd r1 r2 im = false := by simp [Pl.okF, hfalse]
        have HO : Hid (Pl.okF f rd r1 r2 im = false) := HO0
        clear HO0
        clear bit hfalse
        go_wp2_with (go_at_call 37; refine (specPower_any 1 1 rfl (by decide) _).mono ?_; rintro e u3 ⟨rfl, rfl⟩)
        go_ret
        exact ⟨ret_bool HO.out.symm, (by repeat (first | exact Below.refl _ _ | refine Below.alloc ?_ (by simp <;> omega) _))⟩
      by_cases c2 : 31 < r1
      · have hfalse : Pl.rg r1 (Pl.us f 1) = false := by simp [Pl.rg]; omega
        have HO0 : Pl.okF f rd r1 r2 im = false := by simp [Pl.okF, hfalse]
        have HO : Hid (Pl.okF f rd r1 r2 im = false) := HO0
        clear HO0
        clear bit hfalse
        go_wp2_with (go_at_call 37; refine (specPower_any 1 1 rfl (by decide) _).mono ?_; rintro e u3 ⟨rfl, rfl⟩)
        go_ret
        exact ⟨ret_bool HO.out.symm, (by repeat (first | exact Below.refl _ _ | refine Below.alloc ?_ (by simp <;> omega) _))⟩
      cases hu : Pl.us f 1
      · by_cases c3 : r1 = 0
        · subst c3
          have gN : Pl.rg 0 (Pl.us f 1) = true := by rw [hu]; simp [Pl.rg]
          rw [hu, if_neg (by simp)] at bit
          have GN : Hid (Pl.rg 0 (Pl.us f 1) = true) := gN
          clear gN hu
          go_wp2_with (go_at_call 37; refine (specPower_any 1 1 rfl (by decide) _).mono ?_; rintro e u3 ⟨rfl, rfl⟩)
          go_round
          case rel => have gN := GN.out; exact Or.inr (Or.inr (Or.inl ⟨rfl, g0, gN⟩))
          case measure => simp [intOf]
        · have hfalse : Pl.rg r1 (Pl.us f 1) = false := by rw [hu]; simp [Pl.rg]; omega
          have HO0 : Pl.okF f rd r1 r2 im = false := by simp [Pl.okF, hfalse]
          have HO : Hid (Pl.okF f rd r1 r2 im = false) := HO0
          clear HO0
          rw [hu, if_neg (by simp)] at bit
          have c4 : (r1 == 0) = false := by simpa using c3
          clear hfalse hu
          go_wp2_with (go_at_call 37; refine (specPower_any 1 1 rfl (by decide) _).mono ?_; rintro e u3 ⟨rfl, rfl⟩)
          go_ret
          exact ⟨ret_bool HO.out.symm, (by repeat (first | exact Below.refl _ _ | refine Below.alloc ?_ (by simp <;> omega) _))⟩
      · have gN : Pl.rg r1 (Pl.us f 1) = true := by rw [hu]; simp [Pl.rg]; omega
        rw [hu, if_pos rfl] at bit
        have GN : Hid (Pl.rg r1 (Pl.us f 1) = true) := gN
        clear gN hu
        go_wp2_with (go_at_call 37; refine (specPower_any 1 1 rfl (by decide) _).mono ?_; rintro e u3 ⟨rfl, rfl⟩)
        go_round
        case rel => have gN := GN.out; exact Or.inr (Or.inr (Or.inl ⟨rfl, g0, gN⟩))
        case measure => simp [intOf]
    · have pp := Pl.pw_pos 2
      have pq1 : 0 ≤ Pl.pts f / Pl.pw 2 := Int.ediv_nonneg pb.1 (by omega)
      have pq2 : Pl.pts f / Pl.pw 2 ≤ 14 := by have := Int.ediv_le_self (Pl.pw 2) pb.1; omega
      have bit := Pl.pts_bit f (by omega) 2 (by decide)
      by_cases c1 : r2 < 0
      · have hfalse : Pl.rg r2 (Pl.us f 2) = false := by simp [Pl.rg]; omega
        have HO0 : Pl.okF f rd r1 r2 im = false := by simp [Pl.okF, hfalse]
        have HO : Hid (Pl.okF f rd r1 r2 im = false) := HO0
        clear HO0
        clear bit hfalse
        go_wp2_with (go_at_call 37; refine (specPower_any 2 2 rfl (by decide) _).mono ?_; rintro e u3 ⟨rfl, rfl⟩)
        go_ret
        exact ⟨ret_bool HO.out.symm, (by repeat (first | exact Below.refl _ _ | refine Below.alloc ?_ (by simp <;> omega) _))⟩
      by_cases c2 : 31 < r2
      · have hfalse : Pl.rg r2 (Pl.us f 2) = false := by simp [Pl.rg]; omega
        have HO0 : Pl.okF f rd r1 r2 im = false := by simp [Pl.okF, hfalse]
        have HO : Hid (Pl.okF f rd r1 r2 im = false) := HO0
        clear HO0
        clear bit hfalse
        go_wp2_with (go_at_call 37; refine (specPower_any 2 2 rfl (by decide) _).mono ?_; rintro e u3 ⟨rfl, rfl⟩)
        go_ret
        exact ⟨ret_bool HO.out.symm, (by repeat (first | exact Below.refl _ _ | refine Below.alloc ?_ (by simp <;> omega) _))⟩
      cases hu : Pl.us f 2
      · by_cases c3 : r2 = 0
        · subst c3
          have gN : Pl.rg 0 (Pl.us f 2) = true := by rw [hu]; simp [Pl.rg]
          rw [hu, if_neg (by simp)] at bit
          have GN : Hid (Pl.rg 0 (Pl.us f 2) = true) := gN
          clear gN hu
          go_wp2_with (go_at_call 37; refine (specPower_any 2 2 rfl (by decide) _).mono ?_; rintro e u3 ⟨rfl, rfl⟩)
          go_round
          case rel => have gN := GN.out; exact Or.inr (Or.inr (Or.inr ⟨rfl, g0, g1, gN⟩))
          case measure => simp [intOf]
        · have hfalse : Pl.rg r2 (Pl.us f 2) = false := by rw [hu]; simp [Pl.rg]; omega
          have HO0 : Pl.okF f rd r1 r2 im = false := by simp [Pl.okF, hfalse]
          have HO : Hid (Pl.okF f rd r1 r2 im = false) := HO0
          clear HO0
          rw [hu, if_neg (by simp)] at bit
          have c4 : (r2 == 0) = false := by simpa using c3
          clear hfalse hu
          go_wp2_with (go_at_call 37; refine (specPower_any 2 2 rfl (by decide) _).mono ?_; rintro e u3 ⟨rfl, rfl⟩)
          go_ret
          exact ⟨ret_bool HO.out.symm, (by repeat (first | exact Below.refl _ _ | refine Below.alloc ?_ (by simp <;> omega) _))⟩
      · have gN : Pl.rg r2 (Pl.us f 2) = true := by rw [hu]; simp [Pl.rg]; omega
        rw [hu, if_pos rfl] at bit
        have GN : Hid (Pl.rg r2 (Pl.us f 2) = true) := gN
        clear gN hu
        go_wp2_with (go_at_call 37; refine (specPower_any 2 2 rfl (by decide) _).mono ?_; rintro e u3 ⟨rfl, rfl⟩)
        go_round
        case rel => have gN := GN.out; exact Or.inr (Or.inr (Or.inr ⟨rfl, g0, g1, gN⟩))
        case measure => simp [intOf]
    · have hst := Pl.st_cases f
      have hs0 : ¬ Pl.st f = 0 := by omega
      have HO0 : Pl.okF f rd r1 r2 im = Pl.imo f im := by simp [Pl.okF, g0, g1, g2]
      have HO : Hid (Pl.okF f rd r1 r2 im = Pl.imo f im) := HO0
      clear HO0
      clear g0 g1 g2
      by_cases h3 : Pl.lo f ≤ im
      · by_cases h4 : im ≤ Pl.hi f
        · have HI0 : Pl.imo f im = (im.tmod (Pl.st f) == 0) := by simp [Pl.imo, h3, h4]
          have HI : Hid (Pl.imo f im = (im.tmod (Pl.st f) == 0)) := HI0
          clear HI0
          go_wp2_with (go_at_call 89; refine (range_any f f1 f2 _).mono ?_; rintro e u3 ⟨rfl, rfl⟩)
          go_ret
          exact ⟨ret_bool (by rw [HO.out, HI.out]), (by repeat (first | exact Below.refl _ _ | refine Below.alloc ?_ (by simp <;> omega) _))⟩
        · have HI0 : Pl.imo f im = false := by simp [Pl.imo, h4]
          have HI : Hid (Pl.imo f im = false) := HI0
          clear HI0
          go_wp2_with (go_at_call 89; refine (range_any f f1 f2 _).mono ?_; rintro e u3 ⟨rfl, rfl⟩)
          go_ret
          exact ⟨ret_bool (by rw [HO.out, HI.out]), (by repeat (first | exact Below.refl _ _ | refine Below.alloc ?_ (by simp <;> omega) _))⟩
      · have HI0 : Pl.imo f im = false := by simp [Pl.imo, h3]
        have HI : Hid (Pl.imo f im = false) := HI0
        clear HI0
        have h5 : decide (Pl.lo f ≤ im) = false := by simpa using h3
        go_wp2_with (go_at_call 89; refine (range_any f f1 f2 _).mono ?_; rintro e u3 ⟨rfl, rfl⟩)
        go_ret
        exact ⟨ret_bool (by rw [HO.out, HI.out]), (by repeat (first | exact Below.refl _ _ | refine Below.alloc ?_ (by simp <;> omega) _))⟩
end Go.Proofs.Ytfcfnbncgadomaa.W
namespace Go.Proofs.Ytfcfnbncgadomaa.W
open Go.RowKit
def inst (o d a b m : Int) : Value := .agg #[.int .i64 o, .int .i64 d, .int .i64 a, .int .i64 b, .int .i64 m]
theorem kept_row {w u : World} {cs : Array Value} {t : TypeId} (hb : Below (w.alloc (.cells cs t)).heap.size (w.alloc (.cells cs t)) u) : u.heap[w.heap.size]? = some (.cells cs t) := by
  rw [hb.block _ (by simp)]; exact heap_alloc_new w _
theorem specInstOk_at (k : Nat) (h1 : 1 ≤ k) (h2 : k ≤ 47) (rd r1 r2 im : Int) (w : World) : Calls Try.prog 90 #[.agg #[.int .i64 k, .int .i64 rd, .int .i64 r1, .int .i64 r2, .int .i64 im]] w fun e w' => e = .returned (.bool (Pl.okF (Pl.fmN k) rd r1 r2 im)) ∧ Below w.heap.size w w' := by
  obtain ⟨f1, f2, _⟩ := fm_at k h1 h2
  exact specInstOk_yes k _ h1 h2 f1 f2 (show Pl.fmN k = Pl.fmN k from rfl) rd r1 r2 im w
def iok (n rd r1 r2 im : Int) : Bool := decide (1 ≤ n ∧ n ≤ 47) && Pl.okF (Pl.fmN n.toNat) rd r1 r2 im
theorem specInstOk_any (n rd r1 r2 im : Int) (w : World) : Calls Try.prog 90 #[.agg #[.int .i64 n, .int .i64 rd, .int .i64 r1, .int .i64 r2, .int .i64 im]] w fun e w' => e = .returned (.bool (iok n rd r1 r2 im)) ∧ Below w.heap.size w w' := by
  by_cases h : 1 ≤ n ∧ n ≤ 47
  · obtain ⟨k, rfl⟩ : ∃ k : Nat, n = k := ⟨n.toNat, by omega⟩
    have e : iok (k : Int) rd r1 r2 im = Pl.okF (Pl.fmN k) rd r1 r2 im := by simp [iok]; intro; omega
    rw [e]; exact specInstOk_at k (by omega) (by omega) rd r1 r2 im w
  · have e : iok n rd r1 r2 im = false := by simp [iok]; intro h1 h2; omega
    rw [e]; exact specInstOk_no n (by omega) rd r1 r2 im w
end Go.Proofs.Ytfcfnbncgadomaa.W
namespace Go.Proofs.Ytfcfnbncgadomaa.Pl
theorem cc_ranges : ∀ k : Nat, k < 43 → (1 ≤ k ∧ k ≤ 18 → cc k 0 = 51) ∧ (19 ≤ k ∧ k ≤ 27 → cc k 0 = 19) ∧ (28 ≤ k ∧ k ≤ 32 → cc k 0 = 3) ∧ (k = 33 → cc k 0 = 103) ∧ (34 ≤ k ∧ k ≤ 36 → cc k 0 = 35) ∧ (37 ≤ k ∧ k ≤ 42 → cc k 0 = 99) := by decide +kernel
theorem cc_bd' : ∀ k : Nat, k < 48 → ∀ i : Nat, i < 4 → 0 ≤ cc k i ∧ cc k i ≤ 127 := by decide +kernel
end Go.Proofs.Ytfcfnbncgadomaa.Pl
namespace Go.Proofs.Ytfcfnbncgadomaa.W
open Go.RowKit
theorem c_any (k : Nat) (h1 : 1 ≤ k) (h2 : k ≤ 42) (w : World) : Calls Try.prog 91 #[.int .i64 (k : Int)] w fun e w' => e = .returned (.int .i64 (Pl.cc k 0)) ∧ w' = w := by
  obtain ⟨a, b, c, d, e, f⟩ := Pl.cc_ranges k (by omega)
  by_cases q : k ≤ 18
  · rw [a ⟨h1, q⟩]; exact c_a k (by omega) w
  by_cases q : k ≤ 27
  · rw [b ⟨by omega, q⟩]; exact c_b k (by omega) (by omega) w
  by_cases q : k ≤ 32
  · rw [c ⟨by omega, q⟩]; exact c_c k (by omega) (by omega) w
  by_cases q : k = 33
  · rw [d q]; subst q; exact c_33 w
  by_cases q : k ≤ 36
  · rw [e ⟨by omega, q⟩]; exact c_e k (by omega) (by omega) w
  · rw [f ⟨by omega, by omega⟩]; exact c_f k (by omega) (by omega) w
theorem f7_cases (k : Nat) (h : (1 ≤ k ∧ k ≤ 18) ∨ (25 ≤ k ∧ k ≤ 27)) : k = 1 ∨ k = 2 ∨ k = 3 ∨ k = 4 ∨ k = 5 ∨ k = 6 ∨ k = 7 ∨ k = 8 ∨ k = 9 ∨ k = 10 ∨ k = 11 ∨ k = 12 ∨ k = 13 ∨ k = 14 ∨ k = 15 ∨ k = 16 ∨ k = 17 ∨ k = 18 ∨ k = 25 ∨ k = 26 ∨ k = 27 := by omega
theorem f7_any (k : Nat) (h : (1 ≤ k ∧ k ≤ 18) ∨ (25 ≤ k ∧ k ≤ 27)) (w : World) : Calls Try.prog 94 #[.int .i64 (k : Int)] w fun e w' => e = .returned (.int .i64 (Pl.cc k 2)) ∧ w' = w := by
  rcases f7_cases k h with rfl | rfl | rfl | rfl | rfl | rfl | rfl | rfl | rfl | rfl | rfl | rfl | rfl | rfl | rfl | rfl | rfl | rfl | rfl | rfl | rfl
  all_goals
    go_enter Try.func94, Try.ntmps94
    go_wp2
    go_ret
    refine ⟨ret_int ?_, rfl⟩
    kernel_rfl
theorem kept_cells' {w u : World} {cs : Array Value} {t : TypeId} (hb : Below (w.alloc (.cells cs t)).heap.size (w.alloc (.cells cs t)) u) (i : Nat) : u.cell? ⟨w.heap.size, i, none⟩ = cs[i]? :=
  cell_of_row u _ i cs t (0, 0) (kept_row hb)
set_option maxHeartbeats 1000000 in
theorem specEnc_no (n rd r1 r2 im : Int) (h : iok n rd r1 r2 im = false) (w : World) : Calls Try.prog 85 #[.agg #[.int .i64 n, .int .i64 rd, .int .i64 r1, .int .i64 r2, .int .i64 im]] w fun e w' => e = .returned (.tuple #[.int .i64 0, .bool false]) ∧ Below w.heap.size w w' := by
  go_enter Try.func85, Try.ntmps85
  go_wp2_with (go_at_call 90; refine (specInstOk_any _ _ _ _ _ _).mono ?_; rintro e u1 ⟨rfl, hb1⟩)
  go_ret2
  exact ⟨rfl, ((Below.refl _ _).alloc (Nat.le_refl _) _).trans (hb1.mono (by simp))⟩
end Go.Proofs.Ytfcfnbncgadomaa.W
