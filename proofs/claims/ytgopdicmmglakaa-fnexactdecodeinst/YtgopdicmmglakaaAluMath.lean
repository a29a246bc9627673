import Derived.Test.YtgopdicmmglakaaNarrow
namespace Go.Proofs.Ytgopdicmmglakaa.Pl
open Go.RowKit
theorem wrap64_in (n : Int) (h1 : -9223372036854775808 ≤ n) (h2 : n ≤ 9223372036854775807) : IntKind.i64.wrap n = n := IntWalk.i64_in n ⟨h1, h2⟩
theorem bits_and64 (x y : Int) : bits .and .i64 x y = IntKind.i64.wrap (((BitVec.ofInt 64 x &&& BitVec.ofInt 64 y).toNat : Nat) : Int) := rfl
theorem bits_or64 (x y : Int) : bits .or .i64 x y = IntKind.i64.wrap (((BitVec.ofInt 64 x ||| BitVec.ofInt 64 y).toNat : Nat) : Int) := rfl
theorem bits_xor64 (x y : Int) : bits .xor .i64 x y = IntKind.i64.wrap (((BitVec.ofInt 64 x ^^^ BitVec.ofInt 64 y).toNat : Nat) : Int) := rfl
theorem mask64 (x : Int) (i : Nat) (hi : i ≤ 62) : bits .and .i64 x (2 ^ i - 1) = x % 2 ^ i := by
  have hpos : 0 < 2 ^ i := Nat.two_pow_pos i
  have hc : ((2 : Int) ^ i - 1) = ((2 ^ i - 1 : Nat) : Int) := by rw [Int.natCast_sub hpos]; simp
  have hle : (2 : Nat) ^ i ≤ 2 ^ 62 := Nat.pow_le_pow_right (by decide) hi
  have hdvd : (2 : Nat) ^ i ∣ 2 ^ 64 := Nat.pow_dvd_pow 2 (by omega)
  have h64 : (2 : Nat) ^ 62 = 4611686018427387904 := by decide
  have h65 : (2 : Nat) ^ 64 = 18446744073709551616 := by decide
  have e1 : (2 ^ i - 1) % 2 ^ 64 = 2 ^ i - 1 := Nat.mod_eq_of_lt (by omega)
  rw [bits_and64, hc]
  simp only [BitVec.ofInt_natCast, BitVec.toNat_and, BitVec.toNat_ofNat, e1, Nat.and_two_pow_sub_one_eq_mod, BitVec.toNat_ofInt]
  have hm := Nat.mod_lt (x % ((2 ^ 64 : Nat) : Int)).toNat hpos
  rw [wrap64_in _ (by omega) (by omega)]
  have hx : 0 ≤ x % ((2 ^ 64 : Nat) : Int) := Int.emod_nonneg _ (by omega)
  rw [Int.natCast_emod, Int.toNat_of_nonneg hx]
  have hd' : (((2 ^ i : Nat) : Int)) ∣ ((2 ^ 64 : Nat) : Int) := Int.natCast_dvd_natCast.2 hdvd
  rw [Int.emod_emod_of_dvd _ hd']
  simp
theorem and31 (x : Int) : bits .and .i64 x 31 = x % 32 := mask64 x 5 (by decide)
theorem and65535 (x : Int) : bits .and .i64 x 65535 = x % 65536 := mask64 x 16 (by decide)
theorem bits_words (a b : Nat) (ha : a < 4294967296) (hb : b < 4294967296) :
    bits .and .i64 a b = ((a &&& b : Nat) : Int) ∧ bits .or .i64 a b = ((a ||| b : Nat) : Int) ∧ bits .xor .i64 a b = ((a ^^^ b : Nat) : Int) := by
  have ha' : a % 2 ^ 64 = a := Nat.mod_eq_of_lt (by omega)
  have hb' : b % 2 ^ 64 = b := Nat.mod_eq_of_lt (by omega)
  have h1 : a &&& b < 2 ^ 32 := Nat.lt_of_le_of_lt Nat.and_le_left ha
  have h2 : a ||| b < 2 ^ 32 := Nat.or_lt_two_pow ha hb
  have h3 : a ^^^ b < 2 ^ 32 := Nat.xor_lt_two_pow ha hb
  refine ⟨?_, ?_, ?_⟩
  · rw [bits_and64]; simp only [BitVec.ofInt_natCast, BitVec.toNat_and, BitVec.toNat_ofNat, ha', hb']
    rw [wrap64_in _ (by omega) (by omega)]
  · rw [bits_or64]; simp only [BitVec.ofInt_natCast, BitVec.toNat_or, BitVec.toNat_ofNat, ha', hb']
    rw [wrap64_in _ (by omega) (by omega)]
  · rw [bits_xor64]; simp only [BitVec.ofInt_natCast, BitVec.toNat_xor, BitVec.toNat_ofNat, ha', hb']
    rw [wrap64_in _ (by omega) (by omega)]
/-- the sum of the places below n at which f holds -/
def bsum (f : Nat → Bool) : Nat → Nat
  | 0 => 0
  | n + 1 => bsum f n + if f n then 2 ^ n else 0
theorem mod_succ (x n : Nat) : x % 2 ^ (n + 1) = x % 2 ^ n + if x.testBit n then 2 ^ n else 0 := by
  rw [Nat.mod_pow_succ, Nat.testBit_eq_decide_div_mod_eq]
  rcases Nat.mod_two_eq_zero_or_one (x / 2 ^ n) with h | h <;> simp [h]
theorem bsum_mod (x n : Nat) : bsum (fun i => x.testBit i) n = x % 2 ^ n := by
  induction n with
  | zero => simp [bsum, Nat.mod_one]
  | succ n ih => rw [mod_succ, ← ih]; rfl
theorem bsum_lt (f : Nat → Bool) (n : Nat) : bsum f n < 2 ^ n := by
  induction n with
  | zero => simp [bsum]
  | succ n ih => simp only [bsum, Nat.pow_succ]; split <;> omega
theorem bsum_and (a b : Nat) (ha : a < 2 ^ 32) : bsum (fun i => a.testBit i && b.testBit i) 32 = a &&& b := by
  have h : (fun i => a.testBit i && b.testBit i) = fun i => (a &&& b).testBit i := by funext i; simp
  rw [h, bsum_mod]; exact Nat.mod_eq_of_lt (Nat.lt_of_le_of_lt Nat.and_le_left ha)
theorem bsum_or (a b : Nat) (ha : a < 2 ^ 32) (hb : b < 2 ^ 32) : bsum (fun i => a.testBit i || b.testBit i) 32 = a ||| b := by
  have h : (fun i => a.testBit i || b.testBit i) = fun i => (a ||| b).testBit i := by funext i; simp
  rw [h, bsum_mod]; exact Nat.mod_eq_of_lt (Nat.or_lt_two_pow ha hb)
theorem bsum_xor (a b : Nat) (ha : a < 2 ^ 32) (hb : b < 2 ^ 32) : bsum (fun i => a.testBit i != b.testBit i) 32 = a ^^^ b := by
  have h : (fun i => a.testBit i != b.testBit i) = fun i => (a ^^^ b).testBit i := by funext i; simp
  rw [h, bsum_mod]; exact Nat.mod_eq_of_lt (Nat.xor_lt_two_pow ha hb)
/-- floors -/
theorem floor_neg (n d : Int) (hd : 0 < d) (h : n.tmod d < 0) : n.tdiv d - 1 = n / d := by
  have h1 := Int.mul_tdiv_add_tmod n d
  have h2 : n.tmod d > -d := by
    rcases tmod_cases n d with ⟨_, h'⟩ | ⟨_, h'⟩
    · have := Int.emod_nonneg n (Int.ne_of_gt hd); omega
    · have := Int.emod_lt_of_pos (-n) hd; omega
  have h3 : n = (n.tmod d + d) + d * (n.tdiv d - 1) := by rw [Int.mul_sub, Int.mul_one]; omega
  have h4 : n / d = (n.tmod d + d) / d + (n.tdiv d - 1) := by
    have h5 := Int.add_mul_ediv_left (n.tmod d + d) (n.tdiv d - 1) (Int.ne_of_gt hd)
    rw [← h3] at h5; exact h5
  rw [h4, Int.ediv_eq_zero_of_lt (by omega) (by omega)]; omega
theorem floor_pos (n d : Int) (hd : 0 < d) (h : 0 ≤ n.tmod d) : n.tdiv d = n / d := by
  rcases tmod_cases n d with ⟨h0, h'⟩ | ⟨h0, h'⟩
  · exact Int.tdiv_eq_ediv_of_nonneg h0
  · have h2 := Int.emod_nonneg (-n) (Int.ne_of_gt hd)
    have h3 : n.tmod d = 0 := by omega
    have h1 := Int.mul_tdiv_add_tmod n d
    rw [h3, Int.add_zero] at h1
    have h5 : n / d = n.tdiv d := by
      have := Int.mul_ediv_cancel_left (n.tdiv d) (Int.ne_of_gt hd)
      rw [h1] at this; exact this
    exact h5.symm
theorem tdiv_bd (n d : Int) (hd : 0 < d) (B : Int) (h1 : -B ≤ n) (h2 : n ≤ B) : -B ≤ n.tdiv d ∧ n.tdiv d ≤ B := by
  rcases tdiv_cases n d with ⟨h0, h⟩ | ⟨h0, h⟩
  · rw [h]; have a := Int.ediv_nonneg h0 (Int.le_of_lt hd); have b := Int.ediv_le_self d h0; omega
  · rw [h]; have h0' : 0 ≤ -n := by omega
    have a := Int.ediv_nonneg h0' (Int.le_of_lt hd); have b := Int.ediv_le_self d h0'; omega
theorem floor_bd (n d : Int) (hd : 0 < d) (B : Int) (hB : 0 ≤ B) (h1 : -B ≤ n) (h2 : n ≤ B) : -B ≤ n / d ∧ n / d ≤ B := by
  constructor
  · exact Int.le_ediv_of_mul_le hd (by have := Int.mul_le_mul_of_nonneg_left (show 1 ≤ d by omega) hB; rw [Int.mul_one] at this; have e : -B * d = -(B * d) := Int.neg_mul _ _; omega)
  · by_cases h0 : 0 ≤ n
    · have b := Int.ediv_le_self d h0; omega
    · have := Int.ediv_neg_of_neg_of_pos (by omega : n < 0) hd; omega
theorem tdiv_small (a b B : Int) (h1 : -B ≤ a) (h2 : a ≤ B) : -B ≤ a.tdiv b ∧ a.tdiv b ≤ B := by
  have h := Int.natAbs_tdiv_le_natAbs a b
  omega
theorem tdiv_mul (a b : Int) : a.tdiv b * b = a - a.tmod b := by
  have h := Int.mul_tdiv_add_tmod a b
  rw [Int.mul_comm] at h; omega
theorem tmod_small (a b B : Int) (h1 : -B ≤ a) (h2 : a ≤ B) : -B ≤ a.tmod b ∧ a.tmod b ≤ B := by
  rcases tmod_cases a b with ⟨h0, h⟩ | ⟨h0, h⟩
  · rw [h]
    by_cases hb : b = 0
    · subst hb; simp; omega
    · have h3 := Int.emod_nonneg a hb
      have h4 : a % b ≤ a := by
        have h5 := Int.mul_ediv_add_emod a b
        by_cases hp : 0 < b
        · have := Int.mul_nonneg (Int.le_of_lt hp) (Int.ediv_nonneg h0 (Int.le_of_lt hp)); omega
        · have := Int.ediv_nonpos_of_nonneg_of_nonpos h0 (by omega : b ≤ 0)
          have := Int.mul_nonneg_of_nonpos_of_nonpos (by omega : b ≤ 0) this; omega
      omega
  · rw [h]
    by_cases hb : b = 0
    · subst hb; simp; omega
    · have h0' : 0 ≤ -a := by omega
      have h3 := Int.emod_nonneg (-a) hb
      have h4 : -a % b ≤ -a := by
        have h5 := Int.mul_ediv_add_emod (-a) b
        by_cases hp : 0 < b
        · have := Int.mul_nonneg (Int.le_of_lt hp) (Int.ediv_nonneg h0' (Int.le_of_lt hp)); omega
        · have := Int.ediv_nonpos_of_nonneg_of_nonpos h0' (by omega : b ≤ 0)
          have := Int.mul_nonneg_of_nonpos_of_nonpos (by omega : b ≤ 0) this; omega
      omega
theorem mul_bd (a b X Y : Int) (hY : 0 ≤ Y) (a1 : -X ≤ a) (a2 : a ≤ X) (b1 : -Y ≤ b) (b2 : b ≤ Y) : -(X * Y) ≤ a * b ∧ a * b ≤ X * Y := by
  have h : (a * b).natAbs ≤ (X * Y).natAbs := by
    rw [Int.natAbs_mul, Int.natAbs_mul]; exact Nat.mul_le_mul (by omega) (by omega)
  have h0 : 0 ≤ X * Y := Int.mul_nonneg (by omega) hY
  omega
/-- the high half of a product by the halves of the second -/
theorem high_eq (a b : Int) : (a * ((b - b % 65536) / 65536) + a * (b % 65536) / 65536) / 65536 = a * b / 4294967296 := by
  have e1 : (b - b % 65536) / 65536 = b / 65536 := by omega
  have e2 : a * b = a * (b % 65536) + 65536 * (a * (b / 65536)) := by
    have : b = b % 65536 + 65536 * (b / 65536) := by omega
    have e : a * b = a * (b % 65536 + 65536 * (b / 65536)) := by rw [← this]
    rw [e, Int.mul_add]; congr 1; rw [← Int.mul_assoc, Int.mul_comm a 65536, Int.mul_assoc]
  have e3 : a * b / 4294967296 = a * b / 65536 / 65536 := by generalize a * b = x; omega
  rw [e1, e3, e2, Int.add_mul_ediv_left _ _ (by decide)]
  congr 1; omega
theorem bit_of (A k : Nat) : (A : Int) / pw k % 2 = if A.testBit k then 1 else 0 := by
  have e : (A : Int) / pw k % 2 = ((A / 2 ^ k % 2 : Nat) : Int) := by unfold pw; simp
  rw [e, Nat.testBit_eq_decide_div_mod_eq]
  rcases Nat.mod_two_eq_zero_or_one (A / 2 ^ k) with h | h <;> simp [h]
theorem pw_nat (k : Nat) : pw k = ((2 ^ k : Nat) : Int) := by unfold pw; simp
theorem bsum_pw (f : Nat → Bool) (k : Nat) : ((bsum f k : Nat) : Int) < pw k := by rw [pw_nat]; exact Int.ofNat_lt.2 (bsum_lt f k)
theorem bsum_step (f : Nat → Bool) (k : Nat) : ((bsum f (k + 1) : Nat) : Int) = (bsum f k : Int) + if f k then pw k else 0 := by
  rw [pw_nat]; simp only [bsum]; split <;> simp
def lt01 (x y : Int) : Int := if x < y then 1 else 0
def shn (B : Int) : Nat := (B % 32).toNat
/-- what Alu gives of two words -/
def al : Nat → Int → Int → Int
  | 1, A, B => wd (A + B)
  | 2, A, B => wd (A - B)
  | 3, A, B => A % pw (32 - shn B) * pw (shn B)
  | 4, A, B => lt01 (sg A) (sg B)
  | 5, A, B => lt01 A B
  | 6, A, B => ((A.toNat ^^^ B.toNat : Nat) : Int)
  | 7, A, B => A / pw (shn B)
  | 8, A, B => wd (sg A / pw (shn B))
  | 9, A, B => ((A.toNat ||| B.toNat : Nat) : Int)
  | 10, A, B => ((A.toNat &&& B.toNat : Nat) : Int)
  | 11, A, B => wd (A * B)
  | 12, A, B => wd (sg A * sg B / 4294967296)
  | 13, A, B => wd (sg A * B / 4294967296)
  | 14, A, B => wd (A * B / 4294967296)
  | 15, A, B => if B = 0 then 4294967295 else wd ((sg A).tdiv (sg B))
  | 16, A, B => if B = 0 then 4294967295 else wd (A / B)
  | 17, A, B => if B = 0 then A else wd ((sg A).tmod (sg B))
  | 18, A, B => if B = 0 then A else wd (A % B)
  | _, _, _ => 0
theorem wd_wrap64 (x : Int) : wd (wrap64 x) = wd x := by unfold wd wrap64; omega
theorem wd_word (A : Int) (h1 : 0 ≤ A) (h2 : A ≤ 4294967295) : wd A = A := by unfold wd; omega
theorem bits_int (A B : Int) (a1 : 0 ≤ A) (a2 : A ≤ 4294967295) (b1 : 0 ≤ B) (b2 : B ≤ 4294967295) :
    wd (bits .and .i64 A B) = ((A.toNat &&& B.toNat : Nat) : Int) ∧ wd (bits .or .i64 A B) = ((A.toNat ||| B.toNat : Nat) : Int) ∧ wd (bits .xor .i64 A B) = ((A.toNat ^^^ B.toNat : Nat) : Int) := by
  obtain ⟨a, rfl⟩ := Int.eq_ofNat_of_zero_le a1
  obtain ⟨b, rfl⟩ := Int.eq_ofNat_of_zero_le b1
  have ha : a < 4294967296 := by omega
  have hb : b < 4294967296 := by omega
  obtain ⟨e1, e2, e3⟩ := bits_words a b ha hb
  have h1 : a &&& b < 2 ^ 32 := Nat.lt_of_le_of_lt Nat.and_le_left ha
  have h2 : a ||| b < 2 ^ 32 := Nat.or_lt_two_pow ha hb
  have h3 : a ^^^ b < 2 ^ 32 := Nat.xor_lt_two_pow ha hb
  rw [e1, e2, e3]
  simp only [Int.toNat_natCast]
  exact ⟨wd_word _ (by omega) (by omega), wd_word _ (by omega) (by omega), wd_word _ (by omega) (by omega)⟩
theorem pow_pw (k : Nat) (hk : k ≤ 31) : (2 : Int) ^ min k 64 = pw k := by
  have e : min k 64 = k := by omega
  rw [e]; rfl
theorem shl_eq (A : Int) (k : Nat) (hk : k ≤ 31) : wd (A * pw k) = A % pw (32 - k) * pw k := by
  have e : pw (32 - k) * pw k = 4294967296 := by
    unfold pw; rw [← Int.pow_add]; have : 32 - k + k = 32 := by omega
    rw [this]; decide
  unfold wd
  rw [← e, Int.mul_comm A, Int.mul_comm (pw (32 - k)), Int.mul_emod_mul_of_pos _ _ (pw_pos k), Int.mul_comm]
theorem mul_eq (A B : Int) : wd (A % 65536 * B + A / 65536 * (B % 65536) % 65536 * 65536) = wd (A * B) := by
  have e : A * B = A % 65536 * B + A / 65536 * B * 65536 := by
    have h : A = A % 65536 + 65536 * (A / 65536) := by omega
    have h2 : A * B = (A % 65536 + 65536 * (A / 65536)) * B := by rw [← h]
    rw [h2, Int.add_mul]; congr 1
    rw [Int.mul_comm 65536, Int.mul_assoc, Int.mul_comm 65536 B, ← Int.mul_assoc]
  rw [e]
  have e2 : A / 65536 * (B % 65536) % 65536 = A / 65536 * B % 65536 := by rw [Int.mul_emod, Int.emod_emod_of_dvd B (by decide : (65536 : Int) ∣ 65536), ← Int.mul_emod]
  rw [e2]
  generalize A / 65536 * B = x
  unfold wd; omega
end Go.Proofs.Ytgopdicmmglakaa.Pl
