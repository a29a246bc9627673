import Derived.Test.YtjdfffdeljgenaaGreatDoorS00
import Derived.Laws.ResultCell
import Derived.Deep.WholeRow
import Derived.Deep.QuietTactic
import Derived.BigQuiet
namespace Go.Proofs.YtjdfffdeljgenaaGreatDoor.W
open Go.RowKit
def opsTab : Array Value := #[.nilFunc, .func (.func 135) #[] #[], .func (.func 136) #[] #[], .func (.func 137) #[] #[], .func (.func 139) #[] #[], .func (.func 140) #[] #[], .func (.func 141) #[] #[], .func (.func 142) #[] #[], .func (.func 143) #[] #[], .func (.func 144) #[] #[], .func (.func 145) #[] #[], .func (.func 146) #[] #[], .func (.func 147) #[] #[], .func (.func 148) #[] #[], .func (.func 149) #[] #[], .func (.func 150) #[] #[], .func (.func 151) #[] #[], .func (.func 152) #[] #[], .func (.func 153) #[] #[]]
set_option maxHeartbeats 400000 in
theorem operations_any (w : World) : Calls Tryz.prog 121 #[] w fun e w' => e = .returned (.agg opsTab) ∧ w' = w.alloc (.cells opsTab 130) := by
  go_enter Tryz.func121, Tryz.ntmps121
  go_wp2_with (refine wpList_store_row rfl 130 _ _ rfl w.heap.size opsTab rfl rfl 130 _ (heap_alloc_new w _) (by kernel_rfl) (by kernel_rfl) (by kernel_rfl) ?_)
  rw [World.setRow_alloc_new]
  exact bodyPost_ret (v := .agg opsTab) (results_cell_row Tryz.results121 _ _ w.heap.size 130 opsTab (0, 0) _ rfl (heap_alloc_new w _) Tryz.underlying130 rfl (by kernel_rfl)) rfl ⟨rfl, rfl⟩
end Go.Proofs.YtjdfffdeljgenaaGreatDoor.W
namespace Go.Proofs.YtjdfffdeljgenaaGreatDoor.Pl
open Go.RowKit
theorem wrap64_in (n : Int) (h1 : -9223372036854775808 ≤ n) (h2 : n ≤ 9223372036854775807) : IntKind.i64.wrap n = n := IntWalk.i64_in n ⟨h1, h2⟩
theorem bits_and64 (x y : Int) : bits .and .i64 x y = IntKind.i64.wrap (((BitVec.ofInt 64 x &&& BitVec.ofInt 64 y).toNat : Nat) : Int) := rfl
theorem bits_or64 (x y : Int) : bits .or .i64 x y = IntKind.i64.wrap (((BitVec.ofInt 64 x ||| BitVec.ofInt 64 y).toNat : Nat) : Int) := rfl
theorem bits_xor64 (x y : Int) : bits .xor .i64 x y = IntKind.i64.wrap (((BitVec.ofInt 64 x ^^^ BitVec.ofInt 64 y).toNat : Nat) : Int) := rfl
theorem mask64 (x : Int) (i : Nat) (hi : i ≤ 62) : bits .and .i64 x (2 ^ i - 1) = x % 2 ^ i := by
  have hpos : 0 < 2 ^ i := Nat.two_pow_pos i
  have hc : ((2 : Int) ^ i - 1) = ((2 ^ i - 1 : Nat) : Int) := by rw [Int.natCast_sub hpos]; simp
  have hle : (2 : Nat) ^ i ≤ 2 ^ 62 := Nat.pow_le_pow_right (by decide) hi
  have hdvd : (2 : Nat) ^ i ∣ 2 ^ 64 := Nat.pow_dvd_pow 2 (by omega)
  have h64 : (2 : Nat) ^ 62 = 4611686018427387904 := by decide
  have h65 : (2 : Nat) ^ 64 = 18446744073709551616 := by decide
  have e1 : (2 ^ i - 1) % 2 ^ 64 = 2 ^ i - 1 := Nat.mod_eq_of_lt (by omega)
  rw [bits_and64, hc]
  simp only [BitVec.ofInt_natCast, BitVec.toNat_and, BitVec.toNat_ofNat, e1, Nat.and_two_pow_sub_one_eq_mod, BitVec.toNat_ofInt]
  have hm := Nat.mod_lt (x % ((2 ^ 64 : Nat) : Int)).toNat hpos
  rw [wrap64_in _ (by omega) (by omega)]
  have hx : 0 ≤ x % ((2 ^ 64 : Nat) : Int) := Int.emod_nonneg _ (by omega)
  rw [Int.natCast_emod, Int.toNat_of_nonneg hx]
  have hd' : (((2 ^ i : Nat) : Int)) ∣ ((2 ^ 64 : Nat) : Int) := Int.natCast_dvd_natCast.2 hdvd
  rw [Int.emod_emod_of_dvd _ hd']
  simp
theorem and31 (x : Int) : bits .and .i64 x 31 = x % 32 := mask64 x 5 (by decide)
theorem and65535 (x : Int) : bits .and .i64 x 65535 = x % 65536 := mask64 x 16 (by decide)
theorem bits_words (a b : Nat) (ha : a < 4294967296) (hb : b < 4294967296) :
    bits .and .i64 a b = ((a &&& b : Nat) : Int) ∧ bits .or .i64 a b = ((a ||| b : Nat) : Int) ∧ bits .xor .i64 a b = ((a ^^^ b : Nat) : Int) := by
  have ha' : a % 2 ^ 64 = a := Nat.mod_eq_of_lt (by omega)
  have hb' : b % 2 ^ 64 = b := Nat.mod_eq_of_lt (by omega)
  have h1 : a &&& b < 2 ^ 32 := Nat.lt_of_le_of_lt Nat.and_le_left ha
  have h2 : a ||| b < 2 ^ 32 := Nat.or_lt_two_pow ha hb
  have h3 : a ^^^ b < 2 ^ 32 := Nat.xor_lt_two_pow ha hb
  refine ⟨?_, ?_, ?_⟩
  · rw [bits_and64]; simp only [BitVec.ofInt_natCast, BitVec.toNat_and, BitVec.toNat_ofNat, ha', hb']
    rw [wrap64_in _ (by omega) (by omega)]
  · rw [bits_or64]; simp only [BitVec.ofInt_natCast, BitVec.toNat_or, BitVec.toNat_ofNat, ha', hb']
    rw [wrap64_in _ (by omega) (by omega)]
  · rw [bits_xor64]; simp only [BitVec.ofInt_natCast, BitVec.toNat_xor, BitVec.toNat_ofNat, ha', hb']
    rw [wrap64_in _ (by omega) (by omega)]
def bsum (f : Nat → Bool) : Nat → Nat
  | 0 => 0
  | n + 1 => bsum f n + if f n then 2 ^ n else 0
theorem mod_succ (x n : Nat) : x % 2 ^ (n + 1) = x % 2 ^ n + if x.testBit n then 2 ^ n else 0 := by
  rw [Nat.mod_pow_succ, Nat.testBit_eq_decide_div_mod_eq]
  rcases Nat.mod_two_eq_zero_or_one (x / 2 ^ n) with h | h <;> simp [h]
theorem bsum_mod (x n : Nat) : bsum (fun i => x.testBit i) n = x % 2 ^ n := by
  induction n with
  | zero => simp [bsum, Nat.mod_one]
  | succ n ih => rw [mod_succ, ← ih]; rfl
theorem bsum_lt (f : Nat → Bool) (n : Nat) : bsum f n < 2 ^ n := by
  induction n with
  | zero => simp [bsum]
  | succ n ih => simp only [bsum, Nat.pow_succ]; split <;> omega
theorem bsum_and (a b : Nat) (ha : a < 2 ^ 32) : bsum (fun i => a.testBit i && b.testBit i) 32 = a &&& b := by
  have h : (fun i => a.testBit i && b.testBit i) = fun i => (a &&& b).testBit i := by funext i; simp
  rw [h, bsum_mod]; exact Nat.mod_eq_of_lt (Nat.lt_of_le_of_lt Nat.and_le_left ha)
theorem bsum_or (a b : Nat) (ha : a < 2 ^ 32) (hb : b < 2 ^ 32) : bsum (fun i => a.testBit i || b.testBit i) 32 = a ||| b := by
  have h : (fun i => a.testBit i || b.testBit i) = fun i => (a ||| b).testBit i := by funext i; simp
  rw [h, bsum_mod]; exact Nat.mod_eq_of_lt (Nat.or_lt_two_pow ha hb)
theorem bsum_xor (a b : Nat) (ha : a < 2 ^ 32) (hb : b < 2 ^ 32) : bsum (fun i => a.testBit i != b.testBit i) 32 = a ^^^ b := by
  have h : (fun i => a.testBit i != b.testBit i) = fun i => (a ^^^ b).testBit i := by funext i; simp
  rw [h, bsum_mod]; exact Nat.mod_eq_of_lt (Nat.xor_lt_two_pow ha hb)
theorem floor_neg (n d : Int) (hd : 0 < d) (h : n.tmod d < 0) : n.tdiv d - 1 = n / d := by
  have h1 := Int.mul_tdiv_add_tmod n d
  have h2 : n.tmod d > -d := by
    rcases tmod_cases n d with ⟨_, h'⟩ | ⟨_, h'⟩
    · have := Int.emod_nonneg n (Int.ne_of_gt hd); omega
    · have := Int.emod_lt_of_pos (-n) hd; omega
  have h3 : n = (n.tmod d + d) + d * (n.tdiv d - 1) := by rw [Int.mul_sub, Int.mul_one]; omega
  have h4 : n / d = (n.tmod d + d) / d + (n.tdiv d - 1) := by
    have h5 := Int.add_mul_ediv_left (n.tmod d + d) (n.tdiv d - 1) (Int.ne_of_gt hd)
    rw [← h3] at h5; exact h5
  rw [h4, Int.ediv_eq_zero_of_lt (by omega) (by omega)]; omega
theorem floor_pos (n d : Int) (hd : 0 < d) (h : 0 ≤ n.tmod d) : n.tdiv d = n / d := by
  rcases tmod_cases n d with ⟨h0, h'⟩ | ⟨h0, h'⟩
  · exact Int.tdiv_eq_ediv_of_nonneg h0
  · have h2 := Int.emod_nonneg (-n) (Int.ne_of_gt hd)
    have h3 : n.tmod d = 0 := by omega
    have h1 := Int.mul_tdiv_add_tmod n d
    rw [h3, Int.add_zero] at h1
    have h5 : n / d = n.tdiv d := by
      have := Int.mul_ediv_cancel_left (n.tdiv d) (Int.ne_of_gt hd)
      rw [h1] at this; exact this
    exact h5.symm
theorem tdiv_bd (n d : Int) (hd : 0 < d) (B : Int) (h1 : -B ≤ n) (h2 : n ≤ B) : -B ≤ n.tdiv d ∧ n.tdiv d ≤ B := by
  rcases tdiv_cases n d with ⟨h0, h⟩ | ⟨h0, h⟩
  · rw [h]; have a := Int.ediv_nonneg h0 (Int.le_of_lt hd); have b := Int.ediv_le_self d h0; omega
  · rw [h]; have h0' : 0 ≤ -n := by omega
    have a := Int.ediv_nonneg h0' (Int.le_of_lt hd); have b := Int.ediv_le_self d h0'; omega
theorem tdiv_small (a b B : Int) (h1 : -B ≤ a) (h2 : a ≤ B) : -B ≤ a.tdiv b ∧ a.tdiv b ≤ B := by
  have h := Int.natAbs_tdiv_le_natAbs a b
  omega
theorem tdiv_mul (a b : Int) : a.tdiv b * b = a - a.tmod b := by
  have h := Int.mul_tdiv_add_tmod a b
  rw [Int.mul_comm] at h; omega
theorem tmod_small (a b B : Int) (h1 : -B ≤ a) (h2 : a ≤ B) : -B ≤ a.tmod b ∧ a.tmod b ≤ B := by
  rcases tmod_cases a b with ⟨h0, h⟩ | ⟨h0, h⟩
  · rw [h]
    by_cases hb : b = 0
    · subst hb; simp; omega
    · have h3 := Int.emod_nonneg a hb
      have h4 : a % b ≤ a := by
        have h5 := Int.mul_ediv_add_emod a b
        by_cases hp : 0 < b
        · have := Int.mul_nonneg (Int.le_of_lt hp) (Int.ediv_nonneg h0 (Int.le_of_lt hp)); omega
        · have := Int.ediv_nonpos_of_nonneg_of_nonpos h0 (by omega : b ≤ 0)
          have := Int.mul_nonneg_of_nonpos_of_nonpos (by omega : b ≤ 0) this; omega
      omega
  · rw [h]
    by_cases hb : b = 0
    · subst hb; simp; omega
    · have h0' : 0 ≤ -a := by omega
      have h3 := Int.emod_nonneg (-a) hb
      have h4 : -a % b ≤ -a := by
        have h5 := Int.mul_ediv_add_emod (-a) b
        by_cases hp : 0 < b
        · have := Int.mul_nonneg (Int.le_of_lt hp) (Int.ediv_nonneg h0' (Int.le_of_lt hp)); omega
        · have := Int.ediv_nonpos_of_nonneg_of_nonpos h0' (by omega : b ≤ 0)
          have := Int.mul_nonneg_of_nonpos_of_nonpos (by omega : b ≤ 0) this; omega
      omega
theorem mul_bd (a b X Y : Int) (hY : 0 ≤ Y) (a1 : -X ≤ a) (a2 : a ≤ X) (b1 : -Y ≤ b) (b2 : b ≤ Y) : -(X * Y) ≤ a * b ∧ a * b ≤ X * Y := by
  have h : (a * b).natAbs ≤ (X * Y).natAbs := by
    rw [Int.natAbs_mul, Int.natAbs_mul]; exact Nat.mul_le_mul (by omega) (by omega)
  have h0 : 0 ≤ X * Y := Int.mul_nonneg (by omega) hY
  omega
theorem high_eq (a b : Int) : (a * ((b - b % 65536) / 65536) + a * (b % 65536) / 65536) / 65536 = a * b / 4294967296 := by
  have e1 : (b - b % 65536) / 65536 = b / 65536 := by omega
  have e2 : a * b = a * (b % 65536) + 65536 * (a * (b / 65536)) := by
    have : b = b % 65536 + 65536 * (b / 65536) := by omega
    have e : a * b = a * (b % 65536 + 65536 * (b / 65536)) := by rw [← this]
    rw [e, Int.mul_add]; congr 1; rw [← Int.mul_assoc, Int.mul_comm a 65536, Int.mul_assoc]
  have e3 : a * b / 4294967296 = a * b / 65536 / 65536 := by generalize a * b = x; omega
  rw [e1, e3, e2, Int.add_mul_ediv_left _ _ (by decide)]
  congr 1; omega
theorem bit_of (A k : Nat) : (A : Int) / pw k % 2 = if A.testBit k then 1 else 0 := by
  have e : (A : Int) / pw k % 2 = ((A / 2 ^ k % 2 : Nat) : Int) := by unfold pw; simp
  rw [e, Nat.testBit_eq_decide_div_mod_eq]
  rcases Nat.mod_two_eq_zero_or_one (A / 2 ^ k) with h | h <;> simp [h]
theorem pw_nat (k : Nat) : pw k = ((2 ^ k : Nat) : Int) := by unfold pw; simp
theorem bsum_pw (f : Nat → Bool) (k : Nat) : ((bsum f k : Nat) : Int) < pw k := by rw [pw_nat]; exact Int.ofNat_lt.2 (bsum_lt f k)
theorem bsum_step (f : Nat → Bool) (k : Nat) : ((bsum f (k + 1) : Nat) : Int) = (bsum f k : Int) + if f k then pw k else 0 := by
  rw [pw_nat]; simp only [bsum]; split <;> simp
def lt01 (x y : Int) : Int := if x < y then 1 else 0
def shn (B : Int) : Nat := (B % 32).toNat
def al : Nat → Int → Int → Int
  | 1, A, B => wd (A + B)
  | 2, A, B => wd (A - B)
  | 3, A, B => A % pw (32 - shn B) * pw (shn B)
  | 4, A, B => lt01 (sg A) (sg B)
  | 5, A, B => lt01 A B
  | 6, A, B => ((A.toNat ^^^ B.toNat : Nat) : Int)
  | 7, A, B => A / pw (shn B)
  | 8, A, B => wd (sg A / pw (shn B))
  | 9, A, B => ((A.toNat ||| B.toNat : Nat) : Int)
  | 10, A, B => ((A.toNat &&& B.toNat : Nat) : Int)
  | 11, A, B => wd (A * B)
  | 12, A, B => wd (sg A * sg B / 4294967296)
  | 13, A, B => wd (sg A * B / 4294967296)
  | 14, A, B => wd (A * B / 4294967296)
  | 15, A, B => if B = 0 then 4294967295 else wd ((sg A).tdiv (sg B))
  | 16, A, B => if B = 0 then 4294967295 else wd (A / B)
  | 17, A, B => if B = 0 then A else wd ((sg A).tmod (sg B))
  | 18, A, B => if B = 0 then A else wd (A % B)
  | _, _, _ => 0
theorem wd_wrap64 (x : Int) : wd (wrap64 x) = wd x := by unfold wd wrap64; omega
theorem wd_word (A : Int) (h1 : 0 ≤ A) (h2 : A ≤ 4294967295) : wd A = A := by unfold wd; omega
theorem bits_int (A B : Int) (a1 : 0 ≤ A) (a2 : A ≤ 4294967295) (b1 : 0 ≤ B) (b2 : B ≤ 4294967295) :
    wd (bits .and .i64 A B) = ((A.toNat &&& B.toNat : Nat) : Int) ∧ wd (bits .or .i64 A B) = ((A.toNat ||| B.toNat : Nat) : Int) ∧ wd (bits .xor .i64 A B) = ((A.toNat ^^^ B.toNat : Nat) : Int) := by
  obtain ⟨a, rfl⟩ := Int.eq_ofNat_of_zero_le a1
  obtain ⟨b, rfl⟩ := Int.eq_ofNat_of_zero_le b1
  have ha : a < 4294967296 := by omega
  have hb : b < 4294967296 := by omega
  obtain ⟨e1, e2, e3⟩ := bits_words a b ha hb
  have h1 : a &&& b < 2 ^ 32 := Nat.lt_of_le_of_lt Nat.and_le_left ha
  have h2 : a ||| b < 2 ^ 32 := Nat.or_lt_two_pow ha hb
  have h3 : a ^^^ b < 2 ^ 32 := Nat.xor_lt_two_pow ha hb
  rw [e1, e2, e3]
  simp only [Int.toNat_natCast]
  exact ⟨wd_word _ (by omega) (by omega), wd_word _ (by omega) (by omega), wd_word _ (by omega) (by omega)⟩
theorem shl_eq (A : Int) (k : Nat) (hk : k ≤ 31) : wd (A * pw k) = A % pw (32 - k) * pw k := by
  have e : pw (32 - k) * pw k = 4294967296 := by
    unfold pw; rw [← Int.pow_add]; have : 32 - k + k = 32 := by omega
    rw [this]; decide
  unfold wd
  rw [← e, Int.mul_comm A, Int.mul_comm (pw (32 - k)), Int.mul_emod_mul_of_pos _ _ (pw_pos k), Int.mul_comm]
theorem mul_eq (A B : Int) : wd (A % 65536 * B + A / 65536 * (B % 65536) % 65536 * 65536) = wd (A * B) := by
  have e : A * B = A % 65536 * B + A / 65536 * B * 65536 := by
    have h : A = A % 65536 + 65536 * (A / 65536) := by omega
    have h2 : A * B = (A % 65536 + 65536 * (A / 65536)) * B := by rw [← h]
    rw [h2, Int.add_mul]; congr 1
    rw [Int.mul_comm 65536, Int.mul_assoc, Int.mul_comm 65536 B, ← Int.mul_assoc]
  rw [e]
  have e2 : A / 65536 * (B % 65536) % 65536 = A / 65536 * B % 65536 := by rw [Int.mul_emod, Int.emod_emod_of_dvd B (by decide : (65536 : Int) ∣ 65536), ← Int.mul_emod]
  rw [e2]
  generalize A / 65536 * B = x
  unfold wd; omega
end Go.Proofs.YtjdfffdeljgenaaGreatDoor.Pl
namespace Go.Proofs.YtjdfffdeljgenaaGreatDoor.Pl
theorem wd_sg (A : Int) (h1 : 0 ≤ A) (h2 : A ≤ 4294967295) : wd (sg A) = A := by unfold wd sg; omega
end Go.Proofs.YtjdfffdeljgenaaGreatDoor.Pl
namespace Go.Proofs.YtjdfffdeljgenaaGreatDoor.W
open Go.RowKit
theorem shiftBy_any (n : Int) (w : World) : Calls Tryz.prog 138 #[.int .i64 n] w fun e w' => e = .returned (.int .i64 (n % 32)) ∧ w' = w := by
  have h := Pl.and31 n
  go_enter Tryz.func138, Tryz.ntmps138
  go_wp2
  go_ret
  exact ⟨rfl, rfl⟩
set_option maxHeartbeats 400000 in
theorem implAlu_1 (a b : Int) (w : World) : Calls Tryz.prog 106 #[.int .i64 1, .int .i64 a, .int .i64 b] w fun e w' => e = .returned (.tuple #[.int .i64 (Pl.al 1 (Pl.wd a) (Pl.wd b)), .bool true]) ∧ Below w.heap.size w w' := by
  have hi : ∀ w, (Instr.index 130 (.agg opsTab) (.int .i64 1)).run Tryz.prog w = .ok (.func (.func 135) #[] #[]) w := fun _ => by kernel_rfl
  have ha := Pl.wd_bd a
  have hb := Pl.wd_bd b
  go_enter Tryz.func106, Tryz.ntmps106
  go_wp2_with (first | (go_at_call 121; refine (operations_any _).mono ?_; rintro e w1 ⟨rfl, rfl⟩) | (go_at_call 64; refine (implWord_any _ _).mono ?_; rintro e w1 ⟨rfl, rfl⟩) | (go_at_call 109; refine (implSigned_any _ _).mono ?_; rintro e w1 ⟨rfl, rfl⟩) | (go_at_call 138; refine (shiftBy_any _ _).mono ?_; rintro e w1 ⟨rfl, rfl⟩) | go_in)
  go_ret2
  exact ⟨ret2 (rfl) rfl, (Below.refl _ _).alloc (Nat.le_refl _) _⟩
set_option maxHeartbeats 400000 in
theorem implAlu_2 (a b : Int) (w : World) : Calls Tryz.prog 106 #[.int .i64 2, .int .i64 a, .int .i64 b] w fun e w' => e = .returned (.tuple #[.int .i64 (Pl.al 2 (Pl.wd a) (Pl.wd b)), .bool true]) ∧ Below w.heap.size w w' := by
  have hi : ∀ w, (Instr.index 130 (.agg opsTab) (.int .i64 2)).run Tryz.prog w = .ok (.func (.func 136) #[] #[]) w := fun _ => by kernel_rfl
  have ha := Pl.wd_bd a
  have hb := Pl.wd_bd b
  go_enter Tryz.func106, Tryz.ntmps106
  go_wp2_with (first | (go_at_call 121; refine (operations_any _).mono ?_; rintro e w1 ⟨rfl, rfl⟩) | (go_at_call 64; refine (implWord_any _ _).mono ?_; rintro e w1 ⟨rfl, rfl⟩) | (go_at_call 109; refine (implSigned_any _ _).mono ?_; rintro e w1 ⟨rfl, rfl⟩) | (go_at_call 138; refine (shiftBy_any _ _).mono ?_; rintro e w1 ⟨rfl, rfl⟩) | go_in)
  go_ret2
  exact ⟨ret2 (rfl) rfl, (Below.refl _ _).alloc (Nat.le_refl _) _⟩
set_option maxHeartbeats 400000 in
theorem implAlu_3 (a b : Int) (w : World) : Calls Tryz.prog 106 #[.int .i64 3, .int .i64 a, .int .i64 b] w fun e w' => e = .returned (.tuple #[.int .i64 (Pl.al 3 (Pl.wd a) (Pl.wd b)), .bool true]) ∧ Below w.heap.size w w' := by
  have hi : ∀ w, (Instr.index 130 (.agg opsTab) (.int .i64 3)).run Tryz.prog w = .ok (.func (.func 137) #[] #[]) w := fun _ => by kernel_rfl
  have ha := Pl.wd_bd a
  have hb := Pl.wd_bd b
  have hs : 0 ≤ Pl.wd b % 32 := by omega
  have hk : (Pl.wd b % 32).toNat ≤ 31 := by omega
  have HK : Hid ((Pl.wd b % 32).toNat ≤ 31) := hk
  clear hk
  go_enter Tryz.func106, Tryz.ntmps106
  go_wp2_with (first | (go_at_call 121; refine (operations_any _).mono ?_; rintro e w1 ⟨rfl, rfl⟩) | (go_at_call 64; refine (implWord_any _ _).mono ?_; rintro e w1 ⟨rfl, rfl⟩) | (go_at_call 109; refine (implSigned_any _ _).mono ?_; rintro e w1 ⟨rfl, rfl⟩) | (go_at_call 138; refine (shiftBy_any _ _).mono ?_; rintro e w1 ⟨rfl, rfl⟩) | go_in)
  go_ret2
  exact ⟨ret2 (by rw [Pl.wd_wrap64]; exact Pl.shl_eq _ _ HK.out) rfl, (Below.refl _ _).alloc (Nat.le_refl _) _⟩
set_option maxHeartbeats 400000 in
theorem implAlu_4 (a b : Int) (w : World) : Calls Tryz.prog 106 #[.int .i64 4, .int .i64 a, .int .i64 b] w fun e w' => e = .returned (.tuple #[.int .i64 (Pl.al 4 (Pl.wd a) (Pl.wd b)), .bool true]) ∧ Below w.heap.size w w' := by
  have hi : ∀ w, (Instr.index 130 (.agg opsTab) (.int .i64 4)).run Tryz.prog w = .ok (.func (.func 139) #[] #[]) w := fun _ => by kernel_rfl
  have ha := Pl.wd_bd a
  have hb := Pl.wd_bd b
  have ha' := Pl.sg_bd (Pl.wd a)
  have hb' := Pl.sg_bd (Pl.wd b)
  by_cases h : Pl.sg (Pl.wd a) < Pl.sg (Pl.wd b)
  · go_enter Tryz.func106, Tryz.ntmps106
    go_wp2_with (first | (go_at_call 121; refine (operations_any _).mono ?_; rintro e w1 ⟨rfl, rfl⟩) | (go_at_call 64; refine (implWord_any _ _).mono ?_; rintro e w1 ⟨rfl, rfl⟩) | (go_at_call 109; refine (implSigned_any _ _).mono ?_; rintro e w1 ⟨rfl, rfl⟩) | (go_at_call 138; refine (shiftBy_any _ _).mono ?_; rintro e w1 ⟨rfl, rfl⟩) | go_in)
    go_ret2
    exact ⟨ret2 (by show _ = Pl.lt01 _ _; rw [Pl.lt01, if_pos h]; rfl) rfl, (Below.refl _ _).alloc (Nat.le_refl _) _⟩
  · go_enter Tryz.func106, Tryz.ntmps106
    go_wp2_with (first | (go_at_call 121; refine (operations_any _).mono ?_; rintro e w1 ⟨rfl, rfl⟩) | (go_at_call 64; refine (implWord_any _ _).mono ?_; rintro e w1 ⟨rfl, rfl⟩) | (go_at_call 109; refine (implSigned_any _ _).mono ?_; rintro e w1 ⟨rfl, rfl⟩) | (go_at_call 138; refine (shiftBy_any _ _).mono ?_; rintro e w1 ⟨rfl, rfl⟩) | go_in)
    go_ret2
    exact ⟨ret2 (by show _ = Pl.lt01 _ _; rw [Pl.lt01, if_neg (by omega)]; rfl) rfl, (Below.refl _ _).alloc (Nat.le_refl _) _⟩
set_option maxHeartbeats 400000 in
theorem implAlu_5 (a b : Int) (w : World) : Calls Tryz.prog 106 #[.int .i64 5, .int .i64 a, .int .i64 b] w fun e w' => e = .returned (.tuple #[.int .i64 (Pl.al 5 (Pl.wd a) (Pl.wd b)), .bool true]) ∧ Below w.heap.size w w' := by
  have hi : ∀ w, (Instr.index 130 (.agg opsTab) (.int .i64 5)).run Tryz.prog w = .ok (.func (.func 140) #[] #[]) w := fun _ => by kernel_rfl
  have ha := Pl.wd_bd a
  have hb := Pl.wd_bd b
  have ha' := Pl.sg_bd (Pl.wd a)
  have hb' := Pl.sg_bd (Pl.wd b)
  by_cases h : Pl.wd a < Pl.wd b
  · go_enter Tryz.func106, Tryz.ntmps106
    go_wp2_with (first | (go_at_call 121; refine (operations_any _).mono ?_; rintro e w1 ⟨rfl, rfl⟩) | (go_at_call 64; refine (implWord_any _ _).mono ?_; rintro e w1 ⟨rfl, rfl⟩) | (go_at_call 109; refine (implSigned_any _ _).mono ?_; rintro e w1 ⟨rfl, rfl⟩) | (go_at_call 138; refine (shiftBy_any _ _).mono ?_; rintro e w1 ⟨rfl, rfl⟩) | go_in)
    go_ret2
    exact ⟨ret2 (by show _ = Pl.lt01 _ _; rw [Pl.lt01, if_pos h]; rfl) rfl, (Below.refl _ _).alloc (Nat.le_refl _) _⟩
  · go_enter Tryz.func106, Tryz.ntmps106
    go_wp2_with (first | (go_at_call 121; refine (operations_any _).mono ?_; rintro e w1 ⟨rfl, rfl⟩) | (go_at_call 64; refine (implWord_any _ _).mono ?_; rintro e w1 ⟨rfl, rfl⟩) | (go_at_call 109; refine (implSigned_any _ _).mono ?_; rintro e w1 ⟨rfl, rfl⟩) | (go_at_call 138; refine (shiftBy_any _ _).mono ?_; rintro e w1 ⟨rfl, rfl⟩) | go_in)
    go_ret2
    exact ⟨ret2 (by show _ = Pl.lt01 _ _; rw [Pl.lt01, if_neg (by omega)]; rfl) rfl, (Below.refl _ _).alloc (Nat.le_refl _) _⟩
set_option maxHeartbeats 400000 in
theorem implAlu_6 (a b : Int) (w : World) : Calls Tryz.prog 106 #[.int .i64 6, .int .i64 a, .int .i64 b] w fun e w' => e = .returned (.tuple #[.int .i64 (Pl.al 6 (Pl.wd a) (Pl.wd b)), .bool true]) ∧ Below w.heap.size w w' := by
  have hi : ∀ w, (Instr.index 130 (.agg opsTab) (.int .i64 6)).run Tryz.prog w = .ok (.func (.func 141) #[] #[]) w := fun _ => by kernel_rfl
  have ha := Pl.wd_bd a
  have hb := Pl.wd_bd b
  go_enter Tryz.func106, Tryz.ntmps106
  go_wp2_with (first | (go_at_call 121; refine (operations_any _).mono ?_; rintro e w1 ⟨rfl, rfl⟩) | (go_at_call 64; refine (implWord_any _ _).mono ?_; rintro e w1 ⟨rfl, rfl⟩) | (go_at_call 109; refine (implSigned_any _ _).mono ?_; rintro e w1 ⟨rfl, rfl⟩) | (go_at_call 138; refine (shiftBy_any _ _).mono ?_; rintro e w1 ⟨rfl, rfl⟩) | go_in)
  go_ret2
  exact ⟨ret2 ((Pl.bits_int _ _ ha.1 ha.2 hb.1 hb.2).2.2) rfl, (Below.refl _ _).alloc (Nat.le_refl _) _⟩
set_option maxHeartbeats 400000 in
theorem implAlu_7 (a b : Int) (w : World) : Calls Tryz.prog 106 #[.int .i64 7, .int .i64 a, .int .i64 b] w fun e w' => e = .returned (.tuple #[.int .i64 (Pl.al 7 (Pl.wd a) (Pl.wd b)), .bool true]) ∧ Below w.heap.size w w' := by
  have hi : ∀ w, (Instr.index 130 (.agg opsTab) (.int .i64 7)).run Tryz.prog w = .ok (.func (.func 142) #[] #[]) w := fun _ => by kernel_rfl
  have ha := Pl.wd_bd a
  have hb := Pl.wd_bd b
  have hs : 0 ≤ Pl.wd b % 32 := by omega
  have hk : (Pl.wd b % 32).toNat ≤ 31 := by omega
  have HK : Hid ((Pl.wd b % 32).toNat ≤ 31) := hk
  clear hk
  go_enter Tryz.func106, Tryz.ntmps106
  go_wp2_with (first | (go_at_call 121; refine (operations_any _).mono ?_; rintro e w1 ⟨rfl, rfl⟩) | (go_at_call 64; refine (implWord_any _ _).mono ?_; rintro e w1 ⟨rfl, rfl⟩) | (go_at_call 109; refine (implSigned_any _ _).mono ?_; rintro e w1 ⟨rfl, rfl⟩) | (go_at_call 138; refine (shiftBy_any _ _).mono ?_; rintro e w1 ⟨rfl, rfl⟩) | go_in)
  go_ret2
  exact ⟨ret2 (by exact Pl.wd_word _ (Int.ediv_nonneg ha.1 (Int.le_of_lt (Pl.pw_pos _))) (Int.le_trans (Int.ediv_le_self _ ha.1) ha.2)) rfl, (Below.refl _ _).alloc (Nat.le_refl _) _⟩
set_option maxHeartbeats 400000 in
theorem implAlu_8 (a b : Int) (w : World) : Calls Tryz.prog 106 #[.int .i64 8, .int .i64 a, .int .i64 b] w fun e w' => e = .returned (.tuple #[.int .i64 (Pl.al 8 (Pl.wd a) (Pl.wd b)), .bool true]) ∧ Below w.heap.size w w' := by
  have hi : ∀ w, (Instr.index 130 (.agg opsTab) (.int .i64 8)).run Tryz.prog w = .ok (.func (.func 143) #[] #[]) w := fun _ => by kernel_rfl
  have ha := Pl.wd_bd a
  have hb := Pl.wd_bd b
  have ha' := Pl.sg_bd (Pl.wd a)
  have hb' := Pl.sg_bd (Pl.wd b)
  have hs : 0 ≤ Pl.wd b % 32 := by omega
  have hk : (Pl.wd b % 32).toNat ≤ 31 := by omega
  have HK : Hid ((Pl.wd b % 32).toNat ≤ 31) := hk
  clear hk
  go_enter Tryz.func106, Tryz.ntmps106
  go_wp2_with (first | (go_at_call 121; refine (operations_any _).mono ?_; rintro e w1 ⟨rfl, rfl⟩) | (go_at_call 64; refine (implWord_any _ _).mono ?_; rintro e w1 ⟨rfl, rfl⟩) | (go_at_call 109; refine (implSigned_any _ _).mono ?_; rintro e w1 ⟨rfl, rfl⟩) | (go_at_call 138; refine (shiftBy_any _ _).mono ?_; rintro e w1 ⟨rfl, rfl⟩) | go_in)
  go_ret2
  exact ⟨ret2 (rfl) rfl, (Below.refl _ _).alloc (Nat.le_refl _) _⟩
set_option maxHeartbeats 400000 in
theorem implAlu_9 (a b : Int) (w : World) : Calls Tryz.prog 106 #[.int .i64 9, .int .i64 a, .int .i64 b] w fun e w' => e = .returned (.tuple #[.int .i64 (Pl.al 9 (Pl.wd a) (Pl.wd b)), .bool true]) ∧ Below w.heap.size w w' := by
  have hi : ∀ w, (Instr.index 130 (.agg opsTab) (.int .i64 9)).run Tryz.prog w = .ok (.func (.func 144) #[] #[]) w := fun _ => by kernel_rfl
  have ha := Pl.wd_bd a
  have hb := Pl.wd_bd b
  go_enter Tryz.func106, Tryz.ntmps106
  go_wp2_with (first | (go_at_call 121; refine (operations_any _).mono ?_; rintro e w1 ⟨rfl, rfl⟩) | (go_at_call 64; refine (implWord_any _ _).mono ?_; rintro e w1 ⟨rfl, rfl⟩) | (go_at_call 109; refine (implSigned_any _ _).mono ?_; rintro e w1 ⟨rfl, rfl⟩) | (go_at_call 138; refine (shiftBy_any _ _).mono ?_; rintro e w1 ⟨rfl, rfl⟩) | go_in)
  go_ret2
  exact ⟨ret2 ((Pl.bits_int _ _ ha.1 ha.2 hb.1 hb.2).2.1) rfl, (Below.refl _ _).alloc (Nat.le_refl _) _⟩
end Go.Proofs.YtjdfffdeljgenaaGreatDoor.W
namespace Go.Proofs.YtjdfffdeljgenaaGreatDoor.W
open Go.RowKit
set_option maxHeartbeats 400000 in
theorem implAlu_10 (a b : Int) (w : World) : Calls Tryz.prog 106 #[.int .i64 10, .int .i64 a, .int .i64 b] w fun e w' => e = .returned (.tuple #[.int .i64 (Pl.al 10 (Pl.wd a) (Pl.wd b)), .bool true]) ∧ Below w.heap.size w w' := by
  have hi : ∀ w, (Instr.index 130 (.agg opsTab) (.int .i64 10)).run Tryz.prog w = .ok (.func (.func 145) #[] #[]) w := fun _ => by kernel_rfl
  have ha := Pl.wd_bd a
  have hb := Pl.wd_bd b
  go_enter Tryz.func106, Tryz.ntmps106
  go_wp2_with (first | (go_at_call 121; refine (operations_any _).mono ?_; rintro e w1 ⟨rfl, rfl⟩) | (go_at_call 64; refine (implWord_any _ _).mono ?_; rintro e w1 ⟨rfl, rfl⟩) | (go_at_call 109; refine (implSigned_any _ _).mono ?_; rintro e w1 ⟨rfl, rfl⟩) | (go_at_call 138; refine (shiftBy_any _ _).mono ?_; rintro e w1 ⟨rfl, rfl⟩) | go_in)
  go_ret2
  exact ⟨ret2 ((Pl.bits_int _ _ ha.1 ha.2 hb.1 hb.2).1) rfl, (Below.refl _ _).alloc (Nat.le_refl _) _⟩
set_option maxHeartbeats 400000 in
theorem implAlu_11 (a b : Int) (w : World) : Calls Tryz.prog 106 #[.int .i64 11, .int .i64 a, .int .i64 b] w fun e w' => e = .returned (.tuple #[.int .i64 (Pl.al 11 (Pl.wd a) (Pl.wd b)), .bool true]) ∧ Below w.heap.size w w' := by
  have hi : ∀ w, (Instr.index 130 (.agg opsTab) (.int .i64 11)).run Tryz.prog w = .ok (.func (.func 146) #[] #[]) w := fun _ => by kernel_rfl
  have ha := Pl.wd_bd a
  have hb := Pl.wd_bd b
  go_enter Tryz.func106, Tryz.ntmps106
  go_wp2_with (first | (go_at_call 121; refine (operations_any _).mono ?_; rintro e w1 ⟨rfl, rfl⟩) | (go_at_call 64; refine (implWord_any _ _).mono ?_; rintro e w1 ⟨rfl, rfl⟩) | (go_at_call 109; refine (implSigned_any _ _).mono ?_; rintro e w1 ⟨rfl, rfl⟩) | (go_at_call 138; refine (shiftBy_any _ _).mono ?_; rintro e w1 ⟨rfl, rfl⟩) | go_in)
  go_ret2
  exact ⟨ret2 (Pl.wd_wrap64 _) rfl, (Below.refl _ _).alloc (Nat.le_refl _) _⟩
set_option maxHeartbeats 400000 in
theorem implAlu_12 (a b : Int) (w : World) : Calls Tryz.prog 106 #[.int .i64 12, .int .i64 a, .int .i64 b] w fun e w' => e = .returned (.tuple #[.int .i64 (Pl.al 12 (Pl.wd a) (Pl.wd b)), .bool true]) ∧ Below w.heap.size w w' := by
  have hi : ∀ w, (Instr.index 130 (.agg opsTab) (.int .i64 12)).run Tryz.prog w = .ok (.func (.func 147) #[] #[]) w := fun _ => by kernel_rfl
  have ha := Pl.wd_bd a
  have hb := Pl.wd_bd b
  have ha' := Pl.sg_bd (Pl.wd a)
  have hb' := Pl.sg_bd (Pl.wd b)
  have hp : -4611686018427387904 ≤ Pl.sg (Pl.wd a) * Pl.sg (Pl.wd b) ∧ Pl.sg (Pl.wd a) * Pl.sg (Pl.wd b) ≤ 4611686018427387904 := Pl.mul_bd _ _ 2147483648 2147483648 (by decide) (by omega) (by omega) (by omega) (by omega)
  go_enter Tryz.func106, Tryz.ntmps106
  go_wp2_with (first | (go_at_call 121; refine (operations_any _).mono ?_; rintro e w1 ⟨rfl, rfl⟩) | (go_at_call 64; refine (implWord_any _ _).mono ?_; rintro e w1 ⟨rfl, rfl⟩) | (go_at_call 109; refine (implSigned_any _ _).mono ?_; rintro e w1 ⟨rfl, rfl⟩) | (go_at_call 138; refine (shiftBy_any _ _).mono ?_; rintro e w1 ⟨rfl, rfl⟩) | go_in)
  go_ret2
  exact ⟨ret2 (rfl) rfl, (Below.refl _ _).alloc (Nat.le_refl _) _⟩
set_option maxHeartbeats 400000 in
theorem implAlu_13 (a b : Int) (w : World) : Calls Tryz.prog 106 #[.int .i64 13, .int .i64 a, .int .i64 b] w fun e w' => e = .returned (.tuple #[.int .i64 (Pl.al 13 (Pl.wd a) (Pl.wd b)), .bool true]) ∧ Below w.heap.size w w' := by
  have hi : ∀ w, (Instr.index 130 (.agg opsTab) (.int .i64 13)).run Tryz.prog w = .ok (.func (.func 148) #[] #[]) w := fun _ => by kernel_rfl
  have ha := Pl.wd_bd a
  have hb := Pl.wd_bd b
  have ha' := Pl.sg_bd (Pl.wd a)
  have hb' := Pl.sg_bd (Pl.wd b)
  have hp : -9223372034707292160 ≤ Pl.sg (Pl.wd a) * Pl.wd b ∧ Pl.sg (Pl.wd a) * Pl.wd b ≤ 9223372034707292160 := Pl.mul_bd _ _ 2147483648 4294967295 (by decide) (by omega) (by omega) (by omega) (by omega)
  go_enter Tryz.func106, Tryz.ntmps106
  go_wp2_with (first | (go_at_call 121; refine (operations_any _).mono ?_; rintro e w1 ⟨rfl, rfl⟩) | (go_at_call 64; refine (implWord_any _ _).mono ?_; rintro e w1 ⟨rfl, rfl⟩) | (go_at_call 109; refine (implSigned_any _ _).mono ?_; rintro e w1 ⟨rfl, rfl⟩) | (go_at_call 138; refine (shiftBy_any _ _).mono ?_; rintro e w1 ⟨rfl, rfl⟩) | go_in)
  go_ret2
  exact ⟨ret2 (rfl) rfl, (Below.refl _ _).alloc (Nat.le_refl _) _⟩
set_option maxHeartbeats 400000 in
theorem implAlu_14 (a b : Int) (w : World) : Calls Tryz.prog 106 #[.int .i64 14, .int .i64 a, .int .i64 b] w fun e w' => e = .returned (.tuple #[.int .i64 (Pl.al 14 (Pl.wd a) (Pl.wd b)), .bool true]) ∧ Below w.heap.size w w' := by
  have hi : ∀ w, (Instr.index 130 (.agg opsTab) (.int .i64 14)).run Tryz.prog w = .ok (.func (.func 149) #[] #[]) w := fun _ => by kernel_rfl
  have ha := Pl.wd_bd a
  have hb := Pl.wd_bd b
  have hp : -18446744065119617025 ≤ Pl.wd a * Pl.wd b ∧ Pl.wd a * Pl.wd b ≤ 18446744065119617025 := Pl.mul_bd _ _ 4294967295 4294967295 (by decide) (by omega) (by omega) (by omega) (by omega)
  have hq : 0 ≤ Pl.wd a * Pl.wd b := Int.mul_nonneg ha.1 hb.1
  go_enter Tryz.func106, Tryz.ntmps106
  go_wp2_with (first | (go_at_call 121; refine (operations_any _).mono ?_; rintro e w1 ⟨rfl, rfl⟩) | (go_at_call 64; refine (implWord_any _ _).mono ?_; rintro e w1 ⟨rfl, rfl⟩) | (go_at_call 109; refine (implSigned_any _ _).mono ?_; rintro e w1 ⟨rfl, rfl⟩) | (go_at_call 138; refine (shiftBy_any _ _).mono ?_; rintro e w1 ⟨rfl, rfl⟩) | go_in)
  go_ret2
  exact ⟨ret2 (rfl) rfl, (Below.refl _ _).alloc (Nat.le_refl _) _⟩
set_option maxHeartbeats 400000 in
theorem implAlu_15 (a b : Int) (w : World) : Calls Tryz.prog 106 #[.int .i64 15, .int .i64 a, .int .i64 b] w fun e w' => e = .returned (.tuple #[.int .i64 (Pl.al 15 (Pl.wd a) (Pl.wd b)), .bool true]) ∧ Below w.heap.size w w' := by
  have hi : ∀ w, (Instr.index 130 (.agg opsTab) (.int .i64 15)).run Tryz.prog w = .ok (.func (.func 150) #[] #[]) w := fun _ => by kernel_rfl
  have ha := Pl.wd_bd a
  have hb := Pl.wd_bd b
  have ha' := Pl.sg_bd (Pl.wd a)
  have hb' := Pl.sg_bd (Pl.wd b)
  by_cases h : Pl.wd b = 0
  · have H : Hid (Pl.wd b = 0) := h
    have h0 : Pl.sg (Pl.wd b) = 0 := by rw [h]; rfl
    clear h
    go_enter Tryz.func106, Tryz.ntmps106
    go_wp2_with (first | (go_at_call 121; refine (operations_any _).mono ?_; rintro e w1 ⟨rfl, rfl⟩) | (go_at_call 64; refine (implWord_any _ _).mono ?_; rintro e w1 ⟨rfl, rfl⟩) | (go_at_call 109; refine (implSigned_any _ _).mono ?_; rintro e w1 ⟨rfl, rfl⟩) | (go_at_call 138; refine (shiftBy_any _ _).mono ?_; rintro e w1 ⟨rfl, rfl⟩) | go_in)
    go_ret2
    exact ⟨ret2 (by show _ = (if _ = (0 : Int) then _ else _); rw [if_pos H.out]; rfl) rfl, (Below.refl _ _).alloc (Nat.le_refl _) _⟩
  · have h0 : ¬ Pl.sg (Pl.wd b) = 0 := by unfold Pl.sg; omega
    have ht := Pl.tdiv_small (Pl.sg (Pl.wd a)) (Pl.sg (Pl.wd b)) 2147483648 (by omega) (by omega)
    have H : Hid (¬ Pl.wd b = 0) := h
    clear h
    go_enter Tryz.func106, Tryz.ntmps106
    go_wp2_with (first | (go_at_call 121; refine (operations_any _).mono ?_; rintro e w1 ⟨rfl, rfl⟩) | (go_at_call 64; refine (implWord_any _ _).mono ?_; rintro e w1 ⟨rfl, rfl⟩) | (go_at_call 109; refine (implSigned_any _ _).mono ?_; rintro e w1 ⟨rfl, rfl⟩) | (go_at_call 138; refine (shiftBy_any _ _).mono ?_; rintro e w1 ⟨rfl, rfl⟩) | go_in)
    go_ret2
    exact ⟨ret2 (by show _ = (if _ = (0 : Int) then _ else _); rw [if_neg H.out]) rfl, (Below.refl _ _).alloc (Nat.le_refl _) _⟩
set_option maxHeartbeats 400000 in
theorem implAlu_16 (a b : Int) (w : World) : Calls Tryz.prog 106 #[.int .i64 16, .int .i64 a, .int .i64 b] w fun e w' => e = .returned (.tuple #[.int .i64 (Pl.al 16 (Pl.wd a) (Pl.wd b)), .bool true]) ∧ Below w.heap.size w w' := by
  have hi : ∀ w, (Instr.index 130 (.agg opsTab) (.int .i64 16)).run Tryz.prog w = .ok (.func (.func 151) #[] #[]) w := fun _ => by kernel_rfl
  have ha := Pl.wd_bd a
  have hb := Pl.wd_bd b
  by_cases h : Pl.wd b = 0
  · have H : Hid (Pl.wd b = 0) := h
    have h0 : Pl.wd b = 0 := h
    clear h
    go_enter Tryz.func106, Tryz.ntmps106
    go_wp2_with (first | (go_at_call 121; refine (operations_any _).mono ?_; rintro e w1 ⟨rfl, rfl⟩) | (go_at_call 64; refine (implWord_any _ _).mono ?_; rintro e w1 ⟨rfl, rfl⟩) | (go_at_call 109; refine (implSigned_any _ _).mono ?_; rintro e w1 ⟨rfl, rfl⟩) | (go_at_call 138; refine (shiftBy_any _ _).mono ?_; rintro e w1 ⟨rfl, rfl⟩) | go_in)
    go_ret2
    exact ⟨ret2 (by show _ = (if _ = (0 : Int) then _ else _); rw [if_pos H.out]; rfl) rfl, (Below.refl _ _).alloc (Nat.le_refl _) _⟩
  · have h0 : ¬ Pl.wd b = 0 := h
    have h1 : 1 ≤ Pl.wd b := by omega
    have H : Hid (¬ Pl.wd b = 0) := h
    clear h
    go_enter Tryz.func106, Tryz.ntmps106
    go_wp2_with (first | (go_at_call 121; refine (operations_any _).mono ?_; rintro e w1 ⟨rfl, rfl⟩) | (go_at_call 64; refine (implWord_any _ _).mono ?_; rintro e w1 ⟨rfl, rfl⟩) | (go_at_call 109; refine (implSigned_any _ _).mono ?_; rintro e w1 ⟨rfl, rfl⟩) | (go_at_call 138; refine (shiftBy_any _ _).mono ?_; rintro e w1 ⟨rfl, rfl⟩) | go_in)
    go_ret2
    exact ⟨ret2 (by show _ = (if _ = (0 : Int) then _ else _); rw [if_neg H.out]) rfl, (Below.refl _ _).alloc (Nat.le_refl _) _⟩
set_option maxHeartbeats 400000 in
theorem implAlu_17 (a b : Int) (w : World) : Calls Tryz.prog 106 #[.int .i64 17, .int .i64 a, .int .i64 b] w fun e w' => e = .returned (.tuple #[.int .i64 (Pl.al 17 (Pl.wd a) (Pl.wd b)), .bool true]) ∧ Below w.heap.size w w' := by
  have hi : ∀ w, (Instr.index 130 (.agg opsTab) (.int .i64 17)).run Tryz.prog w = .ok (.func (.func 152) #[] #[]) w := fun _ => by kernel_rfl
  have ha := Pl.wd_bd a
  have hb := Pl.wd_bd b
  have ha' := Pl.sg_bd (Pl.wd a)
  have hb' := Pl.sg_bd (Pl.wd b)
  by_cases h : Pl.wd b = 0
  · have H : Hid (Pl.wd b = 0) := h
    have h0 : Pl.sg (Pl.wd b) = 0 := by rw [h]; rfl
    clear h
    go_enter Tryz.func106, Tryz.ntmps106
    go_wp2_with (first | (go_at_call 121; refine (operations_any _).mono ?_; rintro e w1 ⟨rfl, rfl⟩) | (go_at_call 64; refine (implWord_any _ _).mono ?_; rintro e w1 ⟨rfl, rfl⟩) | (go_at_call 109; refine (implSigned_any _ _).mono ?_; rintro e w1 ⟨rfl, rfl⟩) | (go_at_call 138; refine (shiftBy_any _ _).mono ?_; rintro e w1 ⟨rfl, rfl⟩) | go_in)
    go_ret2
    exact ⟨ret2 (by show _ = (if _ = (0 : Int) then _ else _); rw [if_pos H.out]; exact Pl.wd_sg _ ha.1 ha.2) rfl, (Below.refl _ _).alloc (Nat.le_refl _) _⟩
  · have h0 : ¬ Pl.sg (Pl.wd b) = 0 := by unfold Pl.sg; omega
    have ht := Pl.tdiv_small (Pl.sg (Pl.wd a)) (Pl.sg (Pl.wd b)) 2147483648 (by omega) (by omega)
    have H : Hid (¬ Pl.wd b = 0) := h
    clear h
    go_enter Tryz.func106, Tryz.ntmps106
    go_wp2_with (first | (go_at_call 121; refine (operations_any _).mono ?_; rintro e w1 ⟨rfl, rfl⟩) | (go_at_call 64; refine (implWord_any _ _).mono ?_; rintro e w1 ⟨rfl, rfl⟩) | (go_at_call 109; refine (implSigned_any _ _).mono ?_; rintro e w1 ⟨rfl, rfl⟩) | (go_at_call 138; refine (shiftBy_any _ _).mono ?_; rintro e w1 ⟨rfl, rfl⟩) | go_in)
    go_ret2
    exact ⟨ret2 (by show _ = (if _ = (0 : Int) then _ else _); rw [if_neg H.out]) rfl, (Below.refl _ _).alloc (Nat.le_refl _) _⟩
set_option maxHeartbeats 400000 in
theorem implAlu_18 (a b : Int) (w : World) : Calls Tryz.prog 106 #[.int .i64 18, .int .i64 a, .int .i64 b] w fun e w' => e = .returned (.tuple #[.int .i64 (Pl.al 18 (Pl.wd a) (Pl.wd b)), .bool true]) ∧ Below w.heap.size w w' := by
  have hi : ∀ w, (Instr.index 130 (.agg opsTab) (.int .i64 18)).run Tryz.prog w = .ok (.func (.func 153) #[] #[]) w := fun _ => by kernel_rfl
  have ha := Pl.wd_bd a
  have hb := Pl.wd_bd b
  by_cases h : Pl.wd b = 0
  · have H : Hid (Pl.wd b = 0) := h
    have h0 : Pl.wd b = 0 := h
    clear h
    go_enter Tryz.func106, Tryz.ntmps106
    go_wp2_with (first | (go_at_call 121; refine (operations_any _).mono ?_; rintro e w1 ⟨rfl, rfl⟩) | (go_at_call 64; refine (implWord_any _ _).mono ?_; rintro e w1 ⟨rfl, rfl⟩) | (go_at_call 109; refine (implSigned_any _ _).mono ?_; rintro e w1 ⟨rfl, rfl⟩) | (go_at_call 138; refine (shiftBy_any _ _).mono ?_; rintro e w1 ⟨rfl, rfl⟩) | go_in)
    go_ret2
    exact ⟨ret2 (by show _ = (if _ = (0 : Int) then _ else _); rw [if_pos H.out]; exact Pl.wd_word _ ha.1 ha.2) rfl, (Below.refl _ _).alloc (Nat.le_refl _) _⟩
  · have h0 : ¬ Pl.wd b = 0 := h
    have h1 : 1 ≤ Pl.wd b := by omega
    have H : Hid (¬ Pl.wd b = 0) := h
    clear h
    go_enter Tryz.func106, Tryz.ntmps106
    go_wp2_with (first | (go_at_call 121; refine (operations_any _).mono ?_; rintro e w1 ⟨rfl, rfl⟩) | (go_at_call 64; refine (implWord_any _ _).mono ?_; rintro e w1 ⟨rfl, rfl⟩) | (go_at_call 109; refine (implSigned_any _ _).mono ?_; rintro e w1 ⟨rfl, rfl⟩) | (go_at_call 138; refine (shiftBy_any _ _).mono ?_; rintro e w1 ⟨rfl, rfl⟩) | go_in)
    go_ret2
    exact ⟨ret2 (by show _ = (if _ = (0 : Int) then _ else _); rw [if_neg H.out]) rfl, (Below.refl _ _).alloc (Nat.le_refl _) _⟩
end Go.Proofs.YtjdfffdeljgenaaGreatDoor.W
namespace Go.Proofs.YtjdfffdeljgenaaGreatDoor.W
open Go.RowKit
theorem floor_any (n d : Int) (hd : 0 < d) (hd' : d ≤ 4611686018427387904) (h1 : -4611686018427387904 ≤ n) (h2 : n ≤ 4611686018427387904) (w : World) : Calls Tryz.prog 119 #[.int .i64 n, .int .i64 d] w fun e w' => e = .returned (.int .i64 (n / d)) ∧ w' = w := by
  have hb := Pl.tdiv_bd n d hd 4611686018427387904 h1 h2
  by_cases h : n.tmod d < 0
  · have h0 : n < 0 := by
      rcases Pl.tmod_cases n d with ⟨h0, h'⟩ | ⟨h0, h'⟩
      · have := Int.emod_nonneg n (Int.ne_of_gt hd); omega
      · exact h0
    have he := Pl.floor_neg n d hd h
    have HE : Hid (n.tdiv d - 1 = n / d) := he
    clear he
    go_enter Tryz.func119, Tryz.ntmps119
    go_wp2
    go_ret
    exact ⟨ret_int HE.out, rfl⟩
  · by_cases h0 : 0 ≤ n
    · have h' : ¬ n % d < 0 := by have := Int.emod_nonneg n (Int.ne_of_gt hd); omega
      clear h hb
      go_enter Tryz.func119, Tryz.ntmps119
      go_wp2
      go_ret
      exact ⟨rfl, rfl⟩
    · have he := Pl.floor_pos n d hd (by omega)
      have HE : Hid (n.tdiv d = n / d) := he
      clear he
      go_enter Tryz.func119, Tryz.ntmps119
      go_wp2
      go_ret
      exact ⟨ret_int HE.out, rfl⟩
theorem ret_ii {k l : IntKind} {a b c d : Int} (h : a = b) (h' : c = d) : Ending.returned (.tuple #[.int k a, .int l c]) = .returned (.tuple #[.int k b, .int l d]) := by rw [h, h']
theorem divide_u (a b : Int) (a1 : 0 ≤ a) (a2 : a ≤ 4294967295) (b1 : 1 ≤ b) (b2 : b ≤ 4294967295) (w : World) : Calls Tryz.prog 120 #[.int .i64 a, .int .i64 b] w fun e w' => e = .returned (.tuple #[.int .i64 (a / b), .int .i64 (a % b)]) ∧ w' = w := by
  have hb : (b == 0) = false := by simp; omega
  have h1 := Int.ediv_nonneg a1 (by omega : 0 ≤ b)
  have h2 := Int.ediv_le_self b a1
  have h3 := Int.emod_nonneg a (by omega : b ≠ 0)
  have h4 := Int.emod_lt_of_pos a (by omega : 0 < b)
  have h5 : a / b * b = a - a % b := by have := Int.mul_ediv_add_emod a b; rw [Int.mul_comm] at this; omega
  have h6 : 0 ≤ a / b * b := by rw [h5]; have := Int.mul_nonneg h1 (by omega : 0 ≤ b); rw [h5] at this; exact this
  have h7 : a / b * b ≤ 4294967295 := by rw [h5]; omega
  have H : Hid (a / b * b = a - a % b) := h5
  clear h5
  go_enter Tryz.func120, Tryz.ntmps120
  go_wp2
  go_ret2
  exact ⟨ret_ii rfl (by rw [H.out]; omega), rfl⟩
theorem divide_s (a b : Int) (a1 : -4294967296 ≤ a) (a2 : a ≤ 4294967296) (hb : ¬ b = 0) (w : World) : Calls Tryz.prog 120 #[.int .i64 a, .int .i64 b] w fun e w' => e = .returned (.tuple #[.int .i64 (a.tdiv b), .int .i64 (a.tmod b)]) ∧ w' = w := by
  have h1 := Pl.tdiv_small a b 4294967296 a1 a2
  have h2 := Pl.tmod_small a b 4294967296 a1 a2
  have h5 := Pl.tdiv_mul a b
  have h6 : -8589934592 ≤ a.tdiv b * b ∧ a.tdiv b * b ≤ 8589934592 := by rw [h5]; omega
  have H : Hid (a.tdiv b * b = a - a.tmod b) := h5
  clear h5
  go_enter Tryz.func120, Tryz.ntmps120
  go_wp2
  go_ret2
  exact ⟨ret_ii rfl (by rw [H.out]; omega), rfl⟩
set_option maxHeartbeats 400000 in
theorem high_any (a b : Int) (a1 : -2147483648 ≤ a) (a2 : a ≤ 4294967295) (b1 : -2147483648 ≤ b) (b2 : b ≤ 4294967295) (w : World) : Calls Tryz.prog 101 #[.int .i64 a, .int .i64 b] w fun e w' => e = .returned (.int .i64 (a * b / 4294967296)) ∧ w' = w := by
  have hl := Pl.and65535 b
  have p1 : -562949953421312 ≤ a * ((b - b % 65536) / 65536) ∧ a * ((b - b % 65536) / 65536) ≤ 562949953421312 := Pl.mul_bd a _ 4294967296 131072 (by decide) (by omega) (by omega) (by omega) (by omega)
  have p2 : -562949953421312 ≤ a * (b % 65536) ∧ a * (b % 65536) ≤ 562949953421312 := Pl.mul_bd a _ 4294967296 131072 (by decide) (by omega) (by omega) (by omega) (by omega)
  have H : Hid ((a * ((b - b % 65536) / 65536) + a * (b % 65536) / 65536) / 65536 = a * b / 4294967296) := Pl.high_eq a b
  go_enter Tryz.func101, Tryz.ntmps101
  go_wp2_with (go_at_call 119; refine (floor_any _ _ (by omega) (by omega) (by omega) (by omega) _).mono ?_; rintro e w' ⟨rfl, rfl⟩)
  go_ret
  exact ⟨ret_int H.out, rfl⟩
set_option maxHeartbeats 400000 in
theorem bits_and_any (A B : Nat) (hA : A < 4294967296) (hB : B < 4294967296) (w : World) : Calls Tryz.prog 100 #[.int .i64 1, .int .i64 A, .int .i64 B] w fun e w' => e = .returned (.int .i64 ((A &&& B : Nat) : Int)) ∧ w' = w := by
  have hfin := Pl.bsum_and A B hA
  generalize hf : (fun i => A.testBit i && B.testBit i) = f at hfin
  have hfk : ∀ k, f k = (A.testBit k && B.testBit k) := fun k => by rw [← hf]
  have HF : Hid (Pl.bsum f 32 = A &&& B) := hfin
  have HK : Hid (∀ k, f k = (A.testBit k && B.testBit k)) := hfk
  clear hfin hfk hf
  go_enter Tryz.func100, Tryz.ntmps100
  go_wp2
  go_loop [7, 8, 9] (fun v p i => ∃ k : Nat, k ≤ 32 ∧ i = .int .i64 k ∧ p = .int .i64 (Pl.pw k) ∧ v = .int .i64 ((Pl.bsum f k : Nat) : Int)) (fun _ _ i => 32 - (intOf i).toNat)
  case atStart => exact ⟨0, Nat.zero_le _, rfl, rfl, rfl⟩
  case round =>
    obtain ⟨k, hk, rfl, rfl, rfl⟩ := hrel
    have h1 := Pl.pw_pos k
    have h2 := Pl.bsum_pw f k
    by_cases hlt : k < 32
    · have h3 : Pl.pw k ≤ 2147483648 := Pl.pw_mono (show k ≤ 31 by omega)
      have q1 : 0 ≤ (A : Int) / Pl.pw k := Int.ediv_nonneg (by omega) (by omega)
      have q2 : 0 ≤ (B : Int) / Pl.pw k := Int.ediv_nonneg (by omega) (by omega)
      have q3 : (A : Int) / Pl.pw k ≤ 4294967295 := by have := Int.ediv_le_self (Pl.pw k) (show 0 ≤ (A : Int) by omega); omega
      have q4 : (B : Int) / Pl.pw k ≤ 4294967295 := by have := Int.ediv_le_self (Pl.pw k) (show 0 ≤ (B : Int) by omega); omega
      have bA := Pl.bit_of A k
      have bB := Pl.bit_of B k
      have S : Hid _ := Pl.bsum_step f k
      have P2 : Hid _ := Pl.pw_succ k
      cases tA : A.testBit k <;> cases tB : B.testBit k
      all_goals
        rw [tA] at bA
        rw [tB] at bB
        simp only [if_true, if_false, Bool.false_eq_true] at bA bB
        have hfv := HK.out k
        rw [tA, tB] at hfv
        have HV : Hid _ := hfv
        clear tA tB hfv
        go_wp2
        go_round
        case rel => exact ⟨k + 1, by omega, by go_num, by rw [P2.out], by rw [S.out, HV.out]; simp⟩
        case measure => simp [intOf]; omega
    · have e : k = 32 := by omega
      subst e
      go_wp2
      go_ret
      exact ⟨ret_int (by rw [HF.out]), rfl⟩
set_option maxHeartbeats 400000 in
theorem bits_or_any (A B : Nat) (hA : A < 4294967296) (hB : B < 4294967296) (w : World) : Calls Tryz.prog 100 #[.int .i64 2, .int .i64 A, .int .i64 B] w fun e w' => e = .returned (.int .i64 ((A ||| B : Nat) : Int)) ∧ w' = w := by
  have hfin := Pl.bsum_or A B hA hB
  generalize hf : (fun i => A.testBit i || B.testBit i) = f at hfin
  have hfk : ∀ k, f k = (A.testBit k || B.testBit k) := fun k => by rw [← hf]
  have HF : Hid (Pl.bsum f 32 = A ||| B) := hfin
  have HK : Hid (∀ k, f k = (A.testBit k || B.testBit k)) := hfk
  clear hfin hfk hf
  go_enter Tryz.func100, Tryz.ntmps100
  go_wp2
  go_loop [7, 8, 9] (fun v p i => ∃ k : Nat, k ≤ 32 ∧ i = .int .i64 k ∧ p = .int .i64 (Pl.pw k) ∧ v = .int .i64 ((Pl.bsum f k : Nat) : Int)) (fun _ _ i => 32 - (intOf i).toNat)
  case atStart => exact ⟨0, Nat.zero_le _, rfl, rfl, rfl⟩
  case round =>
    obtain ⟨k, hk, rfl, rfl, rfl⟩ := hrel
    have h1 := Pl.pw_pos k
    have h2 := Pl.bsum_pw f k
    by_cases hlt : k < 32
    · have h3 : Pl.pw k ≤ 2147483648 := Pl.pw_mono (show k ≤ 31 by omega)
      have q1 : 0 ≤ (A : Int) / Pl.pw k := Int.ediv_nonneg (by omega) (by omega)
      have q2 : 0 ≤ (B : Int) / Pl.pw k := Int.ediv_nonneg (by omega) (by omega)
      have q3 : (A : Int) / Pl.pw k ≤ 4294967295 := by have := Int.ediv_le_self (Pl.pw k) (show 0 ≤ (A : Int) by omega); omega
      have q4 : (B : Int) / Pl.pw k ≤ 4294967295 := by have := Int.ediv_le_self (Pl.pw k) (show 0 ≤ (B : Int) by omega); omega
      have bA := Pl.bit_of A k
      have bB := Pl.bit_of B k
      have S : Hid _ := Pl.bsum_step f k
      have P2 : Hid _ := Pl.pw_succ k
      cases tA : A.testBit k <;> cases tB : B.testBit k
      all_goals
        rw [tA] at bA
        rw [tB] at bB
        simp only [if_true, if_false, Bool.false_eq_true] at bA bB
        have hfv := HK.out k
        rw [tA, tB] at hfv
        have HV : Hid _ := hfv
        clear tA tB hfv
        go_wp2
        go_round
        case rel => exact ⟨k + 1, by omega, by go_num, by rw [P2.out], by rw [S.out, HV.out]; simp⟩
        case measure => simp [intOf]; omega
    · have e : k = 32 := by omega
      subst e
      go_wp2
      go_ret
      exact ⟨ret_int (by rw [HF.out]), rfl⟩
set_option maxHeartbeats 400000 in
theorem bits_xor_any (A B : Nat) (hA : A < 4294967296) (hB : B < 4294967296) (w : World) : Calls Tryz.prog 100 #[.int .i64 3, .int .i64 A, .int .i64 B] w fun e w' => e = .returned (.int .i64 ((A ^^^ B : Nat) : Int)) ∧ w' = w := by
  have hfin := Pl.bsum_xor A B hA hB
  generalize hf : (fun i => A.testBit i != B.testBit i) = f at hfin
  have hfk : ∀ k, f k = (A.testBit k != B.testBit k) := fun k => by rw [← hf]
  have HF : Hid (Pl.bsum f 32 = A ^^^ B) := hfin
  have HK : Hid (∀ k, f k = (A.testBit k != B.testBit k)) := hfk
  clear hfin hfk hf
  go_enter Tryz.func100, Tryz.ntmps100
  go_wp2
  go_loop [7, 8, 9] (fun v p i => ∃ k : Nat, k ≤ 32 ∧ i = .int .i64 k ∧ p = .int .i64 (Pl.pw k) ∧ v = .int .i64 ((Pl.bsum f k : Nat) : Int)) (fun _ _ i => 32 - (intOf i).toNat)
  case atStart => exact ⟨0, Nat.zero_le _, rfl, rfl, rfl⟩
  case round =>
    obtain ⟨k, hk, rfl, rfl, rfl⟩ := hrel
    have h1 := Pl.pw_pos k
    have h2 := Pl.bsum_pw f k
    by_cases hlt : k < 32
    · have h3 : Pl.pw k ≤ 2147483648 := Pl.pw_mono (show k ≤ 31 by omega)
      have q1 : 0 ≤ (A : Int) / Pl.pw k := Int.ediv_nonneg (by omega) (by omega)
      have q2 : 0 ≤ (B : Int) / Pl.pw k := Int.ediv_nonneg (by omega) (by omega)
      have q3 : (A : Int) / Pl.pw k ≤ 4294967295 := by have := Int.ediv_le_self (Pl.pw k) (show 0 ≤ (A : Int) by omega); omega
      have q4 : (B : Int) / Pl.pw k ≤ 4294967295 := by have := Int.ediv_le_self (Pl.pw k) (show 0 ≤ (B : Int) by omega); omega
      have bA := Pl.bit_of A k
      have bB := Pl.bit_of B k
      have S : Hid _ := Pl.bsum_step f k
      have P2 : Hid _ := Pl.pw_succ k
      cases tA : A.testBit k <;> cases tB : B.testBit k
      all_goals
        rw [tA] at bA
        rw [tB] at bB
        simp only [if_true, if_false, Bool.false_eq_true] at bA bB
        have hfv := HK.out k
        rw [tA, tB] at hfv
        have HV : Hid _ := hfv
        clear tA tB hfv
        go_wp2
        go_round
        case rel => exact ⟨k + 1, by omega, by go_num, by rw [P2.out], by rw [S.out, HV.out]; simp⟩
        case measure => simp [intOf]; omega
    · have e : k = 32 := by omega
      subst e
      go_wp2
      go_ret
      exact ⟨ret_int (by rw [HF.out]), rfl⟩
set_option maxHeartbeats 400000 in
theorem shift_l (A n : Int) (k : Nat) (hn : n = k) (hk : k ≤ 31) (a1 : 0 ≤ A) (a2 : A ≤ 4294967295) (w : World) : Calls Tryz.prog 98 #[.int .i64 3, .int .i64 A, .int .i64 n] w fun e w' => e = .returned (.int .i64 (A % Pl.pw (32 - k) * Pl.pw k)) ∧ ∃ m, w' = w.drewN m := by
  subst hn
  have p1 := Pl.pw_pos k
  have p2 := Pl.pw_pos (32 - k)
  have p3 : Pl.pw k ≤ 4294967296 := Pl.pw_mono (show k ≤ 32 by omega)
  have p4 : Pl.pw (32 - k) ≤ 4294967296 := Pl.pw_mono (show 32 - k ≤ 32 by omega)
  have hz : ¬ Pl.pw (32 - k) = 0 := by omega
  have m1 := Int.emod_nonneg A hz
  have m2 := Int.emod_lt_of_pos A p2
  have m3 : 0 ≤ A % Pl.pw (32 - k) * Pl.pw k := Int.mul_nonneg m1 (by omega)
  have m4 : A % Pl.pw (32 - k) * Pl.pw k ≤ 4294967296 * 4294967296 := (Pl.mul_bd (A % Pl.pw (32 - k)) (Pl.pw k) 4294967296 4294967296 (by decide) (by omega) (by omega) (by omega) (by omega)).2
  have m5 : A % Pl.pw (32 - k) * Pl.pw k ≤ 4294967296 := by
    have e : Pl.pw (32 - k) * Pl.pw k = 4294967296 := by
      unfold Pl.pw; rw [← Int.pow_add]; have : 32 - k + k = 32 := by omega
      rw [this]; decide
    have := Int.mul_le_mul_of_nonneg_right (Int.le_of_lt m2) (Int.le_of_lt p1); omega
  clear m4
  go_enter Tryz.func98, Tryz.ntmps98
  go_wp2_with fail
  go_quiet ((first | (go_at_call 118; exact Calls.quiet_of_same (specPower_any _ (32 - k) (by omega) (by omega) _)) | (go_at_call 118; exact Calls.quiet_of_same (specPower_any _ k (by omega) (by omega) _))))
  go_wp2
  go_ret
  exact ⟨rfl, _, rfl⟩
set_option maxHeartbeats 400000 in
theorem shift_r (A n : Int) (k : Nat) (hn : n = k) (hk : k ≤ 31) (a1 : 0 ≤ A) (a2 : A ≤ 4294967295) (w : World) : Calls Tryz.prog 98 #[.int .i64 7, .int .i64 A, .int .i64 n] w fun e w' => e = .returned (.int .i64 (A / Pl.pw k)) ∧ w' = w := by
  subst hn
  have p1 := Pl.pw_pos k
  have p3 : Pl.pw k ≤ 4294967296 := Pl.pw_mono (show k ≤ 32 by omega)
  have q1 : 0 ≤ A / Pl.pw k := Int.ediv_nonneg (by omega) (by omega)
  have q3 : A / Pl.pw k ≤ 4294967295 := by have := Int.ediv_le_self (Pl.pw k) a1; omega
  go_enter Tryz.func98, Tryz.ntmps98
  go_wp2_with (go_at_call 118; refine (specPower_any _ k (by omega) (by omega) _).mono ?_; rintro e w' ⟨rfl, rfl⟩)
  go_ret
  exact ⟨rfl, rfl⟩
set_option maxHeartbeats 400000 in
theorem shift_a (A n : Int) (k : Nat) (hn : n = k) (hk : k ≤ 31) (w : World) : Calls Tryz.prog 98 #[.int .i64 8, .int .i64 A, .int .i64 n] w fun e w' => e = .returned (.int .i64 (Pl.wd (Pl.sg A / Pl.pw k))) ∧ w' = w := by
  subst hn
  have s1 := Pl.sg_bd A
  have p1 := Pl.pw_pos k
  have p3 : Pl.pw k ≤ 4294967296 := Pl.pw_mono (show k ≤ 32 by omega)
  go_enter Tryz.func98, Tryz.ntmps98
  go_wp2_with (first | (go_at_call 99; refine (specSigned_any _ _).mono ?_; rintro e w' ⟨rfl, rfl⟩) | (go_at_call 118; refine (specPower_any _ k (by omega) (by omega) _).mono ?_; rintro e w' ⟨rfl, rfl⟩) | (go_at_call 119; refine (floor_any _ _ (by omega) (by omega) (by omega) (by omega) _).mono ?_; rintro e w' ⟨rfl, rfl⟩) | (go_at_call 75; refine (specWord_any _ _).mono ?_; rintro e w' ⟨rfl, rfl⟩))
  go_ret
  exact ⟨rfl, rfl⟩
set_option maxHeartbeats 400000 in
theorem quot_15 (A B : Int) (a1 : 0 ≤ A) (a2 : A ≤ 4294967295) (b1 : 0 ≤ B) (b2 : B ≤ 4294967295) (w : World) : Calls Tryz.prog 102 #[.int .i64 15, .int .i64 A, .int .i64 B] w fun e w' => e = .returned (.int .i64 (if B = 0 then 4294967295 else Pl.wd ((Pl.sg A).tdiv (Pl.sg B)))) ∧ w' = w := by
  by_cases h0 : B = 0
  · subst h0
    go_enter Tryz.func102, Tryz.ntmps102
    go_wp2
    go_ret
    exact ⟨rfl, rfl⟩
  · rw [if_neg h0]
    have h1 : 1 ≤ B := by omega
    have s1 := Pl.sg_bd A
    have s2 := Pl.sg_bd B
    have s3 : ¬ Pl.sg B = 0 := by unfold Pl.sg; omega
    go_enter Tryz.func102, Tryz.ntmps102
    go_wp2_with fail
    refine (divide_u _ _ a1 a2 h1 b2 _).mono ?_
    rintro e w' ⟨rfl, rfl⟩
    go_wp2_with (first | (go_at_call 99; refine (specSigned_any _ _).mono ?_; rintro e w' ⟨rfl, rfl⟩) | (go_at_call 120; refine (divide_s _ _ (by omega) (by omega) s3 _).mono ?_; rintro e w' ⟨rfl, rfl⟩) | (go_at_call 75; refine (specWord_any _ _).mono ?_; rintro e w' ⟨rfl, rfl⟩))
    go_ret
    exact ⟨rfl, rfl⟩
set_option maxHeartbeats 400000 in
theorem quot_16 (A B : Int) (a1 : 0 ≤ A) (a2 : A ≤ 4294967295) (b1 : 0 ≤ B) (b2 : B ≤ 4294967295) (w : World) : Calls Tryz.prog 102 #[.int .i64 16, .int .i64 A, .int .i64 B] w fun e w' => e = .returned (.int .i64 (if B = 0 then 4294967295 else Pl.wd (A / B))) ∧ w' = w := by
  by_cases h0 : B = 0
  · subst h0
    go_enter Tryz.func102, Tryz.ntmps102
    go_wp2
    go_ret
    exact ⟨rfl, rfl⟩
  · rw [if_neg h0]
    have h1 : 1 ≤ B := by omega
    have s1 := Pl.sg_bd A
    have s2 := Pl.sg_bd B
    have s3 : ¬ Pl.sg B = 0 := by unfold Pl.sg; omega
    go_enter Tryz.func102, Tryz.ntmps102
    go_wp2_with (first | (go_at_call 120; refine (divide_u _ _ a1 a2 h1 b2 _).mono ?_; rintro e w' ⟨rfl, rfl⟩) | (go_at_call 75; refine (specWord_any _ _).mono ?_; rintro e w' ⟨rfl, rfl⟩))
    go_ret
    exact ⟨rfl, rfl⟩
set_option maxHeartbeats 400000 in
theorem quot_17 (A B : Int) (a1 : 0 ≤ A) (a2 : A ≤ 4294967295) (b1 : 0 ≤ B) (b2 : B ≤ 4294967295) (w : World) : Calls Tryz.prog 102 #[.int .i64 17, .int .i64 A, .int .i64 B] w fun e w' => e = .returned (.int .i64 (if B = 0 then A else Pl.wd ((Pl.sg A).tmod (Pl.sg B)))) ∧ w' = w := by
  by_cases h0 : B = 0
  · subst h0
    go_enter Tryz.func102, Tryz.ntmps102
    go_wp2
    go_ret
    exact ⟨rfl, rfl⟩
  · rw [if_neg h0]
    have h1 : 1 ≤ B := by omega
    have s1 := Pl.sg_bd A
    have s2 := Pl.sg_bd B
    have s3 : ¬ Pl.sg B = 0 := by unfold Pl.sg; omega
    go_enter Tryz.func102, Tryz.ntmps102
    go_wp2_with fail
    refine (divide_u _ _ a1 a2 h1 b2 _).mono ?_
    rintro e w' ⟨rfl, rfl⟩
    go_wp2_with (first | (go_at_call 99; refine (specSigned_any _ _).mono ?_; rintro e w' ⟨rfl, rfl⟩) | (go_at_call 120; refine (divide_s _ _ (by omega) (by omega) s3 _).mono ?_; rintro e w' ⟨rfl, rfl⟩) | (go_at_call 75; refine (specWord_any _ _).mono ?_; rintro e w' ⟨rfl, rfl⟩))
    go_ret
    exact ⟨rfl, rfl⟩
set_option maxHeartbeats 400000 in
theorem quot_18 (A B : Int) (a1 : 0 ≤ A) (a2 : A ≤ 4294967295) (b1 : 0 ≤ B) (b2 : B ≤ 4294967295) (w : World) : Calls Tryz.prog 102 #[.int .i64 18, .int .i64 A, .int .i64 B] w fun e w' => e = .returned (.int .i64 (if B = 0 then A else Pl.wd (A % B))) ∧ w' = w := by
  by_cases h0 : B = 0
  · subst h0
    go_enter Tryz.func102, Tryz.ntmps102
    go_wp2
    go_ret
    exact ⟨rfl, rfl⟩
  · rw [if_neg h0]
    have h1 : 1 ≤ B := by omega
    have s1 := Pl.sg_bd A
    have s2 := Pl.sg_bd B
    have s3 : ¬ Pl.sg B = 0 := by unfold Pl.sg; omega
    go_enter Tryz.func102, Tryz.ntmps102
    go_wp2_with (first | (go_at_call 120; refine (divide_u _ _ a1 a2 h1 b2 _).mono ?_; rintro e w' ⟨rfl, rfl⟩) | (go_at_call 75; refine (specWord_any _ _).mono ?_; rintro e w' ⟨rfl, rfl⟩))
    go_ret
    exact ⟨rfl, rfl⟩
end Go.Proofs.YtjdfffdeljgenaaGreatDoor.W
