import Derived.WalkKit
import Derived.Test.YtfcfnbncgadomaaChecked
import Derived.Below
import Derived.LoopTactic
import Derived.Deep.QuietTactic
import Derived.BigQuiet
import Derived.Great.Walk
import Derived.Deep.WholeRow
import Derived.Laws.ResultCell
import Derived.Laws.Tables
import Derived.Deep.Cut
import Derived.Deep.DeepCutAuto
import Derived.Deep.CutRange
set_option linter.unusedVariables false
set_option linter.unusedSimpArgs false
namespace Go.Proofs.Ytfcfnbncgadomaa.Pl
theorem tmod_cases (n k : Int) : (0 ≤ n ∧ n.tmod k = n % k) ∨ (n < 0 ∧ n.tmod k = -((-n) % k)) := by
  by_cases h : 0 ≤ n
  · left; exact ⟨h, Int.tmod_eq_emod_of_nonneg h⟩
  · right; refine ⟨by omega, ?_⟩
    have : n = -(-n) := by omega
    rw [this, Int.neg_tmod, Int.tmod_eq_emod_of_nonneg (by omega)]; simp
theorem tdiv_cases (n k : Int) : (0 ≤ n ∧ n.tdiv k = n / k) ∨ (n < 0 ∧ n.tdiv k = -((-n) / k)) := by
  by_cases h : 0 ≤ n
  · left; exact ⟨h, Int.tdiv_eq_ediv_of_nonneg h⟩
  · right; refine ⟨by omega, ?_⟩
    have : n = -(-n) := by omega
    rw [this, Int.neg_tdiv, Int.tdiv_eq_ediv_of_nonneg (by omega)]; simp
theorem word_tmod_bd (n : Int) : -4294967295 ≤ n.tmod 4294967296 ∧ n.tmod 4294967296 ≤ 4294967295 := by
  rcases tmod_cases n 4294967296 with ⟨_, h⟩ | ⟨_, h⟩ <;> omega
theorem word_tmod (n : Int) : (n.tmod 4294967296 + 4294967296) % 4294967296 = n % 4294967296 := by
  rcases tmod_cases n 4294967296 with ⟨_, h⟩ | ⟨_, h⟩ <;> rw [h] <;> omega
/-- a number as a word; as a signed number -/
def wd (n : Int) : Int := n % 4294967296
def sg (n : Int) : Int := (n + 2147483648) % 4294967296 - 2147483648
theorem sg_wrap (n : Int) : RowKit.wrap64 (RowKit.wrap32 n) = sg n := by unfold RowKit.wrap64 RowKit.wrap32 sg; omega
theorem sg_high (n : Int) (h : 2147483648 ≤ wd n) : wd n - 4294967296 = sg n := by unfold wd at *; unfold sg; omega
theorem sg_low (n : Int) (h : wd n < 2147483648) : wd n = sg n := by unfold wd at *; unfold sg; omega
def ks (n : Int) : Int := if n = 1 ∨ n = 2 then 1 else if n = 3 ∨ n = 4 then 2 else if n = 5 then 4 else 0
theorem kind_cases (n : Int) : n = 1 ∨ n = 2 ∨ n = 3 ∨ n = 4 ∨ n = 5 ∨ ((n == 1) = false ∧ (n == 2) = false ∧ (n == 3) = false ∧ (n == 4) = false ∧ (n == 5) = false) := by
  simp; omega
theorem ks_none (n : Int) (h1 : (n == 1) = false) (h2 : (n == 2) = false) (h3 : (n == 3) = false) (h4 : (n == 4) = false) (h5 : (n == 5) = false) : 0 = ks n := by
  simp at h1 h2 h3 h4 h5; simp [ks, h1, h2, h3, h4, h5]
theorem wd_bd (n : Int) : 0 ≤ wd n ∧ wd n ≤ 4294967295 := by unfold wd; omega
theorem sg_bd (n : Int) : -2147483648 ≤ sg n ∧ sg n ≤ 2147483647 := by unfold sg; omega
end Go.Proofs.Ytfcfnbncgadomaa.Pl
namespace Go.Proofs.Ytfcfnbncgadomaa.W
open Go.RowKit
theorem ret_int {k : IntKind} {a b : Int} (h : a = b) : Ending.returned (.int k a) = .returned (.int k b) := by rw [h]
theorem ret_int_bool {k : IntKind} {a b : Int} {p : Bool} (h : a = b) : Ending.returned (.tuple #[.int k a, .bool p]) = .returned (.tuple #[.int k b, .bool p]) := by rw [h]
theorem ret_bool {a b : Bool} (h : a = b) : Ending.returned (.bool a) = .returned (.bool b) := by rw [h]
theorem implWord_any (n : Int) (w : World) : Calls Try.prog 72 #[.int .i64 n] w fun e w' => e = .returned (.int .i64 (Pl.wd n)) ∧ w' = w := by
  go_enter Try.func72, Try.ntmps72
  go_wp2
  go_ret
  exact ⟨ret_int rfl, rfl⟩
theorem specWord_any (n : Int) (w : World) : Calls Try.prog 38 #[.int .i64 n] w fun e w' => e = .returned (.int .i64 (Pl.wd n)) ∧ w' = w := by
  have h1 := Pl.word_tmod_bd n
  go_enter Try.func38, Try.ntmps38
  go_wp2
  go_ret
  exact ⟨ret_int (Pl.word_tmod n), rfl⟩
theorem specSigned_any (n : Int) (w : World) : Calls Try.prog 105 #[.int .i64 n] w fun e w' => e = .returned (.int .i64 (Pl.sg n)) ∧ w' = w := by
  have h1 := Pl.wd_bd n
  by_cases h : 2147483648 ≤ Pl.wd n
  all_goals
    go_enter Try.func105, Try.ntmps105
    go_wp2_with (go_at_call 38; refine (specWord_any _ _).mono ?_; rintro e w' ⟨rfl, rfl⟩)
    go_ret
  · exact ⟨ret_int (Pl.sg_high n h), rfl⟩
  · exact ⟨ret_int (Pl.sg_low n h), rfl⟩
/-- the bytes of a kind -/
theorem implKindSize_any (n : Int) (w : World) : Calls Try.prog 73 #[.int .i64 n] w fun e w' => e = .returned (.int .i64 (Pl.ks n)) ∧ w' = w := by
  rcases Pl.kind_cases n with rfl | rfl | rfl | rfl | rfl | ⟨h1, h2, h3, h4, h5⟩
  all_goals
    go_enter Try.func73, Try.ntmps73
    go_wp2
    go_ret
  iterate 5 exact ⟨rfl, rfl⟩
  exact ⟨ret_int (Pl.ks_none n h1 h2 h3 h4 h5), rfl⟩
theorem specKindSize_any (n : Int) (w : World) : Calls Try.prog 24 #[.int .i64 n] w fun e w' => e = .returned (.int .i64 (Pl.ks n)) ∧ w' = w := by
  rcases Pl.kind_cases n with rfl | rfl | rfl | rfl | rfl | ⟨h1, h2, h3, h4, h5⟩
  all_goals
    go_enter Try.func24, Try.ntmps24
    go_wp2
    go_ret
  iterate 5 exact ⟨rfl, rfl⟩
  exact ⟨ret_int (Pl.ks_none n h1 h2 h3 h4 h5), rfl⟩
end Go.Proofs.Ytfcfnbncgadomaa.W
namespace Go.Proofs.Ytfcfnbncgadomaa.Pl
def pw (k : Nat) : Int := 2 ^ k
theorem pw_pos (k : Nat) : 0 < pw k := by unfold pw; exact Int.pow_pos (by decide)
theorem pw_succ (k : Nat) : pw (k + 1) = pw k * 2 := by unfold pw; rw [Int.pow_succ]
theorem pw_mono {j k : Nat} (h : j ≤ k) : pw j ≤ pw k := by
  induction h with
  | refl => omega
  | step _ ih => rw [pw_succ]; have := pw_pos j; omega
theorem pw_le62 (k : Nat) (h : k ≤ 62) : pw k ≤ 4611686018427387904 := by
  have := pw_mono h; have e : pw 62 = 4611686018427387904 := by decide
  omega
def i8 (n : Int) : Int := (n + 128) % 256 - 128
def i16 (n : Int) : Int := (n + 32768) % 65536 - 32768
/-- what is widened, and whether there is such a kind -/
def nr (k n : Int) : Int := if k = 1 then wd (i8 n) else if k = 2 then n % 256 else if k = 3 then wd (i16 n) else if k = 4 then n % 65536 else if k = 5 then wd n else 0
def kb (k : Int) : Bool := decide (1 ≤ k ∧ k ≤ 5)
theorem kb_none (k : Int) (h1 : (k == 1) = false) (h2 : (k == 2) = false) (h3 : (k == 3) = false) (h4 : (k == 4) = false) (h5 : (k == 5) = false) : false = kb k := by
  simp at h1 h2 h3 h4 h5; simp [kb]; omega
theorem nr_none (k n : Int) (h1 : (k == 1) = false) (h2 : (k == 2) = false) (h3 : (k == 3) = false) (h4 : (k == 4) = false) (h5 : (k == 5) = false) : 0 = nr k n := by
  simp at h1 h2 h3 h4 h5; simp [nr, h1, h2, h3, h4, h5]
theorem nr_i8 (n : Int) : wd (RowKit.wrap64 (IntKind.i8.wrap n)) = nr 1 n := by
  have h : IntKind.i8.wrap n = i8 n := by simp only [IntKind.wrap, IntKind.bits, IntKind.signed, i8]; simp; split <;> omega
  have h2 : RowKit.wrap64 (i8 n) = i8 n := by unfold RowKit.wrap64 i8; omega
  rw [h, h2]; rfl
theorem nr_i16 (n : Int) : wd (RowKit.wrap64 (IntKind.i16.wrap n)) = nr 3 n := by
  have h : IntKind.i16.wrap n = i16 n := by simp only [IntKind.wrap, IntKind.bits, IntKind.signed, i16]; simp; split <;> omega
  have h2 : RowKit.wrap64 (i16 n) = i16 n := by unfold RowKit.wrap64 i16; omega
  rw [h, h2]; rfl
theorem nr_u16 (n : Int) : RowKit.wrap64 (IntKind.u16.wrap n) = nr 4 n := by
  have h : IntKind.u16.wrap n = n % 65536 := by simp [IntKind.wrap, IntKind.bits, IntKind.signed]
  have h2 : RowKit.wrap64 (n % 65536) = n % 65536 := by unfold RowKit.wrap64; omega
  rw [h, h2]; rfl
theorem nrs1h (n : Int) (h : 128 ≤ wd n % 256) : wd (wd n % 256 - 256) = nr 1 n := by
  show _ = wd (i8 n); unfold wd at *; unfold i8; omega
theorem nrs1l (n : Int) (h : wd n % 256 < 128) : wd (wd n % 256) = nr 1 n := by
  show _ = wd (i8 n); unfold wd at *; unfold i8; omega
theorem nrs2 (n : Int) : wd (wd n % 256) = nr 2 n := by show _ = n % 256; unfold wd; omega
theorem nrs3h (n : Int) (h : 32768 ≤ wd n % 65536) : wd (wd n % 65536 - 65536) = nr 3 n := by
  show _ = wd (i16 n); unfold wd at *; unfold i16; omega
theorem nrs3l (n : Int) (h : wd n % 65536 < 32768) : wd (wd n % 65536) = nr 3 n := by
  show _ = wd (i16 n); unfold wd at *; unfold i16; omega
theorem nrs4 (n : Int) : wd (wd n % 65536) = nr 4 n := by show _ = n % 65536; unfold wd; omega
theorem nrs5 (n : Int) : wd (wd n % 4294967296) = nr 5 n := by show _ = wd n; unfold wd; omega
end Go.Proofs.Ytfcfnbncgadomaa.Pl
namespace Go.Proofs.Ytfcfnbncgadomaa.W
open Go.RowKit
theorem ret2 {k : IntKind} {a b : Int} {p q : Bool} (h : a = b) (h' : p = q) : Ending.returned (.tuple #[.int k a, .bool p]) = .returned (.tuple #[.int k b, .bool q]) := by rw [h, h']
set_option maxHeartbeats 400000 in
theorem specPower_any (n : Int) (k : Nat) (hn : n = k) (hk : k ≤ 62) (w : World) : Calls Try.prog 37 #[.int .i64 n] w fun e w' => e = .returned (.int .i64 (Pl.pw k)) ∧ w' = w := by
  subst hn
  go_enter Try.func37, Try.ntmps37
  go_wp2
  go_loop [3, 4] (fun v i => ∃ j : Nat, j ≤ k ∧ i = .int .i64 j ∧ v = .int .i64 (Pl.pw j)) (fun _ i => k - (intOf i).toNat)
  case atStart => exact ⟨0, Nat.zero_le _, rfl, rfl⟩
  case round =>
    obtain ⟨j, hj, rfl, rfl⟩ := hrel
    have h1 := Pl.pw_pos j
    have h2 := Pl.pw_le62 j (by omega)
    by_cases hlt : j < k
    · have h3 := Pl.pw_le62 (j + 1) (by omega)
      have h4 := Pl.pw_succ j
      have h5 : Pl.pw j * 2 ≤ 4611686018427387904 := by omega
      have H : Hid (Pl.pw (j + 1) = Pl.pw j * 2) := h4
      clear h3 h4
      go_wp2
      go_round
      case rel => exact ⟨j + 1, by omega, by go_num, by rw [H.out]⟩
      case measure => simp [intOf]; omega
    · have e : j = k := by omega
      subst e
      go_wp2
      go_ret
      exact ⟨rfl, rfl⟩
theorem implNarrow_any (k n : Int) (w : World) : Calls Try.prog 62 #[.int .i64 k, .int .i64 n] w fun e w' => e = .returned (.tuple #[.int .i64 (Pl.nr k n), .bool (Pl.kb k)]) ∧ w' = w := by
  rcases Pl.kind_cases k with rfl | rfl | rfl | rfl | rfl | ⟨h1, h2, h3, h4, h5⟩
  all_goals
    go_enter Try.func62, Try.ntmps62
    go_wp2_with (first | (go_at_call 72; refine (implWord_any _ _).mono ?_; rintro e w' ⟨rfl, rfl⟩) | go_in)
    go_ret2
  · exact ⟨ret2 (Pl.nr_i8 n) rfl, rfl⟩
  · exact ⟨ret2 rfl rfl, rfl⟩
  · exact ⟨ret2 (Pl.nr_i16 n) rfl, rfl⟩
  · exact ⟨ret2 (Pl.nr_u16 n) rfl, rfl⟩
  · exact ⟨ret2 rfl rfl, rfl⟩
  · exact ⟨ret2 (Pl.nr_none k n h1 h2 h3 h4 h5) (Pl.kb_none k h1 h2 h3 h4 h5), rfl⟩
theorem specPower8 (w : World) : Calls Try.prog 37 #[.int .i64 8] w fun e w' => e = .returned (.int .i64 256) ∧ w' = w := specPower_any 8 8 rfl (by decide) w
theorem specPower16 (w : World) : Calls Try.prog 37 #[.int .i64 16] w fun e w' => e = .returned (.int .i64 65536) ∧ w' = w := specPower_any 16 16 rfl (by decide) w
theorem specPower32 (w : World) : Calls Try.prog 37 #[.int .i64 32] w fun e w' => e = .returned (.int .i64 4294967296) ∧ w' = w := specPower_any 32 32 rfl (by decide) w
theorem ks0 (k : Int) (w : World) (h1 : (k == 1) = false) (h2 : (k == 2) = false) (h3 : (k == 3) = false) (h4 : (k == 4) = false) (h5 : (k == 5) = false) :
    Calls Try.prog 24 #[.int .i64 k] w fun e w' => e = .returned (.int .i64 0) ∧ w' = w := by
  have := specKindSize_any k w
  rw [← Pl.ks_none k h1 h2 h3 h4 h5] at this; exact this
theorem ks1 (w : World) : Calls Try.prog 24 #[.int .i64 1] w fun e w' => e = .returned (.int .i64 1) ∧ w' = w := specKindSize_any 1 w
theorem ks2 (w : World) : Calls Try.prog 24 #[.int .i64 2] w fun e w' => e = .returned (.int .i64 1) ∧ w' = w := specKindSize_any 2 w
theorem ks3 (w : World) : Calls Try.prog 24 #[.int .i64 3] w fun e w' => e = .returned (.int .i64 2) ∧ w' = w := specKindSize_any 3 w
theorem ks4 (w : World) : Calls Try.prog 24 #[.int .i64 4] w fun e w' => e = .returned (.int .i64 2) ∧ w' = w := specKindSize_any 4 w
theorem ks5 (w : World) : Calls Try.prog 24 #[.int .i64 5] w fun e w' => e = .returned (.int .i64 4) ∧ w' = w := specKindSize_any 5 w
theorem specNarrow_any (k n : Int) (w : World) : Calls Try.prog 11 #[.int .i64 k, .int .i64 n] w fun e w' => e = .returned (.tuple #[.int .i64 (Pl.nr k n), .bool (Pl.kb k)]) ∧ w' = w := by
  have hb := Pl.wd_bd n
  rcases Pl.kind_cases k with rfl | rfl | rfl | rfl | rfl | ⟨h1, h2, h3, h4, h5⟩
  · by_cases h : 128 ≤ Pl.wd n % 256
    all_goals
      go_enter Try.func11, Try.ntmps11
      go_wp2_with (first | (go_at_call 24; refine (ks1 _).mono ?_; rintro e w' ⟨rfl, rfl⟩) | (go_at_call 37; refine (specPower8 _).mono ?_; rintro e w' ⟨rfl, rfl⟩) | (go_at_call 38; refine (specWord_any _ _).mono ?_; rintro e w' ⟨rfl, rfl⟩))
      go_ret2
    · exact ⟨ret2 (Pl.nrs1h n h) rfl, rfl⟩
    · exact ⟨ret2 (Pl.nrs1l n h) rfl, rfl⟩
  · go_enter Try.func11, Try.ntmps11
    go_wp2_with (first | (go_at_call 24; refine (ks2 _).mono ?_; rintro e w' ⟨rfl, rfl⟩) | (go_at_call 37; refine (specPower8 _).mono ?_; rintro e w' ⟨rfl, rfl⟩) | (go_at_call 38; refine (specWord_any _ _).mono ?_; rintro e w' ⟨rfl, rfl⟩))
    go_ret2
    exact ⟨ret2 (Pl.nrs2 n) rfl, rfl⟩
  · by_cases h : 32768 ≤ Pl.wd n % 65536
    all_goals
      go_enter Try.func11, Try.ntmps11
      go_wp2_with (first | (go_at_call 24; refine (ks3 _).mono ?_; rintro e w' ⟨rfl, rfl⟩) | (go_at_call 37; refine (specPower16 _).mono ?_; rintro e w' ⟨rfl, rfl⟩) | (go_at_call 38; refine (specWord_any _ _).mono ?_; rintro e w' ⟨rfl, rfl⟩))
      go_ret2
    · exact ⟨ret2 (Pl.nrs3h n h) rfl, rfl⟩
    · exact ⟨ret2 (Pl.nrs3l n h) rfl, rfl⟩
  · go_enter Try.func11, Try.ntmps11
    go_wp2_with (first | (go_at_call 24; refine (ks4 _).mono ?_; rintro e w' ⟨rfl, rfl⟩) | (go_at_call 37; refine (specPower16 _).mono ?_; rintro e w' ⟨rfl, rfl⟩) | (go_at_call 38; refine (specWord_any _ _).mono ?_; rintro e w' ⟨rfl, rfl⟩))
    go_ret2
    exact ⟨ret2 (Pl.nrs4 n) rfl, rfl⟩
  · go_enter Try.func11, Try.ntmps11
    go_wp2_with (first | (go_at_call 24; refine (ks5 _).mono ?_; rintro e w' ⟨rfl, rfl⟩) | (go_at_call 37; refine (specPower32 _).mono ?_; rintro e w' ⟨rfl, rfl⟩) | (go_at_call 38; refine (specWord_any _ _).mono ?_; rintro e w' ⟨rfl, rfl⟩))
    go_ret2
    exact ⟨ret2 (Pl.nrs5 n) rfl, rfl⟩
  · go_enter Try.func11, Try.ntmps11
    go_wp2_with (go_at_call 24; refine (ks0 _ _ h1 h2 h3 h4 h5).mono ?_; rintro e w' ⟨rfl, rfl⟩)
    go_ret2
    exact ⟨ret2 (Pl.nr_none k n h1 h2 h3 h4 h5) (Pl.kb_none k h1 h2 h3 h4 h5), rfl⟩
end Go.Proofs.Ytfcfnbncgadomaa.W
namespace Go.Proofs.Ytfcfnbncgadomaa.Pl
/-- a word -/
def isW (n : Int) : Bool := decide (0 ≤ n ∧ n ≤ 4294967295)
theorem isW_iff (n : Int) : isW n = true ↔ 0 ≤ n ∧ n ≤ 4294967295 := by simp [isW]
theorem isW_wd (n : Int) : (n == wd n) = isW n := by
  have e : wd n = n % 4294967296 := rfl
  by_cases h : 0 ≤ n ∧ n ≤ 4294967295
  · have h1 : n = wd n := by rw [e]; omega
    have h2 : isW n = true := (isW_iff n).2 h
    rw [h2, beq_iff_eq]; exact h1
  · have h1 : n ≠ wd n := by rw [e]; omega
    have h2 : isW n = false := by rw [Bool.eq_false_iff]; intro hc; exact h ((isW_iff n).1 hc)
    rw [h2]; simpa using h1
theorem all_of_getD {p : Int → Bool} {zs : List Int} (h : ∀ j, j < zs.length → p (zs.getD j 0) = true) : zs.all p = true := by
  rw [List.all_eq_true]
  intro x hx
  obtain ⟨i, hi, rfl⟩ := List.getElem_of_mem hx
  have := h i hi
  rwa [List.getD_eq_getElem?_getD, List.getElem?_eq_getElem hi] at this
theorem not_all_of_getD {p : Int → Bool} {zs : List Int} {k : Nat} (hk : k < zs.length) (h : p (zs.getD k 0) = false) : zs.all p = false := by
  rw [Bool.eq_false_iff]
  intro hc
  rw [List.all_eq_true] at hc
  have := hc zs[k] (List.getElem_mem hk)
  rw [List.getD_eq_getElem?_getD, List.getElem?_eq_getElem hk] at h
  simp at h
  rw [this] at h
  cases h
/-- what may be a stack's size -/
def skOk (n : Int) : Bool := decide (0 ≤ n ∧ n ≤ 65536 ∧ n % 16 = 0)
/-- what may be Code -/
def cdOk (zs : List Int) : Bool := decide (1 ≤ zs.length ∧ zs.length ≤ 16384) && zs.all isW
/-- the place of the word at an address -/
def place (len : Nat) (at_ : Int) : Int := if 65536 ≤ at_ ∧ at_ % 4 = 0 ∧ (at_ - 65536) / 4 < len then (at_ - 65536) / 4 else -1
end Go.Proofs.Ytfcfnbncgadomaa.Pl
namespace Go.Proofs.Ytfcfnbncgadomaa.W
open Go.RowKit
theorem below_drewN {B : Nat} {a w : World} (h : Below B a w) (m : Nat) : Below B a (w.drewN m) := ⟨h.os, h.tape, h.output, h.size, h.block⟩
/-- a slice of integers that is read: its numbers; its block, not below lo -/
def Row (k : IntKind) (lo : Nat) (w : World) (a : Option Addr) (len cap : Nat) (zs : List Int) : Prop :=
  zs.length = len ∧ len ≤ cap ∧ cap ≤ maxLen ∧ (∀ n ∈ zs, (Lit.int k n).wf = true) ∧
  (len = 0 ∨ ∃ b off, a = some ⟨b, off, none⟩ ∧ lo ≤ b ∧ b < w.heap.size ∧ ∀ i, i < len → w.cell? ⟨b, off + i, none⟩ = some (.int k (zs.getD i 0)))
theorem Row.keep {k : IntKind} {lo : Nat} {w w' : World} {a : Option Addr} {len cap : Nat} {zs : List Int} (h : Row k lo w a len cap zs) (hb : Below w.heap.size w w') : Row k lo w' a len cap zs := by
  obtain ⟨h1, h2, h3, h4, h5⟩ := h
  refine ⟨h1, h2, h3, h4, ?_⟩
  rcases h5 with h5 | ⟨b, off, rfl, hlo, hlt, hc⟩
  · exact .inl h5
  · exact .inr ⟨b, off, rfl, hlo, Nat.lt_of_lt_of_le hlt hb.size, fun i hi => (hb.cell (by exact hlt)).trans (hc i hi)⟩
theorem Row.lower {k : IntKind} {lo lo' : Nat} {w : World} {a : Option Addr} {len cap : Nat} {zs : List Int} (h : Row k lo w a len cap zs) (hl : lo' ≤ lo) : Row k lo' w a len cap zs := by
  obtain ⟨h1, h2, h3, h4, h5⟩ := h
  refine ⟨h1, h2, h3, h4, ?_⟩
  rcases h5 with h5 | ⟨b, off, rfl, hlo, hlt, hc⟩
  · exact .inl h5
  · exact .inr ⟨b, off, rfl, Nat.le_trans hl hlo, hlt, hc⟩
theorem Row.len_eq {k : IntKind} {lo : Nat} {w : World} {a : Option Addr} {len cap : Nat} {zs : List Int} (h : Row k lo w a len cap zs) : zs.length = len := h.1
theorem Row.small {k : IntKind} {lo : Nat} {w : World} {a : Option Addr} {len cap : Nat} {zs : List Int} (h : Row k lo w a len cap zs) : len ≤ 9223372036854775807 := by
  have h1 := h.2.1
  have h2 := h.2.2.1
  unfold maxLen at h2
  omega
/-- from block number B on, what was there is as it was -/
structure Above (B : Nat) (w w' : World) : Prop where
  size : w.heap.size ≤ w'.heap.size
  block : ∀ k, B ≤ k → k < w.heap.size → w'.heap[k]? = w.heap[k]?
theorem Above.refl (B : Nat) (w : World) : Above B w w := ⟨Nat.le_refl _, fun _ _ _ => rfl⟩
theorem Above.trans {B : Nat} {a b c : World} (h : Above B a b) (k : Above B b c) : Above B a c := ⟨Nat.le_trans h.size k.size, fun i h1 h2 => (k.block i h1 (Nat.lt_of_lt_of_le h2 h.size)).trans (h.block i h1 h2)⟩
theorem Above.of_below {B : Nat} {a b : World} (h : Below a.heap.size a b) : Above B a b := ⟨h.size, fun i _ h2 => h.block i h2⟩
theorem Above.setCell {B : Nat} {a b : World} (h : Above B a b) {p : Addr} (hp : p.block < B) (u : Value) : Above B a (b.setCell p u) :=
  ⟨by simpa using h.size, fun i h1 h2 => (Below.heap_setCell b p u i (by omega)).trans (h.block i h1 h2)⟩
theorem Above.setRow {B : Nat} {a b : World} (h : Above B a b) {g : Nat} (hp : g < B) (cs : Array Value) : Above B a (b.setRow g cs) :=
  ⟨by simpa using h.size, fun i h1 h2 => (setRow_other b g i cs (by omega)).trans (h.block i h1 h2)⟩
/-- a slice that the call itself made: its numbers, nothing else lies in its block -/
def Own (k : IntKind) (e : TypeId) (lo : Nat) (w : World) (a : Option Addr) (len cap : Nat) (zs : List Int) : Prop :=
  w.ownsRow lo e 1 (.slice a len cap) len (zs.map (Value.int k)) ∧ (∀ n ∈ zs, (Lit.int k n).wf = true)
theorem Own.row {k : IntKind} {e : TypeId} {lo : Nat} {w : World} {a : Option Addr} {len cap : Nat} {zs : List Int} (h : Own k e lo w a len cap zs) : Row k lo w a len cap zs := by
  obtain ⟨hown, hwf⟩ := h
  have hl : zs.length = len := by have := hown.1; simpa using this
  rcases hown.2 with ⟨h0, h1⟩ | ⟨g, cap', cur, h0, hlo, hg, hnc, hcm, hcs, htake⟩
  · simp only [Value.slice.injEq] at h0
    obtain ⟨rfl, rfl, rfl⟩ := h0
    exact ⟨hl, Nat.le_refl _, Nat.zero_le _, hwf, .inl rfl⟩
  · simp only [Value.slice.injEq] at h0
    obtain ⟨rfl, _, rfl⟩ := h0
    refine ⟨hl, hnc, hcm, hwf, ?_⟩
    refine .inr ⟨g, 0, rfl, hlo, ?_, fun i hi => ?_⟩
    · exact (Array.getElem?_eq_some_iff.1 hg).1
    · have := hown.cellAt i (by omega)
      rw [Nat.zero_add, this, List.getElem?_map, List.getD_eq_getElem?_getD, List.getElem?_eq_getElem (by omega)]
      rfl
theorem Own.keep {k : IntKind} {e : TypeId} {lo : Nat} {w w' : World} {a : Option Addr} {len cap : Nat} {zs : List Int} (h : Own k e lo w a len cap zs) (hb : Below w.heap.size w w') : Own k e lo w' a len cap zs := by
  obtain ⟨hown, hwf⟩ := h
  refine ⟨⟨hown.1, ?_⟩, hwf⟩
  rcases hown.2 with h0 | ⟨g, cap', cur, h0, hlo, hg, hr⟩
  · exact .inl h0
  · refine .inr ⟨g, cap', cur, h0, hlo, ?_, hr⟩
    rw [hb.block g ((Array.getElem?_eq_some_iff.1 hg).1), hg]
theorem Own.same {k : IntKind} {e : TypeId} {B lo : Nat} {w w' : World} {a : Option Addr} {len cap : Nat} {zs : List Int} (h : Own k e lo w a len cap zs) (ha : Above B w w') (hB : B ≤ lo) : Own k e lo w' a len cap zs := by
  obtain ⟨hown, hwf⟩ := h
  refine ⟨⟨hown.1, ?_⟩, hwf⟩
  rcases hown.2 with h0 | ⟨g, cap', cur, h0, hlo, hg, hr⟩
  · exact .inl h0
  · refine .inr ⟨g, cap', cur, h0, hlo, ?_, hr⟩
    rw [ha.block g (Nat.le_trans hB hlo) ((Array.getElem?_eq_some_iff.1 hg).1), hg]
theorem Own.lower {k : IntKind} {e : TypeId} {lo lo' : Nat} {w : World} {a : Option Addr} {len cap : Nat} {zs : List Int} (h : Own k e lo w a len cap zs) (hl : lo' ≤ lo) : Own k e lo' w a len cap zs := by
  obtain ⟨hown, hwf⟩ := h
  refine ⟨⟨hown.1, ?_⟩, hwf⟩
  rcases hown.2 with h0 | ⟨g, cap', cur, h0, hlo, hr⟩
  · exact .inl h0
  · exact .inr ⟨g, cap', cur, h0, Nat.le_trans hl hlo, hr⟩
end Go.Proofs.Ytfcfnbncgadomaa.W
namespace Go.Proofs.Ytfcfnbncgadomaa.W
open Go.RowKit
/-- a reader's struct at block c: its bytes lie in a block below, each a byte -/
def RdOk (w : World) (c : Nat) : Prop := ∃ (a : Option Addr) (len cap p : Nat), w.heap[c]? = some (.cells #[.slice a len cap, .int .i64 (p : Int)] 75) ∧ len ≤ 1500 ∧ p ≤ len ∧
  (len = 0 ∨ ∃ b off, a = some ⟨b, off, none⟩ ∧ b < c ∧ ∀ i, i < len → ∃ v : Nat, v ≤ 255 ∧ w.cell? ⟨b, off + i, none⟩ = some (.int .u8 (v : Int)))
theorem RdOk.drewN {w : World} {c : Nat} (h : RdOk w c) (m : Nat) : RdOk (w.drewN m) c := h
theorem rd_after {w u : World} {c b off len cap p : Nat} (hu : u.heap = w.heap) (hrow : w.heap[c]? = some (.cells #[.slice (some ⟨b, off, none⟩) len cap, .int .i64 (p : Int)] 75)) (hl : len ≤ 1500) (hlt : p < len) (hb : b < c)
    (hby : ∀ i, i < len → ∃ v : Nat, v ≤ 255 ∧ w.cell? ⟨b, off + i, none⟩ = some (.int .u8 (v : Int))) : RdOk (u.setCell ⟨c, 1, none⟩ (.int .i64 ((p : Int) + 1))) c := by
  refine ⟨some ⟨b, off, none⟩, len, cap, p + 1, ?_, hl, hlt, .inr ⟨b, off, rfl, hb, fun i hi => ?_⟩⟩
  · have h' : u.heap[c]? = some (.cells #[.slice (some ⟨b, off, none⟩) len cap, .int .i64 (p : Int)] 75 (0, 0)) := by rw [hu]; exact hrow
    rw [heap_setCell_same u c 1 _ 75 _ h']
    simp
  · obtain ⟨v, hv, hc⟩ := hby i hi
    refine ⟨v, hv, ?_⟩
    rw [← hc]
    refine World.cell?_of_block (w := w) ?_
    show (u.setCell ⟨c, 1, none⟩ _).heap[b]? = w.heap[b]?
    rw [heap_setCell_other u ⟨c, 1, none⟩ b _ (Nat.ne_of_lt hb), hu]
set_option maxHeartbeats 1000000 in
theorem next_any (w : World) (c : Nat) (h : RdOk w c) : Calls Try.prog 19 #[.pointer (some ⟨c, 0, none⟩)] w fun e w' => ∃ m : Nat, e = .returned (.int .i64 (m : Int)) ∧ m ≤ 255 ∧ RdOk w' c ∧ Below c w w' := by
  obtain ⟨a, len, cap, p, hrow, hl, hp, hbytes⟩ := h
  have hc0 : w.cell? ⟨c, 0, none⟩ = some (.slice a len cap) := by rw [cell_of_row w c 0 _ 75 (0, 0) hrow]; rfl
  have hc1 : w.cell? ⟨c, 1, none⟩ = some (.int .i64 (p : Int)) := by rw [cell_of_row w c 1 _ 75 (0, 0) hrow]; rfl
  have hf1 : w.frozen? ⟨c, 1, none⟩ = false := frozen_of_row w c 1 _ 75 hrow
  by_cases hlt : p < len
  · obtain ⟨b, off, rfl, hb, hby⟩ : ∃ b off, a = some ⟨b, off, none⟩ ∧ b < c ∧ ∀ i, i < len → ∃ v : Nat, v ≤ 255 ∧ w.cell? ⟨b, off + i, none⟩ = some (.int .u8 (v : Int)) := by
      rcases hbytes with h0 | h0
      · omega
      · exact h0
    obtain ⟨v, hv, hcv⟩ := hby p hlt
    have HB : Hid (∀ i, i < len → ∃ v : Nat, v ≤ 255 ∧ w.cell? ⟨b, off + i, none⟩ = some (.int .u8 (v : Int))) := hby
    have HR : Hid (w.heap[c]? = some (.cells #[.slice (some ⟨b, off, none⟩) len cap, .int .i64 (p : Int)] 75)) := hrow
    clear hby hrow hbytes
    go_enter Try.func19, Try.ntmps19
    go_wp2_with fail
    go_quiet (fail)
    go_wp2_with fail
    go_quiet (fail)
    go_wp2
    go_ret
    refine ⟨v, rfl, hv, ?_, ?_⟩
    · exact rd_after rfl HR.out hl hlt hb HB.out
    · refine Below.setCell (B := c) ?_ (Nat.le_refl _) _
      repeat (first | exact Below.refl _ _ | refine below_drewN ?_ _)
  · have HR : Hid (w.heap[c]? = some (.cells #[.slice a len cap, .int .i64 (p : Int)] 75)) := hrow
    have HB : Hid (len = 0 ∨ ∃ b off, a = some ⟨b, off, none⟩ ∧ b < c ∧ ∀ i, i < len → ∃ v : Nat, v ≤ 255 ∧ w.cell? ⟨b, off + i, none⟩ = some (.int .u8 (v : Int))) := hbytes
    clear hrow hbytes
    go_enter Try.func19, Try.ntmps19
    go_wp2_with fail
    go_quiet (fail)
    go_wp2
    go_ret
    exact ⟨0, rfl, by decide, ⟨a, len, cap, p, HR.out, hl, hp, HB.out⟩, by repeat (first | exact Below.refl _ _ | refine below_drewN ?_ _)⟩
def IsBytes (w : World) (a : Option Addr) (len cap : Nat) : Prop := len ≤ cap ∧ cap ≤ maxLen ∧ (len = 0 ∨ ∃ b off, a = some ⟨b, off, none⟩ ∧ b < w.heap.size ∧ ∀ i, i < len → ∃ v : Nat, v ≤ 255 ∧ w.cell? ⟨b, off + i, none⟩ = some (.int .u8 (v : Int)))
theorem rd_new {w : World} {a : Option Addr} {len cap n : Nat} (h : IsBytes w a len cap) (hn : n ≤ len) (hn' : n ≤ 1500) : RdOk (w.alloc (.cells #[.slice a n cap, .int .i64 0] 75)) w.heap.size := by
  obtain ⟨_, _, h⟩ := h
  refine ⟨a, n, cap, 0, heap_alloc_new w _, hn', Nat.zero_le _, ?_⟩
  rcases h with h | ⟨b, off, rfl, hb, hby⟩
  · exact .inl (by omega)
  · refine .inr ⟨b, off, rfl, hb, fun i hi => ?_⟩
    obtain ⟨v, hv, hc⟩ := hby i (by omega)
    exact ⟨v, hv, by rw [← hc]; exact World.cell?_of_block (w := w) (Below.heap_alloc w _ b hb)⟩
set_option maxHeartbeats 400000 in
theorem open_any (w : World) (a : Option Addr) (len cap : Nat) (h : IsBytes w a len cap) : Calls Try.prog 17 #[.slice a len cap] w fun e w' => e = .returned (.pointer (some ⟨w.heap.size, 0, none⟩)) ∧ RdOk w' w.heap.size ∧ Below w.heap.size w w' := by
  have h1 := h.1
  have h2 := h.2.1
  unfold maxLen at h2
  have HH : Hid (IsBytes w a len cap) := h
  clear h
  by_cases hl : 1500 < len
  · go_enter Try.func17, Try.ntmps17
    go_wp2
    go_ret
    exact ⟨rfl, rd_new HH.out (by omega) (Nat.le_refl _), (Below.refl _ _).alloc (Nat.le_refl _) _⟩
  · go_enter Try.func17, Try.ntmps17
    go_wp2
    go_ret
    exact ⟨rfl, rd_new HH.out (Nat.le_refl _) (by omega), (Below.refl _ _).alloc (Nat.le_refl _) _⟩
def tab12 : Array Value := #[.int .i64 0, .int .i64 1, .int .i64 4294967295, .int .i64 2147483648, .int .i64 2147483647, .int .i64 4294967294, .int .i64 65535, .int .i64 65536, .int .i64 32768, .int .i64 128, .int .i64 255, .int .i64 2147483649]
theorem tab12_at : ∀ j : Nat, j < 12 → ∃ n : Int, tab12[j]? = some (.int .i64 n)
  | 0, _ => ⟨_, rfl⟩ | 1, _ => ⟨_, rfl⟩ | 2, _ => ⟨_, rfl⟩ | 3, _ => ⟨_, rfl⟩ | 4, _ => ⟨_, rfl⟩ | 5, _ => ⟨_, rfl⟩ | 6, _ => ⟨_, rfl⟩ | 7, _ => ⟨_, rfl⟩ | 8, _ => ⟨_, rfl⟩ | 9, _ => ⟨_, rfl⟩ | 10, _ => ⟨_, rfl⟩ | 11, _ => ⟨_, rfl⟩
  | n + 12, h => absurd h (by omega)
def tab8 (m : Nat) : Array Value := #[.int .i64 (-1), .int .i64 (-(m : Int)), .int .i64 (4294967296 + (m : Int)), .int .i64 (-2147483648), .int .i64 (-4294967296 * (m : Int)), .int .i64 1099511627776, .int .i64 (-(m : Int) * 65536), .int .i64 ((m : Int) * 65537)]
theorem tab8_at (m : Nat) : ∀ j : Nat, j < 8 → ∃ n : Int, (tab8 m)[j]? = some (.int .i64 n)
  | 0, _ => ⟨_, rfl⟩ | 1, _ => ⟨_, rfl⟩ | 2, _ => ⟨_, rfl⟩ | 3, _ => ⟨_, rfl⟩ | 4, _ => ⟨_, rfl⟩ | 5, _ => ⟨_, rfl⟩ | 6, _ => ⟨_, rfl⟩ | 7, _ => ⟨_, rfl⟩
  | n + 8, h => absurd h (by omega)
theorem RdOk.lt {w : World} {c : Nat} (h : RdOk w c) : c < w.heap.size := by
  obtain ⟨a, len, cap, p, hrow, _⟩ := h
  exact (Array.getElem?_eq_some_iff.1 hrow).1
theorem RdOk.alloc {w : World} {c : Nat} (h : RdOk w c) (o : Obj) : RdOk (w.alloc o) c := by
  have hlt := h.lt
  obtain ⟨a, len, cap, p, hrow, hl, hp, hb⟩ := h
  refine ⟨a, len, cap, p, by rw [Below.heap_alloc w o c hlt]; exact hrow, hl, hp, ?_⟩
  rcases hb with hb | ⟨b, off, ha, hbc, hby⟩
  · exact .inl hb
  · refine .inr ⟨b, off, ha, hbc, fun i hi => ?_⟩
    obtain ⟨v, hv, hc⟩ := hby i hi
    exact ⟨v, hv, by rw [← hc]; exact World.cell?_of_block (w := w) (Below.heap_alloc w o b (by omega))⟩
set_option maxHeartbeats 1000000 in
theorem num_any (w : World) (c : Nat) (h : RdOk w c) : Calls Try.prog 20 #[.pointer (some ⟨c, 0, none⟩)] w fun e w' => ∃ n : Int, e = .returned (.int .i64 n) ∧ RdOk w' c ∧ Below c w w' := by
  have H0 : Hid (RdOk w c) := h
  clear h
  go_enter Try.func20, Try.ntmps20
  go_wp2_with fail
  refine (next_any _ c H0.out).mono ?_
  rintro e w1 ⟨k, rfl, hk, R1, B1⟩
  have H1 : Hid (RdOk w1 c) := R1
  clear R1
  go_wp2_with fail
  refine (next_any _ c H1.out).mono ?_
  rintro e w2 ⟨m, rfl, hm, R2, B2⟩
  have H2 : Hid (RdOk w2 c) := R2
  have B02 : Hid (Below c w w2) := B1.trans B2
  clear R2 B1 B2 H0 H1
  have h4 : k % 4 = 0 ∨ k % 4 = 1 ∨ k % 4 = 2 ∨ k % 4 = 3 := by omega
  rcases h4 with h4 | h4 | h4 | h4
  · have t0 : ((k : Int) % 4 == 0) = true := by simp; omega
    clear h4
    go_wp2_with fail
    go_ret
    exact ⟨_, rfl, H2.out, B02.out⟩
  · have t0 : ((k : Int) % 4 == 0) = false := by simp; omega
    have t1 : ((k : Int) % 4 == 1) = true := by simp; omega
    clear h4
    go_wp2_with fail
    refine (next_any _ c H2.out).mono ?_
    rintro e w3 ⟨x, rfl, hx, R3, B3⟩
    have H3 : Hid (RdOk w3 c) := R3
    have B03 : Hid (Below c w w3) := B02.out.trans B3
    clear R3 B3 H2 B02
    go_wp2_with fail
    refine (next_any _ c H3.out).mono ?_
    rintro e w4 ⟨y, rfl, hy, R4, B4⟩
    have H4 : Hid (RdOk w4 c) := R4
    have B04 : Hid (Below c w w4) := B03.out.trans B4
    clear R4 B4 H3 B03
    go_wp2_with fail
    refine (next_any _ c H4.out).mono ?_
    rintro e w5 ⟨z, rfl, hz, R5, B5⟩
    have H5 : Hid (RdOk w5 c) := R5
    have B05 : Hid (Below c w w5) := B04.out.trans B5
    clear R5 B5 H4 B04
    go_wp2_with fail
    go_ret
    exact ⟨_, rfl, H5.out, B05.out⟩
  · have t0 : ((k : Int) % 4 == 0) = false := by simp; omega
    have t1 : ((k : Int) % 4 == 1) = false := by simp; omega
    have t2 : ((k : Int) % 4 == 2) = true := by simp; omega
    clear h4
    obtain ⟨n, hn⟩ := tab12_at (m % 12) (by omega)
    have hc : (w2.alloc (.cells tab12 3)).cell? ⟨w2.heap.size, m % 12, none⟩ = some (.int .i64 n) := by rw [cell_of_row _ _ _ tab12 3 (0, 0) (heap_alloc_new w2 _)]; exact hn
    clear hn
    go_wp2_with (refine Great.wpList_buildSliceTo rfl 23 3 12 _ rfl w2.heap.size rfl _ rfl Try.underlying23 tab12 (by kernel_rfl) ?_)
    go_ret
    exact ⟨n, rfl, H2.out.alloc _, B02.out.alloc (Nat.le_of_lt H2.out.lt) _⟩
  · have t0 : ((k : Int) % 4 == 0) = false := by simp; omega
    have t1 : ((k : Int) % 4 == 1) = false := by simp; omega
    have t2 : ((k : Int) % 4 == 2) = false := by simp; omega
    clear h4
    obtain ⟨n, hn⟩ := tab8_at m (k / 4 % 8) (by omega)
    have hc : (w2.alloc (.cells (tab8 m) 3)).cell? ⟨w2.heap.size, k / 4 % 8, none⟩ = some (.int .i64 n) := by rw [cell_of_row _ _ _ (tab8 m) 3 (0, 0) (heap_alloc_new w2 _)]; exact hn
    clear hn
    go_wp2_with (refine Great.wpList_buildSliceTo rfl 23 3 8 _ rfl w2.heap.size rfl _ rfl Try.underlying23 (tab8 m) (by kernel_rfl) ?_)
    go_ret
    exact ⟨n, rfl, H2.out.alloc _, B02.out.alloc (Nat.le_of_lt H2.out.lt) _⟩
end Go.Proofs.Ytfcfnbncgadomaa.W
namespace Go.Proofs.Ytfcfnbncgadomaa.Kit
open Go
/-- operations that only build aggregates, run one behind the other -/
def buildsRun (P : Program) : List Oper → Act → Option Act
  | [], a => some a
  | o :: os, a => match o.guard, o.op with
    | none, .build t parts => (P.built t (parts.map fun (i, x) => (i, a.eval x)).toList).bind fun cs => buildsRun P os (a.put o.dst (.agg cs))
    | _, _ => none
theorem wpList_allocBig {P : Program} {ops : Array Oper} {rest : List Oper} {o : Oper} {a : Act} {w : World} {Q : Exit → Act → World → Prop} (t : TypeId) (_ho : o.op = .alloc t) (hg : o.guard = none) (cells : Array Value)
    (hrun : (execOp a.eval o).run P w = .ok (.value (.pointer (some ⟨w.heap.size, 0, none⟩))) (w.alloc (.cells cells t)))
    (h : wpList P ops Q rest (a.put o.dst (.pointer (some ⟨w.heap.size, 0, none⟩))) (w.alloc (.cells cells t))) : wpList P ops Q (o :: rest) a w :=
  Great.wpList_allocTo hg _ rfl _ _ hrun h
theorem wpList_builds {P : Program} {ops : Array Oper} {Q : Exit → Act → World → Prop} {w : World} {rest : List Oper} (bs : List Oper) :
    ∀ a a', buildsRun P bs a = some a' → wpList P ops Q rest a' w → wpList P ops Q (bs ++ rest) a w := by
  induction bs with
  | nil => intro a a' h hk; simp [buildsRun] at h; subst h; exact hk
  | cons o os ih =>
    intro a a' h hk
    unfold buildsRun at h
    split at h
    · rename_i t parts hg ho
      cases hb : P.built t (parts.map fun (i, x) => (i, a.eval x)).toList with
      | none => rw [hb] at h; cases h
      | some cs =>
        rw [hb] at h
        refine wpList_build hg t parts ho (by rw [hb]; rfl) ?_
        rw [hb]
        exact ih _ _ h hk
    · cases h
theorem wpList_builds_store {P : Program} {ops : Array Oper} {Q : Exit → Act → World → Prop} {w : World} {rest : List Oper} {o : Oper} {a : Act} (n : Nat) (t : TypeId) (parts : Array (Nat × Operand)) (_ho : o.op = .build t parts)
    (so : Oper) (rest' : List Oper) (hd : (o :: rest).drop n = so :: rest') (hsg : so.guard = none) (ty : TypeId) (p : Tmp) (y : Operand) (hso : so.op = .store ty (.tmp p) y) (hdst : so.dst = none)
    (g : Nat) (cells : Array Value) (hrun : ((buildsRun P ((o :: rest).take n) a).map fun a' => (a'.tmps.getD p undef, a'.eval y, a'.defers.isEmpty)) = some (.pointer (some ⟨g, 0, none⟩), .agg cells, true))
    (tt : TypeId) (old : Array Value) (hg : w.heap[g]? = some (.cells old tt (0, 0))) (hi : (P.info? ty).map (·.size) = some cells.size) (hold : old.size = cells.size) (h1 : cells.all (·.oneCell') = true)
    (h : ∀ a' : Act, a'.tmps.getD p undef = .pointer (some ⟨g, 0, none⟩) → a'.defers = [] → wpList P ops Q rest' a' (w.setRow g cells)) : wpList P ops Q (o :: rest) a w := by
  cases hr : buildsRun P ((o :: rest).take n) a with
  | none => rw [hr] at hrun; cases hrun
  | some a' =>
    rw [hr] at hrun
    simp only [Option.map_some, Option.some.injEq, Prod.mk.injEq] at hrun
    obtain ⟨hp, hy, hdf⟩ := hrun
    have e : o :: rest = (o :: rest).take n ++ so :: rest' := by rw [← hd, List.take_append_drop]
    rw [e]
    refine wpList_builds _ _ _ hr ?_
    refine wpList_store_row hsg ty (.tmp p) y hso g cells hp hy tt old hg hi hold h1 ?_
    have hput : a'.put so.dst undef = a' := by rw [hdst]; rfl
    rw [hput]
    exact h a' hp (by simpa using hdf)
end Go.Proofs.Ytfcfnbncgadomaa.Kit
namespace Go.Proofs.Ytfcfnbncgadomaa.Pl
/-- a row of the table: the bytes of the name, the form, the fixed parts -/
def rows : List (List UInt8 × Int × List Int) := [
  ([], 0, [0, 0, 0, 0]),
  ([97, 100, 100], 1, [51, 0, 0, 0]),
  ([115, 117, 98], 1, [51, 0, 32, 0]),
  ([115, 108, 108], 1, [51, 1, 0, 0]),
  ([115, 108, 116], 1, [51, 2, 0, 0]),
  ([115, 108, 116, 117], 1, [51, 3, 0, 0]),
  ([120, 111, 114], 1, [51, 4, 0, 0]),
  ([115, 114, 108], 1, [51, 5, 0, 0]),
  ([115, 114, 97], 1, [51, 5, 32, 0]),
  ([111, 114], 1, [51, 6, 0, 0]),
  ([97, 110, 100], 1, [51, 7, 0, 0]),
  ([109, 117, 108], 1, [51, 0, 1, 0]),
  ([109, 117, 108, 104], 1, [51, 1, 1, 0]),
  ([109, 117, 108, 104, 115, 117], 1, [51, 2, 1, 0]),
  ([109, 117, 108, 104, 117], 1, [51, 3, 1, 0]),
  ([100, 105, 118], 1, [51, 4, 1, 0]),
  ([100, 105, 118, 117], 1, [51, 5, 1, 0]),
  ([114, 101, 109], 1, [51, 6, 1, 0]),
  ([114, 101, 109, 117], 1, [51, 7, 1, 0]),
  ([97, 100, 100, 105], 2, [19, 0, 0, 0]),
  ([115, 108, 116, 105], 2, [19, 2, 0, 0]),
  ([115, 108, 116, 105, 117], 2, [19, 3, 0, 0]),
  ([120, 111, 114, 105], 2, [19, 4, 0, 0]),
  ([111, 114, 105], 2, [19, 6, 0, 0]),
  ([97, 110, 100, 105], 2, [19, 7, 0, 0]),
  ([115, 108, 108, 105], 3, [19, 1, 0, 0]),
  ([115, 114, 108, 105], 3, [19, 5, 0, 0]),
  ([115, 114, 97, 105], 3, [19, 5, 32, 0]),
  ([108, 98], 2, [3, 0, 0, 0]),
  ([108, 104], 2, [3, 1, 0, 0]),
  ([108, 119], 2, [3, 2, 0, 0]),
  ([108, 98, 117], 2, [3, 4, 0, 0]),
  ([108, 104, 117], 2, [3, 5, 0, 0]),
  ([106, 97, 108, 114], 2, [103, 0, 0, 0]),
  ([115, 98], 4, [35, 0, 0, 0]),
  ([115, 104], 4, [35, 1, 0, 0]),
  ([115, 119], 4, [35, 2, 0, 0]),
  ([98, 101, 113], 5, [99, 0, 0, 0]),
  ([98, 110, 101], 5, [99, 1, 0, 0]),
  ([98, 108, 116], 5, [99, 4, 0, 0]),
  ([98, 103, 101], 5, [99, 5, 0, 0]),
  ([98, 108, 116, 117], 5, [99, 6, 0, 0]),
  ([98, 103, 101, 117], 5, [99, 7, 0, 0]),
  ([108, 117, 105], 6, [55, 0, 0, 0]),
  ([97, 117, 105, 112, 99], 6, [23, 0, 0, 0]),
  ([106, 97, 108], 7, [111, 0, 0, 0]),
  ([101, 99, 97, 108, 108], 8, [115, 0, 0, 0]),
  ([101, 98, 114, 101, 97, 107], 8, [115, 0, 0, 1])]

def rowCells (r : List UInt8 × Int × List Int) : List Value := .string ⟨r.1.toArray⟩ :: .int .i64 r.2.1 :: r.2.2.map (Value.int .u8 ·)
def instTab : Array Value := (rows.flatMap rowCells).toArray
def zeroRow : List Value := [.string ⟨#[]⟩, .int .i64 0, .int .u8 0, .int .u8 0, .int .u8 0, .int .u8 0]
def zeroTab : Array Value := (List.replicate 48 zeroRow).flatten.toArray
end Go.Proofs.Ytfcfnbncgadomaa.Pl
namespace Go.Proofs.Ytfcfnbncgadomaa.W
open Go.RowKit
end Go.Proofs.Ytfcfnbncgadomaa.W
namespace Go.Proofs.Ytfcfnbncgadomaa.Pl
def nm (k : Nat) : ByteArray := ⟨(rows.getD k ([], 0, [])).1.toArray⟩
def fm (k : Nat) : Int := (rows.getD k ([], 0, [])).2.1
def cc (k i : Nat) : Int := (rows.getD k ([], 0, [])).2.2.getD i 0
def rowV (k : Nat) : Array Value := #[.string (nm k), .int .i64 (fm k), .int .u8 (cc k 0), .int .u8 (cc k 1), .int .u8 (cc k 2), .int .u8 (cc k 3)]
def names : Array Value := (rows.map fun r => Value.string ⟨r.1.toArray⟩).toArray
theorem names_at (k : Nat) (h : k < 48) : names[k]? = some (.string (nm k)) := by
  unfold names nm
  have hl : rows.length = 48 := rfl
  rw [List.getElem?_toArray, List.getElem?_map, List.getD_eq_getElem?_getD, List.getElem?_eq_getElem (by omega)]
  rfl
end Go.Proofs.Ytfcfnbncgadomaa.Pl
namespace Go.Proofs.Ytfcfnbncgadomaa.W
open Go.RowKit
def rowZ : Array Value := #[.string ⟨#[]⟩, .int .i64 0, .int .u8 0, .int .u8 0, .int .u8 0, .int .u8 0]
/-- behind a callee that made memory alone: what was there reads as before -/
theorem bcell {W w1 : World} (hb : Below W.heap.size W w1) : (∀ b o, b < W.heap.size → w1.cell? ⟨b, o, none⟩ = W.cell? ⟨b, o, none⟩) ∧ (∀ b o, b < W.heap.size → w1.frozen? ⟨b, o, none⟩ = W.frozen? ⟨b, o, none⟩) :=
  ⟨fun b o h => hb.cell (p := ⟨b, o, none⟩) h, fun b o h => hb.frozen (p := ⟨b, o, none⟩) h⟩
end Go.Proofs.Ytfcfnbncgadomaa.W
namespace Go.Proofs.Ytfcfnbncgadomaa.Pl
/-- which fields a form uses; what Imm may be; where its parts stand -/
def us : Nat → Nat → Bool
  | 1, 0 => true
  | 1, 1 => true
  | 1, 2 => true
  | 2, 0 => true
  | 2, 1 => true
  | 3, 0 => true
  | 3, 1 => true
  | 4, 1 => true
  | 4, 2 => true
  | 5, 1 => true
  | 5, 2 => true
  | 6, 0 => true
  | 7, 0 => true
  | _, _ => false
def lo : Nat → Int
  | 2 => -2048
  | 4 => -2048
  | 5 => -4096
  | 7 => -1048576
  | _ => 0
def hi : Nat → Int
  | 2 => 2047
  | 3 => 31
  | 4 => 2047
  | 5 => 4094
  | 6 => 1048575
  | 7 => 1048574
  | _ => 0
def st : Nat → Int
  | 5 => 2
  | 7 => 2
  | _ => 1
def pt : Nat → List Int
  | 2 => [0, 12, 20, 0, 0, 0, 0, 0, 0, 0, 0, 0]
  | 3 => [0, 5, 20, 0, 0, 0, 0, 0, 0, 0, 0, 0]
  | 4 => [5, 7, 25, 0, 5, 7, 0, 0, 0, 0, 0, 0]
  | 5 => [12, 1, 31, 5, 6, 25, 1, 4, 8, 11, 1, 7]
  | 6 => [0, 20, 12, 0, 0, 0, 0, 0, 0, 0, 0, 0]
  | 7 => [20, 1, 31, 1, 10, 21, 11, 1, 20, 12, 8, 12]
  | _ => [0, 0, 0, 0, 0, 0, 0, 0, 0, 0, 0, 0]
def pts : Nat → Int
  | 1 => 7
  | 2 => 11
  | 3 => 11
  | 4 => 14
  | 5 => 14
  | 6 => 9
  | 7 => 9
  | _ => 0
def pa (f i : Nat) : Int := (pt f).getD i 0
def ruleV (f : Nat) : Array Value := #[.bool (us f 0), .bool (us f 1), .bool (us f 2), .int .i64 (lo f), .int .i64 (hi f), .int .i64 (st f), .int .i64 (pa f 0), .int .i64 (pa f 1), .int .i64 (pa f 2), .int .i64 (pa f 3), .int .i64 (pa f 4), .int .i64 (pa f 5), .int .i64 (pa f 6), .int .i64 (pa f 7), .int .i64 (pa f 8), .int .i64 (pa f 9), .int .i64 (pa f 10), .int .i64 (pa f 11)]
def fmN (k : Nat) : Nat := (fm k).toNat
def rg (r : Int) (u : Bool) : Bool := decide (0 ≤ r ∧ r ≤ 31 ∧ (u = true ∨ r = 0))
def imo (f : Nat) (im : Int) : Bool := decide (lo f ≤ im) && decide (im ≤ hi f) && im.tmod (st f) == 0
def okF (f : Nat) (rd r1 r2 im : Int) : Bool := rg rd (us f 0) && rg r1 (us f 1) && rg r2 (us f 2) && imo f im
theorem fm_cases : ∀ k : Nat, k < 48 → 1 ≤ k → 1 ≤ fmN k ∧ fmN k ≤ 8 ∧ fm k = (fmN k : Int) := by decide +kernel
theorem st_cases (f : Nat) : st f = 1 ∨ st f = 2 := by
  unfold st; split <;> simp
theorem form_cases (f : Nat) (h1 : 1 ≤ f) (h2 : f ≤ 8) : f = 1 ∨ f = 2 ∨ f = 3 ∨ f = 4 ∨ f = 5 ∨ f = 6 ∨ f = 7 ∨ f = 8 := by omega
theorem pts_bit : ∀ f : Nat, f < 9 → ∀ j : Nat, j < 3 → pts f / pw j % 2 = if us f j then 1 else 0 := by decide +kernel
theorem pts_bd : ∀ f : Nat, f < 9 → 0 ≤ pts f ∧ pts f ≤ 14 := by decide +kernel
end Go.Proofs.Ytfcfnbncgadomaa.Pl
namespace Go.Proofs.Ytfcfnbncgadomaa.Pl
theorem fm_ranges : ∀ k : Nat, k < 48 → (1 ≤ k ∧ k ≤ 18 → fmN k = 1) ∧ (25 ≤ k ∧ k ≤ 27 → fmN k = 3) ∧ (19 ≤ k ∧ k ≤ 24 → fmN k = 2) ∧ (28 ≤ k ∧ k ≤ 33 → fmN k = 2) ∧ (34 ≤ k ∧ k ≤ 36 → fmN k = 4) ∧ (37 ≤ k ∧ k ≤ 42 → fmN k = 5) ∧ (k = 43 ∨ k = 44 → fmN k = 6) ∧ (k = 45 → fmN k = 7) ∧ (k = 46 ∨ k = 47 → fmN k = 8) := by decide +kernel
end Go.Proofs.Ytfcfnbncgadomaa.Pl
namespace Go.Proofs.Ytfcfnbncgadomaa.W
open Go.RowKit
theorem form_a (n : Int) (h1 : 1 ≤ n) (h2 : n ≤ 18) (w : World) : Calls Try.prog 84 #[.int .i64 n] w fun e w' => e = .returned (.int .i64 1) ∧ w' = w := by
  go_enter Try.func84, Try.ntmps84
  go_wp2
  go_ret
  exact ⟨rfl, rfl⟩
theorem form_b (n : Int) (h1 : 19 ≤ n) (h2 : n ≤ 24) (w : World) : Calls Try.prog 84 #[.int .i64 n] w fun e w' => e = .returned (.int .i64 2) ∧ w' = w := by
  go_enter Try.func84, Try.ntmps84
  go_wp2
  go_ret
  exact ⟨rfl, rfl⟩
theorem form_c (n : Int) (h1 : 25 ≤ n) (h2 : n ≤ 27) (w : World) : Calls Try.prog 84 #[.int .i64 n] w fun e w' => e = .returned (.int .i64 3) ∧ w' = w := by
  go_enter Try.func84, Try.ntmps84
  go_wp2
  go_ret
  exact ⟨rfl, rfl⟩
theorem form_d (n : Int) (h1 : 28 ≤ n) (h2 : n ≤ 33) (w : World) : Calls Try.prog 84 #[.int .i64 n] w fun e w' => e = .returned (.int .i64 2) ∧ w' = w := by
  go_enter Try.func84, Try.ntmps84
  go_wp2
  go_ret
  exact ⟨rfl, rfl⟩
theorem form_e (n : Int) (h1 : 34 ≤ n) (h2 : n ≤ 36) (w : World) : Calls Try.prog 84 #[.int .i64 n] w fun e w' => e = .returned (.int .i64 4) ∧ w' = w := by
  go_enter Try.func84, Try.ntmps84
  go_wp2
  go_ret
  exact ⟨rfl, rfl⟩
theorem form_f (n : Int) (h1 : 37 ≤ n) (h2 : n ≤ 42) (w : World) : Calls Try.prog 84 #[.int .i64 n] w fun e w' => e = .returned (.int .i64 5) ∧ w' = w := by
  go_enter Try.func84, Try.ntmps84
  go_wp2
  go_ret
  exact ⟨rfl, rfl⟩
theorem form_lo (n : Int) (h1 : n < 1) (w : World) : Calls Try.prog 84 #[.int .i64 n] w fun e w' => e = .returned (.int .i64 0) ∧ w' = w := by
  have e43 : (n == 43) = false := by simp; omega
  have e44 : (n == 44) = false := by simp; omega
  have e45 : (n == 45) = false := by simp; omega
  have e46 : (n == 46) = false := by simp; omega
  have e47 : (n == 47) = false := by simp; omega
  go_enter Try.func84, Try.ntmps84
  go_wp2
  go_ret
  exact ⟨rfl, rfl⟩
theorem form_hi (n : Int) (h1 : 47 < n) (w : World) : Calls Try.prog 84 #[.int .i64 n] w fun e w' => e = .returned (.int .i64 0) ∧ w' = w := by
  have e43 : (n == 43) = false := by simp; omega
  have e44 : (n == 44) = false := by simp; omega
  have e45 : (n == 45) = false := by simp; omega
  have e46 : (n == 46) = false := by simp; omega
  have e47 : (n == 47) = false := by simp; omega
  go_enter Try.func84, Try.ntmps84
  go_wp2
  go_ret
  exact ⟨rfl, rfl⟩
theorem form_43 (w : World) : Calls Try.prog 84 #[.int .i64 43] w fun e w' => e = .returned (.int .i64 6) ∧ w' = w := by
  go_enter Try.func84, Try.ntmps84
  go_wp2
  go_ret
  exact ⟨rfl, rfl⟩
theorem form_44 (w : World) : Calls Try.prog 84 #[.int .i64 44] w fun e w' => e = .returned (.int .i64 6) ∧ w' = w := by
  go_enter Try.func84, Try.ntmps84
  go_wp2
  go_ret
  exact ⟨rfl, rfl⟩
theorem form_45 (w : World) : Calls Try.prog 84 #[.int .i64 45] w fun e w' => e = .returned (.int .i64 7) ∧ w' = w := by
  go_enter Try.func84, Try.ntmps84
  go_wp2
  go_ret
  exact ⟨rfl, rfl⟩
theorem form_46 (w : World) : Calls Try.prog 84 #[.int .i64 46] w fun e w' => e = .returned (.int .i64 8) ∧ w' = w := by
  go_enter Try.func84, Try.ntmps84
  go_wp2
  go_ret
  exact ⟨rfl, rfl⟩
theorem form_47 (w : World) : Calls Try.prog 84 #[.int .i64 47] w fun e w' => e = .returned (.int .i64 8) ∧ w' = w := by
  go_enter Try.func84, Try.ntmps84
  go_wp2
  go_ret
  exact ⟨rfl, rfl⟩
theorem form_any (k : Nat) (h1 : 1 ≤ k) (h2 : k ≤ 47) (w : World) : Calls Try.prog 84 #[.int .i64 k] w fun e w' => e = .returned (.int .i64 (Pl.fmN k : Int)) ∧ w' = w := by
  obtain ⟨a, c, b, d, e, f, g, i, j⟩ := Pl.fm_ranges k (by omega)
  by_cases q : k ≤ 18
  · rw [a ⟨h1, q⟩]; exact form_a k (by omega) (by omega) w
  by_cases q : k ≤ 24
  · rw [b ⟨by omega, q⟩]; exact form_b k (by omega) (by omega) w
  by_cases q : k ≤ 27
  · rw [c ⟨by omega, q⟩]; exact form_c k (by omega) (by omega) w
  by_cases q : k ≤ 33
  · rw [d ⟨by omega, q⟩]; exact form_d k (by omega) (by omega) w
  by_cases q : k ≤ 36
  · rw [e ⟨by omega, q⟩]; exact form_e k (by omega) (by omega) w
  by_cases q : k ≤ 42
  · rw [f ⟨by omega, q⟩]; exact form_f k (by omega) (by omega) w
  have q' : k = 43 ∨ k = 44 ∨ k = 45 ∨ k = 46 ∨ k = 47 := by omega
  rcases q' with rfl | rfl | rfl | rfl | rfl
  · exact form_43 w
  · exact form_44 w
  · exact form_45 w
  · exact form_46 w
  · exact form_47 w
theorem form_no (n : Int) (h : n < 1 ∨ 47 < n) (w : World) : Calls Try.prog 84 #[.int .i64 n] w fun e w' => e = .returned (.int .i64 0) ∧ w' = w := by
  rcases h with h | h
  · exact form_lo n h w
  · exact form_hi n h w
def ptsTab : Array Value := #[.int .i64 0, .int .i64 7, .int .i64 11, .int .i64 11, .int .i64 14, .int .i64 14, .int .i64 9, .int .i64 9, .int .i64 0]
theorem parts_any (f : Nat) (h1 : 1 ≤ f) (h2 : f ≤ 8) (w : World) : Calls Try.prog 88 #[.int .i64 f] w fun e w' => e = .returned (.int .i64 (Pl.pts f)) ∧ w' = w.alloc (.cells ptsTab 3) := by
  rcases Pl.form_cases f h1 h2 with rfl | rfl | rfl | rfl | rfl | rfl | rfl | rfl
  all_goals
    go_enter Try.func88, Try.ntmps88
    go_wp2
    go_ret
    exact ⟨rfl, rfl⟩
theorem range_any (f : Nat) (h1 : 1 ≤ f) (h2 : f ≤ 8) (w : World) : Calls Try.prog 89 #[.int .i64 f] w fun e w' => e = .returned (.tuple #[.int .i64 (Pl.lo f), .int .i64 (Pl.hi f), .int .i64 (Pl.st f)]) ∧ w' = w := by
  rcases Pl.form_cases f h1 h2 with rfl | rfl | rfl | rfl | rfl | rfl | rfl | rfl
  all_goals
    go_enter Try.func89, Try.ntmps89
    go_wp2
    go_ret3
    exact ⟨rfl, rfl⟩
end Go.Proofs.Ytfcfnbncgadomaa.W
namespace Go.Proofs.Ytfcfnbncgadomaa.W
open Go.RowKit
/-- nothing has turned but block c, and new blocks -/
structure OnlyB (c : Nat) (w w' : World) : Prop where
  os : w'.os = w.os
  tape : w'.tape = w.tape
  output : w'.output = w.output
  size : w.heap.size ≤ w'.heap.size
  block : ∀ b, b < w.heap.size → b ≠ c → w'.heap[b]? = w.heap[b]?
theorem OnlyB.below {c : Nat} {w w' : World} (h : OnlyB c w w') (hc : c < w.heap.size) : Below c w w' := ⟨h.os, h.tape, h.output, h.size, fun b hb => h.block b (by omega) (by omega)⟩
theorem OnlyB.refl (c : Nat) (w : World) : OnlyB c w w := ⟨rfl, rfl, rfl, Nat.le_refl _, fun _ _ _ => rfl⟩
theorem OnlyB.trans {c : Nat} {a b d : World} (h : OnlyB c a b) (k : OnlyB c b d) : OnlyB c a d := ⟨k.os.trans h.os, k.tape.trans h.tape, k.output.trans h.output, Nat.le_trans h.size k.size, fun x hx hc => (k.block x (Nat.lt_of_lt_of_le hx h.size) hc).trans (h.block x hx hc)⟩
theorem OnlyB.of_below {c : Nat} {a b : World} (h : Below a.heap.size a b) : OnlyB c a b := ⟨h.os, h.tape, h.output, h.size, fun x hx _ => h.block x hx⟩
theorem OnlyB.low {c : Nat} {w a b : World} (h : OnlyB c w a) (k : Below w.heap.size a b) : OnlyB c w b := ⟨k.os.trans h.os, k.tape.trans h.tape, k.output.trans h.output, Nat.le_trans h.size k.size, fun x hx hc => (k.block x hx).trans (h.block x hx hc)⟩
set_option maxHeartbeats 1000000 in
theorem next_only (w : World) (c : Nat) (h : RdOk w c) : Calls Try.prog 19 #[.pointer (some ⟨c, 0, none⟩)] w fun e w' => ∃ m : Nat, e = .returned (.int .i64 (m : Int)) ∧ m ≤ 255 ∧ RdOk w' c ∧ OnlyB c w w' := by
  obtain ⟨a, len, cap, p, hrow, hl, hp, hbytes⟩ := h
  have hc0 : w.cell? ⟨c, 0, none⟩ = some (.slice a len cap) := by rw [cell_of_row w c 0 _ 75 (0, 0) hrow]; rfl
  have hc1 : w.cell? ⟨c, 1, none⟩ = some (.int .i64 (p : Int)) := by rw [cell_of_row w c 1 _ 75 (0, 0) hrow]; rfl
  have hf1 : w.frozen? ⟨c, 1, none⟩ = false := frozen_of_row w c 1 _ 75 hrow
  by_cases hlt : p < len
  · obtain ⟨b, off, rfl, hb, hby⟩ : ∃ b off, a = some ⟨b, off, none⟩ ∧ b < c ∧ ∀ i, i < len → ∃ v : Nat, v ≤ 255 ∧ w.cell? ⟨b, off + i, none⟩ = some (.int .u8 (v : Int)) := by
      rcases hbytes with h0 | h0
      · omega
      · exact h0
    obtain ⟨v, hv, hcv⟩ := hby p hlt
    have HB : Hid (∀ i, i < len → ∃ v : Nat, v ≤ 255 ∧ w.cell? ⟨b, off + i, none⟩ = some (.int .u8 (v : Int))) := hby
    have HR : Hid (w.heap[c]? = some (.cells #[.slice (some ⟨b, off, none⟩) len cap, .int .i64 (p : Int)] 75)) := hrow
    clear hby hrow hbytes
    go_enter Try.func19, Try.ntmps19
    go_wp2_with fail
    go_quiet (fail)
    go_wp2_with fail
    go_quiet (fail)
    go_wp2
    go_ret
    refine ⟨v, rfl, hv, ?_, ?_⟩
    · exact rd_after rfl HR.out hl hlt hb HB.out
    · exact ⟨rfl, rfl, rfl, Nat.le_of_eq (World.size_setCell _ _ _).symm, fun b _ hb' => heap_setCell_other _ ⟨c, 1, none⟩ b _ hb'⟩
  · have HR : Hid (w.heap[c]? = some (.cells #[.slice a len cap, .int .i64 (p : Int)] 75)) := hrow
    have HB : Hid (len = 0 ∨ ∃ b off, a = some ⟨b, off, none⟩ ∧ b < c ∧ ∀ i, i < len → ∃ v : Nat, v ≤ 255 ∧ w.cell? ⟨b, off + i, none⟩ = some (.int .u8 (v : Int))) := hbytes
    clear hrow hbytes
    go_enter Try.func19, Try.ntmps19
    go_wp2_with fail
    go_quiet (fail)
    go_wp2
    go_ret
    exact ⟨0, rfl, by decide, ⟨a, len, cap, p, HR.out, hl, hp, HB.out⟩, ⟨rfl, rfl, rfl, Nat.le_refl _, fun b _ _ => rfl⟩⟩
/-- where a drawn instruction stands: the reader at c, the instruction at g, the cell of the result at r -/
structure InSt (w : World) (c r g : Nat) (u : World) : Prop where
  rd : RdOk u c
  row : ∃ a b d e f : Int, u.heap[g]? = some (.cells #[.int .i64 a, .int .i64 b, .int .i64 d, .int .i64 e, .int .i64 f] 105)
  res : u.heap[r]? = some (.cells #[.int .i64 0, .int .i64 0, .int .i64 0, .int .i64 0, .int .i64 0] 105)
  bel : OnlyB c w u
  cr : c < r
  rg : r < g
  wr : w.heap.size ≤ r
theorem InSt.lt {w u : World} {c r g : Nat} (h : InSt w c r g u) : g < u.heap.size := by
  obtain ⟨a, b, d, e, f, hr⟩ := h.row
  exact (Array.getElem?_eq_some_iff.1 hr).1
theorem InSt.alloc {w u : World} {c r g : Nat} (h : InSt w c r g u) (o : Obj) : InSt w c r g (u.alloc o) := by
  have hl := h.lt
  have h1 := h.cr
  have h2 := h.rg
  obtain ⟨a, b, d, e, f, hr⟩ := h.row
  exact ⟨h.rd.alloc o, ⟨a, b, d, e, f, by rw [Below.heap_alloc u o g hl]; exact hr⟩, by rw [Below.heap_alloc u o r (by omega)]; exact h.res, h.bel.low ((Below.refl _ _).alloc (by have := h.wr; omega) _), h1, h2, h.wr⟩
theorem InSt.only {w u u' : World} {c r g : Nat} (h : InSt w c r g u) (hr : RdOk u' c) (ho : OnlyB c u u') : InSt w c r g u' := by
  have hl := h.lt
  have h1 := h.cr
  have h2 := h.rg
  obtain ⟨a, b, d, e, f, hrow⟩ := h.row
  exact ⟨hr, ⟨a, b, d, e, f, by rw [ho.block g hl (by omega)]; exact hrow⟩, by rw [ho.block r (by omega) (by omega)]; exact h.res, h.bel.trans ho, h1, h2, h.wr⟩
theorem RdOk.setOther {u : World} {c g i : Nat} {x : Value} (h : RdOk u c) (hg : c < g) : RdOk (u.setCell ⟨g, i, none⟩ x) c := by
  obtain ⟨a, len, cap, p, hrow, hl, hp, hb⟩ := h
  refine ⟨a, len, cap, p, by rw [heap_setCell_other u ⟨g, i, none⟩ c x (by show c ≠ g; omega)]; exact hrow, hl, hp, ?_⟩
  rcases hb with hb | ⟨b, off, ha, hbc, hby⟩
  · exact .inl hb
  · refine .inr ⟨b, off, ha, hbc, fun j hj => ?_⟩
    obtain ⟨v, hv, hc⟩ := hby j hj
    exact ⟨v, hv, by rw [← hc]; exact World.cell?_of_block (w := u) (heap_setCell_other u ⟨g, i, none⟩ b x (by show b ≠ g; omega))⟩
theorem InSt.set {w u : World} {c r g : Nat} (h : InSt w c r g u) (i : Nat) (hi : i < 5) (x : Int) : InSt w c r g (u.setCell ⟨g, i, none⟩ (.int .i64 x)) := by
  have h1 := h.cr
  have h2 := h.rg
  obtain ⟨a, b, d, e, f, hrow⟩ := h.row
  refine ⟨h.rd.setOther (by omega), ?_, by rw [heap_setCell_other u ⟨g, i, none⟩ r _ (by show r ≠ g; omega)]; exact h.res, h.bel.low ((Below.refl _ _).setCell (show w.heap.size ≤ g by have := h.wr; omega) _), h1, h2, h.wr⟩
  rw [heap_setCell_same u g i _ 105 _ hrow]
  rcases (show i = 0 ∨ i = 1 ∨ i = 2 ∨ i = 3 ∨ i = 4 by omega) with rfl | rfl | rfl | rfl | rfl
  · exact ⟨x, b, d, e, f, rfl⟩
  · exact ⟨a, x, d, e, f, rfl⟩
  · exact ⟨a, b, x, e, f, rfl⟩
  · exact ⟨a, b, d, x, f, rfl⟩
  · exact ⟨a, b, d, e, x, rfl⟩
end Go.Proofs.Ytfcfnbncgadomaa.W
