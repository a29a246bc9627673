import Derived.WalkKit
import Derived.Test.YtjdfffdeljgenaaGreatDoorChecked
import Derived.Below
import Derived.LoopTactic
import Derived.Deep.QuietTactic
import Derived.BigQuiet
import Derived.Great.Walk
import Derived.Deep.WholeRow
set_option linter.unusedVariables false
namespace Go.Proofs.YtjdfffdeljgenaaGreatDoor.Pl
theorem tmod_cases (n k : Int) : (0 ≤ n ∧ n.tmod k = n % k) ∨ (n < 0 ∧ n.tmod k = -((-n) % k)) := by
  by_cases h : 0 ≤ n
  · left; exact ⟨h, Int.tmod_eq_emod_of_nonneg h⟩
  · right; refine ⟨by omega, ?_⟩
    have : n = -(-n) := by omega
    rw [this, Int.neg_tmod, Int.tmod_eq_emod_of_nonneg (by omega)]; simp
theorem tdiv_cases (n k : Int) : (0 ≤ n ∧ n.tdiv k = n / k) ∨ (n < 0 ∧ n.tdiv k = -((-n) / k)) := by
  by_cases h : 0 ≤ n
  · left; exact ⟨h, Int.tdiv_eq_ediv_of_nonneg h⟩
  · right; refine ⟨by omega, ?_⟩
    have : n = -(-n) := by omega
    rw [this, Int.neg_tdiv, Int.tdiv_eq_ediv_of_nonneg (by omega)]; simp
theorem word_tmod_bd (n : Int) : -4294967295 ≤ n.tmod 4294967296 ∧ n.tmod 4294967296 ≤ 4294967295 := by
  rcases tmod_cases n 4294967296 with ⟨_, h⟩ | ⟨_, h⟩ <;> omega
theorem word_tmod (n : Int) : (n.tmod 4294967296 + 4294967296) % 4294967296 = n % 4294967296 := by
  rcases tmod_cases n 4294967296 with ⟨_, h⟩ | ⟨_, h⟩ <;> rw [h] <;> omega
def wd (n : Int) : Int := n % 4294967296
def sg (n : Int) : Int := (n + 2147483648) % 4294967296 - 2147483648
theorem sg_wrap (n : Int) : RowKit.wrap64 (RowKit.wrap32 n) = sg n := by unfold RowKit.wrap64 RowKit.wrap32 sg; omega
theorem sg_high (n : Int) (h : 2147483648 ≤ wd n) : wd n - 4294967296 = sg n := by unfold wd at *; unfold sg; omega
theorem sg_low (n : Int) (h : wd n < 2147483648) : wd n = sg n := by unfold wd at *; unfold sg; omega
def ks (n : Int) : Int := if n = 1 ∨ n = 2 then 1 else if n = 3 ∨ n = 4 then 2 else if n = 5 then 4 else 0
theorem kind_cases (n : Int) : n = 1 ∨ n = 2 ∨ n = 3 ∨ n = 4 ∨ n = 5 ∨ ((n == 1) = false ∧ (n == 2) = false ∧ (n == 3) = false ∧ (n == 4) = false ∧ (n == 5) = false) := by
  simp; omega
theorem ks_none (n : Int) (h1 : (n == 1) = false) (h2 : (n == 2) = false) (h3 : (n == 3) = false) (h4 : (n == 4) = false) (h5 : (n == 5) = false) : 0 = ks n := by
  simp at h1 h2 h3 h4 h5; simp [ks, h1, h2, h3, h4, h5]
theorem wd_bd (n : Int) : 0 ≤ wd n ∧ wd n ≤ 4294967295 := by unfold wd; omega
theorem sg_bd (n : Int) : -2147483648 ≤ sg n ∧ sg n ≤ 2147483647 := by unfold sg; omega
end Go.Proofs.YtjdfffdeljgenaaGreatDoor.Pl
namespace Go.Proofs.YtjdfffdeljgenaaGreatDoor.W
open Go.RowKit
theorem ret_int {k : IntKind} {a b : Int} (h : a = b) : Ending.returned (.int k a) = .returned (.int k b) := by rw [h]
theorem ret_bool {a b : Bool} (h : a = b) : Ending.returned (.bool a) = .returned (.bool b) := by rw [h]
theorem implWord_any (n : Int) (w : World) : Calls Tryz.prog 64 #[.int .i64 n] w fun e w' => e = .returned (.int .i64 (Pl.wd n)) ∧ w' = w := by
  go_enter Tryz.func64, Tryz.ntmps64
  go_wp2
  go_ret
  exact ⟨ret_int rfl, rfl⟩
theorem specWord_any (n : Int) (w : World) : Calls Tryz.prog 75 #[.int .i64 n] w fun e w' => e = .returned (.int .i64 (Pl.wd n)) ∧ w' = w := by
  have h1 := Pl.word_tmod_bd n
  go_enter Tryz.func75, Tryz.ntmps75
  go_wp2
  go_ret
  exact ⟨ret_int (Pl.word_tmod n), rfl⟩
theorem implSigned_any (n : Int) (w : World) : Calls Tryz.prog 109 #[.int .i64 n] w fun e w' => e = .returned (.int .i64 (Pl.sg n)) ∧ w' = w := by
  go_enter Tryz.func109, Tryz.ntmps109
  go_wp2
  go_ret
  exact ⟨ret_int (Pl.sg_wrap n), rfl⟩
theorem specSigned_any (n : Int) (w : World) : Calls Tryz.prog 99 #[.int .i64 n] w fun e w' => e = .returned (.int .i64 (Pl.sg n)) ∧ w' = w := by
  have h1 := Pl.wd_bd n
  by_cases h : 2147483648 ≤ Pl.wd n
  all_goals
    go_enter Tryz.func99, Tryz.ntmps99
    go_wp2_with (go_at_call 75; refine (specWord_any _ _).mono ?_; rintro e w' ⟨rfl, rfl⟩)
    go_ret
  · exact ⟨ret_int (Pl.sg_high n h), rfl⟩
  · exact ⟨ret_int (Pl.sg_low n h), rfl⟩
theorem implKindSize_any (n : Int) (w : World) : Calls Tryz.prog 122 #[.int .i64 n] w fun e w' => e = .returned (.int .i64 (Pl.ks n)) ∧ w' = w := by
  rcases Pl.kind_cases n with rfl | rfl | rfl | rfl | rfl | ⟨h1, h2, h3, h4, h5⟩
  all_goals
    go_enter Tryz.func122, Tryz.ntmps122
    go_wp2
    go_ret
  iterate 5 exact ⟨rfl, rfl⟩
  exact ⟨ret_int (Pl.ks_none n h1 h2 h3 h4 h5), rfl⟩
theorem specKindSize_any (n : Int) (w : World) : Calls Tryz.prog 103 #[.int .i64 n] w fun e w' => e = .returned (.int .i64 (Pl.ks n)) ∧ w' = w := by
  rcases Pl.kind_cases n with rfl | rfl | rfl | rfl | rfl | ⟨h1, h2, h3, h4, h5⟩
  all_goals
    go_enter Tryz.func103, Tryz.ntmps103
    go_wp2
    go_ret
  iterate 5 exact ⟨rfl, rfl⟩
  exact ⟨ret_int (Pl.ks_none n h1 h2 h3 h4 h5), rfl⟩
end Go.Proofs.YtjdfffdeljgenaaGreatDoor.W
namespace Go.Proofs.YtjdfffdeljgenaaGreatDoor.Pl
def pw (k : Nat) : Int := 2 ^ k
theorem pw_pos (k : Nat) : 0 < pw k := by unfold pw; exact Int.pow_pos (by decide)
theorem pw_succ (k : Nat) : pw (k + 1) = pw k * 2 := by unfold pw; rw [Int.pow_succ]
theorem pw_mono {j k : Nat} (h : j ≤ k) : pw j ≤ pw k := by
  induction h with
  | refl => omega
  | step _ ih => rw [pw_succ]; have := pw_pos j; omega
theorem pw_le62 (k : Nat) (h : k ≤ 62) : pw k ≤ 4611686018427387904 := by
  have := pw_mono h; have e : pw 62 = 4611686018427387904 := by decide
  omega
def i8 (n : Int) : Int := (n + 128) % 256 - 128
def i16 (n : Int) : Int := (n + 32768) % 65536 - 32768
def nr (k n : Int) : Int := if k = 1 then wd (i8 n) else if k = 2 then n % 256 else if k = 3 then wd (i16 n) else if k = 4 then n % 65536 else if k = 5 then wd n else 0
def kb (k : Int) : Bool := decide (1 ≤ k ∧ k ≤ 5)
theorem kb_none (k : Int) (h1 : (k == 1) = false) (h2 : (k == 2) = false) (h3 : (k == 3) = false) (h4 : (k == 4) = false) (h5 : (k == 5) = false) : false = kb k := by
  simp at h1 h2 h3 h4 h5; simp [kb]; omega
theorem nr_none (k n : Int) (h1 : (k == 1) = false) (h2 : (k == 2) = false) (h3 : (k == 3) = false) (h4 : (k == 4) = false) (h5 : (k == 5) = false) : 0 = nr k n := by
  simp at h1 h2 h3 h4 h5; simp [nr, h1, h2, h3, h4, h5]
theorem nr_i8 (n : Int) : wd (RowKit.wrap64 (IntKind.i8.wrap n)) = nr 1 n := by
  have h : IntKind.i8.wrap n = i8 n := by simp only [IntKind.wrap, IntKind.bits, IntKind.signed, i8]; simp; split <;> omega
  have h2 : RowKit.wrap64 (i8 n) = i8 n := by unfold RowKit.wrap64 i8; omega
  rw [h, h2]; rfl
theorem nr_i16 (n : Int) : wd (RowKit.wrap64 (IntKind.i16.wrap n)) = nr 3 n := by
  have h : IntKind.i16.wrap n = i16 n := by simp only [IntKind.wrap, IntKind.bits, IntKind.signed, i16]; simp; split <;> omega
  have h2 : RowKit.wrap64 (i16 n) = i16 n := by unfold RowKit.wrap64 i16; omega
  rw [h, h2]; rfl
theorem nr_u16 (n : Int) : RowKit.wrap64 (IntKind.u16.wrap n) = nr 4 n := by
  have h : IntKind.u16.wrap n = n % 65536 := by simp [IntKind.wrap, IntKind.bits, IntKind.signed]
  have h2 : RowKit.wrap64 (n % 65536) = n % 65536 := by unfold RowKit.wrap64; omega
  rw [h, h2]; rfl
theorem nrs1h (n : Int) (h : 128 ≤ wd n % 256) : wd (wd n % 256 - 256) = nr 1 n := by
  show _ = wd (i8 n); unfold wd at *; unfold i8; omega
theorem nrs1l (n : Int) (h : wd n % 256 < 128) : wd (wd n % 256) = nr 1 n := by
  show _ = wd (i8 n); unfold wd at *; unfold i8; omega
theorem nrs2 (n : Int) : wd (wd n % 256) = nr 2 n := by show _ = n % 256; unfold wd; omega
theorem nrs3h (n : Int) (h : 32768 ≤ wd n % 65536) : wd (wd n % 65536 - 65536) = nr 3 n := by
  show _ = wd (i16 n); unfold wd at *; unfold i16; omega
theorem nrs3l (n : Int) (h : wd n % 65536 < 32768) : wd (wd n % 65536) = nr 3 n := by
  show _ = wd (i16 n); unfold wd at *; unfold i16; omega
theorem nrs4 (n : Int) : wd (wd n % 65536) = nr 4 n := by show _ = n % 65536; unfold wd; omega
theorem nrs5 (n : Int) : wd (wd n % 4294967296) = nr 5 n := by show _ = wd n; unfold wd; omega
end Go.Proofs.YtjdfffdeljgenaaGreatDoor.Pl
namespace Go.Proofs.YtjdfffdeljgenaaGreatDoor.W
open Go.RowKit
theorem ret2 {k : IntKind} {a b : Int} {p q : Bool} (h : a = b) (h' : p = q) : Ending.returned (.tuple #[.int k a, .bool p]) = .returned (.tuple #[.int k b, .bool q]) := by rw [h, h']
set_option maxHeartbeats 400000 in
theorem specPower_any (n : Int) (k : Nat) (hn : n = k) (hk : k ≤ 62) (w : World) : Calls Tryz.prog 118 #[.int .i64 n] w fun e w' => e = .returned (.int .i64 (Pl.pw k)) ∧ w' = w := by
  subst hn
  go_enter Tryz.func118, Tryz.ntmps118
  go_wp2
  go_loop [3, 4] (fun v i => ∃ j : Nat, j ≤ k ∧ i = .int .i64 j ∧ v = .int .i64 (Pl.pw j)) (fun _ i => k - (intOf i).toNat)
  case atStart => exact ⟨0, Nat.zero_le _, rfl, rfl⟩
  case round =>
    obtain ⟨j, hj, rfl, rfl⟩ := hrel
    have h1 := Pl.pw_pos j
    have h2 := Pl.pw_le62 j (by omega)
    by_cases hlt : j < k
    · have h3 := Pl.pw_le62 (j + 1) (by omega)
      have h4 := Pl.pw_succ j
      have h5 : Pl.pw j * 2 ≤ 4611686018427387904 := by omega
      have H : Hid (Pl.pw (j + 1) = Pl.pw j * 2) := h4
      clear h3 h4
      go_wp2
      go_round
      case rel => exact ⟨j + 1, by omega, by go_num, by rw [H.out]⟩
      case measure => simp [intOf]; omega
    · have e : j = k := by omega
      subst e
      go_wp2
      go_ret
      exact ⟨rfl, rfl⟩
theorem implNarrow_any (k n : Int) (w : World) : Calls Tryz.prog 108 #[.int .i64 k, .int .i64 n] w fun e w' => e = .returned (.tuple #[.int .i64 (Pl.nr k n), .bool (Pl.kb k)]) ∧ w' = w := by
  rcases Pl.kind_cases k with rfl | rfl | rfl | rfl | rfl | ⟨h1, h2, h3, h4, h5⟩
  all_goals
    go_enter Tryz.func108, Tryz.ntmps108
    go_wp2_with (first | (go_at_call 64; refine (implWord_any _ _).mono ?_; rintro e w' ⟨rfl, rfl⟩) | go_in)
    go_ret2
  · exact ⟨ret2 (Pl.nr_i8 n) rfl, rfl⟩
  · exact ⟨ret2 rfl rfl, rfl⟩
  · exact ⟨ret2 (Pl.nr_i16 n) rfl, rfl⟩
  · exact ⟨ret2 (Pl.nr_u16 n) rfl, rfl⟩
  · exact ⟨ret2 rfl rfl, rfl⟩
  · exact ⟨ret2 (Pl.nr_none k n h1 h2 h3 h4 h5) (Pl.kb_none k h1 h2 h3 h4 h5), rfl⟩
theorem specPower8 (w : World) : Calls Tryz.prog 118 #[.int .i64 8] w fun e w' => e = .returned (.int .i64 256) ∧ w' = w := specPower_any 8 8 rfl (by decide) w
theorem specPower16 (w : World) : Calls Tryz.prog 118 #[.int .i64 16] w fun e w' => e = .returned (.int .i64 65536) ∧ w' = w := specPower_any 16 16 rfl (by decide) w
theorem specPower32 (w : World) : Calls Tryz.prog 118 #[.int .i64 32] w fun e w' => e = .returned (.int .i64 4294967296) ∧ w' = w := specPower_any 32 32 rfl (by decide) w
theorem ks0 (k : Int) (w : World) (h1 : (k == 1) = false) (h2 : (k == 2) = false) (h3 : (k == 3) = false) (h4 : (k == 4) = false) (h5 : (k == 5) = false) :
    Calls Tryz.prog 103 #[.int .i64 k] w fun e w' => e = .returned (.int .i64 0) ∧ w' = w := by
  have := specKindSize_any k w
  rw [← Pl.ks_none k h1 h2 h3 h4 h5] at this; exact this
theorem ks1 (w : World) : Calls Tryz.prog 103 #[.int .i64 1] w fun e w' => e = .returned (.int .i64 1) ∧ w' = w := specKindSize_any 1 w
theorem ks2 (w : World) : Calls Tryz.prog 103 #[.int .i64 2] w fun e w' => e = .returned (.int .i64 1) ∧ w' = w := specKindSize_any 2 w
theorem ks3 (w : World) : Calls Tryz.prog 103 #[.int .i64 3] w fun e w' => e = .returned (.int .i64 2) ∧ w' = w := specKindSize_any 3 w
theorem ks4 (w : World) : Calls Tryz.prog 103 #[.int .i64 4] w fun e w' => e = .returned (.int .i64 2) ∧ w' = w := specKindSize_any 4 w
theorem ks5 (w : World) : Calls Tryz.prog 103 #[.int .i64 5] w fun e w' => e = .returned (.int .i64 4) ∧ w' = w := specKindSize_any 5 w
theorem specNarrow_any (k n : Int) (w : World) : Calls Tryz.prog 105 #[.int .i64 k, .int .i64 n] w fun e w' => e = .returned (.tuple #[.int .i64 (Pl.nr k n), .bool (Pl.kb k)]) ∧ w' = w := by
  have hb := Pl.wd_bd n
  rcases Pl.kind_cases k with rfl | rfl | rfl | rfl | rfl | ⟨h1, h2, h3, h4, h5⟩
  · by_cases h : 128 ≤ Pl.wd n % 256
    all_goals
      go_enter Tryz.func105, Tryz.ntmps105
      go_wp2_with (first | (go_at_call 103; refine (ks1 _).mono ?_; rintro e w' ⟨rfl, rfl⟩) | (go_at_call 118; refine (specPower8 _).mono ?_; rintro e w' ⟨rfl, rfl⟩) | (go_at_call 75; refine (specWord_any _ _).mono ?_; rintro e w' ⟨rfl, rfl⟩))
      go_ret2
    · exact ⟨ret2 (Pl.nrs1h n h) rfl, rfl⟩
    · exact ⟨ret2 (Pl.nrs1l n h) rfl, rfl⟩
  · go_enter Tryz.func105, Tryz.ntmps105
    go_wp2_with (first | (go_at_call 103; refine (ks2 _).mono ?_; rintro e w' ⟨rfl, rfl⟩) | (go_at_call 118; refine (specPower8 _).mono ?_; rintro e w' ⟨rfl, rfl⟩) | (go_at_call 75; refine (specWord_any _ _).mono ?_; rintro e w' ⟨rfl, rfl⟩))
    go_ret2
    exact ⟨ret2 (Pl.nrs2 n) rfl, rfl⟩
  · by_cases h : 32768 ≤ Pl.wd n % 65536
    all_goals
      go_enter Tryz.func105, Tryz.ntmps105
      go_wp2_with (first | (go_at_call 103; refine (ks3 _).mono ?_; rintro e w' ⟨rfl, rfl⟩) | (go_at_call 118; refine (specPower16 _).mono ?_; rintro e w' ⟨rfl, rfl⟩) | (go_at_call 75; refine (specWord_any _ _).mono ?_; rintro e w' ⟨rfl, rfl⟩))
      go_ret2
    · exact ⟨ret2 (Pl.nrs3h n h) rfl, rfl⟩
    · exact ⟨ret2 (Pl.nrs3l n h) rfl, rfl⟩
  · go_enter Tryz.func105, Tryz.ntmps105
    go_wp2_with (first | (go_at_call 103; refine (ks4 _).mono ?_; rintro e w' ⟨rfl, rfl⟩) | (go_at_call 118; refine (specPower16 _).mono ?_; rintro e w' ⟨rfl, rfl⟩) | (go_at_call 75; refine (specWord_any _ _).mono ?_; rintro e w' ⟨rfl, rfl⟩))
    go_ret2
    exact ⟨ret2 (Pl.nrs4 n) rfl, rfl⟩
  · go_enter Tryz.func105, Tryz.ntmps105
    go_wp2_with (first | (go_at_call 103; refine (ks5 _).mono ?_; rintro e w' ⟨rfl, rfl⟩) | (go_at_call 118; refine (specPower32 _).mono ?_; rintro e w' ⟨rfl, rfl⟩) | (go_at_call 75; refine (specWord_any _ _).mono ?_; rintro e w' ⟨rfl, rfl⟩))
    go_ret2
    exact ⟨ret2 (Pl.nrs5 n) rfl, rfl⟩
  · go_enter Tryz.func105, Tryz.ntmps105
    go_wp2_with (go_at_call 103; refine (ks0 _ _ h1 h2 h3 h4 h5).mono ?_; rintro e w' ⟨rfl, rfl⟩)
    go_ret2
    exact ⟨ret2 (Pl.nr_none k n h1 h2 h3 h4 h5) (Pl.kb_none k h1 h2 h3 h4 h5), rfl⟩
end Go.Proofs.YtjdfffdeljgenaaGreatDoor.W
namespace Go.Proofs.YtjdfffdeljgenaaGreatDoor.Pl
def isW (n : Int) : Bool := decide (0 ≤ n ∧ n ≤ 4294967295)
theorem isW_iff (n : Int) : isW n = true ↔ 0 ≤ n ∧ n ≤ 4294967295 := by simp [isW]
theorem isW_wd (n : Int) : (n == wd n) = isW n := by
  have e : wd n = n % 4294967296 := rfl
  by_cases h : 0 ≤ n ∧ n ≤ 4294967295
  · have h1 : n = wd n := by rw [e]; omega
    have h2 : isW n = true := (isW_iff n).2 h
    rw [h2, beq_iff_eq]; exact h1
  · have h1 : n ≠ wd n := by rw [e]; omega
    have h2 : isW n = false := by rw [Bool.eq_false_iff]; intro hc; exact h ((isW_iff n).1 hc)
    rw [h2]; simpa using h1
theorem all_of_getD {p : Int → Bool} {zs : List Int} (h : ∀ j, j < zs.length → p (zs.getD j 0) = true) : zs.all p = true := by
  rw [List.all_eq_true]
  intro x hx
  obtain ⟨i, hi, rfl⟩ := List.getElem_of_mem hx
  have := h i hi
  rwa [List.getD_eq_getElem?_getD, List.getElem?_eq_getElem hi] at this
theorem not_all_of_getD {p : Int → Bool} {zs : List Int} {k : Nat} (hk : k < zs.length) (h : p (zs.getD k 0) = false) : zs.all p = false := by
  rw [Bool.eq_false_iff]
  intro hc
  rw [List.all_eq_true] at hc
  have := hc zs[k] (List.getElem_mem hk)
  rw [List.getD_eq_getElem?_getD, List.getElem?_eq_getElem hk] at h
  simp at h
  rw [this] at h
  cases h
def skOk (n : Int) : Bool := decide (0 ≤ n ∧ n ≤ 65536 ∧ n % 16 = 0)
def cdOk (zs : List Int) : Bool := decide (1 ≤ zs.length ∧ zs.length ≤ 16384) && zs.all isW
def place (len : Nat) (at_ : Int) : Int := if 65536 ≤ at_ ∧ at_ % 4 = 0 ∧ (at_ - 65536) / 4 < len then (at_ - 65536) / 4 else -1
end Go.Proofs.YtjdfffdeljgenaaGreatDoor.Pl
namespace Go.Proofs.YtjdfffdeljgenaaGreatDoor.W
open Go.RowKit
theorem below_drewN {B : Nat} {a w : World} (h : Below B a w) (m : Nat) : Below B a (w.drewN m) := ⟨h.os, h.tape, h.output, h.size, h.block⟩
def Row (k : IntKind) (lo : Nat) (w : World) (a : Option Addr) (len cap : Nat) (zs : List Int) : Prop :=
  zs.length = len ∧ len ≤ cap ∧ cap ≤ maxLen ∧ (∀ n ∈ zs, (Lit.int k n).wf = true) ∧
  (len = 0 ∨ ∃ b off, a = some ⟨b, off, none⟩ ∧ lo ≤ b ∧ b < w.heap.size ∧ ∀ i, i < len → w.cell? ⟨b, off + i, none⟩ = some (.int k (zs.getD i 0)))
theorem Row.keep {k : IntKind} {lo : Nat} {w w' : World} {a : Option Addr} {len cap : Nat} {zs : List Int} (h : Row k lo w a len cap zs) (hb : Below w.heap.size w w') : Row k lo w' a len cap zs := by
  obtain ⟨h1, h2, h3, h4, h5⟩ := h
  refine ⟨h1, h2, h3, h4, ?_⟩
  rcases h5 with h5 | ⟨b, off, rfl, hlo, hlt, hc⟩
  · exact .inl h5
  · exact .inr ⟨b, off, rfl, hlo, Nat.lt_of_lt_of_le hlt hb.size, fun i hi => (hb.cell (by exact hlt)).trans (hc i hi)⟩
theorem Row.lower {k : IntKind} {lo lo' : Nat} {w : World} {a : Option Addr} {len cap : Nat} {zs : List Int} (h : Row k lo w a len cap zs) (hl : lo' ≤ lo) : Row k lo' w a len cap zs := by
  obtain ⟨h1, h2, h3, h4, h5⟩ := h
  refine ⟨h1, h2, h3, h4, ?_⟩
  rcases h5 with h5 | ⟨b, off, rfl, hlo, hlt, hc⟩
  · exact .inl h5
  · exact .inr ⟨b, off, rfl, Nat.le_trans hl hlo, hlt, hc⟩
theorem Row.small {k : IntKind} {lo : Nat} {w : World} {a : Option Addr} {len cap : Nat} {zs : List Int} (h : Row k lo w a len cap zs) : len ≤ 9223372036854775807 := by
  have h1 := h.2.1
  have h2 := h.2.2.1
  unfold maxLen at h2
  omega
structure Above (B : Nat) (w w' : World) : Prop where
  size : w.heap.size ≤ w'.heap.size
  block : ∀ k, B ≤ k → k < w.heap.size → w'.heap[k]? = w.heap[k]?
theorem Above.refl (B : Nat) (w : World) : Above B w w := ⟨Nat.le_refl _, fun _ _ _ => rfl⟩
theorem Above.trans {B : Nat} {a b c : World} (h : Above B a b) (k : Above B b c) : Above B a c := ⟨Nat.le_trans h.size k.size, fun i h1 h2 => (k.block i h1 (Nat.lt_of_lt_of_le h2 h.size)).trans (h.block i h1 h2)⟩
theorem Above.of_below {B : Nat} {a b : World} (h : Below a.heap.size a b) : Above B a b := ⟨h.size, fun i _ h2 => h.block i h2⟩
theorem Above.setCell {B : Nat} {a b : World} (h : Above B a b) {p : Addr} (hp : p.block < B) (u : Value) : Above B a (b.setCell p u) :=
  ⟨by simpa using h.size, fun i h1 h2 => (Below.heap_setCell b p u i (by omega)).trans (h.block i h1 h2)⟩
theorem Above.setRow {B : Nat} {a b : World} (h : Above B a b) {g : Nat} (hp : g < B) (cs : Array Value) : Above B a (b.setRow g cs) :=
  ⟨by simpa using h.size, fun i h1 h2 => (setRow_other b g i cs (by omega)).trans (h.block i h1 h2)⟩
def Own (k : IntKind) (e : TypeId) (lo : Nat) (w : World) (a : Option Addr) (len cap : Nat) (zs : List Int) : Prop :=
  w.ownsRow lo e 1 (.slice a len cap) len (zs.map (Value.int k)) ∧ (∀ n ∈ zs, (Lit.int k n).wf = true)
theorem Own.row {k : IntKind} {e : TypeId} {lo : Nat} {w : World} {a : Option Addr} {len cap : Nat} {zs : List Int} (h : Own k e lo w a len cap zs) : Row k lo w a len cap zs := by
  obtain ⟨hown, hwf⟩ := h
  have hl : zs.length = len := by have := hown.1; simpa using this
  rcases hown.2 with ⟨h0, h1⟩ | ⟨g, cap', cur, h0, hlo, hg, hnc, hcm, hcs, htake⟩
  · simp only [Value.slice.injEq] at h0
    obtain ⟨rfl, rfl, rfl⟩ := h0
    exact ⟨hl, Nat.le_refl _, Nat.zero_le _, hwf, .inl rfl⟩
  · simp only [Value.slice.injEq] at h0
    obtain ⟨rfl, _, rfl⟩ := h0
    refine ⟨hl, hnc, hcm, hwf, ?_⟩
    refine .inr ⟨g, 0, rfl, hlo, ?_, fun i hi => ?_⟩
    · exact (Array.getElem?_eq_some_iff.1 hg).1
    · have := hown.cellAt i (by omega)
      rw [Nat.zero_add, this, List.getElem?_map, List.getD_eq_getElem?_getD, List.getElem?_eq_getElem (by omega)]
      rfl
theorem Own.keep {k : IntKind} {e : TypeId} {lo : Nat} {w w' : World} {a : Option Addr} {len cap : Nat} {zs : List Int} (h : Own k e lo w a len cap zs) (hb : Below w.heap.size w w') : Own k e lo w' a len cap zs := by
  obtain ⟨hown, hwf⟩ := h
  refine ⟨⟨hown.1, ?_⟩, hwf⟩
  rcases hown.2 with h0 | ⟨g, cap', cur, h0, hlo, hg, hr⟩
  · exact .inl h0
  · refine .inr ⟨g, cap', cur, h0, hlo, ?_, hr⟩
    rw [hb.block g ((Array.getElem?_eq_some_iff.1 hg).1), hg]
theorem Own.same {k : IntKind} {e : TypeId} {B lo : Nat} {w w' : World} {a : Option Addr} {len cap : Nat} {zs : List Int} (h : Own k e lo w a len cap zs) (ha : Above B w w') (hB : B ≤ lo) : Own k e lo w' a len cap zs := by
  obtain ⟨hown, hwf⟩ := h
  refine ⟨⟨hown.1, ?_⟩, hwf⟩
  rcases hown.2 with h0 | ⟨g, cap', cur, h0, hlo, hg, hr⟩
  · exact .inl h0
  · refine .inr ⟨g, cap', cur, h0, hlo, ?_, hr⟩
    rw [ha.block g (Nat.le_trans hB hlo) ((Array.getElem?_eq_some_iff.1 hg).1), hg]
theorem Own.lower {k : IntKind} {e : TypeId} {lo lo' : Nat} {w : World} {a : Option Addr} {len cap : Nat} {zs : List Int} (h : Own k e lo w a len cap zs) (hl : lo' ≤ lo) : Own k e lo' w a len cap zs := by
  obtain ⟨hown, hwf⟩ := h
  refine ⟨⟨hown.1, ?_⟩, hwf⟩
  rcases hown.2 with h0 | ⟨g, cap', cur, h0, hlo, hr⟩
  · exact .inl h0
  · exact .inr ⟨g, cap', cur, h0, Nat.le_trans hl hlo, hr⟩
end Go.Proofs.YtjdfffdeljgenaaGreatDoor.W
namespace Go.Proofs.YtjdfffdeljgenaaGreatDoor.W
open Go.RowKit
theorem Tryz.infou8 : (Tryz.prog.info? 5).map (fun i => (i.zero, i.size, i.bytes)) = some (some (.int .u8 0), 1, 1) := by kernel_rfl
theorem wpList_at {P : Program} {ops : Array Oper} {Q : Exit → Act → World → Prop} {rest : List Oper} {a : Act} {W : World} (h : ∀ U, U = W → wpList P ops Q rest a U) : wpList P ops Q rest a W := h W rfl
theorem below_alloc (w : World) (o : Obj) : Below w.heap.size w (w.alloc o) := (Below.refl _ _).alloc (Nat.le_refl _) _
end Go.Proofs.YtjdfffdeljgenaaGreatDoor.W
