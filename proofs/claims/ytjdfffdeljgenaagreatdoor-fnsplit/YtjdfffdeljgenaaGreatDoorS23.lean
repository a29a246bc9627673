import Derived.Test.YtjdfffdeljgenaaGreatDoorS07
import Derived.Test.YtjdfffdeljgenaaGreatDoorS18
import Derived.Deep.QuietTactic
import Derived.BigQuiet
import Derived.Test.YtjdfffdeljgenaaGreatDoorS22
set_option linter.unusedVariables false
namespace Go.Proofs.YtjdfffdeljgenaaGreatDoor.Pl
open Go.RowKit
theorem bits_eq (n : Int) (a b : Nat) (hb : b ≤ 31) : bits .and .i64 (n / 2 ^ a) (wrap64 (wrap64 (2 ^ b) - 1)) = n / pw a % pw b := by
  have p1 := pw_pos b
  have p2 : pw b ≤ 2147483648 := pw_mono hb
  unfold pw at p1 p2
  have e1 : wrap64 (2 ^ b) = 2 ^ b := by
    generalize (2 : Int) ^ b = x at *
    unfold wrap64; omega
  have e2 : wrap64 (2 ^ b - 1) = 2 ^ b - 1 := by
    generalize (2 : Int) ^ b = x at *
    unfold wrap64; omega
  rw [e1, e2, mask64 _ b (by omega)]
  rfl
end Go.Proofs.YtjdfffdeljgenaaGreatDoor.Pl
namespace Go.Proofs.YtjdfffdeljgenaaGreatDoor.W
open Go.RowKit
set_option maxHeartbeats 400000 in
theorem bitsOf_any (n x y : Int) (a b : Nat) (hx : x = a) (hy : y = b) (ha : a ≤ 31) (hb : b ≤ 31) (n1 : -4611686018427387904 ≤ n) (n2 : n ≤ 4611686018427387904) (w : World) :
    Calls Tryz.prog 131 #[.int .i64 n, .int .i64 x, .int .i64 y] w fun e w' => e = .returned (.int .i64 (n / Pl.pw a % Pl.pw b)) ∧ ∃ m, w' = w.drewN m := by
  subst hx hy
  have p1 := Pl.pw_pos b
  have p2 : Pl.pw b ≤ 2147483648 := Pl.pw_mono hb
  go_enter Tryz.func131, Tryz.ntmps131
  go_wp2_with fail
  go_quiet (fail)
  go_wp2
  go_ret
  exact ⟨ret_int (Pl.bits_eq n a b hb), _, rfl⟩
theorem fixedWord_any (c0 c1 c2 c3 : Int) (h0 : 0 ≤ c0 ∧ c0 ≤ 255) (h1 : 0 ≤ c1 ∧ c1 ≤ 255) (h2 : 0 ≤ c2 ∧ c2 ≤ 255) (h3 : 0 ≤ c3 ∧ c3 ≤ 255) (w : World) :
    Calls Tryz.prog 133 #[.agg #[.int .u8 c0, .int .u8 c1, .int .u8 c2, .int .u8 c3]] w fun e w' => e = .returned (.int .i64 (c0 + c1 * 4096 + c2 * 33554432 + c3 * 1048576)) ∧ w' = w.alloc (.cells #[.int .u8 c0, .int .u8 c1, .int .u8 c2, .int .u8 c3] 114) := by
  go_enter Tryz.func133, Tryz.ntmps133
  go_wp2
  go_ret
  exact ⟨rfl, rfl⟩
end Go.Proofs.YtjdfffdeljgenaaGreatDoor.W
namespace Go.Proofs.YtjdfffdeljgenaaGreatDoor.Pl
def imw : Nat → Int → Int
  | 1, im => (im / Pl.pw 0 % Pl.pw 0 * 1 + im / Pl.pw 0 % Pl.pw 0 * 1 + im / Pl.pw 0 % Pl.pw 0 * 1 + im / Pl.pw 0 % Pl.pw 0 * 1 : Int)
  | 2, im => (im / Pl.pw 0 % Pl.pw 12 * 1048576 + im / Pl.pw 0 % Pl.pw 0 * 1 + im / Pl.pw 0 % Pl.pw 0 * 1 + im / Pl.pw 0 % Pl.pw 0 * 1 : Int)
  | 3, im => (im / Pl.pw 0 % Pl.pw 5 * 1048576 + im / Pl.pw 0 % Pl.pw 0 * 1 + im / Pl.pw 0 % Pl.pw 0 * 1 + im / Pl.pw 0 % Pl.pw 0 * 1 : Int)
  | 4, im => (im / Pl.pw 5 % Pl.pw 7 * 33554432 + im / Pl.pw 0 % Pl.pw 5 * 128 + im / Pl.pw 0 % Pl.pw 0 * 1 + im / Pl.pw 0 % Pl.pw 0 * 1 : Int)
  | 5, im => (im / Pl.pw 12 % Pl.pw 1 * 2147483648 + im / Pl.pw 5 % Pl.pw 6 * 33554432 + im / Pl.pw 1 % Pl.pw 4 * 256 + im / Pl.pw 11 % Pl.pw 1 * 128 : Int)
  | 6, im => (im / Pl.pw 0 % Pl.pw 20 * 4096 + im / Pl.pw 0 % Pl.pw 0 * 1 + im / Pl.pw 0 % Pl.pw 0 * 1 + im / Pl.pw 0 % Pl.pw 0 * 1 : Int)
  | 7, im => (im / Pl.pw 20 % Pl.pw 1 * 2147483648 + im / Pl.pw 1 % Pl.pw 10 * 2097152 + im / Pl.pw 11 % Pl.pw 1 * 1048576 + im / Pl.pw 12 % Pl.pw 8 * 4096 : Int)
  | 8, im => (im / Pl.pw 0 % Pl.pw 0 * 1 + im / Pl.pw 0 % Pl.pw 0 * 1 + im / Pl.pw 0 % Pl.pw 0 * 1 + im / Pl.pw 0 % Pl.pw 0 * 1 : Int)
  | _, _ => 0
end Go.Proofs.YtjdfffdeljgenaaGreatDoor.Pl
namespace Go.Proofs.YtjdfffdeljgenaaGreatDoor.W
open Go.RowKit
theorem vint {k : IntKind} {a b : Int} (h : a = b) : Value.int k a = Value.int k b := by rw [h]
def Im1 (im : Int) (v i : Value) : Prop := (i = .int .i64 0 ∧ v = .int .i64 (0 : Int)) ∨ (i = .int .i64 1 ∧ v = .int .i64 (im / Pl.pw 0 % Pl.pw 0 * 1 : Int)) ∨ (i = .int .i64 2 ∧ v = .int .i64 (im / Pl.pw 0 % Pl.pw 0 * 1 + im / Pl.pw 0 % Pl.pw 0 * 1 : Int)) ∨ (i = .int .i64 3 ∧ v = .int .i64 (im / Pl.pw 0 % Pl.pw 0 * 1 + im / Pl.pw 0 % Pl.pw 0 * 1 + im / Pl.pw 0 % Pl.pw 0 * 1 : Int)) ∨ (i = .int .i64 4 ∧ v = .int .i64 (im / Pl.pw 0 % Pl.pw 0 * 1 + im / Pl.pw 0 % Pl.pw 0 * 1 + im / Pl.pw 0 % Pl.pw 0 * 1 + im / Pl.pw 0 % Pl.pw 0 * 1 : Int))
set_option maxHeartbeats 1000000 in
theorem writeImm_1 (im : Int) (n1 : -4611686018427387904 ≤ im) (n2 : im ≤ 4611686018427387904) (w : World) :
    Calls Tryz.prog 134 #[.int .i64 im, .agg #[.bool true, .bool true, .bool true, .int .i64 0, .int .i64 0, .int .i64 1, .int .i64 0, .int .i64 0, .int .i64 0, .int .i64 0, .int .i64 0, .int .i64 0, .int .i64 0, .int .i64 0, .int .i64 0, .int .i64 0, .int .i64 0, .int .i64 0]] w fun e w' => e = .returned (.int .i64 (Pl.imw 1 im)) ∧ Below w.heap.size w w' := by
  have b0 : 0 ≤ im / Pl.pw 0 % Pl.pw 0 ∧ im / Pl.pw 0 % Pl.pw 0 ≤ 0 := by
    have h := Int.emod_nonneg (im / Pl.pw 0) (Int.ne_of_gt (Pl.pw_pos 0))
    have h' := Int.emod_lt_of_pos (im / Pl.pw 0) (Pl.pw_pos 0)
    have e : Pl.pw 0 = 1 := by decide
    omega
  go_enter Tryz.func134, Tryz.ntmps134
  go_wp2
  go_loopw [5, 10] (fun v i wr => Im1 im v i ∧ Below w.heap.size w wr) (fun _ i _ => 4 - (intOf i).toNat)
  case atStart => exact ⟨Or.inl ⟨rfl, rfl⟩, (Below.refl _ _).alloc (Nat.le_refl _) _⟩
  case round =>
    obtain ⟨hI, hnx⟩ := hrel
    have HX : Hid (Below w.heap.size w wr) := hnx
    clear hnx
    rcases hI with ⟨rfl, rfl⟩ | ⟨rfl, rfl⟩ | ⟨rfl, rfl⟩ | ⟨rfl, rfl⟩ | ⟨rfl, rfl⟩
    · have hi : ∀ w, (Instr.index 122 (.agg #[.int .i64 0, .int .i64 0, .int .i64 0, .int .i64 0, .int .i64 0, .int .i64 0, .int .i64 0, .int .i64 0, .int .i64 0, .int .i64 0, .int .i64 0, .int .i64 0]) (.int .i64 0)).run Tryz.prog w = .ok (.agg #[.int .i64 0, .int .i64 0, .int .i64 0]) w := fun _ => by kernel_rfl
      go_wp2_with fail
      go_quiet ((go_at_call 131; exact Calls.quiet_of (bitsOf_any _ _ _ 0 0 rfl rfl (by decide) (by decide) n1 n2 _)))
      go_wp2
      go_roundw
      case rel => exact ⟨Or.inr (Or.inl ⟨rfl, vint (by omega)⟩), below_drewN' (HX.out.alloc HX.out.size _) _⟩
      case measure => simp [intOf]
    · have hi : ∀ w, (Instr.index 122 (.agg #[.int .i64 0, .int .i64 0, .int .i64 0, .int .i64 0, .int .i64 0, .int .i64 0, .int .i64 0, .int .i64 0, .int .i64 0, .int .i64 0, .int .i64 0, .int .i64 0]) (.int .i64 1)).run Tryz.prog w = .ok (.agg #[.int .i64 0, .int .i64 0, .int .i64 0]) w := fun _ => by kernel_rfl
      go_wp2_with fail
      go_quiet ((go_at_call 131; exact Calls.quiet_of (bitsOf_any _ _ _ 0 0 rfl rfl (by decide) (by decide) n1 n2 _)))
      go_wp2
      go_roundw
      case rel => exact ⟨Or.inr (Or.inr (Or.inl ⟨rfl, vint (by omega)⟩)), below_drewN' (HX.out.alloc HX.out.size _) _⟩
      case measure => simp [intOf]
    · have hi : ∀ w, (Instr.index 122 (.agg #[.int .i64 0, .int .i64 0, .int .i64 0, .int .i64 0, .int .i64 0, .int .i64 0, .int .i64 0, .int .i64 0, .int .i64 0, .int .i64 0, .int .i64 0, .int .i64 0]) (.int .i64 2)).run Tryz.prog w = .ok (.agg #[.int .i64 0, .int .i64 0, .int .i64 0]) w := fun _ => by kernel_rfl
      go_wp2_with fail
      go_quiet ((go_at_call 131; exact Calls.quiet_of (bitsOf_any _ _ _ 0 0 rfl rfl (by decide) (by decide) n1 n2 _)))
      go_wp2
      go_roundw
      case rel => exact ⟨Or.inr (Or.inr (Or.inr (Or.inl ⟨rfl, vint (by omega)⟩))), below_drewN' (HX.out.alloc HX.out.size _) _⟩
      case measure => simp [intOf]
    · have hi : ∀ w, (Instr.index 122 (.agg #[.int .i64 0, .int .i64 0, .int .i64 0, .int .i64 0, .int .i64 0, .int .i64 0, .int .i64 0, .int .i64 0, .int .i64 0, .int .i64 0, .int .i64 0, .int .i64 0]) (.int .i64 3)).run Tryz.prog w = .ok (.agg #[.int .i64 0, .int .i64 0, .int .i64 0]) w := fun _ => by kernel_rfl
      go_wp2_with fail
      go_quiet ((go_at_call 131; exact Calls.quiet_of (bitsOf_any _ _ _ 0 0 rfl rfl (by decide) (by decide) n1 n2 _)))
      go_wp2
      go_roundw
      case rel => exact ⟨Or.inr (Or.inr (Or.inr (Or.inr (⟨rfl, vint (by omega)⟩)))), below_drewN' (HX.out.alloc HX.out.size _) _⟩
      case measure => simp [intOf]
    · go_wp2
      go_ret
      exact ⟨rfl, HX.out⟩
def Im2 (im : Int) (v i : Value) : Prop := (i = .int .i64 0 ∧ v = .int .i64 (0 : Int)) ∨ (i = .int .i64 1 ∧ v = .int .i64 (im / Pl.pw 0 % Pl.pw 12 * 1048576 : Int)) ∨ (i = .int .i64 2 ∧ v = .int .i64 (im / Pl.pw 0 % Pl.pw 12 * 1048576 + im / Pl.pw 0 % Pl.pw 0 * 1 : Int)) ∨ (i = .int .i64 3 ∧ v = .int .i64 (im / Pl.pw 0 % Pl.pw 12 * 1048576 + im / Pl.pw 0 % Pl.pw 0 * 1 + im / Pl.pw 0 % Pl.pw 0 * 1 : Int)) ∨ (i = .int .i64 4 ∧ v = .int .i64 (im / Pl.pw 0 % Pl.pw 12 * 1048576 + im / Pl.pw 0 % Pl.pw 0 * 1 + im / Pl.pw 0 % Pl.pw 0 * 1 + im / Pl.pw 0 % Pl.pw 0 * 1 : Int))
set_option maxHeartbeats 1000000 in
theorem writeImm_2 (im : Int) (n1 : -4611686018427387904 ≤ im) (n2 : im ≤ 4611686018427387904) (w : World) :
    Calls Tryz.prog 134 #[.int .i64 im, .agg #[.bool true, .bool true, .bool false, .int .i64 (-2048), .int .i64 2047, .int .i64 1, .int .i64 0, .int .i64 12, .int .i64 20, .int .i64 0, .int .i64 0, .int .i64 0, .int .i64 0, .int .i64 0, .int .i64 0, .int .i64 0, .int .i64 0, .int .i64 0]] w fun e w' => e = .returned (.int .i64 (Pl.imw 2 im)) ∧ Below w.heap.size w w' := by
  have b0 : 0 ≤ im / Pl.pw 0 % Pl.pw 12 ∧ im / Pl.pw 0 % Pl.pw 12 ≤ 4095 := by
    have h := Int.emod_nonneg (im / Pl.pw 0) (Int.ne_of_gt (Pl.pw_pos 12))
    have h' := Int.emod_lt_of_pos (im / Pl.pw 0) (Pl.pw_pos 12)
    have e : Pl.pw 12 = 4096 := by decide
    omega
  have b1 : 0 ≤ im / Pl.pw 0 % Pl.pw 0 ∧ im / Pl.pw 0 % Pl.pw 0 ≤ 0 := by
    have h := Int.emod_nonneg (im / Pl.pw 0) (Int.ne_of_gt (Pl.pw_pos 0))
    have h' := Int.emod_lt_of_pos (im / Pl.pw 0) (Pl.pw_pos 0)
    have e : Pl.pw 0 = 1 := by decide
    omega
  go_enter Tryz.func134, Tryz.ntmps134
  go_wp2
  go_loopw [5, 10] (fun v i wr => Im2 im v i ∧ Below w.heap.size w wr) (fun _ i _ => 4 - (intOf i).toNat)
  case atStart => exact ⟨Or.inl ⟨rfl, rfl⟩, (Below.refl _ _).alloc (Nat.le_refl _) _⟩
  case round =>
    obtain ⟨hI, hnx⟩ := hrel
    have HX : Hid (Below w.heap.size w wr) := hnx
    clear hnx
    rcases hI with ⟨rfl, rfl⟩ | ⟨rfl, rfl⟩ | ⟨rfl, rfl⟩ | ⟨rfl, rfl⟩ | ⟨rfl, rfl⟩
    · have hi : ∀ w, (Instr.index 122 (.agg #[.int .i64 0, .int .i64 12, .int .i64 20, .int .i64 0, .int .i64 0, .int .i64 0, .int .i64 0, .int .i64 0, .int .i64 0, .int .i64 0, .int .i64 0, .int .i64 0]) (.int .i64 0)).run Tryz.prog w = .ok (.agg #[.int .i64 0, .int .i64 12, .int .i64 20]) w := fun _ => by kernel_rfl
      go_wp2_with fail
      go_quiet ((go_at_call 131; exact Calls.quiet_of (bitsOf_any _ _ _ 0 12 rfl rfl (by decide) (by decide) n1 n2 _)))
      go_wp2
      go_roundw
      case rel => exact ⟨Or.inr (Or.inl ⟨rfl, vint (by omega)⟩), below_drewN' (HX.out.alloc HX.out.size _) _⟩
      case measure => simp [intOf]
    · have hi : ∀ w, (Instr.index 122 (.agg #[.int .i64 0, .int .i64 12, .int .i64 20, .int .i64 0, .int .i64 0, .int .i64 0, .int .i64 0, .int .i64 0, .int .i64 0, .int .i64 0, .int .i64 0, .int .i64 0]) (.int .i64 1)).run Tryz.prog w = .ok (.agg #[.int .i64 0, .int .i64 0, .int .i64 0]) w := fun _ => by kernel_rfl
      go_wp2_with fail
      go_quiet ((go_at_call 131; exact Calls.quiet_of (bitsOf_any _ _ _ 0 0 rfl rfl (by decide) (by decide) n1 n2 _)))
      go_wp2
      go_roundw
      case rel => exact ⟨Or.inr (Or.inr (Or.inl ⟨rfl, vint (by omega)⟩)), below_drewN' (HX.out.alloc HX.out.size _) _⟩
      case measure => simp [intOf]
    · have hi : ∀ w, (Instr.index 122 (.agg #[.int .i64 0, .int .i64 12, .int .i64 20, .int .i64 0, .int .i64 0, .int .i64 0, .int .i64 0, .int .i64 0, .int .i64 0, .int .i64 0, .int .i64 0, .int .i64 0]) (.int .i64 2)).run Tryz.prog w = .ok (.agg #[.int .i64 0, .int .i64 0, .int .i64 0]) w := fun _ => by kernel_rfl
      go_wp2_with fail
      go_quiet ((go_at_call 131; exact Calls.quiet_of (bitsOf_any _ _ _ 0 0 rfl rfl (by decide) (by decide) n1 n2 _)))
      go_wp2
      go_roundw
      case rel => exact ⟨Or.inr (Or.inr (Or.inr (Or.inl ⟨rfl, vint (by omega)⟩))), below_drewN' (HX.out.alloc HX.out.size _) _⟩
      case measure => simp [intOf]
    · have hi : ∀ w, (Instr.index 122 (.agg #[.int .i64 0, .int .i64 12, .int .i64 20, .int .i64 0, .int .i64 0, .int .i64 0, .int .i64 0, .int .i64 0, .int .i64 0, .int .i64 0, .int .i64 0, .int .i64 0]) (.int .i64 3)).run Tryz.prog w = .ok (.agg #[.int .i64 0, .int .i64 0, .int .i64 0]) w := fun _ => by kernel_rfl
      go_wp2_with fail
      go_quiet ((go_at_call 131; exact Calls.quiet_of (bitsOf_any _ _ _ 0 0 rfl rfl (by decide) (by decide) n1 n2 _)))
      go_wp2
      go_roundw
      case rel => exact ⟨Or.inr (Or.inr (Or.inr (Or.inr (⟨rfl, vint (by omega)⟩)))), below_drewN' (HX.out.alloc HX.out.size _) _⟩
      case measure => simp [intOf]
    · go_wp2
      go_ret
      exact ⟨rfl, HX.out⟩
def Im3 (im : Int) (v i : Value) : Prop := (i = .int .i64 0 ∧ v = .int .i64 (0 : Int)) ∨ (i = .int .i64 1 ∧ v = .int .i64 (im / Pl.pw 0 % Pl.pw 5 * 1048576 : Int)) ∨ (i = .int .i64 2 ∧ v = .int .i64 (im / Pl.pw 0 % Pl.pw 5 * 1048576 + im / Pl.pw 0 % Pl.pw 0 * 1 : Int)) ∨ (i = .int .i64 3 ∧ v = .int .i64 (im / Pl.pw 0 % Pl.pw 5 * 1048576 + im / Pl.pw 0 % Pl.pw 0 * 1 + im / Pl.pw 0 % Pl.pw 0 * 1 : Int)) ∨ (i = .int .i64 4 ∧ v = .int .i64 (im / Pl.pw 0 % Pl.pw 5 * 1048576 + im / Pl.pw 0 % Pl.pw 0 * 1 + im / Pl.pw 0 % Pl.pw 0 * 1 + im / Pl.pw 0 % Pl.pw 0 * 1 : Int))
set_option maxHeartbeats 1000000 in
theorem writeImm_3 (im : Int) (n1 : -4611686018427387904 ≤ im) (n2 : im ≤ 4611686018427387904) (w : World) :
    Calls Tryz.prog 134 #[.int .i64 im, .agg #[.bool true, .bool true, .bool false, .int .i64 0, .int .i64 31, .int .i64 1, .int .i64 0, .int .i64 5, .int .i64 20, .int .i64 0, .int .i64 0, .int .i64 0, .int .i64 0, .int .i64 0, .int .i64 0, .int .i64 0, .int .i64 0, .int .i64 0]] w fun e w' => e = .returned (.int .i64 (Pl.imw 3 im)) ∧ Below w.heap.size w w' := by
  have b0 : 0 ≤ im / Pl.pw 0 % Pl.pw 5 ∧ im / Pl.pw 0 % Pl.pw 5 ≤ 31 := by
    have h := Int.emod_nonneg (im / Pl.pw 0) (Int.ne_of_gt (Pl.pw_pos 5))
    have h' := Int.emod_lt_of_pos (im / Pl.pw 0) (Pl.pw_pos 5)
    have e : Pl.pw 5 = 32 := by decide
    omega
  have b1 : 0 ≤ im / Pl.pw 0 % Pl.pw 0 ∧ im / Pl.pw 0 % Pl.pw 0 ≤ 0 := by
    have h := Int.emod_nonneg (im / Pl.pw 0) (Int.ne_of_gt (Pl.pw_pos 0))
    have h' := Int.emod_lt_of_pos (im / Pl.pw 0) (Pl.pw_pos 0)
    have e : Pl.pw 0 = 1 := by decide
    omega
  go_enter Tryz.func134, Tryz.ntmps134
  go_wp2
  go_loopw [5, 10] (fun v i wr => Im3 im v i ∧ Below w.heap.size w wr) (fun _ i _ => 4 - (intOf i).toNat)
  case atStart => exact ⟨Or.inl ⟨rfl, rfl⟩, (Below.refl _ _).alloc (Nat.le_refl _) _⟩
  case round =>
    obtain ⟨hI, hnx⟩ := hrel
    have HX : Hid (Below w.heap.size w wr) := hnx
    clear hnx
    rcases hI with ⟨rfl, rfl⟩ | ⟨rfl, rfl⟩ | ⟨rfl, rfl⟩ | ⟨rfl, rfl⟩ | ⟨rfl, rfl⟩
    · have hi : ∀ w, (Instr.index 122 (.agg #[.int .i64 0, .int .i64 5, .int .i64 20, .int .i64 0, .int .i64 0, .int .i64 0, .int .i64 0, .int .i64 0, .int .i64 0, .int .i64 0, .int .i64 0, .int .i64 0]) (.int .i64 0)).run Tryz.prog w = .ok (.agg #[.int .i64 0, .int .i64 5, .int .i64 20]) w := fun _ => by kernel_rfl
      go_wp2_with fail
      go_quiet ((go_at_call 131; exact Calls.quiet_of (bitsOf_any _ _ _ 0 5 rfl rfl (by decide) (by decide) n1 n2 _)))
      go_wp2
      go_roundw
      case rel => exact ⟨Or.inr (Or.inl ⟨rfl, vint (by omega)⟩), below_drewN' (HX.out.alloc HX.out.size _) _⟩
      case measure => simp [intOf]
    · have hi : ∀ w, (Instr.index 122 (.agg #[.int .i64 0, .int .i64 5, .int .i64 20, .int .i64 0, .int .i64 0, .int .i64 0, .int .i64 0, .int .i64 0, .int .i64 0, .int .i64 0, .int .i64 0, .int .i64 0]) (.int .i64 1)).run Tryz.prog w = .ok (.agg #[.int .i64 0, .int .i64 0, .int .i64 0]) w := fun _ => by kernel_rfl
      go_wp2_with fail
      go_quiet ((go_at_call 131; exact Calls.quiet_of (bitsOf_any _ _ _ 0 0 rfl rfl (by decide) (by decide) n1 n2 _)))
      go_wp2
      go_roundw
      case rel => exact ⟨Or.inr (Or.inr (Or.inl ⟨rfl, vint (by omega)⟩)), below_drewN' (HX.out.alloc HX.out.size _) _⟩
      case measure => simp [intOf]
    · have hi : ∀ w, (Instr.index 122 (.agg #[.int .i64 0, .int .i64 5, .int .i64 20, .int .i64 0, .int .i64 0, .int .i64 0, .int .i64 0, .int .i64 0, .int .i64 0, .int .i64 0, .int .i64 0, .int .i64 0]) (.int .i64 2)).run Tryz.prog w = .ok (.agg #[.int .i64 0, .int .i64 0, .int .i64 0]) w := fun _ => by kernel_rfl
      go_wp2_with fail
      go_quiet ((go_at_call 131; exact Calls.quiet_of (bitsOf_any _ _ _ 0 0 rfl rfl (by decide) (by decide) n1 n2 _)))
      go_wp2
      go_roundw
      case rel => exact ⟨Or.inr (Or.inr (Or.inr (Or.inl ⟨rfl, vint (by omega)⟩))), below_drewN' (HX.out.alloc HX.out.size _) _⟩
      case measure => simp [intOf]
    · have hi : ∀ w, (Instr.index 122 (.agg #[.int .i64 0, .int .i64 5, .int .i64 20, .int .i64 0, .int .i64 0, .int .i64 0, .int .i64 0, .int .i64 0, .int .i64 0, .int .i64 0, .int .i64 0, .int .i64 0]) (.int .i64 3)).run Tryz.prog w = .ok (.agg #[.int .i64 0, .int .i64 0, .int .i64 0]) w := fun _ => by kernel_rfl
      go_wp2_with fail
      go_quiet ((go_at_call 131; exact Calls.quiet_of (bitsOf_any _ _ _ 0 0 rfl rfl (by decide) (by decide) n1 n2 _)))
      go_wp2
      go_roundw
      case rel => exact ⟨Or.inr (Or.inr (Or.inr (Or.inr (⟨rfl, vint (by omega)⟩)))), below_drewN' (HX.out.alloc HX.out.size _) _⟩
      case measure => simp [intOf]
    · go_wp2
      go_ret
      exact ⟨rfl, HX.out⟩
def Im4 (im : Int) (v i : Value) : Prop := (i = .int .i64 0 ∧ v = .int .i64 (0 : Int)) ∨ (i = .int .i64 1 ∧ v = .int .i64 (im / Pl.pw 5 % Pl.pw 7 * 33554432 : Int)) ∨ (i = .int .i64 2 ∧ v = .int .i64 (im / Pl.pw 5 % Pl.pw 7 * 33554432 + im / Pl.pw 0 % Pl.pw 5 * 128 : Int)) ∨ (i = .int .i64 3 ∧ v = .int .i64 (im / Pl.pw 5 % Pl.pw 7 * 33554432 + im / Pl.pw 0 % Pl.pw 5 * 128 + im / Pl.pw 0 % Pl.pw 0 * 1 : Int)) ∨ (i = .int .i64 4 ∧ v = .int .i64 (im / Pl.pw 5 % Pl.pw 7 * 33554432 + im / Pl.pw 0 % Pl.pw 5 * 128 + im / Pl.pw 0 % Pl.pw 0 * 1 + im / Pl.pw 0 % Pl.pw 0 * 1 : Int))
set_option maxHeartbeats 1000000 in
theorem writeImm_4 (im : Int) (n1 : -4611686018427387904 ≤ im) (n2 : im ≤ 4611686018427387904) (w : World) :
    Calls Tryz.prog 134 #[.int .i64 im, .agg #[.bool false, .bool true, .bool true, .int .i64 (-2048), .int .i64 2047, .int .i64 1, .int .i64 5, .int .i64 7, .int .i64 25, .int .i64 0, .int .i64 5, .int .i64 7, .int .i64 0, .int .i64 0, .int .i64 0, .int .i64 0, .int .i64 0, .int .i64 0]] w fun e w' => e = .returned (.int .i64 (Pl.imw 4 im)) ∧ Below w.heap.size w w' := by
  have b0 : 0 ≤ im / Pl.pw 5 % Pl.pw 7 ∧ im / Pl.pw 5 % Pl.pw 7 ≤ 127 := by
    have h := Int.emod_nonneg (im / Pl.pw 5) (Int.ne_of_gt (Pl.pw_pos 7))
    have h' := Int.emod_lt_of_pos (im / Pl.pw 5) (Pl.pw_pos 7)
    have e : Pl.pw 7 = 128 := by decide
    omega
  have b1 : 0 ≤ im / Pl.pw 0 % Pl.pw 5 ∧ im / Pl.pw 0 % Pl.pw 5 ≤ 31 := by
    have h := Int.emod_nonneg (im / Pl.pw 0) (Int.ne_of_gt (Pl.pw_pos 5))
    have h' := Int.emod_lt_of_pos (im / Pl.pw 0) (Pl.pw_pos 5)
    have e : Pl.pw 5 = 32 := by decide
    omega
  have b2 : 0 ≤ im / Pl.pw 0 % Pl.pw 0 ∧ im / Pl.pw 0 % Pl.pw 0 ≤ 0 := by
    have h := Int.emod_nonneg (im / Pl.pw 0) (Int.ne_of_gt (Pl.pw_pos 0))
    have h' := Int.emod_lt_of_pos (im / Pl.pw 0) (Pl.pw_pos 0)
    have e : Pl.pw 0 = 1 := by decide
    omega
  go_enter Tryz.func134, Tryz.ntmps134
  go_wp2
  go_loopw [5, 10] (fun v i wr => Im4 im v i ∧ Below w.heap.size w wr) (fun _ i _ => 4 - (intOf i).toNat)
  case atStart => exact ⟨Or.inl ⟨rfl, rfl⟩, (Below.refl _ _).alloc (Nat.le_refl _) _⟩
  case round =>
    obtain ⟨hI, hnx⟩ := hrel
    have HX : Hid (Below w.heap.size w wr) := hnx
    clear hnx
    rcases hI with ⟨rfl, rfl⟩ | ⟨rfl, rfl⟩ | ⟨rfl, rfl⟩ | ⟨rfl, rfl⟩ | ⟨rfl, rfl⟩
    · have hi : ∀ w, (Instr.index 122 (.agg #[.int .i64 5, .int .i64 7, .int .i64 25, .int .i64 0, .int .i64 5, .int .i64 7, .int .i64 0, .int .i64 0, .int .i64 0, .int .i64 0, .int .i64 0, .int .i64 0]) (.int .i64 0)).run Tryz.prog w = .ok (.agg #[.int .i64 5, .int .i64 7, .int .i64 25]) w := fun _ => by kernel_rfl
      go_wp2_with fail
      go_quiet ((go_at_call 131; exact Calls.quiet_of (bitsOf_any _ _ _ 5 7 rfl rfl (by decide) (by decide) n1 n2 _)))
      go_wp2
      go_roundw
      case rel => exact ⟨Or.inr (Or.inl ⟨rfl, vint (by omega)⟩), below_drewN' (HX.out.alloc HX.out.size _) _⟩
      case measure => simp [intOf]
    · have hi : ∀ w, (Instr.index 122 (.agg #[.int .i64 5, .int .i64 7, .int .i64 25, .int .i64 0, .int .i64 5, .int .i64 7, .int .i64 0, .int .i64 0, .int .i64 0, .int .i64 0, .int .i64 0, .int .i64 0]) (.int .i64 1)).run Tryz.prog w = .ok (.agg #[.int .i64 0, .int .i64 5, .int .i64 7]) w := fun _ => by kernel_rfl
      go_wp2_with fail
      go_quiet ((go_at_call 131; exact Calls.quiet_of (bitsOf_any _ _ _ 0 5 rfl rfl (by decide) (by decide) n1 n2 _)))
      go_wp2
      go_roundw
      case rel => exact ⟨Or.inr (Or.inr (Or.inl ⟨rfl, vint (by omega)⟩)), below_drewN' (HX.out.alloc HX.out.size _) _⟩
      case measure => simp [intOf]
    · have hi : ∀ w, (Instr.index 122 (.agg #[.int .i64 5, .int .i64 7, .int .i64 25, .int .i64 0, .int .i64 5, .int .i64 7, .int .i64 0, .int .i64 0, .int .i64 0, .int .i64 0, .int .i64 0, .int .i64 0]) (.int .i64 2)).run Tryz.prog w = .ok (.agg #[.int .i64 0, .int .i64 0, .int .i64 0]) w := fun _ => by kernel_rfl
      go_wp2_with fail
      go_quiet ((go_at_call 131; exact Calls.quiet_of (bitsOf_any _ _ _ 0 0 rfl rfl (by decide) (by decide) n1 n2 _)))
      go_wp2
      go_roundw
      case rel => exact ⟨Or.inr (Or.inr (Or.inr (Or.inl ⟨rfl, vint (by omega)⟩))), below_drewN' (HX.out.alloc HX.out.size _) _⟩
      case measure => simp [intOf]
    · have hi : ∀ w, (Instr.index 122 (.agg #[.int .i64 5, .int .i64 7, .int .i64 25, .int .i64 0, .int .i64 5, .int .i64 7, .int .i64 0, .int .i64 0, .int .i64 0, .int .i64 0, .int .i64 0, .int .i64 0]) (.int .i64 3)).run Tryz.prog w = .ok (.agg #[.int .i64 0, .int .i64 0, .int .i64 0]) w := fun _ => by kernel_rfl
      go_wp2_with fail
      go_quiet ((go_at_call 131; exact Calls.quiet_of (bitsOf_any _ _ _ 0 0 rfl rfl (by decide) (by decide) n1 n2 _)))
      go_wp2
      go_roundw
      case rel => exact ⟨Or.inr (Or.inr (Or.inr (Or.inr (⟨rfl, vint (by omega)⟩)))), below_drewN' (HX.out.alloc HX.out.size _) _⟩
      case measure => simp [intOf]
    · go_wp2
      go_ret
      exact ⟨rfl, HX.out⟩
end Go.Proofs.YtjdfffdeljgenaaGreatDoor.W
namespace Go.Proofs.YtjdfffdeljgenaaGreatDoor.W
open Go.RowKit
def Im5 (im : Int) (v i : Value) : Prop := (i = .int .i64 0 ∧ v = .int .i64 (0 : Int)) ∨ (i = .int .i64 1 ∧ v = .int .i64 (im / Pl.pw 12 % Pl.pw 1 * 2147483648 : Int)) ∨ (i = .int .i64 2 ∧ v = .int .i64 (im / Pl.pw 12 % Pl.pw 1 * 2147483648 + im / Pl.pw 5 % Pl.pw 6 * 33554432 : Int)) ∨ (i = .int .i64 3 ∧ v = .int .i64 (im / Pl.pw 12 % Pl.pw 1 * 2147483648 + im / Pl.pw 5 % Pl.pw 6 * 33554432 + im / Pl.pw 1 % Pl.pw 4 * 256 : Int)) ∨ (i = .int .i64 4 ∧ v = .int .i64 (im / Pl.pw 12 % Pl.pw 1 * 2147483648 + im / Pl.pw 5 % Pl.pw 6 * 33554432 + im / Pl.pw 1 % Pl.pw 4 * 256 + im / Pl.pw 11 % Pl.pw 1 * 128 : Int))
set_option maxHeartbeats 1000000 in
theorem writeImm_5 (im : Int) (n1 : -4611686018427387904 ≤ im) (n2 : im ≤ 4611686018427387904) (w : World) :
    Calls Tryz.prog 134 #[.int .i64 im, .agg #[.bool false, .bool true, .bool true, .int .i64 (-4096), .int .i64 4094, .int .i64 2, .int .i64 12, .int .i64 1, .int .i64 31, .int .i64 5, .int .i64 6, .int .i64 25, .int .i64 1, .int .i64 4, .int .i64 8, .int .i64 11, .int .i64 1, .int .i64 7]] w fun e w' => e = .returned (.int .i64 (Pl.imw 5 im)) ∧ Below w.heap.size w w' := by
  have b0 : 0 ≤ im / Pl.pw 12 % Pl.pw 1 ∧ im / Pl.pw 12 % Pl.pw 1 ≤ 1 := by
    have h := Int.emod_nonneg (im / Pl.pw 12) (Int.ne_of_gt (Pl.pw_pos 1))
    have h' := Int.emod_lt_of_pos (im / Pl.pw 12) (Pl.pw_pos 1)
    have e : Pl.pw 1 = 2 := by decide
    omega
  have b1 : 0 ≤ im / Pl.pw 5 % Pl.pw 6 ∧ im / Pl.pw 5 % Pl.pw 6 ≤ 63 := by
    have h := Int.emod_nonneg (im / Pl.pw 5) (Int.ne_of_gt (Pl.pw_pos 6))
    have h' := Int.emod_lt_of_pos (im / Pl.pw 5) (Pl.pw_pos 6)
    have e : Pl.pw 6 = 64 := by decide
    omega
  have b2 : 0 ≤ im / Pl.pw 1 % Pl.pw 4 ∧ im / Pl.pw 1 % Pl.pw 4 ≤ 15 := by
    have h := Int.emod_nonneg (im / Pl.pw 1) (Int.ne_of_gt (Pl.pw_pos 4))
    have h' := Int.emod_lt_of_pos (im / Pl.pw 1) (Pl.pw_pos 4)
    have e : Pl.pw 4 = 16 := by decide
    omega
  have b3 : 0 ≤ im / Pl.pw 11 % Pl.pw 1 ∧ im / Pl.pw 11 % Pl.pw 1 ≤ 1 := by
    have h := Int.emod_nonneg (im / Pl.pw 11) (Int.ne_of_gt (Pl.pw_pos 1))
    have h' := Int.emod_lt_of_pos (im / Pl.pw 11) (Pl.pw_pos 1)
    have e : Pl.pw 1 = 2 := by decide
    omega
  go_enter Tryz.func134, Tryz.ntmps134
  go_wp2
  go_loopw [5, 10] (fun v i wr => Im5 im v i ∧ Below w.heap.size w wr) (fun _ i _ => 4 - (intOf i).toNat)
  case atStart => exact ⟨Or.inl ⟨rfl, rfl⟩, (Below.refl _ _).alloc (Nat.le_refl _) _⟩
  case round =>
    obtain ⟨hI, hnx⟩ := hrel
    have HX : Hid (Below w.heap.size w wr) := hnx
    clear hnx
    rcases hI with ⟨rfl, rfl⟩ | ⟨rfl, rfl⟩ | ⟨rfl, rfl⟩ | ⟨rfl, rfl⟩ | ⟨rfl, rfl⟩
    · have hi : ∀ w, (Instr.index 122 (.agg #[.int .i64 12, .int .i64 1, .int .i64 31, .int .i64 5, .int .i64 6, .int .i64 25, .int .i64 1, .int .i64 4, .int .i64 8, .int .i64 11, .int .i64 1, .int .i64 7]) (.int .i64 0)).run Tryz.prog w = .ok (.agg #[.int .i64 12, .int .i64 1, .int .i64 31]) w := fun _ => by kernel_rfl
      go_wp2_with fail
      go_quiet ((go_at_call 131; exact Calls.quiet_of (bitsOf_any _ _ _ 12 1 rfl rfl (by decide) (by decide) n1 n2 _)))
      go_wp2
      go_roundw
      case rel => exact ⟨Or.inr (Or.inl ⟨rfl, vint (by omega)⟩), below_drewN' (HX.out.alloc HX.out.size _) _⟩
      case measure => simp [intOf]
    · have hi : ∀ w, (Instr.index 122 (.agg #[.int .i64 12, .int .i64 1, .int .i64 31, .int .i64 5, .int .i64 6, .int .i64 25, .int .i64 1, .int .i64 4, .int .i64 8, .int .i64 11, .int .i64 1, .int .i64 7]) (.int .i64 1)).run Tryz.prog w = .ok (.agg #[.int .i64 5, .int .i64 6, .int .i64 25]) w := fun _ => by kernel_rfl
      go_wp2_with fail
      go_quiet ((go_at_call 131; exact Calls.quiet_of (bitsOf_any _ _ _ 5 6 rfl rfl (by decide) (by decide) n1 n2 _)))
      go_wp2
      go_roundw
      case rel => exact ⟨Or.inr (Or.inr (Or.inl ⟨rfl, vint (by omega)⟩)), below_drewN' (HX.out.alloc HX.out.size _) _⟩
      case measure => simp [intOf]
    · have hi : ∀ w, (Instr.index 122 (.agg #[.int .i64 12, .int .i64 1, .int .i64 31, .int .i64 5, .int .i64 6, .int .i64 25, .int .i64 1, .int .i64 4, .int .i64 8, .int .i64 11, .int .i64 1, .int .i64 7]) (.int .i64 2)).run Tryz.prog w = .ok (.agg #[.int .i64 1, .int .i64 4, .int .i64 8]) w := fun _ => by kernel_rfl
      go_wp2_with fail
      go_quiet ((go_at_call 131; exact Calls.quiet_of (bitsOf_any _ _ _ 1 4 rfl rfl (by decide) (by decide) n1 n2 _)))
      go_wp2
      go_roundw
      case rel => exact ⟨Or.inr (Or.inr (Or.inr (Or.inl ⟨rfl, vint (by omega)⟩))), below_drewN' (HX.out.alloc HX.out.size _) _⟩
      case measure => simp [intOf]
    · have hi : ∀ w, (Instr.index 122 (.agg #[.int .i64 12, .int .i64 1, .int .i64 31, .int .i64 5, .int .i64 6, .int .i64 25, .int .i64 1, .int .i64 4, .int .i64 8, .int .i64 11, .int .i64 1, .int .i64 7]) (.int .i64 3)).run Tryz.prog w = .ok (.agg #[.int .i64 11, .int .i64 1, .int .i64 7]) w := fun _ => by kernel_rfl
      go_wp2_with fail
      go_quiet ((go_at_call 131; exact Calls.quiet_of (bitsOf_any _ _ _ 11 1 rfl rfl (by decide) (by decide) n1 n2 _)))
      go_wp2
      go_roundw
      case rel => exact ⟨Or.inr (Or.inr (Or.inr (Or.inr (⟨rfl, vint (by omega)⟩)))), below_drewN' (HX.out.alloc HX.out.size _) _⟩
      case measure => simp [intOf]
    · go_wp2
      go_ret
      exact ⟨rfl, HX.out⟩
def Im6 (im : Int) (v i : Value) : Prop := (i = .int .i64 0 ∧ v = .int .i64 (0 : Int)) ∨ (i = .int .i64 1 ∧ v = .int .i64 (im / Pl.pw 0 % Pl.pw 20 * 4096 : Int)) ∨ (i = .int .i64 2 ∧ v = .int .i64 (im / Pl.pw 0 % Pl.pw 20 * 4096 + im / Pl.pw 0 % Pl.pw 0 * 1 : Int)) ∨ (i = .int .i64 3 ∧ v = .int .i64 (im / Pl.pw 0 % Pl.pw 20 * 4096 + im / Pl.pw 0 % Pl.pw 0 * 1 + im / Pl.pw 0 % Pl.pw 0 * 1 : Int)) ∨ (i = .int .i64 4 ∧ v = .int .i64 (im / Pl.pw 0 % Pl.pw 20 * 4096 + im / Pl.pw 0 % Pl.pw 0 * 1 + im / Pl.pw 0 % Pl.pw 0 * 1 + im / Pl.pw 0 % Pl.pw 0 * 1 : Int))
set_option maxHeartbeats 1000000 in
theorem writeImm_6 (im : Int) (n1 : -4611686018427387904 ≤ im) (n2 : im ≤ 4611686018427387904) (w : World) :
    Calls Tryz.prog 134 #[.int .i64 im, .agg #[.bool true, .bool false, .bool false, .int .i64 0, .int .i64 1048575, .int .i64 1, .int .i64 0, .int .i64 20, .int .i64 12, .int .i64 0, .int .i64 0, .int .i64 0, .int .i64 0, .int .i64 0, .int .i64 0, .int .i64 0, .int .i64 0, .int .i64 0]] w fun e w' => e = .returned (.int .i64 (Pl.imw 6 im)) ∧ Below w.heap.size w w' := by
  have b0 : 0 ≤ im / Pl.pw 0 % Pl.pw 20 ∧ im / Pl.pw 0 % Pl.pw 20 ≤ 1048575 := by
    have h := Int.emod_nonneg (im / Pl.pw 0) (Int.ne_of_gt (Pl.pw_pos 20))
    have h' := Int.emod_lt_of_pos (im / Pl.pw 0) (Pl.pw_pos 20)
    have e : Pl.pw 20 = 1048576 := by decide
    omega
  have b1 : 0 ≤ im / Pl.pw 0 % Pl.pw 0 ∧ im / Pl.pw 0 % Pl.pw 0 ≤ 0 := by
    have h := Int.emod_nonneg (im / Pl.pw 0) (Int.ne_of_gt (Pl.pw_pos 0))
    have h' := Int.emod_lt_of_pos (im / Pl.pw 0) (Pl.pw_pos 0)
    have e : Pl.pw 0 = 1 := by decide
    omega
  go_enter Tryz.func134, Tryz.ntmps134
  go_wp2
  go_loopw [5, 10] (fun v i wr => Im6 im v i ∧ Below w.heap.size w wr) (fun _ i _ => 4 - (intOf i).toNat)
  case atStart => exact ⟨Or.inl ⟨rfl, rfl⟩, (Below.refl _ _).alloc (Nat.le_refl _) _⟩
  case round =>
    obtain ⟨hI, hnx⟩ := hrel
    have HX : Hid (Below w.heap.size w wr) := hnx
    clear hnx
    rcases hI with ⟨rfl, rfl⟩ | ⟨rfl, rfl⟩ | ⟨rfl, rfl⟩ | ⟨rfl, rfl⟩ | ⟨rfl, rfl⟩
    · have hi : ∀ w, (Instr.index 122 (.agg #[.int .i64 0, .int .i64 20, .int .i64 12, .int .i64 0, .int .i64 0, .int .i64 0, .int .i64 0, .int .i64 0, .int .i64 0, .int .i64 0, .int .i64 0, .int .i64 0]) (.int .i64 0)).run Tryz.prog w = .ok (.agg #[.int .i64 0, .int .i64 20, .int .i64 12]) w := fun _ => by kernel_rfl
      go_wp2_with fail
      go_quiet ((go_at_call 131; exact Calls.quiet_of (bitsOf_any _ _ _ 0 20 rfl rfl (by decide) (by decide) n1 n2 _)))
      go_wp2
      go_roundw
      case rel => exact ⟨Or.inr (Or.inl ⟨rfl, vint (by omega)⟩), below_drewN' (HX.out.alloc HX.out.size _) _⟩
      case measure => simp [intOf]
    · have hi : ∀ w, (Instr.index 122 (.agg #[.int .i64 0, .int .i64 20, .int .i64 12, .int .i64 0, .int .i64 0, .int .i64 0, .int .i64 0, .int .i64 0, .int .i64 0, .int .i64 0, .int .i64 0, .int .i64 0]) (.int .i64 1)).run Tryz.prog w = .ok (.agg #[.int .i64 0, .int .i64 0, .int .i64 0]) w := fun _ => by kernel_rfl
      go_wp2_with fail
      go_quiet ((go_at_call 131; exact Calls.quiet_of (bitsOf_any _ _ _ 0 0 rfl rfl (by decide) (by decide) n1 n2 _)))
      go_wp2
      go_roundw
      case rel => exact ⟨Or.inr (Or.inr (Or.inl ⟨rfl, vint (by omega)⟩)), below_drewN' (HX.out.alloc HX.out.size _) _⟩
      case measure => simp [intOf]
    · have hi : ∀ w, (Instr.index 122 (.agg #[.int .i64 0, .int .i64 20, .int .i64 12, .int .i64 0, .int .i64 0, .int .i64 0, .int .i64 0, .int .i64 0, .int .i64 0, .int .i64 0, .int .i64 0, .int .i64 0]) (.int .i64 2)).run Tryz.prog w = .ok (.agg #[.int .i64 0, .int .i64 0, .int .i64 0]) w := fun _ => by kernel_rfl
      go_wp2_with fail
      go_quiet ((go_at_call 131; exact Calls.quiet_of (bitsOf_any _ _ _ 0 0 rfl rfl (by decide) (by decide) n1 n2 _)))
      go_wp2
      go_roundw
      case rel => exact ⟨Or.inr (Or.inr (Or.inr (Or.inl ⟨rfl, vint (by omega)⟩))), below_drewN' (HX.out.alloc HX.out.size _) _⟩
      case measure => simp [intOf]
    · have hi : ∀ w, (Instr.index 122 (.agg #[.int .i64 0, .int .i64 20, .int .i64 12, .int .i64 0, .int .i64 0, .int .i64 0, .int .i64 0, .int .i64 0, .int .i64 0, .int .i64 0, .int .i64 0, .int .i64 0]) (.int .i64 3)).run Tryz.prog w = .ok (.agg #[.int .i64 0, .int .i64 0, .int .i64 0]) w := fun _ => by kernel_rfl
      go_wp2_with fail
      go_quiet ((go_at_call 131; exact Calls.quiet_of (bitsOf_any _ _ _ 0 0 rfl rfl (by decide) (by decide) n1 n2 _)))
      go_wp2
      go_roundw
      case rel => exact ⟨Or.inr (Or.inr (Or.inr (Or.inr (⟨rfl, vint (by omega)⟩)))), below_drewN' (HX.out.alloc HX.out.size _) _⟩
      case measure => simp [intOf]
    · go_wp2
      go_ret
      exact ⟨rfl, HX.out⟩
def Im7 (im : Int) (v i : Value) : Prop := (i = .int .i64 0 ∧ v = .int .i64 (0 : Int)) ∨ (i = .int .i64 1 ∧ v = .int .i64 (im / Pl.pw 20 % Pl.pw 1 * 2147483648 : Int)) ∨ (i = .int .i64 2 ∧ v = .int .i64 (im / Pl.pw 20 % Pl.pw 1 * 2147483648 + im / Pl.pw 1 % Pl.pw 10 * 2097152 : Int)) ∨ (i = .int .i64 3 ∧ v = .int .i64 (im / Pl.pw 20 % Pl.pw 1 * 2147483648 + im / Pl.pw 1 % Pl.pw 10 * 2097152 + im / Pl.pw 11 % Pl.pw 1 * 1048576 : Int)) ∨ (i = .int .i64 4 ∧ v = .int .i64 (im / Pl.pw 20 % Pl.pw 1 * 2147483648 + im / Pl.pw 1 % Pl.pw 10 * 2097152 + im / Pl.pw 11 % Pl.pw 1 * 1048576 + im / Pl.pw 12 % Pl.pw 8 * 4096 : Int))
set_option maxHeartbeats 1000000 in
theorem writeImm_7 (im : Int) (n1 : -4611686018427387904 ≤ im) (n2 : im ≤ 4611686018427387904) (w : World) :
    Calls Tryz.prog 134 #[.int .i64 im, .agg #[.bool true, .bool false, .bool false, .int .i64 (-1048576), .int .i64 1048574, .int .i64 2, .int .i64 20, .int .i64 1, .int .i64 31, .int .i64 1, .int .i64 10, .int .i64 21, .int .i64 11, .int .i64 1, .int .i64 20, .int .i64 12, .int .i64 8, .int .i64 12]] w fun e w' => e = .returned (.int .i64 (Pl.imw 7 im)) ∧ Below w.heap.size w w' := by
  have b0 : 0 ≤ im / Pl.pw 20 % Pl.pw 1 ∧ im / Pl.pw 20 % Pl.pw 1 ≤ 1 := by
    have h := Int.emod_nonneg (im / Pl.pw 20) (Int.ne_of_gt (Pl.pw_pos 1))
    have h' := Int.emod_lt_of_pos (im / Pl.pw 20) (Pl.pw_pos 1)
    have e : Pl.pw 1 = 2 := by decide
    omega
  have b1 : 0 ≤ im / Pl.pw 1 % Pl.pw 10 ∧ im / Pl.pw 1 % Pl.pw 10 ≤ 1023 := by
    have h := Int.emod_nonneg (im / Pl.pw 1) (Int.ne_of_gt (Pl.pw_pos 10))
    have h' := Int.emod_lt_of_pos (im / Pl.pw 1) (Pl.pw_pos 10)
    have e : Pl.pw 10 = 1024 := by decide
    omega
  have b2 : 0 ≤ im / Pl.pw 11 % Pl.pw 1 ∧ im / Pl.pw 11 % Pl.pw 1 ≤ 1 := by
    have h := Int.emod_nonneg (im / Pl.pw 11) (Int.ne_of_gt (Pl.pw_pos 1))
    have h' := Int.emod_lt_of_pos (im / Pl.pw 11) (Pl.pw_pos 1)
    have e : Pl.pw 1 = 2 := by decide
    omega
  have b3 : 0 ≤ im / Pl.pw 12 % Pl.pw 8 ∧ im / Pl.pw 12 % Pl.pw 8 ≤ 255 := by
    have h := Int.emod_nonneg (im / Pl.pw 12) (Int.ne_of_gt (Pl.pw_pos 8))
    have h' := Int.emod_lt_of_pos (im / Pl.pw 12) (Pl.pw_pos 8)
    have e : Pl.pw 8 = 256 := by decide
    omega
  go_enter Tryz.func134, Tryz.ntmps134
  go_wp2
  go_loopw [5, 10] (fun v i wr => Im7 im v i ∧ Below w.heap.size w wr) (fun _ i _ => 4 - (intOf i).toNat)
  case atStart => exact ⟨Or.inl ⟨rfl, rfl⟩, (Below.refl _ _).alloc (Nat.le_refl _) _⟩
  case round =>
    obtain ⟨hI, hnx⟩ := hrel
    have HX : Hid (Below w.heap.size w wr) := hnx
    clear hnx
    rcases hI with ⟨rfl, rfl⟩ | ⟨rfl, rfl⟩ | ⟨rfl, rfl⟩ | ⟨rfl, rfl⟩ | ⟨rfl, rfl⟩
    · have hi : ∀ w, (Instr.index 122 (.agg #[.int .i64 20, .int .i64 1, .int .i64 31, .int .i64 1, .int .i64 10, .int .i64 21, .int .i64 11, .int .i64 1, .int .i64 20, .int .i64 12, .int .i64 8, .int .i64 12]) (.int .i64 0)).run Tryz.prog w = .ok (.agg #[.int .i64 20, .int .i64 1, .int .i64 31]) w := fun _ => by kernel_rfl
      go_wp2_with fail
      go_quiet ((go_at_call 131; exact Calls.quiet_of (bitsOf_any _ _ _ 20 1 rfl rfl (by decide) (by decide) n1 n2 _)))
      go_wp2
      go_roundw
      case rel => exact ⟨Or.inr (Or.inl ⟨rfl, vint (by omega)⟩), below_drewN' (HX.out.alloc HX.out.size _) _⟩
      case measure => simp [intOf]
    · have hi : ∀ w, (Instr.index 122 (.agg #[.int .i64 20, .int .i64 1, .int .i64 31, .int .i64 1, .int .i64 10, .int .i64 21, .int .i64 11, .int .i64 1, .int .i64 20, .int .i64 12, .int .i64 8, .int .i64 12]) (.int .i64 1)).run Tryz.prog w = .ok (.agg #[.int .i64 1, .int .i64 10, .int .i64 21]) w := fun _ => by kernel_rfl
      go_wp2_with fail
      go_quiet ((go_at_call 131; exact Calls.quiet_of (bitsOf_any _ _ _ 1 10 rfl rfl (by decide) (by decide) n1 n2 _)))
      go_wp2
      go_roundw
      case rel => exact ⟨Or.inr (Or.inr (Or.inl ⟨rfl, vint (by omega)⟩)), below_drewN' (HX.out.alloc HX.out.size _) _⟩
      case measure => simp [intOf]
    · have hi : ∀ w, (Instr.index 122 (.agg #[.int .i64 20, .int .i64 1, .int .i64 31, .int .i64 1, .int .i64 10, .int .i64 21, .int .i64 11, .int .i64 1, .int .i64 20, .int .i64 12, .int .i64 8, .int .i64 12]) (.int .i64 2)).run Tryz.prog w = .ok (.agg #[.int .i64 11, .int .i64 1, .int .i64 20]) w := fun _ => by kernel_rfl
      go_wp2_with fail
      go_quiet ((go_at_call 131; exact Calls.quiet_of (bitsOf_any _ _ _ 11 1 rfl rfl (by decide) (by decide) n1 n2 _)))
      go_wp2
      go_roundw
      case rel => exact ⟨Or.inr (Or.inr (Or.inr (Or.inl ⟨rfl, vint (by omega)⟩))), below_drewN' (HX.out.alloc HX.out.size _) _⟩
      case measure => simp [intOf]
    · have hi : ∀ w, (Instr.index 122 (.agg #[.int .i64 20, .int .i64 1, .int .i64 31, .int .i64 1, .int .i64 10, .int .i64 21, .int .i64 11, .int .i64 1, .int .i64 20, .int .i64 12, .int .i64 8, .int .i64 12]) (.int .i64 3)).run Tryz.prog w = .ok (.agg #[.int .i64 12, .int .i64 8, .int .i64 12]) w := fun _ => by kernel_rfl
      go_wp2_with fail
      go_quiet ((go_at_call 131; exact Calls.quiet_of (bitsOf_any _ _ _ 12 8 rfl rfl (by decide) (by decide) n1 n2 _)))
      go_wp2
      go_roundw
      case rel => exact ⟨Or.inr (Or.inr (Or.inr (Or.inr (⟨rfl, vint (by omega)⟩)))), below_drewN' (HX.out.alloc HX.out.size _) _⟩
      case measure => simp [intOf]
    · go_wp2
      go_ret
      exact ⟨rfl, HX.out⟩
def Im8 (im : Int) (v i : Value) : Prop := (i = .int .i64 0 ∧ v = .int .i64 (0 : Int)) ∨ (i = .int .i64 1 ∧ v = .int .i64 (im / Pl.pw 0 % Pl.pw 0 * 1 : Int)) ∨ (i = .int .i64 2 ∧ v = .int .i64 (im / Pl.pw 0 % Pl.pw 0 * 1 + im / Pl.pw 0 % Pl.pw 0 * 1 : Int)) ∨ (i = .int .i64 3 ∧ v = .int .i64 (im / Pl.pw 0 % Pl.pw 0 * 1 + im / Pl.pw 0 % Pl.pw 0 * 1 + im / Pl.pw 0 % Pl.pw 0 * 1 : Int)) ∨ (i = .int .i64 4 ∧ v = .int .i64 (im / Pl.pw 0 % Pl.pw 0 * 1 + im / Pl.pw 0 % Pl.pw 0 * 1 + im / Pl.pw 0 % Pl.pw 0 * 1 + im / Pl.pw 0 % Pl.pw 0 * 1 : Int))
set_option maxHeartbeats 1000000 in
theorem writeImm_8 (im : Int) (n1 : -4611686018427387904 ≤ im) (n2 : im ≤ 4611686018427387904) (w : World) :
    Calls Tryz.prog 134 #[.int .i64 im, .agg #[.bool false, .bool false, .bool false, .int .i64 0, .int .i64 0, .int .i64 1, .int .i64 0, .int .i64 0, .int .i64 0, .int .i64 0, .int .i64 0, .int .i64 0, .int .i64 0, .int .i64 0, .int .i64 0, .int .i64 0, .int .i64 0, .int .i64 0]] w fun e w' => e = .returned (.int .i64 (Pl.imw 8 im)) ∧ Below w.heap.size w w' := by
  have b0 : 0 ≤ im / Pl.pw 0 % Pl.pw 0 ∧ im / Pl.pw 0 % Pl.pw 0 ≤ 0 := by
    have h := Int.emod_nonneg (im / Pl.pw 0) (Int.ne_of_gt (Pl.pw_pos 0))
    have h' := Int.emod_lt_of_pos (im / Pl.pw 0) (Pl.pw_pos 0)
    have e : Pl.pw 0 = 1 := by decide
    omega
  go_enter Tryz.func134, Tryz.ntmps134
  go_wp2
  go_loopw [5, 10] (fun v i wr => Im8 im v i ∧ Below w.heap.size w wr) (fun _ i _ => 4 - (intOf i).toNat)
  case atStart => exact ⟨Or.inl ⟨rfl, rfl⟩, (Below.refl _ _).alloc (Nat.le_refl _) _⟩
  case round =>
    obtain ⟨hI, hnx⟩ := hrel
    have HX : Hid (Below w.heap.size w wr) := hnx
    clear hnx
    rcases hI with ⟨rfl, rfl⟩ | ⟨rfl, rfl⟩ | ⟨rfl, rfl⟩ | ⟨rfl, rfl⟩ | ⟨rfl, rfl⟩
    · have hi : ∀ w, (Instr.index 122 (.agg #[.int .i64 0, .int .i64 0, .int .i64 0, .int .i64 0, .int .i64 0, .int .i64 0, .int .i64 0, .int .i64 0, .int .i64 0, .int .i64 0, .int .i64 0, .int .i64 0]) (.int .i64 0)).run Tryz.prog w = .ok (.agg #[.int .i64 0, .int .i64 0, .int .i64 0]) w := fun _ => by kernel_rfl
      go_wp2_with fail
      go_quiet ((go_at_call 131; exact Calls.quiet_of (bitsOf_any _ _ _ 0 0 rfl rfl (by decide) (by decide) n1 n2 _)))
      go_wp2
      go_roundw
      case rel => exact ⟨Or.inr (Or.inl ⟨rfl, vint (by omega)⟩), below_drewN' (HX.out.alloc HX.out.size _) _⟩
      case measure => simp [intOf]
    · have hi : ∀ w, (Instr.index 122 (.agg #[.int .i64 0, .int .i64 0, .int .i64 0, .int .i64 0, .int .i64 0, .int .i64 0, .int .i64 0, .int .i64 0, .int .i64 0, .int .i64 0, .int .i64 0, .int .i64 0]) (.int .i64 1)).run Tryz.prog w = .ok (.agg #[.int .i64 0, .int .i64 0, .int .i64 0]) w := fun _ => by kernel_rfl
      go_wp2_with fail
      go_quiet ((go_at_call 131; exact Calls.quiet_of (bitsOf_any _ _ _ 0 0 rfl rfl (by decide) (by decide) n1 n2 _)))
      go_wp2
      go_roundw
      case rel => exact ⟨Or.inr (Or.inr (Or.inl ⟨rfl, vint (by omega)⟩)), below_drewN' (HX.out.alloc HX.out.size _) _⟩
      case measure => simp [intOf]
    · have hi : ∀ w, (Instr.index 122 (.agg #[.int .i64 0, .int .i64 0, .int .i64 0, .int .i64 0, .int .i64 0, .int .i64 0, .int .i64 0, .int .i64 0, .int .i64 0, .int .i64 0, .int .i64 0, .int .i64 0]) (.int .i64 2)).run Tryz.prog w = .ok (.agg #[.int .i64 0, .int .i64 0, .int .i64 0]) w := fun _ => by kernel_rfl
      go_wp2_with fail
      go_quiet ((go_at_call 131; exact Calls.quiet_of (bitsOf_any _ _ _ 0 0 rfl rfl (by decide) (by decide) n1 n2 _)))
      go_wp2
      go_roundw
      case rel => exact ⟨Or.inr (Or.inr (Or.inr (Or.inl ⟨rfl, vint (by omega)⟩))), below_drewN' (HX.out.alloc HX.out.size _) _⟩
      case measure => simp [intOf]
    · have hi : ∀ w, (Instr.index 122 (.agg #[.int .i64 0, .int .i64 0, .int .i64 0, .int .i64 0, .int .i64 0, .int .i64 0, .int .i64 0, .int .i64 0, .int .i64 0, .int .i64 0, .int .i64 0, .int .i64 0]) (.int .i64 3)).run Tryz.prog w = .ok (.agg #[.int .i64 0, .int .i64 0, .int .i64 0]) w := fun _ => by kernel_rfl
      go_wp2_with fail
      go_quiet ((go_at_call 131; exact Calls.quiet_of (bitsOf_any _ _ _ 0 0 rfl rfl (by decide) (by decide) n1 n2 _)))
      go_wp2
      go_roundw
      case rel => exact ⟨Or.inr (Or.inr (Or.inr (Or.inr (⟨rfl, vint (by omega)⟩)))), below_drewN' (HX.out.alloc HX.out.size _) _⟩
      case measure => simp [intOf]
    · go_wp2
      go_ret
      exact ⟨rfl, HX.out⟩
theorem writeImm_any (im : Int) (f : Nat) (h1 : 1 ≤ f) (h2 : f ≤ 8) (n1 : -4611686018427387904 ≤ im) (n2 : im ≤ 4611686018427387904) (w : World) :
    Calls Tryz.prog 134 #[.int .i64 im, .agg (Pl.ruleV f)] w fun e w' => e = .returned (.int .i64 (Pl.imw f im)) ∧ Below w.heap.size w w' := by
  rcases Pl.form_cases f h1 h2 with rfl | rfl | rfl | rfl | rfl | rfl | rfl | rfl
  · exact writeImm_1 im n1 n2 w
  · exact writeImm_2 im n1 n2 w
  · exact writeImm_3 im n1 n2 w
  · exact writeImm_4 im n1 n2 w
  · exact writeImm_5 im n1 n2 w
  · exact writeImm_6 im n1 n2 w
  · exact writeImm_7 im n1 n2 w
  · exact writeImm_8 im n1 n2 w
end Go.Proofs.YtjdfffdeljgenaaGreatDoor.W
