import Derived.Test.YtgopdicmmglakaaEncA
set_option linter.unusedVariables false
namespace Go.Proofs.Ytgopdicmmglakaa.Pl
/-- what Imm adds to a word, form by form -/
def imw : Nat → Int → Int
  | 1, im => (im / Pl.pw 0 % Pl.pw 0 * 1 + im / Pl.pw 0 % Pl.pw 0 * 1 + im / Pl.pw 0 % Pl.pw 0 * 1 + im / Pl.pw 0 % Pl.pw 0 * 1 : Int)
  | 2, im => (im / Pl.pw 0 % Pl.pw 12 * 1048576 + im / Pl.pw 0 % Pl.pw 0 * 1 + im / Pl.pw 0 % Pl.pw 0 * 1 + im / Pl.pw 0 % Pl.pw 0 * 1 : Int)
  | 3, im => (im / Pl.pw 0 % Pl.pw 5 * 1048576 + im / Pl.pw 0 % Pl.pw 0 * 1 + im / Pl.pw 0 % Pl.pw 0 * 1 + im / Pl.pw 0 % Pl.pw 0 * 1 : Int)
  | 4, im => (im / Pl.pw 5 % Pl.pw 7 * 33554432 + im / Pl.pw 0 % Pl.pw 5 * 128 + im / Pl.pw 0 % Pl.pw 0 * 1 + im / Pl.pw 0 % Pl.pw 0 * 1 : Int)
  | 5, im => (im / Pl.pw 12 % Pl.pw 1 * 2147483648 + im / Pl.pw 5 % Pl.pw 6 * 33554432 + im / Pl.pw 1 % Pl.pw 4 * 256 + im / Pl.pw 11 % Pl.pw 1 * 128 : Int)
  | 6, im => (im / Pl.pw 0 % Pl.pw 20 * 4096 + im / Pl.pw 0 % Pl.pw 0 * 1 + im / Pl.pw 0 % Pl.pw 0 * 1 + im / Pl.pw 0 % Pl.pw 0 * 1 : Int)
  | 7, im => (im / Pl.pw 20 % Pl.pw 1 * 2147483648 + im / Pl.pw 1 % Pl.pw 10 * 2097152 + im / Pl.pw 11 % Pl.pw 1 * 1048576 + im / Pl.pw 12 % Pl.pw 8 * 4096 : Int)
  | 8, im => (im / Pl.pw 0 % Pl.pw 0 * 1 + im / Pl.pw 0 % Pl.pw 0 * 1 + im / Pl.pw 0 % Pl.pw 0 * 1 + im / Pl.pw 0 % Pl.pw 0 * 1 : Int)
  | _, _ => 0
end Go.Proofs.Ytgopdicmmglakaa.Pl
namespace Go.Proofs.Ytgopdicmmglakaa.W
open Go.RowKit
theorem below_drewN' {B : Nat} {a w : World} (h : Below B a w) (m : Nat) : Below B a (w.drewN m) := ⟨h.os, h.tape, h.output, h.size, h.block⟩
theorem vint {k : IntKind} {a b : Int} (h : a = b) : Value.int k a = Value.int k b := by rw [h]
def Im1 (im : Int) (v i : Value) : Prop := (i = .int .i64 0 ∧ v = .int .i64 (0 : Int)) ∨ (i = .int .i64 1 ∧ v = .int .i64 (im / Pl.pw 0 % Pl.pw 0 * 1 : Int)) ∨ (i = .int .i64 2 ∧ v = .int .i64 (im / Pl.pw 0 % Pl.pw 0 * 1 + im / Pl.pw 0 % Pl.pw 0 * 1 : Int)) ∨ (i = .int .i64 3 ∧ v = .int .i64 (im / Pl.pw 0 % Pl.pw 0 * 1 + im / Pl.pw 0 % Pl.pw 0 * 1 + im / Pl.pw 0 % Pl.pw 0 * 1 : Int)) ∨ (i = .int .i64 4 ∧ v = .int .i64 (im / Pl.pw 0 % Pl.pw 0 * 1 + im / Pl.pw 0 % Pl.pw 0 * 1 + im / Pl.pw 0 % Pl.pw 0 * 1 + im / Pl.pw 0 % Pl.pw 0 * 1 : Int))
set_option maxHeartbeats 1000000 in
theorem writeImm_1 (im : Int) (n1 : -4611686018427387904 ≤ im) (n2 : im ≤ 4611686018427387904) (w : World) :
    Calls Try.prog 66 #[.int .i64 im, .agg #[.bool true, .bool true, .bool true, .int .i64 0, .int .i64 0, .int .i64 1, .int .i64 0, .int .i64 0, .int .i64 0, .int .i64 0, .int .i64 0, .int .i64 0, .int .i64 0, .int .i64 0, .int .i64 0, .int .i64 0, .int .i64 0, .int .i64 0]] w fun e w' => e = .returned (.int .i64 (Pl.imw 1 im)) ∧ Below w.heap.size w w' := by
  have b0 : 0 ≤ im / Pl.pw 0 % Pl.pw 0 ∧ im / Pl.pw 0 % Pl.pw 0 ≤ 0 := by
    have h := Int.emod_nonneg (im / Pl.pw 0) (Int.ne_of_gt (Pl.pw_pos 0))
    have h' := Int.emod_lt_of_pos (im / Pl.pw 0) (Pl.pw_pos 0)
    have e : Pl.pw 0 = 1 := by decide
    omega
  go_enter Try.func66, Try.ntmps66
  go_wp2
  go_loopw [5, 10] (fun v i wr => Im1 im v i ∧ Below w.heap.size w wr) (fun _ i _ => 4 - (intOf i).toNat)
  case atStart => exact ⟨Or.inl ⟨rfl, rfl⟩, (Below.refl _ _).alloc (Nat.le_refl _) _⟩
  case round =>
    obtain ⟨hI, hnx⟩ := hrel
    have HX : Hid (Below w.heap.size w wr) := hnx
    clear hnx
    rcases hI with ⟨rfl, rfl⟩ | ⟨rfl, rfl⟩ | ⟨rfl, rfl⟩ | ⟨rfl, rfl⟩ | ⟨rfl, rfl⟩
    · have hi : ∀ w, (Instr.index 69 (.agg #[.int .i64 0, .int .i64 0, .int .i64 0, .int .i64 0, .int .i64 0, .int .i64 0, .int .i64 0, .int .i64 0, .int .i64 0, .int .i64 0, .int .i64 0, .int .i64 0]) (.int .i64 0)).run Try.prog w = .ok (.agg #[.int .i64 0, .int .i64 0, .int .i64 0]) w := fun _ => by kernel_rfl
      go_wp2_with fail
      go_quiet ((go_at_call 63; exact Calls.quiet_of (bitsOf_any _ _ _ 0 0 rfl rfl (by decide) (by decide) n1 n2 _)))
      go_wp2
      go_roundw
      case rel => exact ⟨Or.inr (Or.inl ⟨rfl, vint (by omega)⟩), below_drewN' (HX.out.alloc HX.out.size _) _⟩
      case measure => simp [intOf]
    · have hi : ∀ w, (Instr.index 69 (.agg #[.int .i64 0, .int .i64 0, .int .i64 0, .int .i64 0, .int .i64 0, .int .i64 0, .int .i64 0, .int .i64 0, .int .i64 0, .int .i64 0, .int .i64 0, .int .i64 0]) (.int .i64 1)).run Try.prog w = .ok (.agg #[.int .i64 0, .int .i64 0, .int .i64 0]) w := fun _ => by kernel_rfl
      go_wp2_with fail
      go_quiet ((go_at_call 63; exact Calls.quiet_of (bitsOf_any _ _ _ 0 0 rfl rfl (by decide) (by decide) n1 n2 _)))
      go_wp2
      go_roundw
      case rel => exact ⟨Or.inr (Or.inr (Or.inl ⟨rfl, vint (by omega)⟩)), below_drewN' (HX.out.alloc HX.out.size _) _⟩
      case measure => simp [intOf]
    · have hi : ∀ w, (Instr.index 69 (.agg #[.int .i64 0, .int .i64 0, .int .i64 0, .int .i64 0, .int .i64 0, .int .i64 0, .int .i64 0, .int .i64 0, .int .i64 0, .int .i64 0, .int .i64 0, .int .i64 0]) (.int .i64 2)).run Try.prog w = .ok (.agg #[.int .i64 0, .int .i64 0, .int .i64 0]) w := fun _ => by kernel_rfl
      go_wp2_with fail
      go_quiet ((go_at_call 63; exact Calls.quiet_of (bitsOf_any _ _ _ 0 0 rfl rfl (by decide) (by decide) n1 n2 _)))
      go_wp2
      go_roundw
      case rel => exact ⟨Or.inr (Or.inr (Or.inr (Or.inl ⟨rfl, vint (by omega)⟩))), below_drewN' (HX.out.alloc HX.out.size _) _⟩
      case measure => simp [intOf]
    · have hi : ∀ w, (Instr.index 69 (.agg #[.int .i64 0, .int .i64 0, .int .i64 0, .int .i64 0, .int .i64 0, .int .i64 0, .int .i64 0, .int .i64 0, .int .i64 0, .int .i64 0, .int .i64 0, .int .i64 0]) (.int .i64 3)).run Try.prog w = .ok (.agg #[.int .i64 0, .int .i64 0, .int .i64 0]) w := fun _ => by kernel_rfl
      go_wp2_with fail
      go_quiet ((go_at_call 63; exact Calls.quiet_of (bitsOf_any _ _ _ 0 0 rfl rfl (by decide) (by decide) n1 n2 _)))
      go_wp2
      go_roundw
      case rel => exact ⟨Or.inr (Or.inr (Or.inr (Or.inr (⟨rfl, vint (by omega)⟩)))), below_drewN' (HX.out.alloc HX.out.size _) _⟩
      case measure => simp [intOf]
    · go_wp2
      go_ret
      exact ⟨rfl, HX.out⟩
def Im2 (im : Int) (v i : Value) : Prop := (i = .int .i64 0 ∧ v = .int .i64 (0 : Int)) ∨ (i = .int .i64 1 ∧ v = .int .i64 (im / Pl.pw 0 % Pl.pw 12 * 1048576 : Int)) ∨ (i = .int .i64 2 ∧ v = .int .i64 (im / Pl.pw 0 % Pl.pw 12 * 1048576 + im / Pl.pw 0 % Pl.pw 0 * 1 : Int)) ∨ (i = .int .i64 3 ∧ v = .int .i64 (im / Pl.pw 0 % Pl.pw 12 * 1048576 + im / Pl.pw 0 % Pl.pw 0 * 1 + im / Pl.pw 0 % Pl.pw 0 * 1 : Int)) ∨ (i = .int .i64 4 ∧ v = .int .i64 (im / Pl.pw 0 % Pl.pw 12 * 1048576 + im / Pl.pw 0 % Pl.pw 0 * 1 + im / Pl.pw 0 % Pl.pw 0 * 1 + im / Pl.pw 0 % Pl.pw 0 * 1 : Int))
set_option maxHeartbeats 1000000 in
theorem writeImm_2 (im : Int) (n1 : -4611686018427387904 ≤ im) (n2 : im ≤ 4611686018427387904) (w : World) :
    Calls Try.prog 66 #[.int .i64 im, .agg #[.bool true, .bool true, .bool false, .int .i64 (-2048), .int .i64 2047, .int .i64 1, .int .i64 0, .int .i64 12, .int .i64 20, .int .i64 0, .int .i64 0, .int .i64 0, .int .i64 0, .int .i64 0, .int .i64 0, .int .i64 0, .int .i64 0, .int .i64 0]] w fun e w' => e = .returned (.int .i64 (Pl.imw 2 im)) ∧ Below w.heap.size w w' := by
  have b0 : 0 ≤ im / Pl.pw 0 % Pl.pw 12 ∧ im / Pl.pw 0 % Pl.pw 12 ≤ 4095 := by
    have h := Int.emod_nonneg (im / Pl.pw 0) (Int.ne_of_gt (Pl.pw_pos 12))
    have h' := Int.emod_lt_of_pos (im / Pl.pw 0) (Pl.pw_pos 12)
    have e : Pl.pw 12 = 4096 := by decide
    omega
  have b1 : 0 ≤ im / Pl.pw 0 % Pl.pw 0 ∧ im / Pl.pw 0 % Pl.pw 0 ≤ 0 := by
    have h := Int.emod_nonneg (im / Pl.pw 0) (Int.ne_of_gt (Pl.pw_pos 0))
    have h' := Int.emod_lt_of_pos (im / Pl.pw 0) (Pl.pw_pos 0)
    have e : Pl.pw 0 = 1 := by decide
    omega
  go_enter Try.func66, Try.ntmps66
  go_wp2
  go_loopw [5, 10] (fun v i wr => Im2 im v i ∧ Below w.heap.size w wr) (fun _ i _ => 4 - (intOf i).toNat)
  case atStart => exact ⟨Or.inl ⟨rfl, rfl⟩, (Below.refl _ _).alloc (Nat.le_refl _) _⟩
  case round =>
    obtain ⟨hI, hnx⟩ := hrel
    have HX : Hid (Below w.heap.size w wr) := hnx
    clear hnx
    rcases hI with ⟨rfl, rfl⟩ | ⟨rfl, rfl⟩ | ⟨rfl, rfl⟩ | ⟨rfl, rfl⟩ | ⟨rfl, rfl⟩
    · have hi : ∀ w, (Instr.index 69 (.agg #[.int .i64 0, .int .i64 12, .int .i64 20, .int .i64 0, .int .i64 0, .int .i64 0, .int .i64 0, .int .i64 0, .int .i64 0, .int .i64 0, .int .i64 0, .int .i64 0]) (.int .i64 0)).run Try.prog w = .ok (.agg #[.int .i64 0, .int .i64 12, .int .i64 20]) w := fun _ => by kernel_rfl
      go_wp2_with fail
      go_quiet ((go_at_call 63; exact Calls.quiet_of (bitsOf_any _ _ _ 0 12 rfl rfl (by decide) (by decide) n1 n2 _)))
      go_wp2
      go_roundw
      case rel => exact ⟨Or.inr (Or.inl ⟨rfl, vint (by omega)⟩), below_drewN' (HX.out.alloc HX.out.size _) _⟩
      case measure => simp [intOf]
    · have hi : ∀ w, (Instr.index 69 (.agg #[.int .i64 0, .int .i64 12, .int .i64 20, .int .i64 0, .int .i64 0, .int .i64 0, .int .i64 0, .int .i64 0, .int .i64 0, .int .i64 0, .int .i64 0, .int .i64 0]) (.int .i64 1)).run Try.prog w = .ok (.agg #[.int .i64 0, .int .i64 0, .int .i64 0]) w := fun _ => by kernel_rfl
      go_wp2_with fail
      go_quiet ((go_at_call 63; exact Calls.quiet_of (bitsOf_any _ _ _ 0 0 rfl rfl (by decide) (by decide) n1 n2 _)))
      go_wp2
      go_roundw
      case rel => exact ⟨Or.inr (Or.inr (Or.inl ⟨rfl, vint (by omega)⟩)), below_drewN' (HX.out.alloc HX.out.size _) _⟩
      case measure => simp [intOf]
    · have hi : ∀ w, (Instr.index 69 (.agg #[.int .i64 0, .int .i64 12, .int .i64 20, .int .i64 0, .int .i64 0, .int .i64 0, .int .i64 0, .int .i64 0, .int .i64 0, .int .i64 0, .int .i64 0, .int .i64 0]) (.int .i64 2)).run Try.prog w = .ok (.agg #[.int .i64 0, .int .i64 0, .int .i64 0]) w := fun _ => by kernel_rfl
      go_wp2_with fail
      go_quiet ((go_at_call 63; exact Calls.quiet_of (bitsOf_any _ _ _ 0 0 rfl rfl (by decide) (by decide) n1 n2 _)))
      go_wp2
      go_roundw
      case rel => exact ⟨Or.inr (Or.inr (Or.inr (Or.inl ⟨rfl, vint (by omega)⟩))), below_drewN' (HX.out.alloc HX.out.size _) _⟩
      case measure => simp [intOf]
    · have hi : ∀ w, (Instr.index 69 (.agg #[.int .i64 0, .int .i64 12, .int .i64 20, .int .i64 0, .int .i64 0, .int .i64 0, .int .i64 0, .int .i64 0, .int .i64 0, .int .i64 0, .int .i64 0, .int .i64 0]) (.int .i64 3)).run Try.prog w = .ok (.agg #[.int .i64 0, .int .i64 0, .int .i64 0]) w := fun _ => by kernel_rfl
      go_wp2_with fail
      go_quiet ((go_at_call 63; exact Calls.quiet_of (bitsOf_any _ _ _ 0 0 rfl rfl (by decide) (by decide) n1 n2 _)))
      go_wp2
      go_roundw
      case rel => exact ⟨Or.inr (Or.inr (Or.inr (Or.inr (⟨rfl, vint (by omega)⟩)))), below_drewN' (HX.out.alloc HX.out.size _) _⟩
      case measure => simp [intOf]
    · go_wp2
      go_ret
      exact ⟨rfl, HX.out⟩
def Im3 (im : Int) (v i : Value) : Prop := (i = .int .i64 0 ∧ v = .int .i64 (0 : Int)) ∨ (i = .int .i64 1 ∧ v = .int .i64 (im / Pl.pw 0 % Pl.pw 5 * 1048576 : Int)) ∨ (i = .int .i64 2 ∧ v = .int .i64 (im / Pl.pw 0 % Pl.pw 5 * 1048576 + im / Pl.pw 0 % Pl.pw 0 * 1 : Int)) ∨ (i = .int .i64 3 ∧ v = .int .i64 (im / Pl.pw 0 % Pl.pw 5 * 1048576 + im / Pl.pw 0 % Pl.pw 0 * 1 + im / Pl.pw 0 % Pl.pw 0 * 1 : Int)) ∨ (i = .int .i64 4 ∧ v = .int .i64 (im / Pl.pw 0 % Pl.pw 5 * 1048576 + im / Pl.pw 0 % Pl.pw 0 * 1 + im / Pl.pw 0 % Pl.pw 0 * 1 + im / Pl.pw 0 % Pl.pw 0 * 1 : Int))
set_option maxHeartbeats 1000000 in
theorem writeImm_3 (im : Int) (n1 : -4611686018427387904 ≤ im) (n2 : im ≤ 4611686018427387904) (w : World) :
    Calls Try.prog 66 #[.int .i64 im, .agg #[.bool true, .bool true, .bool false, .int .i64 0, .int .i64 31, .int .i64 1, .int .i64 0, .int .i64 5, .int .i64 20, .int .i64 0, .int .i64 0, .int .i64 0, .int .i64 0, .int .i64 0, .int .i64 0, .int .i64 0, .int .i64 0, .int .i64 0]] w fun e w' => e = .returned (.int .i64 (Pl.imw 3 im)) ∧ Below w.heap.size w w' := by
  have b0 : 0 ≤ im / Pl.pw 0 % Pl.pw 5 ∧ im / Pl.pw 0 % Pl.pw 5 ≤ 31 := by
    have h := Int.emod_nonneg (im / Pl.pw 0) (Int.ne_of_gt (Pl.pw_pos 5))
    have h' := Int.emod_lt_of_pos (im / Pl.pw 0) (Pl.pw_pos 5)
    have e : Pl.pw 5 = 32 := by decide
    omega
  have b1 : 0 ≤ im / Pl.pw 0 % Pl.pw 0 ∧ im / Pl.pw 0 % Pl.pw 0 ≤ 0 := by
    have h := Int.emod_nonneg (im / Pl.pw 0) (Int.ne_of_gt (Pl.pw_pos 0))
    have h' := Int.emod_lt_of_pos (im / Pl.pw 0) (Pl.pw_pos 0)
    have e : Pl.pw 0 = 1 := by decide
    omega
  go_enter Try.func66, Try.ntmps66
  go_wp2
  go_loopw [5, 10] (fun v i wr => Im3 im v i ∧ Below w.heap.size w wr) (fun _ i _ => 4 - (intOf i).toNat)
  case atStart => exact ⟨Or.inl ⟨rfl, rfl⟩, (Below.refl _ _).alloc (Nat.le_refl _) _⟩
  case round =>
    obtain ⟨hI, hnx⟩ := hrel
    have HX : Hid (Below w.heap.size w wr) := hnx
    clear hnx
    rcases hI with ⟨rfl, rfl⟩ | ⟨rfl, rfl⟩ | ⟨rfl, rfl⟩ | ⟨rfl, rfl⟩ | ⟨rfl, rfl⟩
    · have hi : ∀ w, (Instr.index 69 (.agg #[.int .i64 0, .int .i64 5, .int .i64 20, .int .i64 0, .int .i64 0, .int .i64 0, .int .i64 0, .int .i64 0, .int .i64 0, .int .i64 0, .int .i64 0, .int .i64 0]) (.int .i64 0)).run Try.prog w = .ok (.agg #[.int .i64 0, .int .i64 5, .int .i64 20]) w := fun _ => by kernel_rfl
      go_wp2_with fail
      go_quiet ((go_at_call 63; exact Calls.quiet_of (bitsOf_any _ _ _ 0 5 rfl rfl (by decide) (by decide) n1 n2 _)))
      go_wp2
      go_roundw
      case rel => exact ⟨Or.inr (Or.inl ⟨rfl, vint (by omega)⟩), below_drewN' (HX.out.alloc HX.out.size _) _⟩
      case measure => simp [intOf]
    · have hi : ∀ w, (Instr.index 69 (.agg #[.int .i64 0, .int .i64 5, .int .i64 20, .int .i64 0, .int .i64 0, .int .i64 0, .int .i64 0, .int .i64 0, .int .i64 0, .int .i64 0, .int .i64 0, .int .i64 0]) (.int .i64 1)).run Try.prog w = .ok (.agg #[.int .i64 0, .int .i64 0, .int .i64 0]) w := fun _ => by kernel_rfl
      go_wp2_with fail
      go_quiet ((go_at_call 63; exact Calls.quiet_of (bitsOf_any _ _ _ 0 0 rfl rfl (by decide) (by decide) n1 n2 _)))
      go_wp2
      go_roundw
      case rel => exact ⟨Or.inr (Or.inr (Or.inl ⟨rfl, vint (by omega)⟩)), below_drewN' (HX.out.alloc HX.out.size _) _⟩
      case measure => simp [intOf]
    · have hi : ∀ w, (Instr.index 69 (.agg #[.int .i64 0, .int .i64 5, .int .i64 20, .int .i64 0, .int .i64 0, .int .i64 0, .int .i64 0, .int .i64 0, .int .i64 0, .int .i64 0, .int .i64 0, .int .i64 0]) (.int .i64 2)).run Try.prog w = .ok (.agg #[.int .i64 0, .int .i64 0, .int .i64 0]) w := fun _ => by kernel_rfl
      go_wp2_with fail
      go_quiet ((go_at_call 63; exact Calls.quiet_of (bitsOf_any _ _ _ 0 0 rfl rfl (by decide) (by decide) n1 n2 _)))
      go_wp2
      go_roundw
      case rel => exact ⟨Or.inr (Or.inr (Or.inr (Or.inl ⟨rfl, vint (by omega)⟩))), below_drewN' (HX.out.alloc HX.out.size _) _⟩
      case measure => simp [intOf]
    · have hi : ∀ w, (Instr.index 69 (.agg #[.int .i64 0, .int .i64 5, .int .i64 20, .int .i64 0, .int .i64 0, .int .i64 0, .int .i64 0, .int .i64 0, .int .i64 0, .int .i64 0, .int .i64 0, .int .i64 0]) (.int .i64 3)).run Try.prog w = .ok (.agg #[.int .i64 0, .int .i64 0, .int .i64 0]) w := fun _ => by kernel_rfl
      go_wp2_with fail
      go_quiet ((go_at_call 63; exact Calls.quiet_of (bitsOf_any _ _ _ 0 0 rfl rfl (by decide) (by decide) n1 n2 _)))
      go_wp2
      go_roundw
      case rel => exact ⟨Or.inr (Or.inr (Or.inr (Or.inr (⟨rfl, vint (by omega)⟩)))), below_drewN' (HX.out.alloc HX.out.size _) _⟩
      case measure => simp [intOf]
    · go_wp2
      go_ret
      exact ⟨rfl, HX.out⟩
def Im4 (im : Int) (v i : Value) : Prop := (i = .int .i64 0 ∧ v = .int .i64 (0 : Int)) ∨ (i = .int .i64 1 ∧ v = .int .i64 (im / Pl.pw 5 % Pl.pw 7 * 33554432 : Int)) ∨ (i = .int .i64 2 ∧ v = .int .i64 (im / Pl.pw 5 % Pl.pw 7 * 33554432 + im / Pl.pw 0 % Pl.pw 5 * 128 : Int)) ∨ (i = .int .i64 3 ∧ v = .int .i64 (im / Pl.pw 5 % Pl.pw 7 * 33554432 + im / Pl.pw 0 % Pl.pw 5 * 128 + im / Pl.pw 0 % Pl.pw 0 * 1 : Int)) ∨ (i = .int .i64 4 ∧ v = .int .i64 (im / Pl.pw 5 % Pl.pw 7 * 33554432 + im / Pl.pw 0 % Pl.pw 5 * 128 + im / Pl.pw 0 % Pl.pw 0 * 1 + im / Pl.pw 0 % Pl.pw 0 * 1 : Int))
set_option maxHeartbeats 1000000 in
theorem writeImm_4 (im : Int) (n1 : -4611686018427387904 ≤ im) (n2 : im ≤ 4611686018427387904) (w : World) :
    Calls Try.prog 66 #[.int .i64 im, .agg #[.bool false, .bool true, .bool true, .int .i64 (-2048), .int .i64 2047, .int .i64 1, .int .i64 5, .int .i64 7, .int .i64 25, .int .i64 0, .int .i64 5, .int .i64 7, .int .i64 0, .int .i64 0, .int .i64 0, .int .i64 0, .int .i64 0, .int .i64 0]] w fun e w' => e = .returned (.int .i64 (Pl.imw 4 im)) ∧ Below w.heap.size w w' := by
  have b0 : 0 ≤ im / Pl.pw 5 % Pl.pw 7 ∧ im / Pl.pw 5 % Pl.pw 7 ≤ 127 := by
    have h := Int.emod_nonneg (im / Pl.pw 5) (Int.ne_of_gt (Pl.pw_pos 7))
    have h' := Int.emod_lt_of_pos (im / Pl.pw 5) (Pl.pw_pos 7)
    have e : Pl.pw 7 = 128 := by decide
    omega
  have b1 : 0 ≤ im / Pl.pw 0 % Pl.pw 5 ∧ im / Pl.pw 0 % Pl.pw 5 ≤ 31 := by
    have h := Int.emod_nonneg (im / Pl.pw 0) (Int.ne_of_gt (Pl.pw_pos 5))
    have h' := Int.emod_lt_of_pos (im / Pl.pw 0) (Pl.pw_pos 5)
    have e : Pl.pw 5 = 32 := by decide
    omega
  have b2 : 0 ≤ im / Pl.pw 0 % Pl.pw 0 ∧ im / Pl.pw 0 % Pl.pw 0 ≤ 0 := by
    have h := Int.emod_nonneg (im / Pl.pw 0) (Int.ne_of_gt (Pl.pw_pos 0))
    have h' := Int.emod_lt_of_pos (im / Pl.pw 0) (Pl.pw_pos 0)
    have e : Pl.pw 0 = 1 := by decide
    omega
  go_enter Try.func66, Try.ntmps66
  go_wp2
  go_loopw [5, 10] (fun v i wr => Im4 im v i ∧ Below w.heap.size w wr) (fun _ i _ => 4 - (intOf i).toNat)
  case atStart => exact ⟨Or.inl ⟨rfl, rfl⟩, (Below.refl _ _).alloc (Nat.le_refl _) _⟩
  case round =>
    obtain ⟨hI, hnx⟩ := hrel
    have HX : Hid (Below w.heap.size w wr) := hnx
    clear hnx
    rcases hI with ⟨rfl, rfl⟩ | ⟨rfl, rfl⟩ | ⟨rfl, rfl⟩ | ⟨rfl, rfl⟩ | ⟨rfl, rfl⟩
    · have hi : ∀ w, (Instr.index 69 (.agg #[.int .i64 5, .int .i64 7, .int .i64 25, .int .i64 0, .int .i64 5, .int .i64 7, .int .i64 0, .int .i64 0, .int .i64 0, .int .i64 0, .int .i64 0, .int .i64 0]) (.int .i64 0)).run Try.prog w = .ok (.agg #[.int .i64 5, .int .i64 7, .int .i64 25]) w := fun _ => by kernel_rfl
      go_wp2_with fail
      go_quiet ((go_at_call 63; exact Calls.quiet_of (bitsOf_any _ _ _ 5 7 rfl rfl (by decide) (by decide) n1 n2 _)))
      go_wp2
      go_roundw
      case rel => exact ⟨Or.inr (Or.inl ⟨rfl, vint (by omega)⟩), below_drewN' (HX.out.alloc HX.out.size _) _⟩
      case measure => simp [intOf]
    · have hi : ∀ w, (Instr.index 69 (.agg #[.int .i64 5, .int .i64 7, .int .i64 25, .int .i64 0, .int .i64 5, .int .i64 7, .int .i64 0, .int .i64 0, .int .i64 0, .int .i64 0, .int .i64 0, .int .i64 0]) (.int .i64 1)).run Try.prog w = .ok (.agg #[.int .i64 0, .int .i64 5, .int .i64 7]) w := fun _ => by kernel_rfl
      go_wp2_with fail
      go_quiet ((go_at_call 63; exact Calls.quiet_of (bitsOf_any _ _ _ 0 5 rfl rfl (by decide) (by decide) n1 n2 _)))
      go_wp2
      go_roundw
      case rel => exact ⟨Or.inr (Or.inr (Or.inl ⟨rfl, vint (by omega)⟩)), below_drewN' (HX.out.alloc HX.out.size _) _⟩
      case measure => simp [intOf]
    · have hi : ∀ w, (Instr.index 69 (.agg #[.int .i64 5, .int .i64 7, .int .i64 25, .int .i64 0, .int .i64 5, .int .i64 7, .int .i64 0, .int .i64 0, .int .i64 0, .int .i64 0, .int .i64 0, .int .i64 0]) (.int .i64 2)).run Try.prog w = .ok (.agg #[.int .i64 0, .int .i64 0, .int .i64 0]) w := fun _ => by kernel_rfl
      go_wp2_with fail
      go_quiet ((go_at_call 63; exact Calls.quiet_of (bitsOf_any _ _ _ 0 0 rfl rfl (by decide) (by decide) n1 n2 _)))
      go_wp2
      go_roundw
      case rel => exact ⟨Or.inr (Or.inr (Or.inr (Or.inl ⟨rfl, vint (by omega)⟩))), below_drewN' (HX.out.alloc HX.out.size _) _⟩
      case measure => simp [intOf]
    · have hi : ∀ w, (Instr.index 69 (.agg #[.int .i64 5, .int .i64 7, .int .i64 25, .int .i64 0, .int .i64 5, .int .i64 7, .int .i64 0, .int .i64 0, .int .i64 0, .int .i64 0, .int .i64 0, .int .i64 0]) (.int .i64 3)).run Try.prog w = .ok (.agg #[.int .i64 0, .int .i64 0, .int .i64 0]) w := fun _ => by kernel_rfl
      go_wp2_with fail
      go_quiet ((go_at_call 63; exact Calls.quiet_of (bitsOf_any _ _ _ 0 0 rfl rfl (by decide) (by decide) n1 n2 _)))
      go_wp2
      go_roundw
      case rel => exact ⟨Or.inr (Or.inr (Or.inr (Or.inr (⟨rfl, vint (by omega)⟩)))), below_drewN' (HX.out.alloc HX.out.size _) _⟩
      case measure => simp [intOf]
    · go_wp2
      go_ret
      exact ⟨rfl, HX.out⟩
end Go.Proofs.Ytgopdicmmglakaa.W
