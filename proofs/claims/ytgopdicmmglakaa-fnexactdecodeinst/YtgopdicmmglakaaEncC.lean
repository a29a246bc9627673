import Derived.Test.YtgopdicmmglakaaEncB
set_option linter.unusedVariables false
namespace Go.Proofs.Ytgopdicmmglakaa.W
open Go.RowKit
def Im5 (im : Int) (v i : Value) : Prop := (i = .int .i64 0 ∧ v = .int .i64 (0 : Int)) ∨ (i = .int .i64 1 ∧ v = .int .i64 (im / Pl.pw 12 % Pl.pw 1 * 2147483648 : Int)) ∨ (i = .int .i64 2 ∧ v = .int .i64 (im / Pl.pw 12 % Pl.pw 1 * 2147483648 + im / Pl.pw 5 % Pl.pw 6 * 33554432 : Int)) ∨ (i = .int .i64 3 ∧ v = .int .i64 (im / Pl.pw 12 % Pl.pw 1 * 2147483648 + im / Pl.pw 5 % Pl.pw 6 * 33554432 + im / Pl.pw 1 % Pl.pw 4 * 256 : Int)) ∨ (i = .int .i64 4 ∧ v = .int .i64 (im / Pl.pw 12 % Pl.pw 1 * 2147483648 + im / Pl.pw 5 % Pl.pw 6 * 33554432 + im / Pl.pw 1 % Pl.pw 4 * 256 + im / Pl.pw 11 % Pl.pw 1 * 128 : Int))
set_option maxHeartbeats 1000000 in
theorem writeImm_5 (im : Int) (n1 : -4611686018427387904 ≤ im) (n2 : im ≤ 4611686018427387904) (w : World) :
    Calls Try.prog 66 #[.int .i64 im, .agg #[.bool false, .bool true, .bool true, .int .i64 (-4096), .int .i64 4094, .int .i64 2, .int .i64 12, .int .i64 1, .int .i64 31, .int .i64 5, .int .i64 6, .int .i64 25, .int .i64 1, .int .i64 4, .int .i64 8, .int .i64 11, .int .i64 1, .int .i64 7]] w fun e w' => e = .returned (.int .i64 (Pl.imw 5 im)) ∧ Below w.heap.size w w' := by
  have b0 : 0 ≤ im / Pl.pw 12 % Pl.pw 1 ∧ im / Pl.pw 12 % Pl.pw 1 ≤ 1 := by
    have h := Int.emod_nonneg (im / Pl.pw 12) (Int.ne_of_gt (Pl.pw_pos 1))
    have h' := Int.emod_lt_of_pos (im / Pl.pw 12) (Pl.pw_pos 1)
    have e : Pl.pw 1 = 2 := by decide
    omega
  have b1 : 0 ≤ im / Pl.pw 5 % Pl.pw 6 ∧ im / Pl.pw 5 % Pl.pw 6 ≤ 63 := by
    have h := Int.emod_nonneg (im / Pl.pw 5) (Int.ne_of_gt (Pl.pw_pos 6))
    have h' := Int.emod_lt_of_pos (im / Pl.pw 5) (Pl.pw_pos 6)
    have e : Pl.pw 6 = 64 := by decide
    omega
  have b2 : 0 ≤ im / Pl.pw 1 % Pl.pw 4 ∧ im / Pl.pw 1 % Pl.pw 4 ≤ 15 := by
    have h := Int.emod_nonneg (im / Pl.pw 1) (Int.ne_of_gt (Pl.pw_pos 4))
    have h' := Int.emod_lt_of_pos (im / Pl.pw 1) (Pl.pw_pos 4)
    have e : Pl.pw 4 = 16 := by decide
    omega
  have b3 : 0 ≤ im / Pl.pw 11 % Pl.pw 1 ∧ im / Pl.pw 11 % Pl.pw 1 ≤ 1 := by
    have h := Int.emod_nonneg (im / Pl.pw 11) (Int.ne_of_gt (Pl.pw_pos 1))
    have h' := Int.emod_lt_of_pos (im / Pl.pw 11) (Pl.pw_pos 1)
    have e : Pl.pw 1 = 2 := by decide
    omega
  go_enter Try.func66, Try.ntmps66
  go_wp2
  go_loopw [5, 10] (fun v i wr => Im5 im v i ∧ Below w.heap.size w wr) (fun _ i _ => 4 - (intOf i).toNat)
  case atStart => exact ⟨Or.inl ⟨rfl, rfl⟩, (Below.refl _ _).alloc (Nat.le_refl _) _⟩
  case round =>
    obtain ⟨hI, hnx⟩ := hrel
    have HX : Hid (Below w.heap.size w wr) := hnx
    clear hnx
    rcases hI with ⟨rfl, rfl⟩ | ⟨rfl, rfl⟩ | ⟨rfl, rfl⟩ | ⟨rfl, rfl⟩ | ⟨rfl, rfl⟩
    · have hi : ∀ w, (Instr.index 69 (.agg #[.int .i64 12, .int .i64 1, .int .i64 31, .int .i64 5, .int .i64 6, .int .i64 25, .int .i64 1, .int .i64 4, .int .i64 8, .int .i64 11, .int .i64 1, .int .i64 7]) (.int .i64 0)).run Try.prog w = .ok (.agg #[.int .i64 12, .int .i64 1, .int .i64 31]) w := fun _ => by kernel_rfl
      go_wp2_with fail
      go_quiet ((go_at_call 63; exact Calls.quiet_of (bitsOf_any _ _ _ 12 1 rfl rfl (by decide) (by decide) n1 n2 _)))
      go_wp2
      go_roundw
      case rel => exact ⟨Or.inr (Or.inl ⟨rfl, vint (by omega)⟩), below_drewN' (HX.out.alloc HX.out.size _) _⟩
      case measure => simp [intOf]
    · have hi : ∀ w, (Instr.index 69 (.agg #[.int .i64 12, .int .i64 1, .int .i64 31, .int .i64 5, .int .i64 6, .int .i64 25, .int .i64 1, .int .i64 4, .int .i64 8, .int .i64 11, .int .i64 1, .int .i64 7]) (.int .i64 1)).run Try.prog w = .ok (.agg #[.int .i64 5, .int .i64 6, .int .i64 25]) w := fun _ => by kernel_rfl
      go_wp2_with fail
      go_quiet ((go_at_call 63; exact Calls.quiet_of (bitsOf_any _ _ _ 5 6 rfl rfl (by decide) (by decide) n1 n2 _)))
      go_wp2
      go_roundw
      case rel => exact ⟨Or.inr (Or.inr (Or.inl ⟨rfl, vint (by omega)⟩)), below_drewN' (HX.out.alloc HX.out.size _) _⟩
      case measure => simp [intOf]
    · have hi : ∀ w, (Instr.index 69 (.agg #[.int .i64 12, .int .i64 1, .int .i64 31, .int .i64 5, .int .i64 6, .int .i64 25, .int .i64 1, .int .i64 4, .int .i64 8, .int .i64 11, .int .i64 1, .int .i64 7]) (.int .i64 2)).run Try.prog w = .ok (.agg #[.int .i64 1, .int .i64 4, .int .i64 8]) w := fun _ => by kernel_rfl
      go_wp2_with fail
      go_quiet ((go_at_call 63; exact Calls.quiet_of (bitsOf_any _ _ _ 1 4 rfl rfl (by decide) (by decide) n1 n2 _)))
      go_wp2
      go_roundw
      case rel => exact ⟨Or.inr (Or.inr (Or.inr (Or.inl ⟨rfl, vint (by omega)⟩))), below_drewN' (HX.out.alloc HX.out.size _) _⟩
      case measure => simp [intOf]
    · have hi : ∀ w, (Instr.index 69 (.agg #[.int .i64 12, .int .i64 1, .int .i64 31, .int .i64 5, .int .i64 6, .int .i64 25, .int .i64 1, .int .i64 4, .int .i64 8, .int .i64 11, .int .i64 1, .int .i64 7]) (.int .i64 3)).run Try.prog w = .ok (.agg #[.int .i64 11, .int .i64 1, .int .i64 7]) w := fun _ => by kernel_rfl
      go_wp2_with fail
      go_quiet ((go_at_call 63; exact Calls.quiet_of (bitsOf_any _ _ _ 11 1 rfl rfl (by decide) (by decide) n1 n2 _)))
      go_wp2
      go_roundw
      case rel => exact ⟨Or.inr (Or.inr (Or.inr (Or.inr (⟨rfl, vint (by omega)⟩)))), below_drewN' (HX.out.alloc HX.out.size _) _⟩
      case measure => simp [intOf]
    · go_wp2
      go_ret
      exact ⟨rfl, HX.out⟩
def Im6 (im : Int) (v i : Value) : Prop := (i = .int .i64 0 ∧ v = .int .i64 (0 : Int)) ∨ (i = .int .i64 1 ∧ v = .int .i64 (im / Pl.pw 0 % Pl.pw 20 * 4096 : Int)) ∨ (i = .int .i64 2 ∧ v = .int .i64 (im / Pl.pw 0 % Pl.pw 20 * 4096 + im / Pl.pw 0 % Pl.pw 0 * 1 : Int)) ∨ (i = .int .i64 3 ∧ v = .int .i64 (im / Pl.pw 0 % Pl.pw 20 * 4096 + im / Pl.pw 0 % Pl.pw 0 * 1 + im / Pl.pw 0 % Pl.pw 0 * 1 : Int)) ∨ (i = .int .i64 4 ∧ v = .int .i64 (im / Pl.pw 0 % Pl.pw 20 * 4096 + im / Pl.pw 0 % Pl.pw 0 * 1 + im / Pl.pw 0 % Pl.pw 0 * 1 + im / Pl.pw 0 % Pl.pw 0 * 1 : Int))
set_option maxHeartbeats 1000000 in
theorem writeImm_6 (im : Int) (n1 : -4611686018427387904 ≤ im) (n2 : im ≤ 4611686018427387904) (w : World) :
    Calls Try.prog 66 #[.int .i64 im, .agg #[.bool true, .bool false, .bool false, .int .i64 0, .int .i64 1048575, .int .i64 1, .int .i64 0, .int .i64 20, .int .i64 12, .int .i64 0, .int .i64 0, .int .i64 0, .int .i64 0, .int .i64 0, .int .i64 0, .int .i64 0, .int .i64 0, .int .i64 0]] w fun e w' => e = .returned (.int .i64 (Pl.imw 6 im)) ∧ Below w.heap.size w w' := by
  have b0 : 0 ≤ im / Pl.pw 0 % Pl.pw 20 ∧ im / Pl.pw 0 % Pl.pw 20 ≤ 1048575 := by
    have h := Int.emod_nonneg (im / Pl.pw 0) (Int.ne_of_gt (Pl.pw_pos 20))
    have h' := Int.emod_lt_of_pos (im / Pl.pw 0) (Pl.pw_pos 20)
    have e : Pl.pw 20 = 1048576 := by decide
    omega
  have b1 : 0 ≤ im / Pl.pw 0 % Pl.pw 0 ∧ im / Pl.pw 0 % Pl.pw 0 ≤ 0 := by
    have h := Int.emod_nonneg (im / Pl.pw 0) (Int.ne_of_gt (Pl.pw_pos 0))
    have h' := Int.emod_lt_of_pos (im / Pl.pw 0) (Pl.pw_pos 0)
    have e : Pl.pw 0 = 1 := by decide
    omega
  go_enter Try.func66, Try.ntmps66
  go_wp2
  go_loopw [5, 10] (fun v i wr => Im6 im v i ∧ Below w.heap.size w wr) (fun _ i _ => 4 - (intOf i).toNat)
  case atStart => exact ⟨Or.inl ⟨rfl, rfl⟩, (Below.refl _ _).alloc (Nat.le_refl _) _⟩
  case round =>
    obtain ⟨hI, hnx⟩ := hrel
    have HX : Hid (Below w.heap.size w wr) := hnx
    clear hnx
    rcases hI with ⟨rfl, rfl⟩ | ⟨rfl, rfl⟩ | ⟨rfl, rfl⟩ | ⟨rfl, rfl⟩ | ⟨rfl, rfl⟩
    · have hi : ∀ w, (Instr.index 69 (.agg #[.int .i64 0, .int .i64 20, .int .i64 12, .int .i64 0, .int .i64 0, .int .i64 0, .int .i64 0, .int .i64 0, .int .i64 0, .int .i64 0, .int .i64 0, .int .i64 0]) (.int .i64 0)).run Try.prog w = .ok (.agg #[.int .i64 0, .int .i64 20, .int .i64 12]) w := fun _ => by kernel_rfl
      go_wp2_with fail
      go_quiet ((go_at_call 63; exact Calls.quiet_of (bitsOf_any _ _ _ 0 20 rfl rfl (by decide) (by decide) n1 n2 _)))
      go_wp2
      go_roundw
      case rel => exact ⟨Or.inr (Or.inl ⟨rfl, vint (by omega)⟩), below_drewN' (HX.out.alloc HX.out.size _) _⟩
      case measure => simp [intOf]
    · have hi : ∀ w, (Instr.index 69 (.agg #[.int .i64 0, .int .i64 20, .int .i64 12, .int .i64 0, .int .i64 0, .int .i64 0, .int .i64 0, .int .i64 0, .int .i64 0, .int .i64 0, .int .i64 0, .int .i64 0]) (.int .i64 1)).run Try.prog w = .ok (.agg #[.int .i64 0, .int .i64 0, .int .i64 0]) w := fun _ => by kernel_rfl
      go_wp2_with fail
      go_quiet ((go_at_call 63; exact Calls.quiet_of (bitsOf_any _ _ _ 0 0 rfl rfl (by decide) (by decide) n1 n2 _)))
      go_wp2
      go_roundw
      case rel => exact ⟨Or.inr (Or.inr (Or.inl ⟨rfl, vint (by omega)⟩)), below_drewN' (HX.out.alloc HX.out.size _) _⟩
      case measure => simp [intOf]
    · have hi : ∀ w, (Instr.index 69 (.agg #[.int .i64 0, .int .i64 20, .int .i64 12, .int .i64 0, .int .i64 0, .int .i64 0, .int .i64 0, .int .i64 0, .int .i64 0, .int .i64 0, .int .i64 0, .int .i64 0]) (.int .i64 2)).run Try.prog w = .ok (.agg #[.int .i64 0, .int .i64 0, .int .i64 0]) w := fun _ => by kernel_rfl
      go_wp2_with fail
      go_quiet ((go_at_call 63; exact Calls.quiet_of (bitsOf_any _ _ _ 0 0 rfl rfl (by decide) (by decide) n1 n2 _)))
      go_wp2
      go_roundw
      case rel => exact ⟨Or.inr (Or.inr (Or.inr (Or.inl ⟨rfl, vint (by omega)⟩))), below_drewN' (HX.out.alloc HX.out.size _) _⟩
      case measure => simp [intOf]
    · have hi : ∀ w, (Instr.index 69 (.agg #[.int .i64 0, .int .i64 20, .int .i64 12, .int .i64 0, .int .i64 0, .int .i64 0, .int .i64 0, .int .i64 0, .int .i64 0, .int .i64 0, .int .i64 0, .int .i64 0]) (.int .i64 3)).run Try.prog w = .ok (.agg #[.int .i64 0, .int .i64 0, .int .i64 0]) w := fun _ => by kernel_rfl
      go_wp2_with fail
      go_quiet ((go_at_call 63; exact Calls.quiet_of (bitsOf_any _ _ _ 0 0 rfl rfl (by decide) (by decide) n1 n2 _)))
      go_wp2
      go_roundw
      case rel => exact ⟨Or.inr (Or.inr (Or.inr (Or.inr (⟨rfl, vint (by omega)⟩)))), below_drewN' (HX.out.alloc HX.out.size _) _⟩
      case measure => simp [intOf]
    · go_wp2
      go_ret
      exact ⟨rfl, HX.out⟩
def Im7 (im : Int) (v i : Value) : Prop := (i = .int .i64 0 ∧ v = .int .i64 (0 : Int)) ∨ (i = .int .i64 1 ∧ v = .int .i64 (im / Pl.pw 20 % Pl.pw 1 * 2147483648 : Int)) ∨ (i = .int .i64 2 ∧ v = .int .i64 (im / Pl.pw 20 % Pl.pw 1 * 2147483648 + im / Pl.pw 1 % Pl.pw 10 * 2097152 : Int)) ∨ (i = .int .i64 3 ∧ v = .int .i64 (im / Pl.pw 20 % Pl.pw 1 * 2147483648 + im / Pl.pw 1 % Pl.pw 10 * 2097152 + im / Pl.pw 11 % Pl.pw 1 * 1048576 : Int)) ∨ (i = .int .i64 4 ∧ v = .int .i64 (im / Pl.pw 20 % Pl.pw 1 * 2147483648 + im / Pl.pw 1 % Pl.pw 10 * 2097152 + im / Pl.pw 11 % Pl.pw 1 * 1048576 + im / Pl.pw 12 % Pl.pw 8 * 4096 : Int))
set_option maxHeartbeats 1000000 in
theorem writeImm_7 (im : Int) (n1 : -4611686018427387904 ≤ im) (n2 : im ≤ 4611686018427387904) (w : World) :
    Calls Try.prog 66 #[.int .i64 im, .agg #[.bool true, .bool false, .bool false, .int .i64 (-1048576), .int .i64 1048574, .int .i64 2, .int .i64 20, .int .i64 1, .int .i64 31, .int .i64 1, .int .i64 10, .int .i64 21, .int .i64 11, .int .i64 1, .int .i64 20, .int .i64 12, .int .i64 8, .int .i64 12]] w fun e w' => e = .returned (.int .i64 (Pl.imw 7 im)) ∧ Below w.heap.size w w' := by
  have b0 : 0 ≤ im / Pl.pw 20 % Pl.pw 1 ∧ im / Pl.pw 20 % Pl.pw 1 ≤ 1 := by
    have h := Int.emod_nonneg (im / Pl.pw 20) (Int.ne_of_gt (Pl.pw_pos 1))
    have h' := Int.emod_lt_of_pos (im / Pl.pw 20) (Pl.pw_pos 1)
    have e : Pl.pw 1 = 2 := by decide
    omega
  have b1 : 0 ≤ im / Pl.pw 1 % Pl.pw 10 ∧ im / Pl.pw 1 % Pl.pw 10 ≤ 1023 := by
    have h := Int.emod_nonneg (im / Pl.pw 1) (Int.ne_of_gt (Pl.pw_pos 10))
    have h' := Int.emod_lt_of_pos (im / Pl.pw 1) (Pl.pw_pos 10)
    have e : Pl.pw 10 = 1024 := by decide
    omega
  have b2 : 0 ≤ im / Pl.pw 11 % Pl.pw 1 ∧ im / Pl.pw 11 % Pl.pw 1 ≤ 1 := by
    have h := Int.emod_nonneg (im / Pl.pw 11) (Int.ne_of_gt (Pl.pw_pos 1))
    have h' := Int.emod_lt_of_pos (im / Pl.pw 11) (Pl.pw_pos 1)
    have e : Pl.pw 1 = 2 := by decide
    omega
  have b3 : 0 ≤ im / Pl.pw 12 % Pl.pw 8 ∧ im / Pl.pw 12 % Pl.pw 8 ≤ 255 := by
    have h := Int.emod_nonneg (im / Pl.pw 12) (Int.ne_of_gt (Pl.pw_pos 8))
    have h' := Int.emod_lt_of_pos (im / Pl.pw 12) (Pl.pw_pos 8)
    have e : Pl.pw 8 = 256 := by decide
    omega
  go_enter Try.func66, Try.ntmps66
  go_wp2
  go_loopw [5, 10] (fun v i wr => Im7 im v i ∧ Below w.heap.size w wr) (fun _ i _ => 4 - (intOf i).toNat)
  case atStart => exact ⟨Or.inl ⟨rfl, rfl⟩, (Below.refl _ _).alloc (Nat.le_refl _) _⟩
  case round =>
    obtain ⟨hI, hnx⟩ := hrel
    have HX : Hid (Below w.heap.size w wr) := hnx
    clear hnx
    rcases hI with ⟨rfl, rfl⟩ | ⟨rfl, rfl⟩ | ⟨rfl, rfl⟩ | ⟨rfl, rfl⟩ | ⟨rfl, rfl⟩
    · have hi : ∀ w, (Instr.index 69 (.agg #[.int .i64 20, .int .i64 1, .int .i64 31, .int .i64 1, .int .i64 10, .int .i64 21, .int .i64 11, .int .i64 1, .int .i64 20, .int .i64 12, .int .i64 8, .int .i64 12]) (.int .i64 0)).run Try.prog w = .ok (.agg #[.int .i64 20, .int .i64 1, .int .i64 31]) w := fun _ => by kernel_rfl
      go_wp2_with fail
      go_quiet ((go_at_call 63; exact Calls.quiet_of (bitsOf_any _ _ _ 20 1 rfl rfl (by decide) (by decide) n1 n2 _)))
      go_wp2
      go_roundw
      case rel => exact ⟨Or.inr (Or.inl ⟨rfl, vint (by omega)⟩), below_drewN' (HX.out.alloc HX.out.size _) _⟩
      case measure => simp [intOf]
    · have hi : ∀ w, (Instr.index 69 (.agg #[.int .i64 20, .int .i64 1, .int .i64 31, .int .i64 1, .int .i64 10, .int .i64 21, .int .i64 11, .int .i64 1, .int .i64 20, .int .i64 12, .int .i64 8, .int .i64 12]) (.int .i64 1)).run Try.prog w = .ok (.agg #[.int .i64 1, .int .i64 10, .int .i64 21]) w := fun _ => by kernel_rfl
      go_wp2_with fail
      go_quiet ((go_at_call 63; exact Calls.quiet_of (bitsOf_any _ _ _ 1 10 rfl rfl (by decide) (by decide) n1 n2 _)))
      go_wp2
      go_roundw
      case rel => exact ⟨Or.inr (Or.inr (Or.inl ⟨rfl, vint (by omega)⟩)), below_drewN' (HX.out.alloc HX.out.size _) _⟩
      case measure => simp [intOf]
    · have hi : ∀ w, (Instr.index 69 (.agg #[.int .i64 20, .int .i64 1, .int .i64 31, .int .i64 1, .int .i64 10, .int .i64 21, .int .i64 11, .int .i64 1, .int .i64 20, .int .i64 12, .int .i64 8, .int .i64 12]) (.int .i64 2)).run Try.prog w = .ok (.agg #[.int .i64 11, .int .i64 1, .int .i64 20]) w := fun _ => by kernel_rfl
      go_wp2_with fail
      go_quiet ((go_at_call 63; exact Calls.quiet_of (bitsOf_any _ _ _ 11 1 rfl rfl (by decide) (by decide) n1 n2 _)))
      go_wp2
      go_roundw
      case rel => exact ⟨Or.inr (Or.inr (Or.inr (Or.inl ⟨rfl, vint (by omega)⟩))), below_drewN' (HX.out.alloc HX.out.size _) _⟩
      case measure => simp [intOf]
    · have hi : ∀ w, (Instr.index 69 (.agg #[.int .i64 20, .int .i64 1, .int .i64 31, .int .i64 1, .int .i64 10, .int .i64 21, .int .i64 11, .int .i64 1, .int .i64 20, .int .i64 12, .int .i64 8, .int .i64 12]) (.int .i64 3)).run Try.prog w = .ok (.agg #[.int .i64 12, .int .i64 8, .int .i64 12]) w := fun _ => by kernel_rfl
      go_wp2_with fail
      go_quiet ((go_at_call 63; exact Calls.quiet_of (bitsOf_any _ _ _ 12 8 rfl rfl (by decide) (by decide) n1 n2 _)))
      go_wp2
      go_roundw
      case rel => exact ⟨Or.inr (Or.inr (Or.inr (Or.inr (⟨rfl, vint (by omega)⟩)))), below_drewN' (HX.out.alloc HX.out.size _) _⟩
      case measure => simp [intOf]
    · go_wp2
      go_ret
      exact ⟨rfl, HX.out⟩
def Im8 (im : Int) (v i : Value) : Prop := (i = .int .i64 0 ∧ v = .int .i64 (0 : Int)) ∨ (i = .int .i64 1 ∧ v = .int .i64 (im / Pl.pw 0 % Pl.pw 0 * 1 : Int)) ∨ (i = .int .i64 2 ∧ v = .int .i64 (im / Pl.pw 0 % Pl.pw 0 * 1 + im / Pl.pw 0 % Pl.pw 0 * 1 : Int)) ∨ (i = .int .i64 3 ∧ v = .int .i64 (im / Pl.pw 0 % Pl.pw 0 * 1 + im / Pl.pw 0 % Pl.pw 0 * 1 + im / Pl.pw 0 % Pl.pw 0 * 1 : Int)) ∨ (i = .int .i64 4 ∧ v = .int .i64 (im / Pl.pw 0 % Pl.pw 0 * 1 + im / Pl.pw 0 % Pl.pw 0 * 1 + im / Pl.pw 0 % Pl.pw 0 * 1 + im / Pl.pw 0 % Pl.pw 0 * 1 : Int))
set_option maxHeartbeats 1000000 in
theorem writeImm_8 (im : Int) (n1 : -4611686018427387904 ≤ im) (n2 : im ≤ 4611686018427387904) (w : World) :
    Calls Try.prog 66 #[.int .i64 im, .agg #[.bool false, .bool false, .bool false, .int .i64 0, .int .i64 0, .int .i64 1, .int .i64 0, .int .i64 0, .int .i64 0, .int .i64 0, .int .i64 0, .int .i64 0, .int .i64 0, .int .i64 0, .int .i64 0, .int .i64 0, .int .i64 0, .int .i64 0]] w fun e w' => e = .returned (.int .i64 (Pl.imw 8 im)) ∧ Below w.heap.size w w' := by
  have b0 : 0 ≤ im / Pl.pw 0 % Pl.pw 0 ∧ im / Pl.pw 0 % Pl.pw 0 ≤ 0 := by
    have h := Int.emod_nonneg (im / Pl.pw 0) (Int.ne_of_gt (Pl.pw_pos 0))
    have h' := Int.emod_lt_of_pos (im / Pl.pw 0) (Pl.pw_pos 0)
    have e : Pl.pw 0 = 1 := by decide
    omega
  go_enter Try.func66, Try.ntmps66
  go_wp2
  go_loopw [5, 10] (fun v i wr => Im8 im v i ∧ Below w.heap.size w wr) (fun _ i _ => 4 - (intOf i).toNat)
  case atStart => exact ⟨Or.inl ⟨rfl, rfl⟩, (Below.refl _ _).alloc (Nat.le_refl _) _⟩
  case round =>
    obtain ⟨hI, hnx⟩ := hrel
    have HX : Hid (Below w.heap.size w wr) := hnx
    clear hnx
    rcases hI with ⟨rfl, rfl⟩ | ⟨rfl, rfl⟩ | ⟨rfl, rfl⟩ | ⟨rfl, rfl⟩ | ⟨rfl, rfl⟩
    · have hi : ∀ w, (Instr.index 69 (.agg #[.int .i64 0, .int .i64 0, .int .i64 0, .int .i64 0, .int .i64 0, .int .i64 0, .int .i64 0, .int .i64 0, .int .i64 0, .int .i64 0, .int .i64 0, .int .i64 0]) (.int .i64 0)).run Try.prog w = .ok (.agg #[.int .i64 0, .int .i64 0, .int .i64 0]) w := fun _ => by kernel_rfl
      go_wp2_with fail
      go_quiet ((go_at_call 63; exact Calls.quiet_of (bitsOf_any _ _ _ 0 0 rfl rfl (by decide) (by decide) n1 n2 _)))
      go_wp2
      go_roundw
      case rel => exact ⟨Or.inr (Or.inl ⟨rfl, vint (by omega)⟩), below_drewN' (HX.out.alloc HX.out.size _) _⟩
      case measure => simp [intOf]
    · have hi : ∀ w, (Instr.index 69 (.agg #[.int .i64 0, .int .i64 0, .int .i64 0, .int .i64 0, .int .i64 0, .int .i64 0, .int .i64 0, .int .i64 0, .int .i64 0, .int .i64 0, .int .i64 0, .int .i64 0]) (.int .i64 1)).run Try.prog w = .ok (.agg #[.int .i64 0, .int .i64 0, .int .i64 0]) w := fun _ => by kernel_rfl
      go_wp2_with fail
      go_quiet ((go_at_call 63; exact Calls.quiet_of (bitsOf_any _ _ _ 0 0 rfl rfl (by decide) (by decide) n1 n2 _)))
      go_wp2
      go_roundw
      case rel => exact ⟨Or.inr (Or.inr (Or.inl ⟨rfl, vint (by omega)⟩)), below_drewN' (HX.out.alloc HX.out.size _) _⟩
      case measure => simp [intOf]
    · have hi : ∀ w, (Instr.index 69 (.agg #[.int .i64 0, .int .i64 0, .int .i64 0, .int .i64 0, .int .i64 0, .int .i64 0, .int .i64 0, .int .i64 0, .int .i64 0, .int .i64 0, .int .i64 0, .int .i64 0]) (.int .i64 2)).run Try.prog w = .ok (.agg #[.int .i64 0, .int .i64 0, .int .i64 0]) w := fun _ => by kernel_rfl
      go_wp2_with fail
      go_quiet ((go_at_call 63; exact Calls.quiet_of (bitsOf_any _ _ _ 0 0 rfl rfl (by decide) (by decide) n1 n2 _)))
      go_wp2
      go_roundw
      case rel => exact ⟨Or.inr (Or.inr (Or.inr (Or.inl ⟨rfl, vint (by omega)⟩))), below_drewN' (HX.out.alloc HX.out.size _) _⟩
      case measure => simp [intOf]
    · have hi : ∀ w, (Instr.index 69 (.agg #[.int .i64 0, .int .i64 0, .int .i64 0, .int .i64 0, .int .i64 0, .int .i64 0, .int .i64 0, .int .i64 0, .int .i64 0, .int .i64 0, .int .i64 0, .int .i64 0]) (.int .i64 3)).run Try.prog w = .ok (.agg #[.int .i64 0, .int .i64 0, .int .i64 0]) w := fun _ => by kernel_rfl
      go_wp2_with fail
      go_quiet ((go_at_call 63; exact Calls.quiet_of (bitsOf_any _ _ _ 0 0 rfl rfl (by decide) (by decide) n1 n2 _)))
      go_wp2
      go_roundw
      case rel => exact ⟨Or.inr (Or.inr (Or.inr (Or.inr (⟨rfl, vint (by omega)⟩)))), below_drewN' (HX.out.alloc HX.out.size _) _⟩
      case measure => simp [intOf]
    · go_wp2
      go_ret
      exact ⟨rfl, HX.out⟩
theorem writeImm_any (im : Int) (f : Nat) (h1 : 1 ≤ f) (h2 : f ≤ 8) (n1 : -4611686018427387904 ≤ im) (n2 : im ≤ 4611686018427387904) (w : World) :
    Calls Try.prog 66 #[.int .i64 im, .agg (Pl.ruleV f)] w fun e w' => e = .returned (.int .i64 (Pl.imw f im)) ∧ Below w.heap.size w w' := by
  rcases Pl.form_cases f h1 h2 with rfl | rfl | rfl | rfl | rfl | rfl | rfl | rfl
  · exact writeImm_1 im n1 n2 w
  · exact writeImm_2 im n1 n2 w
  · exact writeImm_3 im n1 n2 w
  · exact writeImm_4 im n1 n2 w
  · exact writeImm_5 im n1 n2 w
  · exact writeImm_6 im n1 n2 w
  · exact writeImm_7 im n1 n2 w
  · exact writeImm_8 im n1 n2 w
end Go.Proofs.Ytgopdicmmglakaa.W
