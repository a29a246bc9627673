import Derived.Test.YtjdfffdeljgenaaGreatDoorS26
set_option linter.unusedVariables false
namespace Go.Proofs.YtjdfffdeljgenaaGreatDoor.Pl
def rim : Nat → Int → Int
  | 1, n => (n / Pl.pw 0 % Pl.pw 0 * 1 + n / Pl.pw 0 % Pl.pw 0 * 1 + n / Pl.pw 0 % Pl.pw 0 * 1 + n / Pl.pw 0 % Pl.pw 0 * 1 : Int)
  | 2, n => (n / Pl.pw 20 % Pl.pw 12 * 1 + n / Pl.pw 0 % Pl.pw 0 * 1 + n / Pl.pw 0 % Pl.pw 0 * 1 + n / Pl.pw 0 % Pl.pw 0 * 1 : Int)
  | 3, n => (n / Pl.pw 20 % Pl.pw 5 * 1 + n / Pl.pw 0 % Pl.pw 0 * 1 + n / Pl.pw 0 % Pl.pw 0 * 1 + n / Pl.pw 0 % Pl.pw 0 * 1 : Int)
  | 4, n => (n / Pl.pw 25 % Pl.pw 7 * 32 + n / Pl.pw 7 % Pl.pw 5 * 1 + n / Pl.pw 0 % Pl.pw 0 * 1 + n / Pl.pw 0 % Pl.pw 0 * 1 : Int)
  | 5, n => (n / Pl.pw 31 % Pl.pw 1 * 4096 + n / Pl.pw 25 % Pl.pw 6 * 32 + n / Pl.pw 8 % Pl.pw 4 * 2 + n / Pl.pw 7 % Pl.pw 1 * 2048 : Int)
  | 6, n => (n / Pl.pw 12 % Pl.pw 20 * 1 + n / Pl.pw 0 % Pl.pw 0 * 1 + n / Pl.pw 0 % Pl.pw 0 * 1 + n / Pl.pw 0 % Pl.pw 0 * 1 : Int)
  | 7, n => (n / Pl.pw 31 % Pl.pw 1 * 1048576 + n / Pl.pw 21 % Pl.pw 10 * 2 + n / Pl.pw 20 % Pl.pw 1 * 2048 + n / Pl.pw 12 % Pl.pw 8 * 4096 : Int)
  | 8, n => (n / Pl.pw 0 % Pl.pw 0 * 1 + n / Pl.pw 0 % Pl.pw 0 * 1 + n / Pl.pw 0 % Pl.pw 0 * 1 + n / Pl.pw 0 % Pl.pw 0 * 1 : Int)
  | _, _ => 0
def gIm (f : Nat) (n : Int) : Int := if rim f n > hi f then rim f n - (hi f + st f - lo f) else rim f n
end Go.Proofs.YtjdfffdeljgenaaGreatDoor.Pl
namespace Go.Proofs.YtjdfffdeljgenaaGreatDoor.W
open Go.RowKit
def Rm1 (n : Int) (v i : Value) : Prop := (i = .int .i64 0 ∧ v = .int .i64 (0 : Int)) ∨ (i = .int .i64 1 ∧ v = .int .i64 (n / Pl.pw 0 % Pl.pw 0 * 1 : Int)) ∨ (i = .int .i64 2 ∧ v = .int .i64 (n / Pl.pw 0 % Pl.pw 0 * 1 + n / Pl.pw 0 % Pl.pw 0 * 1 : Int)) ∨ (i = .int .i64 3 ∧ v = .int .i64 (n / Pl.pw 0 % Pl.pw 0 * 1 + n / Pl.pw 0 % Pl.pw 0 * 1 + n / Pl.pw 0 % Pl.pw 0 * 1 : Int)) ∨ (i = .int .i64 4 ∧ v = .int .i64 (n / Pl.pw 0 % Pl.pw 0 * 1 + n / Pl.pw 0 % Pl.pw 0 * 1 + n / Pl.pw 0 % Pl.pw 0 * 1 + n / Pl.pw 0 % Pl.pw 0 * 1 : Int))
set_option maxHeartbeats 1000000 in
theorem readImm_1 (n : Int) (w : World) :
    Calls Tryz.prog 130 #[.int .i64 n, .agg #[.bool true, .bool true, .bool true, .int .i64 0, .int .i64 0, .int .i64 1, .int .i64 0, .int .i64 0, .int .i64 0, .int .i64 0, .int .i64 0, .int .i64 0, .int .i64 0, .int .i64 0, .int .i64 0, .int .i64 0, .int .i64 0, .int .i64 0]] w fun e w' => e = .returned (.int .i64 (Pl.gIm 1 n)) ∧ Below w.heap.size w w' := by
  have b0 : 0 ≤ n / Pl.pw 0 % Pl.pw 0 ∧ n / Pl.pw 0 % Pl.pw 0 ≤ 0 := by
    have h := Int.emod_nonneg (n / Pl.pw 0) (Int.ne_of_gt (Pl.pw_pos 0))
    have h' := Int.emod_lt_of_pos (n / Pl.pw 0) (Pl.pw_pos 0)
    have e : Pl.pw 0 = 1 := by decide
    omega
  go_enter Tryz.func130, Tryz.ntmps130
  go_wp2
  go_loopw [5, 10] (fun v i wr => Rm1 n v i ∧ Below (w.heap.size + 1) (w.alloc (.cells #[.bool true, .bool true, .bool true, .int .i64 0, .int .i64 0, .int .i64 1, .int .i64 0, .int .i64 0, .int .i64 0, .int .i64 0, .int .i64 0, .int .i64 0, .int .i64 0, .int .i64 0, .int .i64 0, .int .i64 0, .int .i64 0, .int .i64 0] 124)) wr) (fun _ i _ => 4 - (intOf i).toNat)
  case atStart => exact ⟨Or.inl ⟨rfl, rfl⟩, Below.refl _ _⟩
  case round =>
    obtain ⟨hI, hnx⟩ := hrel
    have HX : Hid (Below (w.heap.size + 1) (w.alloc (.cells #[.bool true, .bool true, .bool true, .int .i64 0, .int .i64 0, .int .i64 1, .int .i64 0, .int .i64 0, .int .i64 0, .int .i64 0, .int .i64 0, .int .i64 0, .int .i64 0, .int .i64 0, .int .i64 0, .int .i64 0, .int .i64 0, .int .i64 0] 124)) wr) := hnx
    have hz : w.heap.size + 1 ≤ wr.heap.size := by have := hnx.size; simpa using this
    have hk : ∀ i, wr.cell? ⟨w.heap.size, i, none⟩ = (#[.bool true, .bool true, .bool true, .int .i64 0, .int .i64 0, .int .i64 1, .int .i64 0, .int .i64 0, .int .i64 0, .int .i64 0, .int .i64 0, .int .i64 0, .int .i64 0, .int .i64 0, .int .i64 0, .int .i64 0, .int .i64 0, .int .i64 0] : Array Value)[i]? := fun i => kept_cells' (by simpa using hnx) i
    have k3 : wr.cell? ⟨w.heap.size, 3, none⟩ = some (.int .i64 0) := hk 3
    have k4 : wr.cell? ⟨w.heap.size, 4, none⟩ = some (.int .i64 0) := hk 4
    have k5 : wr.cell? ⟨w.heap.size, 5, none⟩ = some (.int .i64 1) := hk 5
    clear hnx hk
    rcases hI with ⟨rfl, rfl⟩ | ⟨rfl, rfl⟩ | ⟨rfl, rfl⟩ | ⟨rfl, rfl⟩ | ⟨rfl, rfl⟩
    · have hi : ∀ w, (Instr.index 122 (.agg #[.int .i64 0, .int .i64 0, .int .i64 0, .int .i64 0, .int .i64 0, .int .i64 0, .int .i64 0, .int .i64 0, .int .i64 0, .int .i64 0, .int .i64 0, .int .i64 0]) (.int .i64 0)).run Tryz.prog w = .ok (.agg #[.int .i64 0, .int .i64 0, .int .i64 0]) w := fun _ => by kernel_rfl
      go_wp2_with fail
      go_quiet ((go_at_call 131; exact Calls.quiet_of (bitsOf_at _ _ _ 0 0 rfl rfl (by decide) (by decide) _)))
      go_wp2
      go_roundw
      case rel => exact ⟨Or.inr (Or.inl ⟨rfl, vint (by omega)⟩), below_drewN' (HX.out.alloc (by omega) _) _⟩
      case measure => simp [intOf]
    · have hi : ∀ w, (Instr.index 122 (.agg #[.int .i64 0, .int .i64 0, .int .i64 0, .int .i64 0, .int .i64 0, .int .i64 0, .int .i64 0, .int .i64 0, .int .i64 0, .int .i64 0, .int .i64 0, .int .i64 0]) (.int .i64 1)).run Tryz.prog w = .ok (.agg #[.int .i64 0, .int .i64 0, .int .i64 0]) w := fun _ => by kernel_rfl
      go_wp2_with fail
      go_quiet ((go_at_call 131; exact Calls.quiet_of (bitsOf_at _ _ _ 0 0 rfl rfl (by decide) (by decide) _)))
      go_wp2
      go_roundw
      case rel => exact ⟨Or.inr (Or.inr (Or.inl ⟨rfl, vint (by omega)⟩)), below_drewN' (HX.out.alloc (by omega) _) _⟩
      case measure => simp [intOf]
    · have hi : ∀ w, (Instr.index 122 (.agg #[.int .i64 0, .int .i64 0, .int .i64 0, .int .i64 0, .int .i64 0, .int .i64 0, .int .i64 0, .int .i64 0, .int .i64 0, .int .i64 0, .int .i64 0, .int .i64 0]) (.int .i64 2)).run Tryz.prog w = .ok (.agg #[.int .i64 0, .int .i64 0, .int .i64 0]) w := fun _ => by kernel_rfl
      go_wp2_with fail
      go_quiet ((go_at_call 131; exact Calls.quiet_of (bitsOf_at _ _ _ 0 0 rfl rfl (by decide) (by decide) _)))
      go_wp2
      go_roundw
      case rel => exact ⟨Or.inr (Or.inr (Or.inr (Or.inl ⟨rfl, vint (by omega)⟩))), below_drewN' (HX.out.alloc (by omega) _) _⟩
      case measure => simp [intOf]
    · have hi : ∀ w, (Instr.index 122 (.agg #[.int .i64 0, .int .i64 0, .int .i64 0, .int .i64 0, .int .i64 0, .int .i64 0, .int .i64 0, .int .i64 0, .int .i64 0, .int .i64 0, .int .i64 0, .int .i64 0]) (.int .i64 3)).run Tryz.prog w = .ok (.agg #[.int .i64 0, .int .i64 0, .int .i64 0]) w := fun _ => by kernel_rfl
      go_wp2_with fail
      go_quiet ((go_at_call 131; exact Calls.quiet_of (bitsOf_at _ _ _ 0 0 rfl rfl (by decide) (by decide) _)))
      go_wp2
      go_roundw
      case rel => exact ⟨Or.inr (Or.inr (Or.inr (Or.inr (⟨rfl, vint (by omega)⟩)))), below_drewN' (HX.out.alloc (by omega) _) _⟩
      case measure => simp [intOf]
    · have HB : Hid (Below w.heap.size w wr) := ((Below.refl _ _).alloc (Nat.le_refl _) _).trans (HX.out.mono (by omega))
      by_cases hgt : n / Pl.pw 0 % Pl.pw 0 * 1 + n / Pl.pw 0 % Pl.pw 0 * 1 + n / Pl.pw 0 % Pl.pw 0 * 1 + n / Pl.pw 0 % Pl.pw 0 * 1 > 0
      · exfalso; omega
      · go_wp2
        go_ret
        exact ⟨ret_int (by simp only [Pl.gIm, Pl.rim, Pl.hi, Pl.st, Pl.lo]; rw [if_neg (by omega)] <;> omega), HB.out⟩
def Rm2 (n : Int) (v i : Value) : Prop := (i = .int .i64 0 ∧ v = .int .i64 (0 : Int)) ∨ (i = .int .i64 1 ∧ v = .int .i64 (n / Pl.pw 20 % Pl.pw 12 * 1 : Int)) ∨ (i = .int .i64 2 ∧ v = .int .i64 (n / Pl.pw 20 % Pl.pw 12 * 1 + n / Pl.pw 0 % Pl.pw 0 * 1 : Int)) ∨ (i = .int .i64 3 ∧ v = .int .i64 (n / Pl.pw 20 % Pl.pw 12 * 1 + n / Pl.pw 0 % Pl.pw 0 * 1 + n / Pl.pw 0 % Pl.pw 0 * 1 : Int)) ∨ (i = .int .i64 4 ∧ v = .int .i64 (n / Pl.pw 20 % Pl.pw 12 * 1 + n / Pl.pw 0 % Pl.pw 0 * 1 + n / Pl.pw 0 % Pl.pw 0 * 1 + n / Pl.pw 0 % Pl.pw 0 * 1 : Int))
set_option maxHeartbeats 1000000 in
theorem readImm_2 (n : Int) (w : World) :
    Calls Tryz.prog 130 #[.int .i64 n, .agg #[.bool true, .bool true, .bool false, .int .i64 (-2048), .int .i64 2047, .int .i64 1, .int .i64 0, .int .i64 12, .int .i64 20, .int .i64 0, .int .i64 0, .int .i64 0, .int .i64 0, .int .i64 0, .int .i64 0, .int .i64 0, .int .i64 0, .int .i64 0]] w fun e w' => e = .returned (.int .i64 (Pl.gIm 2 n)) ∧ Below w.heap.size w w' := by
  have b0 : 0 ≤ n / Pl.pw 20 % Pl.pw 12 ∧ n / Pl.pw 20 % Pl.pw 12 ≤ 4095 := by
    have h := Int.emod_nonneg (n / Pl.pw 20) (Int.ne_of_gt (Pl.pw_pos 12))
    have h' := Int.emod_lt_of_pos (n / Pl.pw 20) (Pl.pw_pos 12)
    have e : Pl.pw 12 = 4096 := by decide
    omega
  have b1 : 0 ≤ n / Pl.pw 0 % Pl.pw 0 ∧ n / Pl.pw 0 % Pl.pw 0 ≤ 0 := by
    have h := Int.emod_nonneg (n / Pl.pw 0) (Int.ne_of_gt (Pl.pw_pos 0))
    have h' := Int.emod_lt_of_pos (n / Pl.pw 0) (Pl.pw_pos 0)
    have e : Pl.pw 0 = 1 := by decide
    omega
  go_enter Tryz.func130, Tryz.ntmps130
  go_wp2
  go_loopw [5, 10] (fun v i wr => Rm2 n v i ∧ Below (w.heap.size + 1) (w.alloc (.cells #[.bool true, .bool true, .bool false, .int .i64 (-2048), .int .i64 2047, .int .i64 1, .int .i64 0, .int .i64 12, .int .i64 20, .int .i64 0, .int .i64 0, .int .i64 0, .int .i64 0, .int .i64 0, .int .i64 0, .int .i64 0, .int .i64 0, .int .i64 0] 124)) wr) (fun _ i _ => 4 - (intOf i).toNat)
  case atStart => exact ⟨Or.inl ⟨rfl, rfl⟩, Below.refl _ _⟩
  case round =>
    obtain ⟨hI, hnx⟩ := hrel
    have HX : Hid (Below (w.heap.size + 1) (w.alloc (.cells #[.bool true, .bool true, .bool false, .int .i64 (-2048), .int .i64 2047, .int .i64 1, .int .i64 0, .int .i64 12, .int .i64 20, .int .i64 0, .int .i64 0, .int .i64 0, .int .i64 0, .int .i64 0, .int .i64 0, .int .i64 0, .int .i64 0, .int .i64 0] 124)) wr) := hnx
    have hz : w.heap.size + 1 ≤ wr.heap.size := by have := hnx.size; simpa using this
    have hk : ∀ i, wr.cell? ⟨w.heap.size, i, none⟩ = (#[.bool true, .bool true, .bool false, .int .i64 (-2048), .int .i64 2047, .int .i64 1, .int .i64 0, .int .i64 12, .int .i64 20, .int .i64 0, .int .i64 0, .int .i64 0, .int .i64 0, .int .i64 0, .int .i64 0, .int .i64 0, .int .i64 0, .int .i64 0] : Array Value)[i]? := fun i => kept_cells' (by simpa using hnx) i
    have k3 : wr.cell? ⟨w.heap.size, 3, none⟩ = some (.int .i64 (-2048)) := hk 3
    have k4 : wr.cell? ⟨w.heap.size, 4, none⟩ = some (.int .i64 2047) := hk 4
    have k5 : wr.cell? ⟨w.heap.size, 5, none⟩ = some (.int .i64 1) := hk 5
    clear hnx hk
    rcases hI with ⟨rfl, rfl⟩ | ⟨rfl, rfl⟩ | ⟨rfl, rfl⟩ | ⟨rfl, rfl⟩ | ⟨rfl, rfl⟩
    · have hi : ∀ w, (Instr.index 122 (.agg #[.int .i64 0, .int .i64 12, .int .i64 20, .int .i64 0, .int .i64 0, .int .i64 0, .int .i64 0, .int .i64 0, .int .i64 0, .int .i64 0, .int .i64 0, .int .i64 0]) (.int .i64 0)).run Tryz.prog w = .ok (.agg #[.int .i64 0, .int .i64 12, .int .i64 20]) w := fun _ => by kernel_rfl
      go_wp2_with fail
      go_quiet ((go_at_call 131; exact Calls.quiet_of (bitsOf_at _ _ _ 20 12 rfl rfl (by decide) (by decide) _)))
      go_wp2
      go_roundw
      case rel => exact ⟨Or.inr (Or.inl ⟨rfl, vint (by omega)⟩), below_drewN' (HX.out.alloc (by omega) _) _⟩
      case measure => simp [intOf]
    · have hi : ∀ w, (Instr.index 122 (.agg #[.int .i64 0, .int .i64 12, .int .i64 20, .int .i64 0, .int .i64 0, .int .i64 0, .int .i64 0, .int .i64 0, .int .i64 0, .int .i64 0, .int .i64 0, .int .i64 0]) (.int .i64 1)).run Tryz.prog w = .ok (.agg #[.int .i64 0, .int .i64 0, .int .i64 0]) w := fun _ => by kernel_rfl
      go_wp2_with fail
      go_quiet ((go_at_call 131; exact Calls.quiet_of (bitsOf_at _ _ _ 0 0 rfl rfl (by decide) (by decide) _)))
      go_wp2
      go_roundw
      case rel => exact ⟨Or.inr (Or.inr (Or.inl ⟨rfl, vint (by omega)⟩)), below_drewN' (HX.out.alloc (by omega) _) _⟩
      case measure => simp [intOf]
    · have hi : ∀ w, (Instr.index 122 (.agg #[.int .i64 0, .int .i64 12, .int .i64 20, .int .i64 0, .int .i64 0, .int .i64 0, .int .i64 0, .int .i64 0, .int .i64 0, .int .i64 0, .int .i64 0, .int .i64 0]) (.int .i64 2)).run Tryz.prog w = .ok (.agg #[.int .i64 0, .int .i64 0, .int .i64 0]) w := fun _ => by kernel_rfl
      go_wp2_with fail
      go_quiet ((go_at_call 131; exact Calls.quiet_of (bitsOf_at _ _ _ 0 0 rfl rfl (by decide) (by decide) _)))
      go_wp2
      go_roundw
      case rel => exact ⟨Or.inr (Or.inr (Or.inr (Or.inl ⟨rfl, vint (by omega)⟩))), below_drewN' (HX.out.alloc (by omega) _) _⟩
      case measure => simp [intOf]
    · have hi : ∀ w, (Instr.index 122 (.agg #[.int .i64 0, .int .i64 12, .int .i64 20, .int .i64 0, .int .i64 0, .int .i64 0, .int .i64 0, .int .i64 0, .int .i64 0, .int .i64 0, .int .i64 0, .int .i64 0]) (.int .i64 3)).run Tryz.prog w = .ok (.agg #[.int .i64 0, .int .i64 0, .int .i64 0]) w := fun _ => by kernel_rfl
      go_wp2_with fail
      go_quiet ((go_at_call 131; exact Calls.quiet_of (bitsOf_at _ _ _ 0 0 rfl rfl (by decide) (by decide) _)))
      go_wp2
      go_roundw
      case rel => exact ⟨Or.inr (Or.inr (Or.inr (Or.inr (⟨rfl, vint (by omega)⟩)))), below_drewN' (HX.out.alloc (by omega) _) _⟩
      case measure => simp [intOf]
    · have HB : Hid (Below w.heap.size w wr) := ((Below.refl _ _).alloc (Nat.le_refl _) _).trans (HX.out.mono (by omega))
      by_cases hgt : n / Pl.pw 20 % Pl.pw 12 * 1 + n / Pl.pw 0 % Pl.pw 0 * 1 + n / Pl.pw 0 % Pl.pw 0 * 1 + n / Pl.pw 0 % Pl.pw 0 * 1 > 2047
      · go_wp2
        go_ret
        exact ⟨ret_int (by simp only [Pl.gIm, Pl.rim, Pl.hi, Pl.st, Pl.lo]; rw [if_pos (by omega)] <;> omega), HB.out⟩
      · go_wp2
        go_ret
        exact ⟨ret_int (by simp only [Pl.gIm, Pl.rim, Pl.hi, Pl.st, Pl.lo]; rw [if_neg (by omega)] <;> omega), HB.out⟩
def Rm3 (n : Int) (v i : Value) : Prop := (i = .int .i64 0 ∧ v = .int .i64 (0 : Int)) ∨ (i = .int .i64 1 ∧ v = .int .i64 (n / Pl.pw 20 % Pl.pw 5 * 1 : Int)) ∨ (i = .int .i64 2 ∧ v = .int .i64 (n / Pl.pw 20 % Pl.pw 5 * 1 + n / Pl.pw 0 % Pl.pw 0 * 1 : Int)) ∨ (i = .int .i64 3 ∧ v = .int .i64 (n / Pl.pw 20 % Pl.pw 5 * 1 + n / Pl.pw 0 % Pl.pw 0 * 1 + n / Pl.pw 0 % Pl.pw 0 * 1 : Int)) ∨ (i = .int .i64 4 ∧ v = .int .i64 (n / Pl.pw 20 % Pl.pw 5 * 1 + n / Pl.pw 0 % Pl.pw 0 * 1 + n / Pl.pw 0 % Pl.pw 0 * 1 + n / Pl.pw 0 % Pl.pw 0 * 1 : Int))
set_option maxHeartbeats 1000000 in
theorem readImm_3 (n : Int) (w : World) :
    Calls Tryz.prog 130 #[.int .i64 n, .agg #[.bool true, .bool true, .bool false, .int .i64 0, .int .i64 31, .int .i64 1, .int .i64 0, .int .i64 5, .int .i64 20, .int .i64 0, .int .i64 0, .int .i64 0, .int .i64 0, .int .i64 0, .int .i64 0, .int .i64 0, .int .i64 0, .int .i64 0]] w fun e w' => e = .returned (.int .i64 (Pl.gIm 3 n)) ∧ Below w.heap.size w w' := by
  have b0 : 0 ≤ n / Pl.pw 20 % Pl.pw 5 ∧ n / Pl.pw 20 % Pl.pw 5 ≤ 31 := by
    have h := Int.emod_nonneg (n / Pl.pw 20) (Int.ne_of_gt (Pl.pw_pos 5))
    have h' := Int.emod_lt_of_pos (n / Pl.pw 20) (Pl.pw_pos 5)
    have e : Pl.pw 5 = 32 := by decide
    omega
  have b1 : 0 ≤ n / Pl.pw 0 % Pl.pw 0 ∧ n / Pl.pw 0 % Pl.pw 0 ≤ 0 := by
    have h := Int.emod_nonneg (n / Pl.pw 0) (Int.ne_of_gt (Pl.pw_pos 0))
    have h' := Int.emod_lt_of_pos (n / Pl.pw 0) (Pl.pw_pos 0)
    have e : Pl.pw 0 = 1 := by decide
    omega
  go_enter Tryz.func130, Tryz.ntmps130
  go_wp2
  go_loopw [5, 10] (fun v i wr => Rm3 n v i ∧ Below (w.heap.size + 1) (w.alloc (.cells #[.bool true, .bool true, .bool false, .int .i64 0, .int .i64 31, .int .i64 1, .int .i64 0, .int .i64 5, .int .i64 20, .int .i64 0, .int .i64 0, .int .i64 0, .int .i64 0, .int .i64 0, .int .i64 0, .int .i64 0, .int .i64 0, .int .i64 0] 124)) wr) (fun _ i _ => 4 - (intOf i).toNat)
  case atStart => exact ⟨Or.inl ⟨rfl, rfl⟩, Below.refl _ _⟩
  case round =>
    obtain ⟨hI, hnx⟩ := hrel
    have HX : Hid (Below (w.heap.size + 1) (w.alloc (.cells #[.bool true, .bool true, .bool false, .int .i64 0, .int .i64 31, .int .i64 1, .int .i64 0, .int .i64 5, .int .i64 20, .int .i64 0, .int .i64 0, .int .i64 0, .int .i64 0, .int .i64 0, .int .i64 0, .int .i64 0, .int .i64 0, .int .i64 0] 124)) wr) := hnx
    have hz : w.heap.size + 1 ≤ wr.heap.size := by have := hnx.size; simpa using this
    have hk : ∀ i, wr.cell? ⟨w.heap.size, i, none⟩ = (#[.bool true, .bool true, .bool false, .int .i64 0, .int .i64 31, .int .i64 1, .int .i64 0, .int .i64 5, .int .i64 20, .int .i64 0, .int .i64 0, .int .i64 0, .int .i64 0, .int .i64 0, .int .i64 0, .int .i64 0, .int .i64 0, .int .i64 0] : Array Value)[i]? := fun i => kept_cells' (by simpa using hnx) i
    have k3 : wr.cell? ⟨w.heap.size, 3, none⟩ = some (.int .i64 0) := hk 3
    have k4 : wr.cell? ⟨w.heap.size, 4, none⟩ = some (.int .i64 31) := hk 4
    have k5 : wr.cell? ⟨w.heap.size, 5, none⟩ = some (.int .i64 1) := hk 5
    clear hnx hk
    rcases hI with ⟨rfl, rfl⟩ | ⟨rfl, rfl⟩ | ⟨rfl, rfl⟩ | ⟨rfl, rfl⟩ | ⟨rfl, rfl⟩
    · have hi : ∀ w, (Instr.index 122 (.agg #[.int .i64 0, .int .i64 5, .int .i64 20, .int .i64 0, .int .i64 0, .int .i64 0, .int .i64 0, .int .i64 0, .int .i64 0, .int .i64 0, .int .i64 0, .int .i64 0]) (.int .i64 0)).run Tryz.prog w = .ok (.agg #[.int .i64 0, .int .i64 5, .int .i64 20]) w := fun _ => by kernel_rfl
      go_wp2_with fail
      go_quiet ((go_at_call 131; exact Calls.quiet_of (bitsOf_at _ _ _ 20 5 rfl rfl (by decide) (by decide) _)))
      go_wp2
      go_roundw
      case rel => exact ⟨Or.inr (Or.inl ⟨rfl, vint (by omega)⟩), below_drewN' (HX.out.alloc (by omega) _) _⟩
      case measure => simp [intOf]
    · have hi : ∀ w, (Instr.index 122 (.agg #[.int .i64 0, .int .i64 5, .int .i64 20, .int .i64 0, .int .i64 0, .int .i64 0, .int .i64 0, .int .i64 0, .int .i64 0, .int .i64 0, .int .i64 0, .int .i64 0]) (.int .i64 1)).run Tryz.prog w = .ok (.agg #[.int .i64 0, .int .i64 0, .int .i64 0]) w := fun _ => by kernel_rfl
      go_wp2_with fail
      go_quiet ((go_at_call 131; exact Calls.quiet_of (bitsOf_at _ _ _ 0 0 rfl rfl (by decide) (by decide) _)))
      go_wp2
      go_roundw
      case rel => exact ⟨Or.inr (Or.inr (Or.inl ⟨rfl, vint (by omega)⟩)), below_drewN' (HX.out.alloc (by omega) _) _⟩
      case measure => simp [intOf]
    · have hi : ∀ w, (Instr.index 122 (.agg #[.int .i64 0, .int .i64 5, .int .i64 20, .int .i64 0, .int .i64 0, .int .i64 0, .int .i64 0, .int .i64 0, .int .i64 0, .int .i64 0, .int .i64 0, .int .i64 0]) (.int .i64 2)).run Tryz.prog w = .ok (.agg #[.int .i64 0, .int .i64 0, .int .i64 0]) w := fun _ => by kernel_rfl
      go_wp2_with fail
      go_quiet ((go_at_call 131; exact Calls.quiet_of (bitsOf_at _ _ _ 0 0 rfl rfl (by decide) (by decide) _)))
      go_wp2
      go_roundw
      case rel => exact ⟨Or.inr (Or.inr (Or.inr (Or.inl ⟨rfl, vint (by omega)⟩))), below_drewN' (HX.out.alloc (by omega) _) _⟩
      case measure => simp [intOf]
    · have hi : ∀ w, (Instr.index 122 (.agg #[.int .i64 0, .int .i64 5, .int .i64 20, .int .i64 0, .int .i64 0, .int .i64 0, .int .i64 0, .int .i64 0, .int .i64 0, .int .i64 0, .int .i64 0, .int .i64 0]) (.int .i64 3)).run Tryz.prog w = .ok (.agg #[.int .i64 0, .int .i64 0, .int .i64 0]) w := fun _ => by kernel_rfl
      go_wp2_with fail
      go_quiet ((go_at_call 131; exact Calls.quiet_of (bitsOf_at _ _ _ 0 0 rfl rfl (by decide) (by decide) _)))
      go_wp2
      go_roundw
      case rel => exact ⟨Or.inr (Or.inr (Or.inr (Or.inr (⟨rfl, vint (by omega)⟩)))), below_drewN' (HX.out.alloc (by omega) _) _⟩
      case measure => simp [intOf]
    · have HB : Hid (Below w.heap.size w wr) := ((Below.refl _ _).alloc (Nat.le_refl _) _).trans (HX.out.mono (by omega))
      by_cases hgt : n / Pl.pw 20 % Pl.pw 5 * 1 + n / Pl.pw 0 % Pl.pw 0 * 1 + n / Pl.pw 0 % Pl.pw 0 * 1 + n / Pl.pw 0 % Pl.pw 0 * 1 > 31
      · exfalso; omega
      · go_wp2
        go_ret
        exact ⟨ret_int (by simp only [Pl.gIm, Pl.rim, Pl.hi, Pl.st, Pl.lo]; rw [if_neg (by omega)] <;> omega), HB.out⟩
def Rm4 (n : Int) (v i : Value) : Prop := (i = .int .i64 0 ∧ v = .int .i64 (0 : Int)) ∨ (i = .int .i64 1 ∧ v = .int .i64 (n / Pl.pw 25 % Pl.pw 7 * 32 : Int)) ∨ (i = .int .i64 2 ∧ v = .int .i64 (n / Pl.pw 25 % Pl.pw 7 * 32 + n / Pl.pw 7 % Pl.pw 5 * 1 : Int)) ∨ (i = .int .i64 3 ∧ v = .int .i64 (n / Pl.pw 25 % Pl.pw 7 * 32 + n / Pl.pw 7 % Pl.pw 5 * 1 + n / Pl.pw 0 % Pl.pw 0 * 1 : Int)) ∨ (i = .int .i64 4 ∧ v = .int .i64 (n / Pl.pw 25 % Pl.pw 7 * 32 + n / Pl.pw 7 % Pl.pw 5 * 1 + n / Pl.pw 0 % Pl.pw 0 * 1 + n / Pl.pw 0 % Pl.pw 0 * 1 : Int))
set_option maxHeartbeats 1000000 in
theorem readImm_4 (n : Int) (w : World) :
    Calls Tryz.prog 130 #[.int .i64 n, .agg #[.bool false, .bool true, .bool true, .int .i64 (-2048), .int .i64 2047, .int .i64 1, .int .i64 5, .int .i64 7, .int .i64 25, .int .i64 0, .int .i64 5, .int .i64 7, .int .i64 0, .int .i64 0, .int .i64 0, .int .i64 0, .int .i64 0, .int .i64 0]] w fun e w' => e = .returned (.int .i64 (Pl.gIm 4 n)) ∧ Below w.heap.size w w' := by
  have b0 : 0 ≤ n / Pl.pw 25 % Pl.pw 7 ∧ n / Pl.pw 25 % Pl.pw 7 ≤ 127 := by
    have h := Int.emod_nonneg (n / Pl.pw 25) (Int.ne_of_gt (Pl.pw_pos 7))
    have h' := Int.emod_lt_of_pos (n / Pl.pw 25) (Pl.pw_pos 7)
    have e : Pl.pw 7 = 128 := by decide
    omega
  have b1 : 0 ≤ n / Pl.pw 7 % Pl.pw 5 ∧ n / Pl.pw 7 % Pl.pw 5 ≤ 31 := by
    have h := Int.emod_nonneg (n / Pl.pw 7) (Int.ne_of_gt (Pl.pw_pos 5))
    have h' := Int.emod_lt_of_pos (n / Pl.pw 7) (Pl.pw_pos 5)
    have e : Pl.pw 5 = 32 := by decide
    omega
  have b2 : 0 ≤ n / Pl.pw 0 % Pl.pw 0 ∧ n / Pl.pw 0 % Pl.pw 0 ≤ 0 := by
    have h := Int.emod_nonneg (n / Pl.pw 0) (Int.ne_of_gt (Pl.pw_pos 0))
    have h' := Int.emod_lt_of_pos (n / Pl.pw 0) (Pl.pw_pos 0)
    have e : Pl.pw 0 = 1 := by decide
    omega
  go_enter Tryz.func130, Tryz.ntmps130
  go_wp2
  go_loopw [5, 10] (fun v i wr => Rm4 n v i ∧ Below (w.heap.size + 1) (w.alloc (.cells #[.bool false, .bool true, .bool true, .int .i64 (-2048), .int .i64 2047, .int .i64 1, .int .i64 5, .int .i64 7, .int .i64 25, .int .i64 0, .int .i64 5, .int .i64 7, .int .i64 0, .int .i64 0, .int .i64 0, .int .i64 0, .int .i64 0, .int .i64 0] 124)) wr) (fun _ i _ => 4 - (intOf i).toNat)
  case atStart => exact ⟨Or.inl ⟨rfl, rfl⟩, Below.refl _ _⟩
  case round =>
    obtain ⟨hI, hnx⟩ := hrel
    have HX : Hid (Below (w.heap.size + 1) (w.alloc (.cells #[.bool false, .bool true, .bool true, .int .i64 (-2048), .int .i64 2047, .int .i64 1, .int .i64 5, .int .i64 7, .int .i64 25, .int .i64 0, .int .i64 5, .int .i64 7, .int .i64 0, .int .i64 0, .int .i64 0, .int .i64 0, .int .i64 0, .int .i64 0] 124)) wr) := hnx
    have hz : w.heap.size + 1 ≤ wr.heap.size := by have := hnx.size; simpa using this
    have hk : ∀ i, wr.cell? ⟨w.heap.size, i, none⟩ = (#[.bool false, .bool true, .bool true, .int .i64 (-2048), .int .i64 2047, .int .i64 1, .int .i64 5, .int .i64 7, .int .i64 25, .int .i64 0, .int .i64 5, .int .i64 7, .int .i64 0, .int .i64 0, .int .i64 0, .int .i64 0, .int .i64 0, .int .i64 0] : Array Value)[i]? := fun i => kept_cells' (by simpa using hnx) i
    have k3 : wr.cell? ⟨w.heap.size, 3, none⟩ = some (.int .i64 (-2048)) := hk 3
    have k4 : wr.cell? ⟨w.heap.size, 4, none⟩ = some (.int .i64 2047) := hk 4
    have k5 : wr.cell? ⟨w.heap.size, 5, none⟩ = some (.int .i64 1) := hk 5
    clear hnx hk
    rcases hI with ⟨rfl, rfl⟩ | ⟨rfl, rfl⟩ | ⟨rfl, rfl⟩ | ⟨rfl, rfl⟩ | ⟨rfl, rfl⟩
    · have hi : ∀ w, (Instr.index 122 (.agg #[.int .i64 5, .int .i64 7, .int .i64 25, .int .i64 0, .int .i64 5, .int .i64 7, .int .i64 0, .int .i64 0, .int .i64 0, .int .i64 0, .int .i64 0, .int .i64 0]) (.int .i64 0)).run Tryz.prog w = .ok (.agg #[.int .i64 5, .int .i64 7, .int .i64 25]) w := fun _ => by kernel_rfl
      go_wp2_with fail
      go_quiet ((go_at_call 131; exact Calls.quiet_of (bitsOf_at _ _ _ 25 7 rfl rfl (by decide) (by decide) _)))
      go_wp2
      go_roundw
      case rel => exact ⟨Or.inr (Or.inl ⟨rfl, vint (by omega)⟩), below_drewN' (HX.out.alloc (by omega) _) _⟩
      case measure => simp [intOf]
    · have hi : ∀ w, (Instr.index 122 (.agg #[.int .i64 5, .int .i64 7, .int .i64 25, .int .i64 0, .int .i64 5, .int .i64 7, .int .i64 0, .int .i64 0, .int .i64 0, .int .i64 0, .int .i64 0, .int .i64 0]) (.int .i64 1)).run Tryz.prog w = .ok (.agg #[.int .i64 0, .int .i64 5, .int .i64 7]) w := fun _ => by kernel_rfl
      go_wp2_with fail
      go_quiet ((go_at_call 131; exact Calls.quiet_of (bitsOf_at _ _ _ 7 5 rfl rfl (by decide) (by decide) _)))
      go_wp2
      go_roundw
      case rel => exact ⟨Or.inr (Or.inr (Or.inl ⟨rfl, vint (by omega)⟩)), below_drewN' (HX.out.alloc (by omega) _) _⟩
      case measure => simp [intOf]
    · have hi : ∀ w, (Instr.index 122 (.agg #[.int .i64 5, .int .i64 7, .int .i64 25, .int .i64 0, .int .i64 5, .int .i64 7, .int .i64 0, .int .i64 0, .int .i64 0, .int .i64 0, .int .i64 0, .int .i64 0]) (.int .i64 2)).run Tryz.prog w = .ok (.agg #[.int .i64 0, .int .i64 0, .int .i64 0]) w := fun _ => by kernel_rfl
      go_wp2_with fail
      go_quiet ((go_at_call 131; exact Calls.quiet_of (bitsOf_at _ _ _ 0 0 rfl rfl (by decide) (by decide) _)))
      go_wp2
      go_roundw
      case rel => exact ⟨Or.inr (Or.inr (Or.inr (Or.inl ⟨rfl, vint (by omega)⟩))), below_drewN' (HX.out.alloc (by omega) _) _⟩
      case measure => simp [intOf]
    · have hi : ∀ w, (Instr.index 122 (.agg #[.int .i64 5, .int .i64 7, .int .i64 25, .int .i64 0, .int .i64 5, .int .i64 7, .int .i64 0, .int .i64 0, .int .i64 0, .int .i64 0, .int .i64 0, .int .i64 0]) (.int .i64 3)).run Tryz.prog w = .ok (.agg #[.int .i64 0, .int .i64 0, .int .i64 0]) w := fun _ => by kernel_rfl
      go_wp2_with fail
      go_quiet ((go_at_call 131; exact Calls.quiet_of (bitsOf_at _ _ _ 0 0 rfl rfl (by decide) (by decide) _)))
      go_wp2
      go_roundw
      case rel => exact ⟨Or.inr (Or.inr (Or.inr (Or.inr (⟨rfl, vint (by omega)⟩)))), below_drewN' (HX.out.alloc (by omega) _) _⟩
      case measure => simp [intOf]
    · have HB : Hid (Below w.heap.size w wr) := ((Below.refl _ _).alloc (Nat.le_refl _) _).trans (HX.out.mono (by omega))
      by_cases hgt : n / Pl.pw 25 % Pl.pw 7 * 32 + n / Pl.pw 7 % Pl.pw 5 * 1 + n / Pl.pw 0 % Pl.pw 0 * 1 + n / Pl.pw 0 % Pl.pw 0 * 1 > 2047
      · go_wp2
        go_ret
        exact ⟨ret_int (by simp only [Pl.gIm, Pl.rim, Pl.hi, Pl.st, Pl.lo]; rw [if_pos (by omega)] <;> omega), HB.out⟩
      · go_wp2
        go_ret
        exact ⟨ret_int (by simp only [Pl.gIm, Pl.rim, Pl.hi, Pl.st, Pl.lo]; rw [if_neg (by omega)] <;> omega), HB.out⟩
def Rm5 (n : Int) (v i : Value) : Prop := (i = .int .i64 0 ∧ v = .int .i64 (0 : Int)) ∨ (i = .int .i64 1 ∧ v = .int .i64 (n / Pl.pw 31 % Pl.pw 1 * 4096 : Int)) ∨ (i = .int .i64 2 ∧ v = .int .i64 (n / Pl.pw 31 % Pl.pw 1 * 4096 + n / Pl.pw 25 % Pl.pw 6 * 32 : Int)) ∨ (i = .int .i64 3 ∧ v = .int .i64 (n / Pl.pw 31 % Pl.pw 1 * 4096 + n / Pl.pw 25 % Pl.pw 6 * 32 + n / Pl.pw 8 % Pl.pw 4 * 2 : Int)) ∨ (i = .int .i64 4 ∧ v = .int .i64 (n / Pl.pw 31 % Pl.pw 1 * 4096 + n / Pl.pw 25 % Pl.pw 6 * 32 + n / Pl.pw 8 % Pl.pw 4 * 2 + n / Pl.pw 7 % Pl.pw 1 * 2048 : Int))
set_option maxHeartbeats 1000000 in
theorem readImm_5 (n : Int) (w : World) :
    Calls Tryz.prog 130 #[.int .i64 n, .agg #[.bool false, .bool true, .bool true, .int .i64 (-4096), .int .i64 4094, .int .i64 2, .int .i64 12, .int .i64 1, .int .i64 31, .int .i64 5, .int .i64 6, .int .i64 25, .int .i64 1, .int .i64 4, .int .i64 8, .int .i64 11, .int .i64 1, .int .i64 7]] w fun e w' => e = .returned (.int .i64 (Pl.gIm 5 n)) ∧ Below w.heap.size w w' := by
  have b0 : 0 ≤ n / Pl.pw 31 % Pl.pw 1 ∧ n / Pl.pw 31 % Pl.pw 1 ≤ 1 := by
    have h := Int.emod_nonneg (n / Pl.pw 31) (Int.ne_of_gt (Pl.pw_pos 1))
    have h' := Int.emod_lt_of_pos (n / Pl.pw 31) (Pl.pw_pos 1)
    have e : Pl.pw 1 = 2 := by decide
    omega
  have b1 : 0 ≤ n / Pl.pw 25 % Pl.pw 6 ∧ n / Pl.pw 25 % Pl.pw 6 ≤ 63 := by
    have h := Int.emod_nonneg (n / Pl.pw 25) (Int.ne_of_gt (Pl.pw_pos 6))
    have h' := Int.emod_lt_of_pos (n / Pl.pw 25) (Pl.pw_pos 6)
    have e : Pl.pw 6 = 64 := by decide
    omega
  have b2 : 0 ≤ n / Pl.pw 8 % Pl.pw 4 ∧ n / Pl.pw 8 % Pl.pw 4 ≤ 15 := by
    have h := Int.emod_nonneg (n / Pl.pw 8) (Int.ne_of_gt (Pl.pw_pos 4))
    have h' := Int.emod_lt_of_pos (n / Pl.pw 8) (Pl.pw_pos 4)
    have e : Pl.pw 4 = 16 := by decide
    omega
  have b3 : 0 ≤ n / Pl.pw 7 % Pl.pw 1 ∧ n / Pl.pw 7 % Pl.pw 1 ≤ 1 := by
    have h := Int.emod_nonneg (n / Pl.pw 7) (Int.ne_of_gt (Pl.pw_pos 1))
    have h' := Int.emod_lt_of_pos (n / Pl.pw 7) (Pl.pw_pos 1)
    have e : Pl.pw 1 = 2 := by decide
    omega
  go_enter Tryz.func130, Tryz.ntmps130
  go_wp2
  go_loopw [5, 10] (fun v i wr => Rm5 n v i ∧ Below (w.heap.size + 1) (w.alloc (.cells #[.bool false, .bool true, .bool true, .int .i64 (-4096), .int .i64 4094, .int .i64 2, .int .i64 12, .int .i64 1, .int .i64 31, .int .i64 5, .int .i64 6, .int .i64 25, .int .i64 1, .int .i64 4, .int .i64 8, .int .i64 11, .int .i64 1, .int .i64 7] 124)) wr) (fun _ i _ => 4 - (intOf i).toNat)
  case atStart => exact ⟨Or.inl ⟨rfl, rfl⟩, Below.refl _ _⟩
  case round =>
    obtain ⟨hI, hnx⟩ := hrel
    have HX : Hid (Below (w.heap.size + 1) (w.alloc (.cells #[.bool false, .bool true, .bool true, .int .i64 (-4096), .int .i64 4094, .int .i64 2, .int .i64 12, .int .i64 1, .int .i64 31, .int .i64 5, .int .i64 6, .int .i64 25, .int .i64 1, .int .i64 4, .int .i64 8, .int .i64 11, .int .i64 1, .int .i64 7] 124)) wr) := hnx
    have hz : w.heap.size + 1 ≤ wr.heap.size := by have := hnx.size; simpa using this
    have hk : ∀ i, wr.cell? ⟨w.heap.size, i, none⟩ = (#[.bool false, .bool true, .bool true, .int .i64 (-4096), .int .i64 4094, .int .i64 2, .int .i64 12, .int .i64 1, .int .i64 31, .int .i64 5, .int .i64 6, .int .i64 25, .int .i64 1, .int .i64 4, .int .i64 8, .int .i64 11, .int .i64 1, .int .i64 7] : Array Value)[i]? := fun i => kept_cells' (by simpa using hnx) i
    have k3 : wr.cell? ⟨w.heap.size, 3, none⟩ = some (.int .i64 (-4096)) := hk 3
    have k4 : wr.cell? ⟨w.heap.size, 4, none⟩ = some (.int .i64 4094) := hk 4
    have k5 : wr.cell? ⟨w.heap.size, 5, none⟩ = some (.int .i64 2) := hk 5
    clear hnx hk
    rcases hI with ⟨rfl, rfl⟩ | ⟨rfl, rfl⟩ | ⟨rfl, rfl⟩ | ⟨rfl, rfl⟩ | ⟨rfl, rfl⟩
    · have hi : ∀ w, (Instr.index 122 (.agg #[.int .i64 12, .int .i64 1, .int .i64 31, .int .i64 5, .int .i64 6, .int .i64 25, .int .i64 1, .int .i64 4, .int .i64 8, .int .i64 11, .int .i64 1, .int .i64 7]) (.int .i64 0)).run Tryz.prog w = .ok (.agg #[.int .i64 12, .int .i64 1, .int .i64 31]) w := fun _ => by kernel_rfl
      go_wp2_with fail
      go_quiet ((go_at_call 131; exact Calls.quiet_of (bitsOf_at _ _ _ 31 1 rfl rfl (by decide) (by decide) _)))
      go_wp2
      go_roundw
      case rel => exact ⟨Or.inr (Or.inl ⟨rfl, vint (by omega)⟩), below_drewN' (HX.out.alloc (by omega) _) _⟩
      case measure => simp [intOf]
    · have hi : ∀ w, (Instr.index 122 (.agg #[.int .i64 12, .int .i64 1, .int .i64 31, .int .i64 5, .int .i64 6, .int .i64 25, .int .i64 1, .int .i64 4, .int .i64 8, .int .i64 11, .int .i64 1, .int .i64 7]) (.int .i64 1)).run Tryz.prog w = .ok (.agg #[.int .i64 5, .int .i64 6, .int .i64 25]) w := fun _ => by kernel_rfl
      go_wp2_with fail
      go_quiet ((go_at_call 131; exact Calls.quiet_of (bitsOf_at _ _ _ 25 6 rfl rfl (by decide) (by decide) _)))
      go_wp2
      go_roundw
      case rel => exact ⟨Or.inr (Or.inr (Or.inl ⟨rfl, vint (by omega)⟩)), below_drewN' (HX.out.alloc (by omega) _) _⟩
      case measure => simp [intOf]
    · have hi : ∀ w, (Instr.index 122 (.agg #[.int .i64 12, .int .i64 1, .int .i64 31, .int .i64 5, .int .i64 6, .int .i64 25, .int .i64 1, .int .i64 4, .int .i64 8, .int .i64 11, .int .i64 1, .int .i64 7]) (.int .i64 2)).run Tryz.prog w = .ok (.agg #[.int .i64 1, .int .i64 4, .int .i64 8]) w := fun _ => by kernel_rfl
      go_wp2_with fail
      go_quiet ((go_at_call 131; exact Calls.quiet_of (bitsOf_at _ _ _ 8 4 rfl rfl (by decide) (by decide) _)))
      go_wp2
      go_roundw
      case rel => exact ⟨Or.inr (Or.inr (Or.inr (Or.inl ⟨rfl, vint (by omega)⟩))), below_drewN' (HX.out.alloc (by omega) _) _⟩
      case measure => simp [intOf]
    · have hi : ∀ w, (Instr.index 122 (.agg #[.int .i64 12, .int .i64 1, .int .i64 31, .int .i64 5, .int .i64 6, .int .i64 25, .int .i64 1, .int .i64 4, .int .i64 8, .int .i64 11, .int .i64 1, .int .i64 7]) (.int .i64 3)).run Tryz.prog w = .ok (.agg #[.int .i64 11, .int .i64 1, .int .i64 7]) w := fun _ => by kernel_rfl
      go_wp2_with fail
      go_quiet ((go_at_call 131; exact Calls.quiet_of (bitsOf_at _ _ _ 7 1 rfl rfl (by decide) (by decide) _)))
      go_wp2
      go_roundw
      case rel => exact ⟨Or.inr (Or.inr (Or.inr (Or.inr (⟨rfl, vint (by omega)⟩)))), below_drewN' (HX.out.alloc (by omega) _) _⟩
      case measure => simp [intOf]
    · have HB : Hid (Below w.heap.size w wr) := ((Below.refl _ _).alloc (Nat.le_refl _) _).trans (HX.out.mono (by omega))
      by_cases hgt : n / Pl.pw 31 % Pl.pw 1 * 4096 + n / Pl.pw 25 % Pl.pw 6 * 32 + n / Pl.pw 8 % Pl.pw 4 * 2 + n / Pl.pw 7 % Pl.pw 1 * 2048 > 4094
      · go_wp2
        go_ret
        exact ⟨ret_int (by simp only [Pl.gIm, Pl.rim, Pl.hi, Pl.st, Pl.lo]; rw [if_pos (by omega)] <;> omega), HB.out⟩
      · go_wp2
        go_ret
        exact ⟨ret_int (by simp only [Pl.gIm, Pl.rim, Pl.hi, Pl.st, Pl.lo]; rw [if_neg (by omega)] <;> omega), HB.out⟩
def Rm6 (n : Int) (v i : Value) : Prop := (i = .int .i64 0 ∧ v = .int .i64 (0 : Int)) ∨ (i = .int .i64 1 ∧ v = .int .i64 (n / Pl.pw 12 % Pl.pw 20 * 1 : Int)) ∨ (i = .int .i64 2 ∧ v = .int .i64 (n / Pl.pw 12 % Pl.pw 20 * 1 + n / Pl.pw 0 % Pl.pw 0 * 1 : Int)) ∨ (i = .int .i64 3 ∧ v = .int .i64 (n / Pl.pw 12 % Pl.pw 20 * 1 + n / Pl.pw 0 % Pl.pw 0 * 1 + n / Pl.pw 0 % Pl.pw 0 * 1 : Int)) ∨ (i = .int .i64 4 ∧ v = .int .i64 (n / Pl.pw 12 % Pl.pw 20 * 1 + n / Pl.pw 0 % Pl.pw 0 * 1 + n / Pl.pw 0 % Pl.pw 0 * 1 + n / Pl.pw 0 % Pl.pw 0 * 1 : Int))
set_option maxHeartbeats 1000000 in
theorem readImm_6 (n : Int) (w : World) :
    Calls Tryz.prog 130 #[.int .i64 n, .agg #[.bool true, .bool false, .bool false, .int .i64 0, .int .i64 1048575, .int .i64 1, .int .i64 0, .int .i64 20, .int .i64 12, .int .i64 0, .int .i64 0, .int .i64 0, .int .i64 0, .int .i64 0, .int .i64 0, .int .i64 0, .int .i64 0, .int .i64 0]] w fun e w' => e = .returned (.int .i64 (Pl.gIm 6 n)) ∧ Below w.heap.size w w' := by
  have b0 : 0 ≤ n / Pl.pw 12 % Pl.pw 20 ∧ n / Pl.pw 12 % Pl.pw 20 ≤ 1048575 := by
    have h := Int.emod_nonneg (n / Pl.pw 12) (Int.ne_of_gt (Pl.pw_pos 20))
    have h' := Int.emod_lt_of_pos (n / Pl.pw 12) (Pl.pw_pos 20)
    have e : Pl.pw 20 = 1048576 := by decide
    omega
  have b1 : 0 ≤ n / Pl.pw 0 % Pl.pw 0 ∧ n / Pl.pw 0 % Pl.pw 0 ≤ 0 := by
    have h := Int.emod_nonneg (n / Pl.pw 0) (Int.ne_of_gt (Pl.pw_pos 0))
    have h' := Int.emod_lt_of_pos (n / Pl.pw 0) (Pl.pw_pos 0)
    have e : Pl.pw 0 = 1 := by decide
    omega
  go_enter Tryz.func130, Tryz.ntmps130
  go_wp2
  go_loopw [5, 10] (fun v i wr => Rm6 n v i ∧ Below (w.heap.size + 1) (w.alloc (.cells #[.bool true, .bool false, .bool false, .int .i64 0, .int .i64 1048575, .int .i64 1, .int .i64 0, .int .i64 20, .int .i64 12, .int .i64 0, .int .i64 0, .int .i64 0, .int .i64 0, .int .i64 0, .int .i64 0, .int .i64 0, .int .i64 0, .int .i64 0] 124)) wr) (fun _ i _ => 4 - (intOf i).toNat)
  case atStart => exact ⟨Or.inl ⟨rfl, rfl⟩, Below.refl _ _⟩
  case round =>
    obtain ⟨hI, hnx⟩ := hrel
    have HX : Hid (Below (w.heap.size + 1) (w.alloc (.cells #[.bool true, .bool false, .bool false, .int .i64 0, .int .i64 1048575, .int .i64 1, .int .i64 0, .int .i64 20, .int .i64 12, .int .i64 0, .int .i64 0, .int .i64 0, .int .i64 0, .int .i64 0, .int .i64 0, .int .i64 0, .int .i64 0, .int .i64 0] 124)) wr) := hnx
    have hz : w.heap.size + 1 ≤ wr.heap.size := by have := hnx.size; simpa using this
    have hk : ∀ i, wr.cell? ⟨w.heap.size, i, none⟩ = (#[.bool true, .bool false, .bool false, .int .i64 0, .int .i64 1048575, .int .i64 1, .int .i64 0, .int .i64 20, .int .i64 12, .int .i64 0, .int .i64 0, .int .i64 0, .int .i64 0, .int .i64 0, .int .i64 0, .int .i64 0, .int .i64 0, .int .i64 0] : Array Value)[i]? := fun i => kept_cells' (by simpa using hnx) i
    have k3 : wr.cell? ⟨w.heap.size, 3, none⟩ = some (.int .i64 0) := hk 3
    have k4 : wr.cell? ⟨w.heap.size, 4, none⟩ = some (.int .i64 1048575) := hk 4
    have k5 : wr.cell? ⟨w.heap.size, 5, none⟩ = some (.int .i64 1) := hk 5
    clear hnx hk
    rcases hI with ⟨rfl, rfl⟩ | ⟨rfl, rfl⟩ | ⟨rfl, rfl⟩ | ⟨rfl, rfl⟩ | ⟨rfl, rfl⟩
    · have hi : ∀ w, (Instr.index 122 (.agg #[.int .i64 0, .int .i64 20, .int .i64 12, .int .i64 0, .int .i64 0, .int .i64 0, .int .i64 0, .int .i64 0, .int .i64 0, .int .i64 0, .int .i64 0, .int .i64 0]) (.int .i64 0)).run Tryz.prog w = .ok (.agg #[.int .i64 0, .int .i64 20, .int .i64 12]) w := fun _ => by kernel_rfl
      go_wp2_with fail
      go_quiet ((go_at_call 131; exact Calls.quiet_of (bitsOf_at _ _ _ 12 20 rfl rfl (by decide) (by decide) _)))
      go_wp2
      go_roundw
      case rel => exact ⟨Or.inr (Or.inl ⟨rfl, vint (by omega)⟩), below_drewN' (HX.out.alloc (by omega) _) _⟩
      case measure => simp [intOf]
    · have hi : ∀ w, (Instr.index 122 (.agg #[.int .i64 0, .int .i64 20, .int .i64 12, .int .i64 0, .int .i64 0, .int .i64 0, .int .i64 0, .int .i64 0, .int .i64 0, .int .i64 0, .int .i64 0, .int .i64 0]) (.int .i64 1)).run Tryz.prog w = .ok (.agg #[.int .i64 0, .int .i64 0, .int .i64 0]) w := fun _ => by kernel_rfl
      go_wp2_with fail
      go_quiet ((go_at_call 131; exact Calls.quiet_of (bitsOf_at _ _ _ 0 0 rfl rfl (by decide) (by decide) _)))
      go_wp2
      go_roundw
      case rel => exact ⟨Or.inr (Or.inr (Or.inl ⟨rfl, vint (by omega)⟩)), below_drewN' (HX.out.alloc (by omega) _) _⟩
      case measure => simp [intOf]
    · have hi : ∀ w, (Instr.index 122 (.agg #[.int .i64 0, .int .i64 20, .int .i64 12, .int .i64 0, .int .i64 0, .int .i64 0, .int .i64 0, .int .i64 0, .int .i64 0, .int .i64 0, .int .i64 0, .int .i64 0]) (.int .i64 2)).run Tryz.prog w = .ok (.agg #[.int .i64 0, .int .i64 0, .int .i64 0]) w := fun _ => by kernel_rfl
      go_wp2_with fail
      go_quiet ((go_at_call 131; exact Calls.quiet_of (bitsOf_at _ _ _ 0 0 rfl rfl (by decide) (by decide) _)))
      go_wp2
      go_roundw
      case rel => exact ⟨Or.inr (Or.inr (Or.inr (Or.inl ⟨rfl, vint (by omega)⟩))), below_drewN' (HX.out.alloc (by omega) _) _⟩
      case measure => simp [intOf]
    · have hi : ∀ w, (Instr.index 122 (.agg #[.int .i64 0, .int .i64 20, .int .i64 12, .int .i64 0, .int .i64 0, .int .i64 0, .int .i64 0, .int .i64 0, .int .i64 0, .int .i64 0, .int .i64 0, .int .i64 0]) (.int .i64 3)).run Tryz.prog w = .ok (.agg #[.int .i64 0, .int .i64 0, .int .i64 0]) w := fun _ => by kernel_rfl
      go_wp2_with fail
      go_quiet ((go_at_call 131; exact Calls.quiet_of (bitsOf_at _ _ _ 0 0 rfl rfl (by decide) (by decide) _)))
      go_wp2
      go_roundw
      case rel => exact ⟨Or.inr (Or.inr (Or.inr (Or.inr (⟨rfl, vint (by omega)⟩)))), below_drewN' (HX.out.alloc (by omega) _) _⟩
      case measure => simp [intOf]
    · have HB : Hid (Below w.heap.size w wr) := ((Below.refl _ _).alloc (Nat.le_refl _) _).trans (HX.out.mono (by omega))
      by_cases hgt : n / Pl.pw 12 % Pl.pw 20 * 1 + n / Pl.pw 0 % Pl.pw 0 * 1 + n / Pl.pw 0 % Pl.pw 0 * 1 + n / Pl.pw 0 % Pl.pw 0 * 1 > 1048575
      · exfalso; omega
      · go_wp2
        go_ret
        exact ⟨ret_int (by simp only [Pl.gIm, Pl.rim, Pl.hi, Pl.st, Pl.lo]; rw [if_neg (by omega)] <;> omega), HB.out⟩
def Rm7 (n : Int) (v i : Value) : Prop := (i = .int .i64 0 ∧ v = .int .i64 (0 : Int)) ∨ (i = .int .i64 1 ∧ v = .int .i64 (n / Pl.pw 31 % Pl.pw 1 * 1048576 : Int)) ∨ (i = .int .i64 2 ∧ v = .int .i64 (n / Pl.pw 31 % Pl.pw 1 * 1048576 + n / Pl.pw 21 % Pl.pw 10 * 2 : Int)) ∨ (i = .int .i64 3 ∧ v = .int .i64 (n / Pl.pw 31 % Pl.pw 1 * 1048576 + n / Pl.pw 21 % Pl.pw 10 * 2 + n / Pl.pw 20 % Pl.pw 1 * 2048 : Int)) ∨ (i = .int .i64 4 ∧ v = .int .i64 (n / Pl.pw 31 % Pl.pw 1 * 1048576 + n / Pl.pw 21 % Pl.pw 10 * 2 + n / Pl.pw 20 % Pl.pw 1 * 2048 + n / Pl.pw 12 % Pl.pw 8 * 4096 : Int))
set_option maxHeartbeats 1000000 in
theorem readImm_7 (n : Int) (w : World) :
    Calls Tryz.prog 130 #[.int .i64 n, .agg #[.bool true, .bool false, .bool false, .int .i64 (-1048576), .int .i64 1048574, .int .i64 2, .int .i64 20, .int .i64 1, .int .i64 31, .int .i64 1, .int .i64 10, .int .i64 21, .int .i64 11, .int .i64 1, .int .i64 20, .int .i64 12, .int .i64 8, .int .i64 12]] w fun e w' => e = .returned (.int .i64 (Pl.gIm 7 n)) ∧ Below w.heap.size w w' := by
  have b0 : 0 ≤ n / Pl.pw 31 % Pl.pw 1 ∧ n / Pl.pw 31 % Pl.pw 1 ≤ 1 := by
    have h := Int.emod_nonneg (n / Pl.pw 31) (Int.ne_of_gt (Pl.pw_pos 1))
    have h' := Int.emod_lt_of_pos (n / Pl.pw 31) (Pl.pw_pos 1)
    have e : Pl.pw 1 = 2 := by decide
    omega
  have b1 : 0 ≤ n / Pl.pw 21 % Pl.pw 10 ∧ n / Pl.pw 21 % Pl.pw 10 ≤ 1023 := by
    have h := Int.emod_nonneg (n / Pl.pw 21) (Int.ne_of_gt (Pl.pw_pos 10))
    have h' := Int.emod_lt_of_pos (n / Pl.pw 21) (Pl.pw_pos 10)
    have e : Pl.pw 10 = 1024 := by decide
    omega
  have b2 : 0 ≤ n / Pl.pw 20 % Pl.pw 1 ∧ n / Pl.pw 20 % Pl.pw 1 ≤ 1 := by
    have h := Int.emod_nonneg (n / Pl.pw 20) (Int.ne_of_gt (Pl.pw_pos 1))
    have h' := Int.emod_lt_of_pos (n / Pl.pw 20) (Pl.pw_pos 1)
    have e : Pl.pw 1 = 2 := by decide
    omega
  have b3 : 0 ≤ n / Pl.pw 12 % Pl.pw 8 ∧ n / Pl.pw 12 % Pl.pw 8 ≤ 255 := by
    have h := Int.emod_nonneg (n / Pl.pw 12) (Int.ne_of_gt (Pl.pw_pos 8))
    have h' := Int.emod_lt_of_pos (n / Pl.pw 12) (Pl.pw_pos 8)
    have e : Pl.pw 8 = 256 := by decide
    omega
  go_enter Tryz.func130, Tryz.ntmps130
  go_wp2
  go_loopw [5, 10] (fun v i wr => Rm7 n v i ∧ Below (w.heap.size + 1) (w.alloc (.cells #[.bool true, .bool false, .bool false, .int .i64 (-1048576), .int .i64 1048574, .int .i64 2, .int .i64 20, .int .i64 1, .int .i64 31, .int .i64 1, .int .i64 10, .int .i64 21, .int .i64 11, .int .i64 1, .int .i64 20, .int .i64 12, .int .i64 8, .int .i64 12] 124)) wr) (fun _ i _ => 4 - (intOf i).toNat)
  case atStart => exact ⟨Or.inl ⟨rfl, rfl⟩, Below.refl _ _⟩
  case round =>
    obtain ⟨hI, hnx⟩ := hrel
    have HX : Hid (Below (w.heap.size + 1) (w.alloc (.cells #[.bool true, .bool false, .bool false, .int .i64 (-1048576), .int .i64 1048574, .int .i64 2, .int .i64 20, .int .i64 1, .int .i64 31, .int .i64 1, .int .i64 10, .int .i64 21, .int .i64 11, .int .i64 1, .int .i64 20, .int .i64 12, .int .i64 8, .int .i64 12] 124)) wr) := hnx
    have hz : w.heap.size + 1 ≤ wr.heap.size := by have := hnx.size; simpa using this
    have hk : ∀ i, wr.cell? ⟨w.heap.size, i, none⟩ = (#[.bool true, .bool false, .bool false, .int .i64 (-1048576), .int .i64 1048574, .int .i64 2, .int .i64 20, .int .i64 1, .int .i64 31, .int .i64 1, .int .i64 10, .int .i64 21, .int .i64 11, .int .i64 1, .int .i64 20, .int .i64 12, .int .i64 8, .int .i64 12] : Array Value)[i]? := fun i => kept_cells' (by simpa using hnx) i
    have k3 : wr.cell? ⟨w.heap.size, 3, none⟩ = some (.int .i64 (-1048576)) := hk 3
    have k4 : wr.cell? ⟨w.heap.size, 4, none⟩ = some (.int .i64 1048574) := hk 4
    have k5 : wr.cell? ⟨w.heap.size, 5, none⟩ = some (.int .i64 2) := hk 5
    clear hnx hk
    rcases hI with ⟨rfl, rfl⟩ | ⟨rfl, rfl⟩ | ⟨rfl, rfl⟩ | ⟨rfl, rfl⟩ | ⟨rfl, rfl⟩
    · have hi : ∀ w, (Instr.index 122 (.agg #[.int .i64 20, .int .i64 1, .int .i64 31, .int .i64 1, .int .i64 10, .int .i64 21, .int .i64 11, .int .i64 1, .int .i64 20, .int .i64 12, .int .i64 8, .int .i64 12]) (.int .i64 0)).run Tryz.prog w = .ok (.agg #[.int .i64 20, .int .i64 1, .int .i64 31]) w := fun _ => by kernel_rfl
      go_wp2_with fail
      go_quiet ((go_at_call 131; exact Calls.quiet_of (bitsOf_at _ _ _ 31 1 rfl rfl (by decide) (by decide) _)))
      go_wp2
      go_roundw
      case rel => exact ⟨Or.inr (Or.inl ⟨rfl, vint (by omega)⟩), below_drewN' (HX.out.alloc (by omega) _) _⟩
      case measure => simp [intOf]
    · have hi : ∀ w, (Instr.index 122 (.agg #[.int .i64 20, .int .i64 1, .int .i64 31, .int .i64 1, .int .i64 10, .int .i64 21, .int .i64 11, .int .i64 1, .int .i64 20, .int .i64 12, .int .i64 8, .int .i64 12]) (.int .i64 1)).run Tryz.prog w = .ok (.agg #[.int .i64 1, .int .i64 10, .int .i64 21]) w := fun _ => by kernel_rfl
      go_wp2_with fail
      go_quiet ((go_at_call 131; exact Calls.quiet_of (bitsOf_at _ _ _ 21 10 rfl rfl (by decide) (by decide) _)))
      go_wp2
      go_roundw
      case rel => exact ⟨Or.inr (Or.inr (Or.inl ⟨rfl, vint (by omega)⟩)), below_drewN' (HX.out.alloc (by omega) _) _⟩
      case measure => simp [intOf]
    · have hi : ∀ w, (Instr.index 122 (.agg #[.int .i64 20, .int .i64 1, .int .i64 31, .int .i64 1, .int .i64 10, .int .i64 21, .int .i64 11, .int .i64 1, .int .i64 20, .int .i64 12, .int .i64 8, .int .i64 12]) (.int .i64 2)).run Tryz.prog w = .ok (.agg #[.int .i64 11, .int .i64 1, .int .i64 20]) w := fun _ => by kernel_rfl
      go_wp2_with fail
      go_quiet ((go_at_call 131; exact Calls.quiet_of (bitsOf_at _ _ _ 20 1 rfl rfl (by decide) (by decide) _)))
      go_wp2
      go_roundw
      case rel => exact ⟨Or.inr (Or.inr (Or.inr (Or.inl ⟨rfl, vint (by omega)⟩))), below_drewN' (HX.out.alloc (by omega) _) _⟩
      case measure => simp [intOf]
    · have hi : ∀ w, (Instr.index 122 (.agg #[.int .i64 20, .int .i64 1, .int .i64 31, .int .i64 1, .int .i64 10, .int .i64 21, .int .i64 11, .int .i64 1, .int .i64 20, .int .i64 12, .int .i64 8, .int .i64 12]) (.int .i64 3)).run Tryz.prog w = .ok (.agg #[.int .i64 12, .int .i64 8, .int .i64 12]) w := fun _ => by kernel_rfl
      go_wp2_with fail
      go_quiet ((go_at_call 131; exact Calls.quiet_of (bitsOf_at _ _ _ 12 8 rfl rfl (by decide) (by decide) _)))
      go_wp2
      go_roundw
      case rel => exact ⟨Or.inr (Or.inr (Or.inr (Or.inr (⟨rfl, vint (by omega)⟩)))), below_drewN' (HX.out.alloc (by omega) _) _⟩
      case measure => simp [intOf]
    · have HB : Hid (Below w.heap.size w wr) := ((Below.refl _ _).alloc (Nat.le_refl _) _).trans (HX.out.mono (by omega))
      by_cases hgt : n / Pl.pw 31 % Pl.pw 1 * 1048576 + n / Pl.pw 21 % Pl.pw 10 * 2 + n / Pl.pw 20 % Pl.pw 1 * 2048 + n / Pl.pw 12 % Pl.pw 8 * 4096 > 1048574
      · go_wp2
        go_ret
        exact ⟨ret_int (by simp only [Pl.gIm, Pl.rim, Pl.hi, Pl.st, Pl.lo]; rw [if_pos (by omega)] <;> omega), HB.out⟩
      · go_wp2
        go_ret
        exact ⟨ret_int (by simp only [Pl.gIm, Pl.rim, Pl.hi, Pl.st, Pl.lo]; rw [if_neg (by omega)] <;> omega), HB.out⟩
def Rm8 (n : Int) (v i : Value) : Prop := (i = .int .i64 0 ∧ v = .int .i64 (0 : Int)) ∨ (i = .int .i64 1 ∧ v = .int .i64 (n / Pl.pw 0 % Pl.pw 0 * 1 : Int)) ∨ (i = .int .i64 2 ∧ v = .int .i64 (n / Pl.pw 0 % Pl.pw 0 * 1 + n / Pl.pw 0 % Pl.pw 0 * 1 : Int)) ∨ (i = .int .i64 3 ∧ v = .int .i64 (n / Pl.pw 0 % Pl.pw 0 * 1 + n / Pl.pw 0 % Pl.pw 0 * 1 + n / Pl.pw 0 % Pl.pw 0 * 1 : Int)) ∨ (i = .int .i64 4 ∧ v = .int .i64 (n / Pl.pw 0 % Pl.pw 0 * 1 + n / Pl.pw 0 % Pl.pw 0 * 1 + n / Pl.pw 0 % Pl.pw 0 * 1 + n / Pl.pw 0 % Pl.pw 0 * 1 : Int))
set_option maxHeartbeats 1000000 in
theorem readImm_8 (n : Int) (w : World) :
    Calls Tryz.prog 130 #[.int .i64 n, .agg #[.bool false, .bool false, .bool false, .int .i64 0, .int .i64 0, .int .i64 1, .int .i64 0, .int .i64 0, .int .i64 0, .int .i64 0, .int .i64 0, .int .i64 0, .int .i64 0, .int .i64 0, .int .i64 0, .int .i64 0, .int .i64 0, .int .i64 0]] w fun e w' => e = .returned (.int .i64 (Pl.gIm 8 n)) ∧ Below w.heap.size w w' := by
  have b0 : 0 ≤ n / Pl.pw 0 % Pl.pw 0 ∧ n / Pl.pw 0 % Pl.pw 0 ≤ 0 := by
    have h := Int.emod_nonneg (n / Pl.pw 0) (Int.ne_of_gt (Pl.pw_pos 0))
    have h' := Int.emod_lt_of_pos (n / Pl.pw 0) (Pl.pw_pos 0)
    have e : Pl.pw 0 = 1 := by decide
    omega
  go_enter Tryz.func130, Tryz.ntmps130
  go_wp2
  go_loopw [5, 10] (fun v i wr => Rm8 n v i ∧ Below (w.heap.size + 1) (w.alloc (.cells #[.bool false, .bool false, .bool false, .int .i64 0, .int .i64 0, .int .i64 1, .int .i64 0, .int .i64 0, .int .i64 0, .int .i64 0, .int .i64 0, .int .i64 0, .int .i64 0, .int .i64 0, .int .i64 0, .int .i64 0, .int .i64 0, .int .i64 0] 124)) wr) (fun _ i _ => 4 - (intOf i).toNat)
  case atStart => exact ⟨Or.inl ⟨rfl, rfl⟩, Below.refl _ _⟩
  case round =>
    obtain ⟨hI, hnx⟩ := hrel
    have HX : Hid (Below (w.heap.size + 1) (w.alloc (.cells #[.bool false, .bool false, .bool false, .int .i64 0, .int .i64 0, .int .i64 1, .int .i64 0, .int .i64 0, .int .i64 0, .int .i64 0, .int .i64 0, .int .i64 0, .int .i64 0, .int .i64 0, .int .i64 0, .int .i64 0, .int .i64 0, .int .i64 0] 124)) wr) := hnx
    have hz : w.heap.size + 1 ≤ wr.heap.size := by have := hnx.size; simpa using this
    have hk : ∀ i, wr.cell? ⟨w.heap.size, i, none⟩ = (#[.bool false, .bool false, .bool false, .int .i64 0, .int .i64 0, .int .i64 1, .int .i64 0, .int .i64 0, .int .i64 0, .int .i64 0, .int .i64 0, .int .i64 0, .int .i64 0, .int .i64 0, .int .i64 0, .int .i64 0, .int .i64 0, .int .i64 0] : Array Value)[i]? := fun i => kept_cells' (by simpa using hnx) i
    have k3 : wr.cell? ⟨w.heap.size, 3, none⟩ = some (.int .i64 0) := hk 3
    have k4 : wr.cell? ⟨w.heap.size, 4, none⟩ = some (.int .i64 0) := hk 4
    have k5 : wr.cell? ⟨w.heap.size, 5, none⟩ = some (.int .i64 1) := hk 5
    clear hnx hk
    rcases hI with ⟨rfl, rfl⟩ | ⟨rfl, rfl⟩ | ⟨rfl, rfl⟩ | ⟨rfl, rfl⟩ | ⟨rfl, rfl⟩
    · have hi : ∀ w, (Instr.index 122 (.agg #[.int .i64 0, .int .i64 0, .int .i64 0, .int .i64 0, .int .i64 0, .int .i64 0, .int .i64 0, .int .i64 0, .int .i64 0, .int .i64 0, .int .i64 0, .int .i64 0]) (.int .i64 0)).run Tryz.prog w = .ok (.agg #[.int .i64 0, .int .i64 0, .int .i64 0]) w := fun _ => by kernel_rfl
      go_wp2_with fail
      go_quiet ((go_at_call 131; exact Calls.quiet_of (bitsOf_at _ _ _ 0 0 rfl rfl (by decide) (by decide) _)))
      go_wp2
      go_roundw
      case rel => exact ⟨Or.inr (Or.inl ⟨rfl, vint (by omega)⟩), below_drewN' (HX.out.alloc (by omega) _) _⟩
      case measure => simp [intOf]
    · have hi : ∀ w, (Instr.index 122 (.agg #[.int .i64 0, .int .i64 0, .int .i64 0, .int .i64 0, .int .i64 0, .int .i64 0, .int .i64 0, .int .i64 0, .int .i64 0, .int .i64 0, .int .i64 0, .int .i64 0]) (.int .i64 1)).run Tryz.prog w = .ok (.agg #[.int .i64 0, .int .i64 0, .int .i64 0]) w := fun _ => by kernel_rfl
      go_wp2_with fail
      go_quiet ((go_at_call 131; exact Calls.quiet_of (bitsOf_at _ _ _ 0 0 rfl rfl (by decide) (by decide) _)))
      go_wp2
      go_roundw
      case rel => exact ⟨Or.inr (Or.inr (Or.inl ⟨rfl, vint (by omega)⟩)), below_drewN' (HX.out.alloc (by omega) _) _⟩
      case measure => simp [intOf]
    · have hi : ∀ w, (Instr.index 122 (.agg #[.int .i64 0, .int .i64 0, .int .i64 0, .int .i64 0, .int .i64 0, .int .i64 0, .int .i64 0, .int .i64 0, .int .i64 0, .int .i64 0, .int .i64 0, .int .i64 0]) (.int .i64 2)).run Tryz.prog w = .ok (.agg #[.int .i64 0, .int .i64 0, .int .i64 0]) w := fun _ => by kernel_rfl
      go_wp2_with fail
      go_quiet ((go_at_call 131; exact Calls.quiet_of (bitsOf_at _ _ _ 0 0 rfl rfl (by decide) (by decide) _)))
      go_wp2
      go_roundw
      case rel => exact ⟨Or.inr (Or.inr (Or.inr (Or.inl ⟨rfl, vint (by omega)⟩))), below_drewN' (HX.out.alloc (by omega) _) _⟩
      case measure => simp [intOf]
    · have hi : ∀ w, (Instr.index 122 (.agg #[.int .i64 0, .int .i64 0, .int .i64 0, .int .i64 0, .int .i64 0, .int .i64 0, .int .i64 0, .int .i64 0, .int .i64 0, .int .i64 0, .int .i64 0, .int .i64 0]) (.int .i64 3)).run Tryz.prog w = .ok (.agg #[.int .i64 0, .int .i64 0, .int .i64 0]) w := fun _ => by kernel_rfl
      go_wp2_with fail
      go_quiet ((go_at_call 131; exact Calls.quiet_of (bitsOf_at _ _ _ 0 0 rfl rfl (by decide) (by decide) _)))
      go_wp2
      go_roundw
      case rel => exact ⟨Or.inr (Or.inr (Or.inr (Or.inr (⟨rfl, vint (by omega)⟩)))), below_drewN' (HX.out.alloc (by omega) _) _⟩
      case measure => simp [intOf]
    · have HB : Hid (Below w.heap.size w wr) := ((Below.refl _ _).alloc (Nat.le_refl _) _).trans (HX.out.mono (by omega))
      by_cases hgt : n / Pl.pw 0 % Pl.pw 0 * 1 + n / Pl.pw 0 % Pl.pw 0 * 1 + n / Pl.pw 0 % Pl.pw 0 * 1 + n / Pl.pw 0 % Pl.pw 0 * 1 > 0
      · exfalso; omega
      · go_wp2
        go_ret
        exact ⟨ret_int (by simp only [Pl.gIm, Pl.rim, Pl.hi, Pl.st, Pl.lo]; rw [if_neg (by omega)] <;> omega), HB.out⟩
end Go.Proofs.YtjdfffdeljgenaaGreatDoor.W
