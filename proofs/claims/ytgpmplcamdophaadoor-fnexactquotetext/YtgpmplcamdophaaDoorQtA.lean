import Derived.Test.YtgpmplcamdophaaDoorRows
import Derived.WalkKit
import Derived.Below
import Derived.Laws.BytesString
import Derived.Laws.IdiomStrings
import Derived.Laws.Cells
import Derived.Laws.BytesArg
import Derived.Laws.Bits64b
import Derived.Lib.AppendStr
import Derived.Lib.ConvBytes
set_option linter.unusedVariables false
set_option linter.unusedSimpArgs false
namespace Go.Proofs.YtgpmplcamdophaaDoor.Pl
/-- a byte as three octal digits -/
def oct (c : Nat) : List UInt8 := [92, UInt8.ofNat (48 + c / 64), UInt8.ofNat (48 + c / 8 % 8), UInt8.ofNat (48 + c % 8)]
/-- a byte as it stands between marks -/
def shown (c m : Nat) : List UInt8 :=
  if c = 10 then [92, 110] else if c = 9 then [92, 116] else if c = 13 then [92, 114] else if c = m ∨ c = 92 then [92, UInt8.ofNat c]
  else if 32 ≤ c ∧ c ≤ 126 then [UInt8.ofNat c] else oct c
theorem oct_eq : ∀ c, c < 256 → (⟨#[92]⟩ ++ ⟨#[48 + UInt8.ofNat c / 64, 48 + UInt8.ofNat (c / 8 % 8), 48 + UInt8.ofNat c % 8]⟩ : ByteArray) = ⟨(oct c).toArray⟩ := by decide +kernel
theorem shown_len (c m : Nat) : (shown c m).length ≤ 4 := by unfold shown oct; repeat (split <;> try simp)
theorem shown_pos (c m : Nat) : 1 ≤ (shown c m).length := by unfold shown oct; repeat (split <;> try simp)
end Go.Proofs.YtgpmplcamdophaaDoor.Pl
namespace Go.Proofs.YtgpmplcamdophaaDoor.W
open Go.RowKit
theorem qret_str {a b : ByteArray} (h : a = b) : Ending.returned (.string a) = .returned (.string b) := by rw [h]
theorem conv_c1 (w : World) (v : Int) : (convert 26 9 (.slice (some ⟨w.heap.size, 0, none⟩) 1 1)).run Tryd.prog (w.alloc (.cells #[.int .u8 v] 5)) = .ok (.string ⟨#[UInt8.ofNat v.toNat]⟩) (w.alloc (.cells #[.int .u8 v] 5)) :=
  run_convert_bytes_arg _ 26 5 Tryd.underlying26 Tryd.underlying5 w.heap.size 0 1 1 [v] rfl (fun i hi => by
    obtain rfl : i = 0 := by omega
    rw [cell_of_row _ _ _ #[.int .u8 v] 5 (0, 0) (heap_alloc_new w _)]; rfl) 9 Tryd.underlying9
theorem conv_c3 (w : World) (x y z : Int) : (convert 26 9 (.slice (some ⟨w.heap.size, 0, none⟩) 3 3)).run Tryd.prog (w.alloc (.cells #[.int .u8 x, .int .u8 y, .int .u8 z] 5)) = .ok (.string ⟨#[UInt8.ofNat x.toNat, UInt8.ofNat y.toNat, UInt8.ofNat z.toNat]⟩) (w.alloc (.cells #[.int .u8 x, .int .u8 y, .int .u8 z] 5)) :=
  run_convert_bytes_arg _ 26 5 Tryd.underlying26 Tryd.underlying5 w.heap.size 0 3 3 [x, y, z] rfl (fun i hi => by
    have : i = 0 ∨ i = 1 ∨ i = 2 := by omega
    rcases this with rfl | rfl | rfl <;> (rw [cell_of_row _ _ _ #[.int .u8 x, .int .u8 y, .int .u8 z] 5 (0, 0) (heap_alloc_new w _)]; rfl)) 9 Tryd.underlying9
set_option maxHeartbeats 1000000 in
theorem l5Octal_any (c : Nat) (h : c < 256) (w : World) : Calls Tryd.prog 26 #[.int .i64 c] w fun e w' => e = .returned (.string ⟨(Pl.oct c).toArray⟩) ∧ Below w.heap.size w w' := by
  have hcv := conv_c3 w
  go_enter Tryd.func26, Tryd.ntmps26
  go_wp2
  go_ret
  refine ⟨qret_str ?_, (Below.refl _ _).alloc (Nat.le_refl _) _⟩
  exact Pl.oct_eq c h
set_option maxHeartbeats 2000000 in
theorem l5Shown_any (c m : Nat) (h : c < 256) (hm : m < 256) (w : World) : Calls Tryd.prog 16 #[.int .i64 c, .int .u8 m] w fun e w' => e = .returned (.string ⟨(Pl.shown c m).toArray⟩) ∧ Below w.heap.size w w' := by
  have hcv := conv_c1 w
  unfold Pl.shown
  by_cases h10 : c = 10
  · rw [if_pos h10]
    have e1 : ((c : Int) == 10) = true := by simp; omega
    clear h10
    go_enter Tryd.func16, Tryd.ntmps16
    go_wp2
    go_ret
    exact ⟨rfl, Below.refl _ _⟩
  rw [if_neg h10]
  have e10 : ((c : Int) == 10) = false := by simp; omega
  by_cases h9 : c = 9
  · rw [if_pos h9]
    have e1 : ((c : Int) == 9) = true := by simp; omega
    clear h10 h9
    go_enter Tryd.func16, Tryd.ntmps16
    go_wp2
    go_ret
    exact ⟨rfl, Below.refl _ _⟩
  rw [if_neg h9]
  have e9 : ((c : Int) == 9) = false := by simp; omega
  by_cases h13 : c = 13
  · rw [if_pos h13]
    have e1 : ((c : Int) == 13) = true := by simp; omega
    clear h10 h9 h13
    go_enter Tryd.func16, Tryd.ntmps16
    go_wp2
    go_ret
    exact ⟨rfl, Below.refl _ _⟩
  rw [if_neg h13]
  have e13 : ((c : Int) == 13) = false := by simp; omega
  clear h10 h9 h13
  by_cases hmk : c = m ∨ c = 92
  · rw [if_pos hmk]
    by_cases h1 : c = m
    · have e1 : ((c : Int) == (m : Int)) = true := by simp; omega
      clear hmk h1
      go_enter Tryd.func16, Tryd.ntmps16
      go_wp2
      go_ret
      refine ⟨qret_str ?_, (Below.refl _ _).alloc (Nat.le_refl _) _⟩
      rfl
    · have e1 : ((c : Int) == (m : Int)) = false := by simp; omega
      have e2 : ((c : Int) == 92) = true := by simp; omega
      clear hmk h1
      go_enter Tryd.func16, Tryd.ntmps16
      go_wp2
      go_ret
      refine ⟨qret_str ?_, (Below.refl _ _).alloc (Nat.le_refl _) _⟩
      rfl
  rw [if_neg hmk]
  have em : ((c : Int) == (m : Int)) = false := by simp; omega
  have e92 : ((c : Int) == 92) = false := by simp; omega
  clear hmk
  by_cases h32 : 32 ≤ c ∧ c ≤ 126
  · rw [if_pos h32]
    have e1 : decide (32 ≤ (c : Int)) = true := by simp; omega
    have e2 : decide ((c : Int) ≤ 126) = true := by simp; omega
    clear h32
    go_enter Tryd.func16, Tryd.ntmps16
    go_wp2
    go_ret
    refine ⟨qret_str ?_, (Below.refl _ _).alloc (Nat.le_refl _) _⟩
    rfl
  rw [if_neg h32]
  by_cases hlo : 32 ≤ c
  · have e1 : decide (32 ≤ (c : Int)) = true := by simp; omega
    have e2 : decide ((c : Int) ≤ 126) = false := by simp; omega
    clear h32 hlo
    go_enter Tryd.func16, Tryd.ntmps16
    go_wp2_with (go_at_call 26; refine (l5Octal_any c h _).mono ?_; rintro e u1 ⟨rfl, hb1⟩)
    go_ret
    exact ⟨rfl, hb1⟩
  · have e1 : decide (32 ≤ (c : Int)) = false := by simp; omega
    clear h32 hlo
    go_enter Tryd.func16, Tryd.ntmps16
    go_wp2_with (go_at_call 26; refine (l5Octal_any c h _).mono ?_; rintro e u1 ⟨rfl, hb1⟩)
    go_ret
    exact ⟨rfl, hb1⟩
end Go.Proofs.YtgpmplcamdophaaDoor.W
