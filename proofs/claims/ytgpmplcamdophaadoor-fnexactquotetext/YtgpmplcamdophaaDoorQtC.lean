import Derived.Test.YtgpmplcamdophaaDoorQtB
set_option linter.unusedVariables false
set_option linter.unusedSimpArgs false
namespace Go.Proofs.YtgpmplcamdophaaDoor.Pl
/-- a number of four octal digits, the first of them 1 -/
def oct4 (n : Nat) : ByteArray := ⟨#[49, UInt8.ofNat (48 + n / 64 % 8), UInt8.ofNat (48 + n / 8 % 8), UInt8.ofNat (48 + n % 8)]⟩
theorem oct4_cut : ∀ c, c < 256 → (⟨#[92]⟩ : ByteArray) ++ (oct4 (512 + c)).extract 1 4 = ⟨(oct c).toArray⟩ := by decide +kernel
end Go.Proofs.YtgpmplcamdophaaDoor.Pl
namespace Go.Proofs.YtgpmplcamdophaaDoor.W
open Go.RowKit
theorem ret_two {a b : ByteArray} (h : a = b) : Ending.returned (.tuple #[.slice none 0 0, .string a]) = .returned (.tuple #[.slice none 0 0, .string b]) := by rw [h]
theorem and7 (n : Nat) (h : n < 18446744073709551616) : bits .and .u64 (n : Int) 7 = ((n % 8 : Nat) : Int) := by
  have := bits_and_u64_nat n 7 h (by decide)
  rw [show ((7 : Nat) : Int) = 7 from rfl] at this
  rw [this]
  congr 1
  exact Nat.and_two_pow_sub_one_eq_mod n 3
theorem conv_four (w : World) (Z : Array Value) (hz : Z.size = 65) (a b c d : Int) : (convert 26 9 (.slice (some ⟨w.heap.size, 61, none⟩) 4 4)).run Tryd.prog (w.alloc (.cells ((((Z.setIfInBounds 64 (.int .u8 a)).setIfInBounds 63 (.int .u8 b)).setIfInBounds 62 (.int .u8 c)).setIfInBounds 61 (.int .u8 d)) 117)) = .ok (.string ⟨#[UInt8.ofNat d.toNat, UInt8.ofNat c.toNat, UInt8.ofNat b.toNat, UInt8.ofNat a.toNat]⟩) (w.alloc (.cells ((((Z.setIfInBounds 64 (.int .u8 a)).setIfInBounds 63 (.int .u8 b)).setIfInBounds 62 (.int .u8 c)).setIfInBounds 61 (.int .u8 d)) 117)) :=
  run_convert_bytes_arg _ 26 5 Tryd.underlying26 Tryd.underlying5 w.heap.size 61 4 4 [d, c, b, a] rfl (fun i hi => by
    have : i = 0 ∨ i = 1 ∨ i = 2 ∨ i = 3 := by omega
    rcases this with rfl | rfl | rfl | rfl <;> (rw [cell_of_row _ _ _ _ 117 (0, 0) (heap_alloc_new w _)]; simp [Array.getElem?_setIfInBounds, hz])) 9 Tryd.underlying9
theorem digit_at : ∀ d, (h : d < 8) → (((⟨#[48, 49, 50, 51, 52, 53, 54, 55, 56, 57, 97, 98, 99, 100, 101, 102, 103, 104, 105, 106, 107, 108, 109, 110, 111, 112, 113, 114, 115, 116, 117, 118, 119, 120, 121, 122]⟩ : ByteArray)[d]'(by show d < 36; omega)) : UInt8) = UInt8.ofNat (48 + d) := by decide +kernel
set_option maxRecDepth 8000 in
set_option maxHeartbeats 2000000 in
theorem formatBits_8 (n : Nat) (h1 : 512 ≤ n) (h2 : n < 768) (w : World) (hd : DbLies w) : Calls Tryd.prog 80 #[.slice none 0 0, .int .u64 n, .int .i64 8, .bool false, .bool false] w fun e w' => e = .returned (.tuple #[.slice none 0 0, .string (Pl.oct4 n)]) ∧ Below w.heap.size w w' := by
  have HD : Hid (DbLies w) := hd
  clear hd
  go_enter Tryd.func80, Tryd.ntmps80
  go_wp2_with (first | (go_at_call 87; refine (pow2_8 _).mono ?_; rintro e u1 ⟨rfl, rfl⟩) | (go_at_call 88; refine (tz_8 _ (HD.out.below ((Below.refl _ _).alloc (Nat.le_refl _) _))).mono ?_; rintro e u1 ⟨rfl, rfl⟩))
  obtain ⟨m1, hm1⟩ : ∃ m : Nat, m = n / 8 := ⟨_, rfl⟩
  obtain ⟨m2, hm2⟩ : ∃ m : Nat, m = n / 64 := ⟨_, rfl⟩
  have e1 : decide ((8 : Int) ≤ (n : Int)) = true := by simp; omega
  have e2 : decide ((8 : Int) ≤ (m1 : Int)) = true := by simp; omega
  have e3 : decide ((8 : Int) ≤ (m2 : Int)) = true := by simp; omega
  have q1 : (n : Int) / 8 = (m1 : Int) := by omega
  have q2 : (m1 : Int) / 8 = (m2 : Int) := by omega
  have q3 : (m2 : Int) / 8 = 1 := by omega
  obtain ⟨d0, hd0, hb0, HD0⟩ : ∃ d : Nat, d < 8 ∧ bits .and .u64 (n : Int) 7 = (d : Int) ∧ Hid (d = n % 8) := ⟨n % 8, by omega, and7 n (by omega), rfl⟩
  obtain ⟨d1, hd1, hb1, HD1⟩ : ∃ d : Nat, d < 8 ∧ bits .and .u64 (m1 : Int) 7 = (d : Int) ∧ Hid (d = n / 8 % 8) := ⟨m1 % 8, by omega, and7 m1 (by omega), by show m1 % 8 = _; omega⟩
  obtain ⟨d2, hd2, hb2, HD2⟩ : ∃ d : Nat, d < 8 ∧ bits .and .u64 (m2 : Int) 7 = (d : Int) ∧ Hid (d = n / 64 % 8) := ⟨m2 % 8, by omega, and7 m2 (by omega), by show m2 % 8 = _; omega⟩
  clear hm1 hm2
  refine wp_loop_rounds 4 ?_
  rw [rounds_succ]
  go_wp2
  rw [rounds_succ]
  go_wp2
  rw [rounds_succ]
  go_wp2
  rw [rounds_succ]
  have hcv := fun a b c d => conv_four w Tryd.zeroCells117 (by kernel_rfl) a b c d
  go_wp2
  go_ret2
  refine ⟨ret_two ?_, (Below.refl _ _).alloc (Nat.le_refl _) _⟩
  rw [digit_at d0 hd0, digit_at d1 hd1, digit_at d2 hd2, HD0.out, HD1.out, HD2.out]
  rfl
theorem formatIn_8 (n : Nat) (h1 : 512 ≤ n) (h2 : n < 768) (w : World) (hd : DbLies w) : Calls Tryd.prog 69 #[.int .i64 n, .int .i64 8] w fun e w' => e = .returned (.string (Pl.oct4 n)) ∧ Below w.heap.size w w' := by
  have e1 : decide ((n : Int) < 0) = false := by simp
  go_enter Tryd.func69, Tryd.ntmps69
  go_wp2_with (go_at_call 80; refine (formatBits_8 n h1 h2 _ hd).mono ?_; rintro e u1 ⟨rfl, hb1⟩)
  go_ret
  exact ⟨rfl, hb1⟩
theorem format_8 (n : Nat) (h1 : 512 ≤ n) (h2 : n < 768) (w : World) (hd : DbLies w) : Calls Tryd.prog 49 #[.int .i64 n, .int .i64 8] w fun e w' => e = .returned (.string (Pl.oct4 n)) ∧ Below w.heap.size w w' := by
  go_enter Tryd.func49, Tryd.ntmps49
  go_wp2_with (go_at_call 69; refine (formatIn_8 n h1 h2 _ hd).mono ?_; rintro e u1 ⟨rfl, hb1⟩)
  go_ret
  exact ⟨rfl, hb1⟩
end Go.Proofs.YtgpmplcamdophaaDoor.W
