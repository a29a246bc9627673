import Derived.Test.YtmnlhienhfmhdaaAluA
namespace Go.Proofs.Ytmnlhienhfmhdaa.W
open Go.RowKit
set_option maxHeartbeats 400000 in
theorem implAlu_10 (a b : Int) (w : World) : Calls Try.prog 32 #[.int .i64 10, .int .i64 a, .int .i64 b] w fun e w' => e = .returned (.tuple #[.int .i64 (Pl.al 10 (Pl.wd a) (Pl.wd b)), .bool true]) ∧ Below w.heap.size w w' := by
  have hi : ∀ w, (Instr.index 82 (.agg opsTab) (.int .i64 10)).run Try.prog w = .ok (.func (.func 86) #[] #[]) w := fun _ => by kernel_rfl
  have ha := Pl.wd_bd a
  have hb := Pl.wd_bd b
  go_enter Try.func32, Try.ntmps32
  go_wp2_with (first | (go_at_call 63; refine (operations_any _).mono ?_; rintro e w1 ⟨rfl, rfl⟩) | (go_at_call 16; refine (implWord_any _ _).mono ?_; rintro e w1 ⟨rfl, rfl⟩) | (go_at_call 20; refine (implSigned_any _ _).mono ?_; rintro e w1 ⟨rfl, rfl⟩) | (go_at_call 79; refine (shiftBy_any _ _).mono ?_; rintro e w1 ⟨rfl, rfl⟩) | go_in)
  go_ret2
  exact ⟨ret2 ((Pl.bits_int _ _ ha.1 ha.2 hb.1 hb.2).1) rfl, (Below.refl _ _).alloc (Nat.le_refl _) _⟩
set_option maxHeartbeats 400000 in
theorem implAlu_11 (a b : Int) (w : World) : Calls Try.prog 32 #[.int .i64 11, .int .i64 a, .int .i64 b] w fun e w' => e = .returned (.tuple #[.int .i64 (Pl.al 11 (Pl.wd a) (Pl.wd b)), .bool true]) ∧ Below w.heap.size w w' := by
  have hi : ∀ w, (Instr.index 82 (.agg opsTab) (.int .i64 11)).run Try.prog w = .ok (.func (.func 87) #[] #[]) w := fun _ => by kernel_rfl
  have ha := Pl.wd_bd a
  have hb := Pl.wd_bd b
  go_enter Try.func32, Try.ntmps32
  go_wp2_with (first | (go_at_call 63; refine (operations_any _).mono ?_; rintro e w1 ⟨rfl, rfl⟩) | (go_at_call 16; refine (implWord_any _ _).mono ?_; rintro e w1 ⟨rfl, rfl⟩) | (go_at_call 20; refine (implSigned_any _ _).mono ?_; rintro e w1 ⟨rfl, rfl⟩) | (go_at_call 79; refine (shiftBy_any _ _).mono ?_; rintro e w1 ⟨rfl, rfl⟩) | go_in)
  go_ret2
  exact ⟨ret2 (Pl.wd_wrap64 _) rfl, (Below.refl _ _).alloc (Nat.le_refl _) _⟩
set_option maxHeartbeats 400000 in
theorem implAlu_12 (a b : Int) (w : World) : Calls Try.prog 32 #[.int .i64 12, .int .i64 a, .int .i64 b] w fun e w' => e = .returned (.tuple #[.int .i64 (Pl.al 12 (Pl.wd a) (Pl.wd b)), .bool true]) ∧ Below w.heap.size w w' := by
  have hi : ∀ w, (Instr.index 82 (.agg opsTab) (.int .i64 12)).run Try.prog w = .ok (.func (.func 88) #[] #[]) w := fun _ => by kernel_rfl
  have ha := Pl.wd_bd a
  have hb := Pl.wd_bd b
  have ha' := Pl.sg_bd (Pl.wd a)
  have hb' := Pl.sg_bd (Pl.wd b)
  have hp : -4611686018427387904 ≤ Pl.sg (Pl.wd a) * Pl.sg (Pl.wd b) ∧ Pl.sg (Pl.wd a) * Pl.sg (Pl.wd b) ≤ 4611686018427387904 := Pl.mul_bd _ _ 2147483648 2147483648 (by decide) (by omega) (by omega) (by omega) (by omega)
  go_enter Try.func32, Try.ntmps32
  go_wp2_with (first | (go_at_call 63; refine (operations_any _).mono ?_; rintro e w1 ⟨rfl, rfl⟩) | (go_at_call 16; refine (implWord_any _ _).mono ?_; rintro e w1 ⟨rfl, rfl⟩) | (go_at_call 20; refine (implSigned_any _ _).mono ?_; rintro e w1 ⟨rfl, rfl⟩) | (go_at_call 79; refine (shiftBy_any _ _).mono ?_; rintro e w1 ⟨rfl, rfl⟩) | go_in)
  go_ret2
  exact ⟨ret2 (rfl) rfl, (Below.refl _ _).alloc (Nat.le_refl _) _⟩
set_option maxHeartbeats 400000 in
theorem implAlu_13 (a b : Int) (w : World) : Calls Try.prog 32 #[.int .i64 13, .int .i64 a, .int .i64 b] w fun e w' => e = .returned (.tuple #[.int .i64 (Pl.al 13 (Pl.wd a) (Pl.wd b)), .bool true]) ∧ Below w.heap.size w w' := by
  have hi : ∀ w, (Instr.index 82 (.agg opsTab) (.int .i64 13)).run Try.prog w = .ok (.func (.func 89) #[] #[]) w := fun _ => by kernel_rfl
  have ha := Pl.wd_bd a
  have hb := Pl.wd_bd b
  have ha' := Pl.sg_bd (Pl.wd a)
  have hb' := Pl.sg_bd (Pl.wd b)
  have hp : -9223372034707292160 ≤ Pl.sg (Pl.wd a) * Pl.wd b ∧ Pl.sg (Pl.wd a) * Pl.wd b ≤ 9223372034707292160 := Pl.mul_bd _ _ 2147483648 4294967295 (by decide) (by omega) (by omega) (by omega) (by omega)
  go_enter Try.func32, Try.ntmps32
  go_wp2_with (first | (go_at_call 63; refine (operations_any _).mono ?_; rintro e w1 ⟨rfl, rfl⟩) | (go_at_call 16; refine (implWord_any _ _).mono ?_; rintro e w1 ⟨rfl, rfl⟩) | (go_at_call 20; refine (implSigned_any _ _).mono ?_; rintro e w1 ⟨rfl, rfl⟩) | (go_at_call 79; refine (shiftBy_any _ _).mono ?_; rintro e w1 ⟨rfl, rfl⟩) | go_in)
  go_ret2
  exact ⟨ret2 (rfl) rfl, (Below.refl _ _).alloc (Nat.le_refl _) _⟩
set_option maxHeartbeats 400000 in
theorem implAlu_14 (a b : Int) (w : World) : Calls Try.prog 32 #[.int .i64 14, .int .i64 a, .int .i64 b] w fun e w' => e = .returned (.tuple #[.int .i64 (Pl.al 14 (Pl.wd a) (Pl.wd b)), .bool true]) ∧ Below w.heap.size w w' := by
  have hi : ∀ w, (Instr.index 82 (.agg opsTab) (.int .i64 14)).run Try.prog w = .ok (.func (.func 90) #[] #[]) w := fun _ => by kernel_rfl
  have ha := Pl.wd_bd a
  have hb := Pl.wd_bd b
  have hp : -18446744065119617025 ≤ Pl.wd a * Pl.wd b ∧ Pl.wd a * Pl.wd b ≤ 18446744065119617025 := Pl.mul_bd _ _ 4294967295 4294967295 (by decide) (by omega) (by omega) (by omega) (by omega)
  have hq : 0 ≤ Pl.wd a * Pl.wd b := Int.mul_nonneg ha.1 hb.1
  go_enter Try.func32, Try.ntmps32
  go_wp2_with (first | (go_at_call 63; refine (operations_any _).mono ?_; rintro e w1 ⟨rfl, rfl⟩) | (go_at_call 16; refine (implWord_any _ _).mono ?_; rintro e w1 ⟨rfl, rfl⟩) | (go_at_call 20; refine (implSigned_any _ _).mono ?_; rintro e w1 ⟨rfl, rfl⟩) | (go_at_call 79; refine (shiftBy_any _ _).mono ?_; rintro e w1 ⟨rfl, rfl⟩) | go_in)
  go_ret2
  exact ⟨ret2 (rfl) rfl, (Below.refl _ _).alloc (Nat.le_refl _) _⟩
set_option maxHeartbeats 400000 in
theorem implAlu_15 (a b : Int) (w : World) : Calls Try.prog 32 #[.int .i64 15, .int .i64 a, .int .i64 b] w fun e w' => e = .returned (.tuple #[.int .i64 (Pl.al 15 (Pl.wd a) (Pl.wd b)), .bool true]) ∧ Below w.heap.size w w' := by
  have hi : ∀ w, (Instr.index 82 (.agg opsTab) (.int .i64 15)).run Try.prog w = .ok (.func (.func 91) #[] #[]) w := fun _ => by kernel_rfl
  have ha := Pl.wd_bd a
  have hb := Pl.wd_bd b
  have ha' := Pl.sg_bd (Pl.wd a)
  have hb' := Pl.sg_bd (Pl.wd b)
  by_cases h : Pl.wd b = 0
  · have H : Hid (Pl.wd b = 0) := h
    have h0 : Pl.sg (Pl.wd b) = 0 := by rw [h]; rfl
    clear h
    go_enter Try.func32, Try.ntmps32
    go_wp2_with (first | (go_at_call 63; refine (operations_any _).mono ?_; rintro e w1 ⟨rfl, rfl⟩) | (go_at_call 16; refine (implWord_any _ _).mono ?_; rintro e w1 ⟨rfl, rfl⟩) | (go_at_call 20; refine (implSigned_any _ _).mono ?_; rintro e w1 ⟨rfl, rfl⟩) | (go_at_call 79; refine (shiftBy_any _ _).mono ?_; rintro e w1 ⟨rfl, rfl⟩) | go_in)
    go_ret2
    exact ⟨ret2 (by show _ = (if _ = (0 : Int) then _ else _); rw [if_pos H.out]; rfl) rfl, (Below.refl _ _).alloc (Nat.le_refl _) _⟩
  · have h0 : ¬ Pl.sg (Pl.wd b) = 0 := by unfold Pl.sg; omega
    have ht := Pl.tdiv_small (Pl.sg (Pl.wd a)) (Pl.sg (Pl.wd b)) 2147483648 (by omega) (by omega)
    have H : Hid (¬ Pl.wd b = 0) := h
    clear h
    go_enter Try.func32, Try.ntmps32
    go_wp2_with (first | (go_at_call 63; refine (operations_any _).mono ?_; rintro e w1 ⟨rfl, rfl⟩) | (go_at_call 16; refine (implWord_any _ _).mono ?_; rintro e w1 ⟨rfl, rfl⟩) | (go_at_call 20; refine (implSigned_any _ _).mono ?_; rintro e w1 ⟨rfl, rfl⟩) | (go_at_call 79; refine (shiftBy_any _ _).mono ?_; rintro e w1 ⟨rfl, rfl⟩) | go_in)
    go_ret2
    exact ⟨ret2 (by show _ = (if _ = (0 : Int) then _ else _); rw [if_neg H.out]) rfl, (Below.refl _ _).alloc (Nat.le_refl _) _⟩
set_option maxHeartbeats 400000 in
theorem implAlu_16 (a b : Int) (w : World) : Calls Try.prog 32 #[.int .i64 16, .int .i64 a, .int .i64 b] w fun e w' => e = .returned (.tuple #[.int .i64 (Pl.al 16 (Pl.wd a) (Pl.wd b)), .bool true]) ∧ Below w.heap.size w w' := by
  have hi : ∀ w, (Instr.index 82 (.agg opsTab) (.int .i64 16)).run Try.prog w = .ok (.func (.func 92) #[] #[]) w := fun _ => by kernel_rfl
  have ha := Pl.wd_bd a
  have hb := Pl.wd_bd b
  by_cases h : Pl.wd b = 0
  · have H : Hid (Pl.wd b = 0) := h
    have h0 : Pl.wd b = 0 := h
    clear h
    go_enter Try.func32, Try.ntmps32
    go_wp2_with (first | (go_at_call 63; refine (operations_any _).mono ?_; rintro e w1 ⟨rfl, rfl⟩) | (go_at_call 16; refine (implWord_any _ _).mono ?_; rintro e w1 ⟨rfl, rfl⟩) | (go_at_call 20; refine (implSigned_any _ _).mono ?_; rintro e w1 ⟨rfl, rfl⟩) | (go_at_call 79; refine (shiftBy_any _ _).mono ?_; rintro e w1 ⟨rfl, rfl⟩) | go_in)
    go_ret2
    exact ⟨ret2 (by show _ = (if _ = (0 : Int) then _ else _); rw [if_pos H.out]; rfl) rfl, (Below.refl _ _).alloc (Nat.le_refl _) _⟩
  · have h0 : ¬ Pl.wd b = 0 := h
    have h1 : 1 ≤ Pl.wd b := by omega
    have H : Hid (¬ Pl.wd b = 0) := h
    clear h
    go_enter Try.func32, Try.ntmps32
    go_wp2_with (first | (go_at_call 63; refine (operations_any _).mono ?_; rintro e w1 ⟨rfl, rfl⟩) | (go_at_call 16; refine (implWord_any _ _).mono ?_; rintro e w1 ⟨rfl, rfl⟩) | (go_at_call 20; refine (implSigned_any _ _).mono ?_; rintro e w1 ⟨rfl, rfl⟩) | (go_at_call 79; refine (shiftBy_any _ _).mono ?_; rintro e w1 ⟨rfl, rfl⟩) | go_in)
    go_ret2
    exact ⟨ret2 (by show _ = (if _ = (0 : Int) then _ else _); rw [if_neg H.out]) rfl, (Below.refl _ _).alloc (Nat.le_refl _) _⟩
set_option maxHeartbeats 400000 in
theorem implAlu_17 (a b : Int) (w : World) : Calls Try.prog 32 #[.int .i64 17, .int .i64 a, .int .i64 b] w fun e w' => e = .returned (.tuple #[.int .i64 (Pl.al 17 (Pl.wd a) (Pl.wd b)), .bool true]) ∧ Below w.heap.size w w' := by
  have hi : ∀ w, (Instr.index 82 (.agg opsTab) (.int .i64 17)).run Try.prog w = .ok (.func (.func 93) #[] #[]) w := fun _ => by kernel_rfl
  have ha := Pl.wd_bd a
  have hb := Pl.wd_bd b
  have ha' := Pl.sg_bd (Pl.wd a)
  have hb' := Pl.sg_bd (Pl.wd b)
  by_cases h : Pl.wd b = 0
  · have H : Hid (Pl.wd b = 0) := h
    have h0 : Pl.sg (Pl.wd b) = 0 := by rw [h]; rfl
    clear h
    go_enter Try.func32, Try.ntmps32
    go_wp2_with (first | (go_at_call 63; refine (operations_any _).mono ?_; rintro e w1 ⟨rfl, rfl⟩) | (go_at_call 16; refine (implWord_any _ _).mono ?_; rintro e w1 ⟨rfl, rfl⟩) | (go_at_call 20; refine (implSigned_any _ _).mono ?_; rintro e w1 ⟨rfl, rfl⟩) | (go_at_call 79; refine (shiftBy_any _ _).mono ?_; rintro e w1 ⟨rfl, rfl⟩) | go_in)
    go_ret2
    exact ⟨ret2 (by show _ = (if _ = (0 : Int) then _ else _); rw [if_pos H.out]; exact Pl.wd_sg _ ha.1 ha.2) rfl, (Below.refl _ _).alloc (Nat.le_refl _) _⟩
  · have h0 : ¬ Pl.sg (Pl.wd b) = 0 := by unfold Pl.sg; omega
    have ht := Pl.tdiv_small (Pl.sg (Pl.wd a)) (Pl.sg (Pl.wd b)) 2147483648 (by omega) (by omega)
    have H : Hid (¬ Pl.wd b = 0) := h
    clear h
    go_enter Try.func32, Try.ntmps32
    go_wp2_with (first | (go_at_call 63; refine (operations_any _).mono ?_; rintro e w1 ⟨rfl, rfl⟩) | (go_at_call 16; refine (implWord_any _ _).mono ?_; rintro e w1 ⟨rfl, rfl⟩) | (go_at_call 20; refine (implSigned_any _ _).mono ?_; rintro e w1 ⟨rfl, rfl⟩) | (go_at_call 79; refine (shiftBy_any _ _).mono ?_; rintro e w1 ⟨rfl, rfl⟩) | go_in)
    go_ret2
    exact ⟨ret2 (by show _ = (if _ = (0 : Int) then _ else _); rw [if_neg H.out]) rfl, (Below.refl _ _).alloc (Nat.le_refl _) _⟩
set_option maxHeartbeats 400000 in
theorem implAlu_18 (a b : Int) (w : World) : Calls Try.prog 32 #[.int .i64 18, .int .i64 a, .int .i64 b] w fun e w' => e = .returned (.tuple #[.int .i64 (Pl.al 18 (Pl.wd a) (Pl.wd b)), .bool true]) ∧ Below w.heap.size w w' := by
  have hi : ∀ w, (Instr.index 82 (.agg opsTab) (.int .i64 18)).run Try.prog w = .ok (.func (.func 94) #[] #[]) w := fun _ => by kernel_rfl
  have ha := Pl.wd_bd a
  have hb := Pl.wd_bd b
  by_cases h : Pl.wd b = 0
  · have H : Hid (Pl.wd b = 0) := h
    have h0 : Pl.wd b = 0 := h
    clear h
    go_enter Try.func32, Try.ntmps32
    go_wp2_with (first | (go_at_call 63; refine (operations_any _).mono ?_; rintro e w1 ⟨rfl, rfl⟩) | (go_at_call 16; refine (implWord_any _ _).mono ?_; rintro e w1 ⟨rfl, rfl⟩) | (go_at_call 20; refine (implSigned_any _ _).mono ?_; rintro e w1 ⟨rfl, rfl⟩) | (go_at_call 79; refine (shiftBy_any _ _).mono ?_; rintro e w1 ⟨rfl, rfl⟩) | go_in)
    go_ret2
    exact ⟨ret2 (by show _ = (if _ = (0 : Int) then _ else _); rw [if_pos H.out]; exact Pl.wd_word _ ha.1 ha.2) rfl, (Below.refl _ _).alloc (Nat.le_refl _) _⟩
  · have h0 : ¬ Pl.wd b = 0 := h
    have h1 : 1 ≤ Pl.wd b := by omega
    have H : Hid (¬ Pl.wd b = 0) := h
    clear h
    go_enter Try.func32, Try.ntmps32
    go_wp2_with (first | (go_at_call 63; refine (operations_any _).mono ?_; rintro e w1 ⟨rfl, rfl⟩) | (go_at_call 16; refine (implWord_any _ _).mono ?_; rintro e w1 ⟨rfl, rfl⟩) | (go_at_call 20; refine (implSigned_any _ _).mono ?_; rintro e w1 ⟨rfl, rfl⟩) | (go_at_call 79; refine (shiftBy_any _ _).mono ?_; rintro e w1 ⟨rfl, rfl⟩) | go_in)
    go_ret2
    exact ⟨ret2 (by show _ = (if _ = (0 : Int) then _ else _); rw [if_neg H.out]) rfl, (Below.refl _ _).alloc (Nat.le_refl _) _⟩
end Go.Proofs.Ytmnlhienhfmhdaa.W
