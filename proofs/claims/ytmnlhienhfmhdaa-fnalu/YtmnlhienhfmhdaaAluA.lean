import Derived.Test.YtmnlhienhfmhdaaAlu
import Derived.Test.YtmnlhienhfmhdaaAluMath
namespace Go.Proofs.Ytmnlhienhfmhdaa.Pl
theorem wd_sg (A : Int) (h1 : 0 ≤ A) (h2 : A ≤ 4294967295) : wd (sg A) = A := by unfold wd sg; omega
end Go.Proofs.Ytmnlhienhfmhdaa.Pl
namespace Go.Proofs.Ytmnlhienhfmhdaa.W
open Go.RowKit
theorem shiftBy_any (n : Int) (w : World) : Calls Try.prog 79 #[.int .i64 n] w fun e w' => e = .returned (.int .i64 (n % 32)) ∧ w' = w := by
  have h := Pl.and31 n
  go_enter Try.func79, Try.ntmps79
  go_wp2
  go_ret
  exact ⟨rfl, rfl⟩
theorem implAlu_no (n a b : Int) (h : n < 1 ∨ 18 < n) (w : World) : Calls Try.prog 32 #[.int .i64 n, .int .i64 a, .int .i64 b] w fun e w' => e = .returned (.tuple #[.int .i64 0, .bool false]) ∧ Below w.heap.size w w' := by
  rcases h with h | h
  · go_enter Try.func32, Try.ntmps32
    go_wp2
    go_ret2
    exact ⟨rfl, Below.refl _ _⟩
  · have h' : ¬ n < 1 := by omega
    go_enter Try.func32, Try.ntmps32
    go_wp2
    go_ret2
    exact ⟨rfl, Below.refl _ _⟩
set_option maxHeartbeats 400000 in
theorem implAlu_1 (a b : Int) (w : World) : Calls Try.prog 32 #[.int .i64 1, .int .i64 a, .int .i64 b] w fun e w' => e = .returned (.tuple #[.int .i64 (Pl.al 1 (Pl.wd a) (Pl.wd b)), .bool true]) ∧ Below w.heap.size w w' := by
  have hi : ∀ w, (Instr.index 82 (.agg opsTab) (.int .i64 1)).run Try.prog w = .ok (.func (.func 76) #[] #[]) w := fun _ => by kernel_rfl
  have ha := Pl.wd_bd a
  have hb := Pl.wd_bd b
  go_enter Try.func32, Try.ntmps32
  go_wp2_with (first | (go_at_call 63; refine (operations_any _).mono ?_; rintro e w1 ⟨rfl, rfl⟩) | (go_at_call 16; refine (implWord_any _ _).mono ?_; rintro e w1 ⟨rfl, rfl⟩) | (go_at_call 20; refine (implSigned_any _ _).mono ?_; rintro e w1 ⟨rfl, rfl⟩) | (go_at_call 79; refine (shiftBy_any _ _).mono ?_; rintro e w1 ⟨rfl, rfl⟩) | go_in)
  go_ret2
  exact ⟨ret2 (rfl) rfl, (Below.refl _ _).alloc (Nat.le_refl _) _⟩
set_option maxHeartbeats 400000 in
theorem implAlu_2 (a b : Int) (w : World) : Calls Try.prog 32 #[.int .i64 2, .int .i64 a, .int .i64 b] w fun e w' => e = .returned (.tuple #[.int .i64 (Pl.al 2 (Pl.wd a) (Pl.wd b)), .bool true]) ∧ Below w.heap.size w w' := by
  have hi : ∀ w, (Instr.index 82 (.agg opsTab) (.int .i64 2)).run Try.prog w = .ok (.func (.func 77) #[] #[]) w := fun _ => by kernel_rfl
  have ha := Pl.wd_bd a
  have hb := Pl.wd_bd b
  go_enter Try.func32, Try.ntmps32
  go_wp2_with (first | (go_at_call 63; refine (operations_any _).mono ?_; rintro e w1 ⟨rfl, rfl⟩) | (go_at_call 16; refine (implWord_any _ _).mono ?_; rintro e w1 ⟨rfl, rfl⟩) | (go_at_call 20; refine (implSigned_any _ _).mono ?_; rintro e w1 ⟨rfl, rfl⟩) | (go_at_call 79; refine (shiftBy_any _ _).mono ?_; rintro e w1 ⟨rfl, rfl⟩) | go_in)
  go_ret2
  exact ⟨ret2 (rfl) rfl, (Below.refl _ _).alloc (Nat.le_refl _) _⟩
set_option maxHeartbeats 400000 in
theorem implAlu_3 (a b : Int) (w : World) : Calls Try.prog 32 #[.int .i64 3, .int .i64 a, .int .i64 b] w fun e w' => e = .returned (.tuple #[.int .i64 (Pl.al 3 (Pl.wd a) (Pl.wd b)), .bool true]) ∧ Below w.heap.size w w' := by
  have hi : ∀ w, (Instr.index 82 (.agg opsTab) (.int .i64 3)).run Try.prog w = .ok (.func (.func 78) #[] #[]) w := fun _ => by kernel_rfl
  have ha := Pl.wd_bd a
  have hb := Pl.wd_bd b
  have hs : 0 ≤ Pl.wd b % 32 := by omega
  have hk : (Pl.wd b % 32).toNat ≤ 31 := by omega
  have HK : Hid ((Pl.wd b % 32).toNat ≤ 31) := hk
  clear hk
  go_enter Try.func32, Try.ntmps32
  go_wp2_with (first | (go_at_call 63; refine (operations_any _).mono ?_; rintro e w1 ⟨rfl, rfl⟩) | (go_at_call 16; refine (implWord_any _ _).mono ?_; rintro e w1 ⟨rfl, rfl⟩) | (go_at_call 20; refine (implSigned_any _ _).mono ?_; rintro e w1 ⟨rfl, rfl⟩) | (go_at_call 79; refine (shiftBy_any _ _).mono ?_; rintro e w1 ⟨rfl, rfl⟩) | go_in)
  go_ret2
  exact ⟨ret2 (by rw [Pl.wd_wrap64]; exact Pl.shl_eq _ _ HK.out) rfl, (Below.refl _ _).alloc (Nat.le_refl _) _⟩
set_option maxHeartbeats 400000 in
theorem implAlu_4 (a b : Int) (w : World) : Calls Try.prog 32 #[.int .i64 4, .int .i64 a, .int .i64 b] w fun e w' => e = .returned (.tuple #[.int .i64 (Pl.al 4 (Pl.wd a) (Pl.wd b)), .bool true]) ∧ Below w.heap.size w w' := by
  have hi : ∀ w, (Instr.index 82 (.agg opsTab) (.int .i64 4)).run Try.prog w = .ok (.func (.func 80) #[] #[]) w := fun _ => by kernel_rfl
  have ha := Pl.wd_bd a
  have hb := Pl.wd_bd b
  have ha' := Pl.sg_bd (Pl.wd a)
  have hb' := Pl.sg_bd (Pl.wd b)
  by_cases h : Pl.sg (Pl.wd a) < Pl.sg (Pl.wd b)
  · go_enter Try.func32, Try.ntmps32
    go_wp2_with (first | (go_at_call 63; refine (operations_any _).mono ?_; rintro e w1 ⟨rfl, rfl⟩) | (go_at_call 16; refine (implWord_any _ _).mono ?_; rintro e w1 ⟨rfl, rfl⟩) | (go_at_call 20; refine (implSigned_any _ _).mono ?_; rintro e w1 ⟨rfl, rfl⟩) | (go_at_call 79; refine (shiftBy_any _ _).mono ?_; rintro e w1 ⟨rfl, rfl⟩) | go_in)
    go_ret2
    exact ⟨ret2 (by show _ = Pl.lt01 _ _; rw [Pl.lt01, if_pos h]; rfl) rfl, (Below.refl _ _).alloc (Nat.le_refl _) _⟩
  · go_enter Try.func32, Try.ntmps32
    go_wp2_with (first | (go_at_call 63; refine (operations_any _).mono ?_; rintro e w1 ⟨rfl, rfl⟩) | (go_at_call 16; refine (implWord_any _ _).mono ?_; rintro e w1 ⟨rfl, rfl⟩) | (go_at_call 20; refine (implSigned_any _ _).mono ?_; rintro e w1 ⟨rfl, rfl⟩) | (go_at_call 79; refine (shiftBy_any _ _).mono ?_; rintro e w1 ⟨rfl, rfl⟩) | go_in)
    go_ret2
    exact ⟨ret2 (by show _ = Pl.lt01 _ _; rw [Pl.lt01, if_neg (by omega)]; rfl) rfl, (Below.refl _ _).alloc (Nat.le_refl _) _⟩
set_option maxHeartbeats 400000 in
theorem implAlu_5 (a b : Int) (w : World) : Calls Try.prog 32 #[.int .i64 5, .int .i64 a, .int .i64 b] w fun e w' => e = .returned (.tuple #[.int .i64 (Pl.al 5 (Pl.wd a) (Pl.wd b)), .bool true]) ∧ Below w.heap.size w w' := by
  have hi : ∀ w, (Instr.index 82 (.agg opsTab) (.int .i64 5)).run Try.prog w = .ok (.func (.func 81) #[] #[]) w := fun _ => by kernel_rfl
  have ha := Pl.wd_bd a
  have hb := Pl.wd_bd b
  have ha' := Pl.sg_bd (Pl.wd a)
  have hb' := Pl.sg_bd (Pl.wd b)
  by_cases h : Pl.wd a < Pl.wd b
  · go_enter Try.func32, Try.ntmps32
    go_wp2_with (first | (go_at_call 63; refine (operations_any _).mono ?_; rintro e w1 ⟨rfl, rfl⟩) | (go_at_call 16; refine (implWord_any _ _).mono ?_; rintro e w1 ⟨rfl, rfl⟩) | (go_at_call 20; refine (implSigned_any _ _).mono ?_; rintro e w1 ⟨rfl, rfl⟩) | (go_at_call 79; refine (shiftBy_any _ _).mono ?_; rintro e w1 ⟨rfl, rfl⟩) | go_in)
    go_ret2
    exact ⟨ret2 (by show _ = Pl.lt01 _ _; rw [Pl.lt01, if_pos h]; rfl) rfl, (Below.refl _ _).alloc (Nat.le_refl _) _⟩
  · go_enter Try.func32, Try.ntmps32
    go_wp2_with (first | (go_at_call 63; refine (operations_any _).mono ?_; rintro e w1 ⟨rfl, rfl⟩) | (go_at_call 16; refine (implWord_any _ _).mono ?_; rintro e w1 ⟨rfl, rfl⟩) | (go_at_call 20; refine (implSigned_any _ _).mono ?_; rintro e w1 ⟨rfl, rfl⟩) | (go_at_call 79; refine (shiftBy_any _ _).mono ?_; rintro e w1 ⟨rfl, rfl⟩) | go_in)
    go_ret2
    exact ⟨ret2 (by show _ = Pl.lt01 _ _; rw [Pl.lt01, if_neg (by omega)]; rfl) rfl, (Below.refl _ _).alloc (Nat.le_refl _) _⟩
set_option maxHeartbeats 400000 in
theorem implAlu_6 (a b : Int) (w : World) : Calls Try.prog 32 #[.int .i64 6, .int .i64 a, .int .i64 b] w fun e w' => e = .returned (.tuple #[.int .i64 (Pl.al 6 (Pl.wd a) (Pl.wd b)), .bool true]) ∧ Below w.heap.size w w' := by
  have hi : ∀ w, (Instr.index 82 (.agg opsTab) (.int .i64 6)).run Try.prog w = .ok (.func (.func 82) #[] #[]) w := fun _ => by kernel_rfl
  have ha := Pl.wd_bd a
  have hb := Pl.wd_bd b
  go_enter Try.func32, Try.ntmps32
  go_wp2_with (first | (go_at_call 63; refine (operations_any _).mono ?_; rintro e w1 ⟨rfl, rfl⟩) | (go_at_call 16; refine (implWord_any _ _).mono ?_; rintro e w1 ⟨rfl, rfl⟩) | (go_at_call 20; refine (implSigned_any _ _).mono ?_; rintro e w1 ⟨rfl, rfl⟩) | (go_at_call 79; refine (shiftBy_any _ _).mono ?_; rintro e w1 ⟨rfl, rfl⟩) | go_in)
  go_ret2
  exact ⟨ret2 ((Pl.bits_int _ _ ha.1 ha.2 hb.1 hb.2).2.2) rfl, (Below.refl _ _).alloc (Nat.le_refl _) _⟩
set_option maxHeartbeats 400000 in
theorem implAlu_7 (a b : Int) (w : World) : Calls Try.prog 32 #[.int .i64 7, .int .i64 a, .int .i64 b] w fun e w' => e = .returned (.tuple #[.int .i64 (Pl.al 7 (Pl.wd a) (Pl.wd b)), .bool true]) ∧ Below w.heap.size w w' := by
  have hi : ∀ w, (Instr.index 82 (.agg opsTab) (.int .i64 7)).run Try.prog w = .ok (.func (.func 83) #[] #[]) w := fun _ => by kernel_rfl
  have ha := Pl.wd_bd a
  have hb := Pl.wd_bd b
  have hs : 0 ≤ Pl.wd b % 32 := by omega
  have hk : (Pl.wd b % 32).toNat ≤ 31 := by omega
  have HK : Hid ((Pl.wd b % 32).toNat ≤ 31) := hk
  clear hk
  go_enter Try.func32, Try.ntmps32
  go_wp2_with (first | (go_at_call 63; refine (operations_any _).mono ?_; rintro e w1 ⟨rfl, rfl⟩) | (go_at_call 16; refine (implWord_any _ _).mono ?_; rintro e w1 ⟨rfl, rfl⟩) | (go_at_call 20; refine (implSigned_any _ _).mono ?_; rintro e w1 ⟨rfl, rfl⟩) | (go_at_call 79; refine (shiftBy_any _ _).mono ?_; rintro e w1 ⟨rfl, rfl⟩) | go_in)
  go_ret2
  exact ⟨ret2 (by exact Pl.wd_word _ (Int.ediv_nonneg ha.1 (Int.le_of_lt (Pl.pw_pos _))) (Int.le_trans (Int.ediv_le_self _ ha.1) ha.2)) rfl, (Below.refl _ _).alloc (Nat.le_refl _) _⟩
set_option maxHeartbeats 400000 in
theorem implAlu_8 (a b : Int) (w : World) : Calls Try.prog 32 #[.int .i64 8, .int .i64 a, .int .i64 b] w fun e w' => e = .returned (.tuple #[.int .i64 (Pl.al 8 (Pl.wd a) (Pl.wd b)), .bool true]) ∧ Below w.heap.size w w' := by
  have hi : ∀ w, (Instr.index 82 (.agg opsTab) (.int .i64 8)).run Try.prog w = .ok (.func (.func 84) #[] #[]) w := fun _ => by kernel_rfl
  have ha := Pl.wd_bd a
  have hb := Pl.wd_bd b
  have ha' := Pl.sg_bd (Pl.wd a)
  have hb' := Pl.sg_bd (Pl.wd b)
  have hs : 0 ≤ Pl.wd b % 32 := by omega
  have hk : (Pl.wd b % 32).toNat ≤ 31 := by omega
  have HK : Hid ((Pl.wd b % 32).toNat ≤ 31) := hk
  clear hk
  go_enter Try.func32, Try.ntmps32
  go_wp2_with (first | (go_at_call 63; refine (operations_any _).mono ?_; rintro e w1 ⟨rfl, rfl⟩) | (go_at_call 16; refine (implWord_any _ _).mono ?_; rintro e w1 ⟨rfl, rfl⟩) | (go_at_call 20; refine (implSigned_any _ _).mono ?_; rintro e w1 ⟨rfl, rfl⟩) | (go_at_call 79; refine (shiftBy_any _ _).mono ?_; rintro e w1 ⟨rfl, rfl⟩) | go_in)
  go_ret2
  exact ⟨ret2 (rfl) rfl, (Below.refl _ _).alloc (Nat.le_refl _) _⟩
set_option maxHeartbeats 400000 in
theorem implAlu_9 (a b : Int) (w : World) : Calls Try.prog 32 #[.int .i64 9, .int .i64 a, .int .i64 b] w fun e w' => e = .returned (.tuple #[.int .i64 (Pl.al 9 (Pl.wd a) (Pl.wd b)), .bool true]) ∧ Below w.heap.size w w' := by
  have hi : ∀ w, (Instr.index 82 (.agg opsTab) (.int .i64 9)).run Try.prog w = .ok (.func (.func 85) #[] #[]) w := fun _ => by kernel_rfl
  have ha := Pl.wd_bd a
  have hb := Pl.wd_bd b
  go_enter Try.func32, Try.ntmps32
  go_wp2_with (first | (go_at_call 63; refine (operations_any _).mono ?_; rintro e w1 ⟨rfl, rfl⟩) | (go_at_call 16; refine (implWord_any _ _).mono ?_; rintro e w1 ⟨rfl, rfl⟩) | (go_at_call 20; refine (implSigned_any _ _).mono ?_; rintro e w1 ⟨rfl, rfl⟩) | (go_at_call 79; refine (shiftBy_any _ _).mono ?_; rintro e w1 ⟨rfl, rfl⟩) | go_in)
  go_ret2
  exact ⟨ret2 ((Pl.bits_int _ _ ha.1 ha.2 hb.1 hb.2).2.1) rfl, (Below.refl _ _).alloc (Nat.le_refl _) _⟩
end Go.Proofs.Ytmnlhienhfmhdaa.W
