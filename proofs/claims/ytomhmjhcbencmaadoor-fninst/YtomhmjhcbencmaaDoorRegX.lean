import Derived.Test.YtomhmjhcbencmaaDoorKeys
import Derived.Maps.OwnSet
namespace Go.Proofs.YtomhmjhcbencmaaDoor.Pl
open Go
def dcm (k : Nat) : List UInt8 := if k < 10 then [UInt8.ofNat (48 + k)] else [UInt8.ofNat (48 + k / 10), UInt8.ofNat (48 + k % 10)]
def dn (k : Nat) : ByteArray := ⟨(dcm k).toArray⟩
def xn (k : Nat) : ByteArray := ⟨(120 :: dcm k).toArray⟩
theorem case32 (k : Nat) (h : k < 32) : k = 0 ∨ k = 1 ∨ k = 2 ∨ k = 3 ∨ k = 4 ∨ k = 5 ∨ k = 6 ∨ k = 7 ∨ k = 8 ∨ k = 9 ∨ k = 10 ∨ k = 11 ∨ k = 12 ∨ k = 13 ∨ k = 14 ∨ k = 15 ∨ k = 16 ∨ k = 17 ∨ k = 18 ∨ k = 19 ∨ k = 20 ∨ k = 21 ∨ k = 22 ∨ k = 23 ∨ k = 24 ∨ k = 25 ∨ k = 26 ∨ k = 27 ∨ k = 28 ∨ k = 29 ∨ k = 30 ∨ k = 31 := by omega
end Go.Proofs.YtomhmjhcbencmaaDoor.Pl
namespace Go.Proofs.YtomhmjhcbencmaaDoor.W
open Go.RowKit
theorem ret_str {a b : ByteArray} (h : a = b) : Ending.returned (.string a) = .returned (.string b) := by rw [h]
set_option maxRecDepth 20000 in
set_option maxHeartbeats 1000000 in
theorem small_any (k : Nat) (h : k < 32) (w : World) : Calls Tryd.prog 99 #[.int .i64 (k : Int)] w fun e w' => e = .returned (.string (Pl.dn k)) ∧ w' = w := by
  rcases Pl.case32 k h with rfl | rfl | rfl | rfl | rfl | rfl | rfl | rfl | rfl | rfl | rfl | rfl | rfl | rfl | rfl | rfl | rfl | rfl | rfl | rfl | rfl | rfl | rfl | rfl | rfl | rfl | rfl | rfl | rfl | rfl | rfl | rfl
  all_goals
    go_enter Tryd.func99, Tryd.ntmps99
    go_wp2
    go_ret
    refine ⟨ret_str ?_, rfl⟩
    kernel_rfl
theorem itoa_any (k : Nat) (h : k < 32) (w : World) : Calls Tryd.prog 62 #[.int .i64 (k : Int)] w fun e w' => e = .returned (.string (Pl.dn k)) ∧ w' = w := by
  go_enter Tryd.func62, Tryd.ntmps62
  go_wp2_with (first | (go_at_call 99; refine (small_any k h _).mono ?_; rintro e w' ⟨rfl, rfl⟩) | go_in)
  go_ret
  exact ⟨rfl, rfl⟩
theorem conv0 (w : World) (v : Int) (_h : 0 ≤ v ∧ v ≤ 255) : (convert 22 9 (.slice (some ⟨w.heap.size, 0, none⟩) 1 1)).run Tryd.prog (w.alloc (.cells #[.int .u8 v] 5)) = .ok (.string ⟨#[UInt8.ofNat v.toNat]⟩) (w.alloc (.cells #[.int .u8 v] 5)) :=
  run_convert_bytes_arg _ 22 5 Tryd.underlying22 Tryd.underlying5 w.heap.size 0 1 1 [v] rfl (fun i hi => by
    obtain rfl : i = 0 := by omega
    rw [cell_of_row _ _ _ #[.int .u8 v] 5 (0, 0) (heap_alloc_new w _)]; rfl) 9 Tryd.underlying9
theorem conv1 (w : World) (o : Obj) (v : Int) (h : 0 ≤ v ∧ v ≤ 255) : (convert 22 9 (.slice (some ⟨w.heap.size + 1, 0, none⟩) 1 1)).run Tryd.prog ((w.alloc o).alloc (.cells #[.int .u8 v] 5)) = .ok (.string ⟨#[UInt8.ofNat v.toNat]⟩) ((w.alloc o).alloc (.cells #[.int .u8 v] 5)) := by
  have h' := conv0 (w.alloc o) v h
  have e : (w.alloc o).heap.size = w.heap.size + 1 := by simp
  rw [e] at h'; exact h'
set_option maxHeartbeats 400000 in
theorem dec_0 (w : World) : Calls Tryd.prog 70 #[.int .i64 0] w fun e w' => e = .returned (.string (Pl.dn 0)) ∧ Below w.heap.size w w' := by
  have c0 := conv0 w 48 (by decide)
  go_enter Tryd.func70, Tryd.ntmps70
  go_wp2
  refine wp_loop_rounds 1 ?_
  rw [rounds_succ]
  go_wp2
  go_ret
  refine ⟨ret_str ?_, (Below.refl _ _).alloc (Nat.le_refl _) _⟩
  kernel_rfl
set_option maxHeartbeats 400000 in
theorem dec_1 (w : World) : Calls Tryd.prog 70 #[.int .i64 1] w fun e w' => e = .returned (.string (Pl.dn 1)) ∧ Below w.heap.size w w' := by
  have c0 := conv0 w 49 (by decide)
  go_enter Tryd.func70, Tryd.ntmps70
  go_wp2
  refine wp_loop_rounds 1 ?_
  rw [rounds_succ]
  go_wp2
  go_ret
  refine ⟨ret_str ?_, (Below.refl _ _).alloc (Nat.le_refl _) _⟩
  kernel_rfl
set_option maxHeartbeats 400000 in
theorem dec_2 (w : World) : Calls Tryd.prog 70 #[.int .i64 2] w fun e w' => e = .returned (.string (Pl.dn 2)) ∧ Below w.heap.size w w' := by
  have c0 := conv0 w 50 (by decide)
  go_enter Tryd.func70, Tryd.ntmps70
  go_wp2
  refine wp_loop_rounds 1 ?_
  rw [rounds_succ]
  go_wp2
  go_ret
  refine ⟨ret_str ?_, (Below.refl _ _).alloc (Nat.le_refl _) _⟩
  kernel_rfl
set_option maxHeartbeats 400000 in
theorem dec_3 (w : World) : Calls Tryd.prog 70 #[.int .i64 3] w fun e w' => e = .returned (.string (Pl.dn 3)) ∧ Below w.heap.size w w' := by
  have c0 := conv0 w 51 (by decide)
  go_enter Tryd.func70, Tryd.ntmps70
  go_wp2
  refine wp_loop_rounds 1 ?_
  rw [rounds_succ]
  go_wp2
  go_ret
  refine ⟨ret_str ?_, (Below.refl _ _).alloc (Nat.le_refl _) _⟩
  kernel_rfl
set_option maxHeartbeats 400000 in
theorem dec_4 (w : World) : Calls Tryd.prog 70 #[.int .i64 4] w fun e w' => e = .returned (.string (Pl.dn 4)) ∧ Below w.heap.size w w' := by
  have c0 := conv0 w 52 (by decide)
  go_enter Tryd.func70, Tryd.ntmps70
  go_wp2
  refine wp_loop_rounds 1 ?_
  rw [rounds_succ]
  go_wp2
  go_ret
  refine ⟨ret_str ?_, (Below.refl _ _).alloc (Nat.le_refl _) _⟩
  kernel_rfl
set_option maxHeartbeats 400000 in
theorem dec_5 (w : World) : Calls Tryd.prog 70 #[.int .i64 5] w fun e w' => e = .returned (.string (Pl.dn 5)) ∧ Below w.heap.size w w' := by
  have c0 := conv0 w 53 (by decide)
  go_enter Tryd.func70, Tryd.ntmps70
  go_wp2
  refine wp_loop_rounds 1 ?_
  rw [rounds_succ]
  go_wp2
  go_ret
  refine ⟨ret_str ?_, (Below.refl _ _).alloc (Nat.le_refl _) _⟩
  kernel_rfl
set_option maxHeartbeats 400000 in
theorem dec_6 (w : World) : Calls Tryd.prog 70 #[.int .i64 6] w fun e w' => e = .returned (.string (Pl.dn 6)) ∧ Below w.heap.size w w' := by
  have c0 := conv0 w 54 (by decide)
  go_enter Tryd.func70, Tryd.ntmps70
  go_wp2
  refine wp_loop_rounds 1 ?_
  rw [rounds_succ]
  go_wp2
  go_ret
  refine ⟨ret_str ?_, (Below.refl _ _).alloc (Nat.le_refl _) _⟩
  kernel_rfl
set_option maxHeartbeats 400000 in
theorem dec_7 (w : World) : Calls Tryd.prog 70 #[.int .i64 7] w fun e w' => e = .returned (.string (Pl.dn 7)) ∧ Below w.heap.size w w' := by
  have c0 := conv0 w 55 (by decide)
  go_enter Tryd.func70, Tryd.ntmps70
  go_wp2
  refine wp_loop_rounds 1 ?_
  rw [rounds_succ]
  go_wp2
  go_ret
  refine ⟨ret_str ?_, (Below.refl _ _).alloc (Nat.le_refl _) _⟩
  kernel_rfl
set_option maxHeartbeats 400000 in
theorem dec_8 (w : World) : Calls Tryd.prog 70 #[.int .i64 8] w fun e w' => e = .returned (.string (Pl.dn 8)) ∧ Below w.heap.size w w' := by
  have c0 := conv0 w 56 (by decide)
  go_enter Tryd.func70, Tryd.ntmps70
  go_wp2
  refine wp_loop_rounds 1 ?_
  rw [rounds_succ]
  go_wp2
  go_ret
  refine ⟨ret_str ?_, (Below.refl _ _).alloc (Nat.le_refl _) _⟩
  kernel_rfl
set_option maxHeartbeats 400000 in
theorem dec_9 (w : World) : Calls Tryd.prog 70 #[.int .i64 9] w fun e w' => e = .returned (.string (Pl.dn 9)) ∧ Below w.heap.size w w' := by
  have c0 := conv0 w 57 (by decide)
  go_enter Tryd.func70, Tryd.ntmps70
  go_wp2
  refine wp_loop_rounds 1 ?_
  rw [rounds_succ]
  go_wp2
  go_ret
  refine ⟨ret_str ?_, (Below.refl _ _).alloc (Nat.le_refl _) _⟩
  kernel_rfl
set_option maxHeartbeats 400000 in
theorem dec_10 (w : World) : Calls Tryd.prog 70 #[.int .i64 10] w fun e w' => e = .returned (.string (Pl.dn 10)) ∧ Below w.heap.size w w' := by
  have c0 := conv0 w 48 (by decide)
  have c1 := conv1 w (.cells #[.int .u8 48] 5) 49 (by decide)
  go_enter Tryd.func70, Tryd.ntmps70
  go_wp2
  refine wp_loop_rounds 2 ?_
  rw [rounds_succ]
  go_wp2
  rw [rounds_succ]
  go_wp2
  go_ret
  refine ⟨ret_str ?_, ((Below.refl _ _).alloc (Nat.le_refl _) _).alloc (by simp) _⟩
  kernel_rfl
set_option maxHeartbeats 400000 in
theorem dec_11 (w : World) : Calls Tryd.prog 70 #[.int .i64 11] w fun e w' => e = .returned (.string (Pl.dn 11)) ∧ Below w.heap.size w w' := by
  have c0 := conv0 w 49 (by decide)
  have c1 := conv1 w (.cells #[.int .u8 49] 5) 49 (by decide)
  go_enter Tryd.func70, Tryd.ntmps70
  go_wp2
  refine wp_loop_rounds 2 ?_
  rw [rounds_succ]
  go_wp2
  rw [rounds_succ]
  go_wp2
  go_ret
  refine ⟨ret_str ?_, ((Below.refl _ _).alloc (Nat.le_refl _) _).alloc (by simp) _⟩
  kernel_rfl
set_option maxHeartbeats 400000 in
theorem dec_12 (w : World) : Calls Tryd.prog 70 #[.int .i64 12] w fun e w' => e = .returned (.string (Pl.dn 12)) ∧ Below w.heap.size w w' := by
  have c0 := conv0 w 50 (by decide)
  have c1 := conv1 w (.cells #[.int .u8 50] 5) 49 (by decide)
  go_enter Tryd.func70, Tryd.ntmps70
  go_wp2
  refine wp_loop_rounds 2 ?_
  rw [rounds_succ]
  go_wp2
  rw [rounds_succ]
  go_wp2
  go_ret
  refine ⟨ret_str ?_, ((Below.refl _ _).alloc (Nat.le_refl _) _).alloc (by simp) _⟩
  kernel_rfl
set_option maxHeartbeats 400000 in
theorem dec_13 (w : World) : Calls Tryd.prog 70 #[.int .i64 13] w fun e w' => e = .returned (.string (Pl.dn 13)) ∧ Below w.heap.size w w' := by
  have c0 := conv0 w 51 (by decide)
  have c1 := conv1 w (.cells #[.int .u8 51] 5) 49 (by decide)
  go_enter Tryd.func70, Tryd.ntmps70
  go_wp2
  refine wp_loop_rounds 2 ?_
  rw [rounds_succ]
  go_wp2
  rw [rounds_succ]
  go_wp2
  go_ret
  refine ⟨ret_str ?_, ((Below.refl _ _).alloc (Nat.le_refl _) _).alloc (by simp) _⟩
  kernel_rfl
set_option maxHeartbeats 400000 in
theorem dec_14 (w : World) : Calls Tryd.prog 70 #[.int .i64 14] w fun e w' => e = .returned (.string (Pl.dn 14)) ∧ Below w.heap.size w w' := by
  have c0 := conv0 w 52 (by decide)
  have c1 := conv1 w (.cells #[.int .u8 52] 5) 49 (by decide)
  go_enter Tryd.func70, Tryd.ntmps70
  go_wp2
  refine wp_loop_rounds 2 ?_
  rw [rounds_succ]
  go_wp2
  rw [rounds_succ]
  go_wp2
  go_ret
  refine ⟨ret_str ?_, ((Below.refl _ _).alloc (Nat.le_refl _) _).alloc (by simp) _⟩
  kernel_rfl
set_option maxHeartbeats 400000 in
theorem dec_15 (w : World) : Calls Tryd.prog 70 #[.int .i64 15] w fun e w' => e = .returned (.string (Pl.dn 15)) ∧ Below w.heap.size w w' := by
  have c0 := conv0 w 53 (by decide)
  have c1 := conv1 w (.cells #[.int .u8 53] 5) 49 (by decide)
  go_enter Tryd.func70, Tryd.ntmps70
  go_wp2
  refine wp_loop_rounds 2 ?_
  rw [rounds_succ]
  go_wp2
  rw [rounds_succ]
  go_wp2
  go_ret
  refine ⟨ret_str ?_, ((Below.refl _ _).alloc (Nat.le_refl _) _).alloc (by simp) _⟩
  kernel_rfl
set_option maxHeartbeats 400000 in
theorem dec_16 (w : World) : Calls Tryd.prog 70 #[.int .i64 16] w fun e w' => e = .returned (.string (Pl.dn 16)) ∧ Below w.heap.size w w' := by
  have c0 := conv0 w 54 (by decide)
  have c1 := conv1 w (.cells #[.int .u8 54] 5) 49 (by decide)
  go_enter Tryd.func70, Tryd.ntmps70
  go_wp2
  refine wp_loop_rounds 2 ?_
  rw [rounds_succ]
  go_wp2
  rw [rounds_succ]
  go_wp2
  go_ret
  refine ⟨ret_str ?_, ((Below.refl _ _).alloc (Nat.le_refl _) _).alloc (by simp) _⟩
  kernel_rfl
set_option maxHeartbeats 400000 in
theorem dec_17 (w : World) : Calls Tryd.prog 70 #[.int .i64 17] w fun e w' => e = .returned (.string (Pl.dn 17)) ∧ Below w.heap.size w w' := by
  have c0 := conv0 w 55 (by decide)
  have c1 := conv1 w (.cells #[.int .u8 55] 5) 49 (by decide)
  go_enter Tryd.func70, Tryd.ntmps70
  go_wp2
  refine wp_loop_rounds 2 ?_
  rw [rounds_succ]
  go_wp2
  rw [rounds_succ]
  go_wp2
  go_ret
  refine ⟨ret_str ?_, ((Below.refl _ _).alloc (Nat.le_refl _) _).alloc (by simp) _⟩
  kernel_rfl
set_option maxHeartbeats 400000 in
theorem dec_18 (w : World) : Calls Tryd.prog 70 #[.int .i64 18] w fun e w' => e = .returned (.string (Pl.dn 18)) ∧ Below w.heap.size w w' := by
  have c0 := conv0 w 56 (by decide)
  have c1 := conv1 w (.cells #[.int .u8 56] 5) 49 (by decide)
  go_enter Tryd.func70, Tryd.ntmps70
  go_wp2
  refine wp_loop_rounds 2 ?_
  rw [rounds_succ]
  go_wp2
  rw [rounds_succ]
  go_wp2
  go_ret
  refine ⟨ret_str ?_, ((Below.refl _ _).alloc (Nat.le_refl _) _).alloc (by simp) _⟩
  kernel_rfl
set_option maxHeartbeats 400000 in
theorem dec_19 (w : World) : Calls Tryd.prog 70 #[.int .i64 19] w fun e w' => e = .returned (.string (Pl.dn 19)) ∧ Below w.heap.size w w' := by
  have c0 := conv0 w 57 (by decide)
  have c1 := conv1 w (.cells #[.int .u8 57] 5) 49 (by decide)
  go_enter Tryd.func70, Tryd.ntmps70
  go_wp2
  refine wp_loop_rounds 2 ?_
  rw [rounds_succ]
  go_wp2
  rw [rounds_succ]
  go_wp2
  go_ret
  refine ⟨ret_str ?_, ((Below.refl _ _).alloc (Nat.le_refl _) _).alloc (by simp) _⟩
  kernel_rfl
set_option maxHeartbeats 400000 in
theorem dec_20 (w : World) : Calls Tryd.prog 70 #[.int .i64 20] w fun e w' => e = .returned (.string (Pl.dn 20)) ∧ Below w.heap.size w w' := by
  have c0 := conv0 w 48 (by decide)
  have c1 := conv1 w (.cells #[.int .u8 48] 5) 50 (by decide)
  go_enter Tryd.func70, Tryd.ntmps70
  go_wp2
  refine wp_loop_rounds 2 ?_
  rw [rounds_succ]
  go_wp2
  rw [rounds_succ]
  go_wp2
  go_ret
  refine ⟨ret_str ?_, ((Below.refl _ _).alloc (Nat.le_refl _) _).alloc (by simp) _⟩
  kernel_rfl
set_option maxHeartbeats 400000 in
theorem dec_21 (w : World) : Calls Tryd.prog 70 #[.int .i64 21] w fun e w' => e = .returned (.string (Pl.dn 21)) ∧ Below w.heap.size w w' := by
  have c0 := conv0 w 49 (by decide)
  have c1 := conv1 w (.cells #[.int .u8 49] 5) 50 (by decide)
  go_enter Tryd.func70, Tryd.ntmps70
  go_wp2
  refine wp_loop_rounds 2 ?_
  rw [rounds_succ]
  go_wp2
  rw [rounds_succ]
  go_wp2
  go_ret
  refine ⟨ret_str ?_, ((Below.refl _ _).alloc (Nat.le_refl _) _).alloc (by simp) _⟩
  kernel_rfl
set_option maxHeartbeats 400000 in
theorem dec_22 (w : World) : Calls Tryd.prog 70 #[.int .i64 22] w fun e w' => e = .returned (.string (Pl.dn 22)) ∧ Below w.heap.size w w' := by
  have c0 := conv0 w 50 (by decide)
  have c1 := conv1 w (.cells #[.int .u8 50] 5) 50 (by decide)
  go_enter Tryd.func70, Tryd.ntmps70
  go_wp2
  refine wp_loop_rounds 2 ?_
  rw [rounds_succ]
  go_wp2
  rw [rounds_succ]
  go_wp2
  go_ret
  refine ⟨ret_str ?_, ((Below.refl _ _).alloc (Nat.le_refl _) _).alloc (by simp) _⟩
  kernel_rfl
set_option maxHeartbeats 400000 in
theorem dec_23 (w : World) : Calls Tryd.prog 70 #[.int .i64 23] w fun e w' => e = .returned (.string (Pl.dn 23)) ∧ Below w.heap.size w w' := by
  have c0 := conv0 w 51 (by decide)
  have c1 := conv1 w (.cells #[.int .u8 51] 5) 50 (by decide)
  go_enter Tryd.func70, Tryd.ntmps70
  go_wp2
  refine wp_loop_rounds 2 ?_
  rw [rounds_succ]
  go_wp2
  rw [rounds_succ]
  go_wp2
  go_ret
  refine ⟨ret_str ?_, ((Below.refl _ _).alloc (Nat.le_refl _) _).alloc (by simp) _⟩
  kernel_rfl
set_option maxHeartbeats 400000 in
theorem dec_24 (w : World) : Calls Tryd.prog 70 #[.int .i64 24] w fun e w' => e = .returned (.string (Pl.dn 24)) ∧ Below w.heap.size w w' := by
  have c0 := conv0 w 52 (by decide)
  have c1 := conv1 w (.cells #[.int .u8 52] 5) 50 (by decide)
  go_enter Tryd.func70, Tryd.ntmps70
  go_wp2
  refine wp_loop_rounds 2 ?_
  rw [rounds_succ]
  go_wp2
  rw [rounds_succ]
  go_wp2
  go_ret
  refine ⟨ret_str ?_, ((Below.refl _ _).alloc (Nat.le_refl _) _).alloc (by simp) _⟩
  kernel_rfl
set_option maxHeartbeats 400000 in
theorem dec_25 (w : World) : Calls Tryd.prog 70 #[.int .i64 25] w fun e w' => e = .returned (.string (Pl.dn 25)) ∧ Below w.heap.size w w' := by
  have c0 := conv0 w 53 (by decide)
  have c1 := conv1 w (.cells #[.int .u8 53] 5) 50 (by decide)
  go_enter Tryd.func70, Tryd.ntmps70
  go_wp2
  refine wp_loop_rounds 2 ?_
  rw [rounds_succ]
  go_wp2
  rw [rounds_succ]
  go_wp2
  go_ret
  refine ⟨ret_str ?_, ((Below.refl _ _).alloc (Nat.le_refl _) _).alloc (by simp) _⟩
  kernel_rfl
set_option maxHeartbeats 400000 in
theorem dec_26 (w : World) : Calls Tryd.prog 70 #[.int .i64 26] w fun e w' => e = .returned (.string (Pl.dn 26)) ∧ Below w.heap.size w w' := by
  have c0 := conv0 w 54 (by decide)
  have c1 := conv1 w (.cells #[.int .u8 54] 5) 50 (by decide)
  go_enter Tryd.func70, Tryd.ntmps70
  go_wp2
  refine wp_loop_rounds 2 ?_
  rw [rounds_succ]
  go_wp2
  rw [rounds_succ]
  go_wp2
  go_ret
  refine ⟨ret_str ?_, ((Below.refl _ _).alloc (Nat.le_refl _) _).alloc (by simp) _⟩
  kernel_rfl
set_option maxHeartbeats 400000 in
theorem dec_27 (w : World) : Calls Tryd.prog 70 #[.int .i64 27] w fun e w' => e = .returned (.string (Pl.dn 27)) ∧ Below w.heap.size w w' := by
  have c0 := conv0 w 55 (by decide)
  have c1 := conv1 w (.cells #[.int .u8 55] 5) 50 (by decide)
  go_enter Tryd.func70, Tryd.ntmps70
  go_wp2
  refine wp_loop_rounds 2 ?_
  rw [rounds_succ]
  go_wp2
  rw [rounds_succ]
  go_wp2
  go_ret
  refine ⟨ret_str ?_, ((Below.refl _ _).alloc (Nat.le_refl _) _).alloc (by simp) _⟩
  kernel_rfl
set_option maxHeartbeats 400000 in
theorem dec_28 (w : World) : Calls Tryd.prog 70 #[.int .i64 28] w fun e w' => e = .returned (.string (Pl.dn 28)) ∧ Below w.heap.size w w' := by
  have c0 := conv0 w 56 (by decide)
  have c1 := conv1 w (.cells #[.int .u8 56] 5) 50 (by decide)
  go_enter Tryd.func70, Tryd.ntmps70
  go_wp2
  refine wp_loop_rounds 2 ?_
  rw [rounds_succ]
  go_wp2
  rw [rounds_succ]
  go_wp2
  go_ret
  refine ⟨ret_str ?_, ((Below.refl _ _).alloc (Nat.le_refl _) _).alloc (by simp) _⟩
  kernel_rfl
set_option maxHeartbeats 400000 in
theorem dec_29 (w : World) : Calls Tryd.prog 70 #[.int .i64 29] w fun e w' => e = .returned (.string (Pl.dn 29)) ∧ Below w.heap.size w w' := by
  have c0 := conv0 w 57 (by decide)
  have c1 := conv1 w (.cells #[.int .u8 57] 5) 50 (by decide)
  go_enter Tryd.func70, Tryd.ntmps70
  go_wp2
  refine wp_loop_rounds 2 ?_
  rw [rounds_succ]
  go_wp2
  rw [rounds_succ]
  go_wp2
  go_ret
  refine ⟨ret_str ?_, ((Below.refl _ _).alloc (Nat.le_refl _) _).alloc (by simp) _⟩
  kernel_rfl
set_option maxHeartbeats 400000 in
theorem dec_30 (w : World) : Calls Tryd.prog 70 #[.int .i64 30] w fun e w' => e = .returned (.string (Pl.dn 30)) ∧ Below w.heap.size w w' := by
  have c0 := conv0 w 48 (by decide)
  have c1 := conv1 w (.cells #[.int .u8 48] 5) 51 (by decide)
  go_enter Tryd.func70, Tryd.ntmps70
  go_wp2
  refine wp_loop_rounds 2 ?_
  rw [rounds_succ]
  go_wp2
  rw [rounds_succ]
  go_wp2
  go_ret
  refine ⟨ret_str ?_, ((Below.refl _ _).alloc (Nat.le_refl _) _).alloc (by simp) _⟩
  kernel_rfl
set_option maxHeartbeats 400000 in
theorem dec_31 (w : World) : Calls Tryd.prog 70 #[.int .i64 31] w fun e w' => e = .returned (.string (Pl.dn 31)) ∧ Below w.heap.size w w' := by
  have c0 := conv0 w 49 (by decide)
  have c1 := conv1 w (.cells #[.int .u8 49] 5) 51 (by decide)
  go_enter Tryd.func70, Tryd.ntmps70
  go_wp2
  refine wp_loop_rounds 2 ?_
  rw [rounds_succ]
  go_wp2
  rw [rounds_succ]
  go_wp2
  go_ret
  refine ⟨ret_str ?_, ((Below.refl _ _).alloc (Nat.le_refl _) _).alloc (by simp) _⟩
  kernel_rfl
theorem dec_any (k : Nat) (h : k < 32) (w : World) : Calls Tryd.prog 70 #[.int .i64 (k : Int)] w fun e w' => e = .returned (.string (Pl.dn k)) ∧ Below w.heap.size w w' := by
  rcases Pl.case32 k h with rfl | rfl | rfl | rfl | rfl | rfl | rfl | rfl | rfl | rfl | rfl | rfl | rfl | rfl | rfl | rfl | rfl | rfl | rfl | rfl | rfl | rfl | rfl | rfl | rfl | rfl | rfl | rfl | rfl | rfl | rfl | rfl
  · exact dec_0 w
  · exact dec_1 w
  · exact dec_2 w
  · exact dec_3 w
  · exact dec_4 w
  · exact dec_5 w
  · exact dec_6 w
  · exact dec_7 w
  · exact dec_8 w
  · exact dec_9 w
  · exact dec_10 w
  · exact dec_11 w
  · exact dec_12 w
  · exact dec_13 w
  · exact dec_14 w
  · exact dec_15 w
  · exact dec_16 w
  · exact dec_17 w
  · exact dec_18 w
  · exact dec_19 w
  · exact dec_20 w
  · exact dec_21 w
  · exact dec_22 w
  · exact dec_23 w
  · exact dec_24 w
  · exact dec_25 w
  · exact dec_26 w
  · exact dec_27 w
  · exact dec_28 w
  · exact dec_29 w
  · exact dec_30 w
  · exact dec_31 w
end Go.Proofs.YtomhmjhcbencmaaDoor.W
