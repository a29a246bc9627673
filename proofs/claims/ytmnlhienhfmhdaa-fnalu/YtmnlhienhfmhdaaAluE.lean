import Derived.Test.YtmnlhienhfmhdaaAluB
import Derived.Test.YtmnlhienhfmhdaaAluD
namespace Go.Proofs.Ytmnlhienhfmhdaa.W
open Go.RowKit
theorem op_cases (n : Int) (h1 : 1 ≤ n) (h2 : n ≤ 18) : n = 1 ∨ n = 2 ∨ n = 3 ∨ n = 4 ∨ n = 5 ∨ n = 6 ∨ n = 7 ∨ n = 8 ∨ n = 9 ∨ n = 10 ∨ n = 11 ∨ n = 12 ∨ n = 13 ∨ n = 14 ∨ n = 15 ∨ n = 16 ∨ n = 17 ∨ n = 18 := by omega
theorem implAlu_yes (n a b : Int) (h1 : 1 ≤ n) (h2 : n ≤ 18) (w : World) : Calls Try.prog 32 #[.int .i64 n, .int .i64 a, .int .i64 b] w fun e w' => e = .returned (.tuple #[.int .i64 (Pl.al n.toNat (Pl.wd a) (Pl.wd b)), .bool true]) ∧ Below w.heap.size w w' := by
  rcases op_cases n h1 h2 with rfl | rfl | rfl | rfl | rfl | rfl | rfl | rfl | rfl | rfl | rfl | rfl | rfl | rfl | rfl | rfl | rfl | rfl
  · exact implAlu_1 a b w
  · exact implAlu_2 a b w
  · exact implAlu_3 a b w
  · exact implAlu_4 a b w
  · exact implAlu_5 a b w
  · exact implAlu_6 a b w
  · exact implAlu_7 a b w
  · exact implAlu_8 a b w
  · exact implAlu_9 a b w
  · exact implAlu_10 a b w
  · exact implAlu_11 a b w
  · exact implAlu_12 a b w
  · exact implAlu_13 a b w
  · exact implAlu_14 a b w
  · exact implAlu_15 a b w
  · exact implAlu_16 a b w
  · exact implAlu_17 a b w
  · exact implAlu_18 a b w
theorem specAlu_yes (n a b : Int) (h1 : 1 ≤ n) (h2 : n ≤ 18) (w : World) : Calls Try.prog 31 #[.int .i64 n, .int .i64 a, .int .i64 b] w fun e w' => e = .returned (.tuple #[.int .i64 (Pl.al n.toNat (Pl.wd a) (Pl.wd b)), .bool true]) ∧ ∃ m, w' = w.drewN m := by
  rcases op_cases n h1 h2 with rfl | rfl | rfl | rfl | rfl | rfl | rfl | rfl | rfl | rfl | rfl | rfl | rfl | rfl | rfl | rfl | rfl | rfl
  · exact specAlu_1 a b w
  · exact specAlu_2 a b w
  · exact specAlu_3 a b w
  · exact specAlu_4 a b w
  · exact specAlu_5 a b w
  · exact specAlu_6 a b w
  · exact specAlu_7 a b w
  · exact specAlu_8 a b w
  · exact specAlu_9 a b w
  · exact specAlu_10 a b w
  · exact specAlu_11 a b w
  · exact specAlu_12 a b w
  · exact specAlu_13 a b w
  · exact specAlu_14 a b w
  · exact specAlu_15 a b w
  · exact specAlu_16 a b w
  · exact specAlu_17 a b w
  · exact specAlu_18 a b w
theorem below_drewN {B : Nat} {a w : World} (h : Below B a w) (m : Nat) : Below B a (w.drewN m) := ⟨h.os, h.tape, h.output, h.size, h.block⟩
end Go.Proofs.Ytmnlhienhfmhdaa.W
