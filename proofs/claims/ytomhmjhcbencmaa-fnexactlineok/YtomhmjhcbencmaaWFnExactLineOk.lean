import Derived.Test.YtomhmjhcbencmaaLnD0
import Derived.Test.YtomhmjhcbencmaaLnD1
import Derived.Test.YtomhmjhcbencmaaLnD2
import Derived.Test.YtomhmjhcbencmaaLnD3
import Derived.Test.YtomhmjhcbencmaaLnE0
import Derived.Test.YtomhmjhcbencmaaLnE1
import Derived.Test.YtomhmjhcbencmaaLnE2
import Derived.Test.YtomhmjhcbencmaaLnE3
import Derived.Test.YtomhmjhcbencmaaLnE4
import Derived.Test.YtomhmjhcbencmaaLnE5
import Derived.Test.YtomhmjhcbencmaaLnF
set_option linter.unusedVariables false
set_option linter.unusedSimpArgs false
namespace Go.Proofs.Ytomhmjhcbencmaa.W
open Go.RowKit
/-- both answer the same of every line -/
theorem lines_agree (k : Int) (op rd r1 r2 im n : Int) (s : ByteArray) : ∃ r : Bool, (∀ w : World, Calls Try.prog 29 #[.agg #[.int .i64 k, .int .i64 op, .int .i64 rd, .int .i64 r1, .int .i64 r2, .int .i64 im, .string s, .int .i64 n]] w fun e w' => e = .returned (.bool r) ∧ Below w.heap.size w w') ∧ (∀ w : World, Calls Try.prog 31 #[.agg #[.int .i64 k, .int .i64 op, .int .i64 rd, .int .i64 r1, .int .i64 r2, .int .i64 im, .string s, .int .i64 n]] w fun e w' => e = .returned (.bool r) ∧ Below w.heap.size w w') := by
  by_cases h : k < 1 ∨ 16 < k
  · exact ⟨false, specLine_no k h op rd r1 r2 im n s, implLine_no k h op rd r1 r2 im n s⟩
  have hk : k = 1 ∨ k = 2 ∨ k = 3 ∨ k = 4 ∨ k = 5 ∨ k = 6 ∨ k = 7 ∨ k = 8 ∨ k = 9 ∨ k = 10 ∨ k = 11 ∨ k = 12 ∨ k = 13 ∨ k = 14 ∨ k = 15 ∨ k = 16 := by omega
  rcases hk with rfl | rfl | rfl | rfl | rfl | rfl | rfl | rfl | rfl | rfl | rfl | rfl | rfl | rfl | rfl | rfl
  · exact ⟨_, specLine_1 op rd r1 r2 im n s, implLine_1 op rd r1 r2 im n s⟩
  · exact ⟨_, specLine_2 op rd r1 r2 im n s, implLine_2 op rd r1 r2 im n s⟩
  · exact ⟨_, specLine_3 op rd r1 r2 im n s, implLine_3 op rd r1 r2 im n s⟩
  · exact ⟨_, specLine_4 op rd r1 r2 im n s, implLine_4 op rd r1 r2 im n s⟩
  · exact ⟨_, specLine_5 op rd r1 r2 im n s, implLine_5 op rd r1 r2 im n s⟩
  · exact ⟨_, specLine_6 op rd r1 r2 im n s, implLine_6 op rd r1 r2 im n s⟩
  · exact ⟨_, specLine_7 op rd r1 r2 im n s, implLine_7 op rd r1 r2 im n s⟩
  · exact ⟨_, specLine_8 op rd r1 r2 im n s, implLine_8 op rd r1 r2 im n s⟩
  · exact ⟨_, specLine_9 op rd r1 r2 im n s, implLine_9 op rd r1 r2 im n s⟩
  · exact ⟨_, specLine_10 op rd r1 r2 im n s, implLine_10 op rd r1 r2 im n s⟩
  · exact ⟨_, specLine_11 op rd r1 r2 im n s, implLine_11 op rd r1 r2 im n s⟩
  · exact ⟨_, specLine_12 op rd r1 r2 im n s, implLine_12 op rd r1 r2 im n s⟩
  · exact ⟨_, specLine_13 op rd r1 r2 im n s, implLine_13 op rd r1 r2 im n s⟩
  · by_cases he : s.size = 0
    · exact ⟨_, specLine_14e op rd r1 r2 im n s he, implLine_14e op rd r1 r2 im n s he⟩
    · exact ⟨_, specLine_14n op rd r1 r2 im n s he, implLine_14n op rd r1 r2 im n s he⟩
  · exact ⟨_, specLine_15 op rd r1 r2 im n s, implLine_15 op rd r1 r2 im n s⟩
  · exact ⟨_, specLine_16 op rd r1 r2 im n s, implLine_16 op rd r1 r2 im n s⟩
theorem calls_at6 {P : Program} {f : Nat} {args : Array Value} {W : World} {Q : Ending → World → Prop} (h : ∀ U, U = W → Calls P f args U Q) : Calls P f args W Q := h W rfl
set_option maxHeartbeats 2000000 in
theorem fnExactLineOk_walk (k : Int) (op rd r1 r2 im n : Int) (s : ByteArray) (w : World) : Calls Try.prog 6 #[.agg #[.int .i64 k, .int .i64 op, .int .i64 rd, .int .i64 r1, .int .i64 r2, .int .i64 im, .string s, .int .i64 n]] w fun e w' => e = .returned (.bool true) ∧ Below w.heap.size w w' := by
  obtain ⟨r, hs, hi⟩ := lines_agree k op rd r1 r2 im n s
  have HSp : Hid (∀ w : World, Calls Try.prog 29 #[.agg #[.int .i64 k, .int .i64 op, .int .i64 rd, .int .i64 r1, .int .i64 r2, .int .i64 im, .string s, .int .i64 n]] w fun e w' => e = .returned (.bool r) ∧ Below w.heap.size w w') := hs
  have HIm : Hid (∀ w : World, Calls Try.prog 31 #[.agg #[.int .i64 k, .int .i64 op, .int .i64 rd, .int .i64 r1, .int .i64 r2, .int .i64 im, .string s, .int .i64 n]] w fun e w' => e = .returned (.bool r) ∧ Below w.heap.size w w') := hi
  clear hs hi
  have P : Hid ((w.alloc (.cells #[.int .i64 k, .int .i64 op, .int .i64 rd, .int .i64 r1, .int .i64 r2, .int .i64 im, .string s, .int .i64 n] 57)).heap[w.heap.size]? = some (.cells #[.int .i64 k, .int .i64 op, .int .i64 rd, .int .i64 r1, .int .i64 r2, .int .i64 im, .string s, .int .i64 n] 57)) := heap_alloc_new w _
  go_enter Try.func6, Try.ntmps6
  go_wp2_with (refine wpList_load_row rfl 57 _ rfl (w.heap.size) ?hx 57 #[.int .i64 k, .int .i64 op, .int .i64 rd, .int .i64 r1, .int .i64 r2, .int .i64 im, .string s, .int .i64 n] (0, 0) _ ?hg Try.underlying57 ?hd ?hi ?_; (case hx => rfl); (case hg => exact P.out); (case hd => rfl); (case hi => kernel_rfl))
  refine calls_at6 fun u0 hu0 => ?_
  rw [← hu0] at P
  have P0 : Hid (u0.heap[w.heap.size]? = some (.cells #[.int .i64 k, .int .i64 op, .int .i64 rd, .int .i64 r1, .int .i64 r2, .int .i64 im, .string s, .int .i64 n] 57)) := P.out
  have B0 : Hid (Below w.heap.size w u0) := by show Below w.heap.size w u0; rw [hu0]; exact (Below.refl _ _).alloc (Nat.le_refl _) _
  have Z0 : Hid (w.heap.size < u0.heap.size) := by show w.heap.size < u0.heap.size; rw [hu0]; simp
  clear hu0 P
  refine (szLine_any _ _ _ _ _ _ _ _ _).mono ?_
  rintro e u1 ⟨z, rfl, d1⟩
  have P1 : Hid (u1.heap[w.heap.size]? = some (.cells #[.int .i64 k, .int .i64 op, .int .i64 rd, .int .i64 r1, .int .i64 r2, .int .i64 im, .string s, .int .i64 n] 57)) := (d1.block _ Z0.out).trans P0.out
  have B1 : Hid (Below w.heap.size w u1) := B0.out.trans (d1.mono (Nat.le_of_lt Z0.out))
  have Z1 : Hid (w.heap.size < u1.heap.size) := Nat.lt_of_lt_of_le Z0.out d1.size
  clear d1 P0 B0 Z0
  by_cases hz : z < 0
  · go_wp2
    go_ret
    exact ⟨rfl, B1.out⟩
  go_wp2_with (refine wpList_load_row rfl 57 _ rfl (w.heap.size) ?hx 57 #[.int .i64 k, .int .i64 op, .int .i64 rd, .int .i64 r1, .int .i64 r2, .int .i64 im, .string s, .int .i64 n] (0, 0) _ ?hg Try.underlying57 ?hd ?hi ?_; (case hx => rfl); (case hg => exact P1.out); (case hd => rfl); (case hi => kernel_rfl))
  refine (toLine_any _ _ _ _ _ _ _ _ _).mono ?_
  rintro e u2 ⟨rfl, d2⟩
  have P2 : Hid (u2.heap[w.heap.size]? = some (.cells #[.int .i64 k, .int .i64 op, .int .i64 rd, .int .i64 r1, .int .i64 r2, .int .i64 im, .string s, .int .i64 n] 57)) := (d2.block _ Z1.out).trans P1.out
  have B2 : Hid (Below w.heap.size w u2) := B1.out.trans (d2.mono (Nat.le_of_lt Z1.out))
  have Z2 : Hid (w.heap.size < u2.heap.size) := Nat.lt_of_lt_of_le Z1.out d2.size
  clear d2 P1 B1 Z1
  go_wp2_with fail
  refine (HSp.out _).mono ?_
  rintro e u3 ⟨rfl, d3⟩
  have P3 : Hid (u3.heap[w.heap.size]? = some (.cells #[.int .i64 k, .int .i64 op, .int .i64 rd, .int .i64 r1, .int .i64 r2, .int .i64 im, .string s, .int .i64 n] 57)) := (d3.block _ Z2.out).trans P2.out
  have B3 : Hid (Below w.heap.size w u3) := B2.out.trans (d3.mono (Nat.le_of_lt Z2.out))
  have Z3 : Hid (w.heap.size < u3.heap.size) := Nat.lt_of_lt_of_le Z2.out d3.size
  clear d3 P2 B2 Z2
  go_wp2_with (refine wpList_load_row rfl 57 _ rfl (w.heap.size) ?hx 57 #[.int .i64 k, .int .i64 op, .int .i64 rd, .int .i64 r1, .int .i64 r2, .int .i64 im, .string s, .int .i64 n] (0, 0) _ ?hg Try.underlying57 ?hd ?hi ?_; (case hx => rfl); (case hg => exact P3.out); (case hd => rfl); (case hi => kernel_rfl))
  refine (toLine_any _ _ _ _ _ _ _ _ _).mono ?_
  rintro e u4 ⟨rfl, d4⟩
  have P4 : Hid (u4.heap[w.heap.size]? = some (.cells #[.int .i64 k, .int .i64 op, .int .i64 rd, .int .i64 r1, .int .i64 r2, .int .i64 im, .string s, .int .i64 n] 57)) := (d4.block _ Z3.out).trans P3.out
  have B4 : Hid (Below w.heap.size w u4) := B3.out.trans (d4.mono (Nat.le_of_lt Z3.out))
  have Z4 : Hid (w.heap.size < u4.heap.size) := Nat.lt_of_lt_of_le Z3.out d4.size
  clear d4 P3 B3 Z3
  go_wp2_with fail
  refine (HIm.out _).mono ?_
  rintro e u5 ⟨rfl, d5⟩
  have P5 : Hid (u5.heap[w.heap.size]? = some (.cells #[.int .i64 k, .int .i64 op, .int .i64 rd, .int .i64 r1, .int .i64 r2, .int .i64 im, .string s, .int .i64 n] 57)) := (d5.block _ Z4.out).trans P4.out
  have B5 : Hid (Below w.heap.size w u5) := B4.out.trans (d5.mono (Nat.le_of_lt Z4.out))
  have Z5 : Hid (w.heap.size < u5.heap.size) := Nat.lt_of_lt_of_le Z4.out d5.size
  clear d5 P4 B4 Z4
  cases r
  all_goals
    go_wp2
    go_ret
    exact ⟨rfl, B5.out⟩
end Go.Proofs.Ytomhmjhcbencmaa.W
