import Derived.Test.YtcgfgmlfbgbkfaaGreatDoorL05
import Derived.Test.YtcgfgmlfbgbkfaaGreatDoorL01
import Derived.Laws.AppendOwnNone
import Derived.Lib.SliceRun
set_option linter.unusedVariables false
set_option linter.unusedSimpArgs false
namespace Go.Proofs.YtcgfgmlfbgbkfaaGreatDoor.W
open Go.RowKit
def stV (k : Nat) (x : Pl.IrI) (y : SV) : Value := match k with
  | 1 => .iface 151 (.agg #[.int .i64 x.d, .int .i64 x.n])
  | 2 => .iface 153 (.agg #[.int .i64 x.a, .int .i64 x.d])
  | 3 => .iface 155 (.agg #[.int .i64 x.a, .int .i64 x.b, .int .i64 x.d, .int .i64 x.n])
  | 4 => .iface 157 (.agg #[.int .i64 x.a, .int .i64 x.d, .int .i64 x.n])
  | 5 => .iface 158 (.agg #[.int .i64 x.a, .int .i64 x.d, .int .i64 x.n])
  | 6 => .iface 161 (.agg #[.int .i64 x.a, .int .i64 x.b, .int .i64 x.n])
  | 7 => .iface 163 (.agg #[.int .i64 x.d, .string x.sym, .int .i64 x.n])
  | 8 => .iface 165 (.agg #[.int .i64 x.d, .int .i64 x.n])
  | 9 => .iface 168 (.agg #[.int .i64 x.d, .string x.sym, .slice y.a y.len y.cap])
  | 10 => .iface 170 (.agg #[.int .i64 x.d, .int .i64 x.a, .slice y.a y.len y.cap])
  | 11 => .iface 172 (.agg #[.int .i64 x.n])
  | 12 => .iface 173 (.agg #[.int .i64 x.n])
  | 13 => .iface 175 (.agg #[.int .i64 x.a, .int .i64 x.b, .string x.sym, .int .i64 x.n])
  | 14 => .iface 177 (.agg #[.int .i64 x.a])
  | 15 => .iface 179 (.agg #[.int .i64 x.a, .int .i64 x.b, .int .i64 x.n])
  | 16 => .iface 181 (.agg #[.int .i64 x.a, .int .i64 x.n])
  | _ => .nilIface
set_option maxRecDepth 100000 in
set_option maxHeartbeats 8000000 in
theorem rs0_is (x : Pl.IrI) (y : SV) (g : Nat) (w : World) (hg : g = w.heap.size) (K : Act → World → Prop) (Q : Exit → Act → World → Prop)
    (hK : K { tmps := #[.agg #[.int .i64 x.op, .int .i64 x.d, .int .i64 x.a, .int .i64 x.b, .int .i64 x.n, .string x.sym, .slice y.a y.len y.cap], .pointer (some ⟨g, 0, none⟩), .nilIface, .bool false, undef, undef, undef, undef, undef, undef, undef, undef, undef, undef, undef, undef, undef, undef, undef, undef, undef, undef, undef, undef, undef, undef, undef, undef, undef, undef, undef, undef, undef, undef, undef, undef, undef, undef, undef, undef, undef, undef, undef, undef, undef, undef, undef, undef, undef, undef, undef, undef, undef, undef, undef, undef, undef, undef, undef, undef, undef, undef, undef, undef, undef, undef, undef, undef, undef, undef, undef, undef, undef, undef, undef, undef, undef, undef, undef, undef, undef, undef, undef, undef, undef, undef, undef, undef, undef, undef, undef, undef, undef, undef, undef, undef, undef, undef, undef, undef, undef, undef, undef, undef, undef, undef, undef, undef, undef, undef, undef, undef, undef, undef, undef, undef, undef, undef, undef, undef, undef, undef, undef, undef, undef, undef, undef, undef, undef, undef, undef, undef, undef, undef, undef, undef, undef, undef, undef, undef, undef, undef, undef], defers := [] } (w.alloc (.cells #[.int .i64 x.op, .int .i64 x.d, .int .i64 x.a, .int .i64 x.b, .int .i64 x.n, .string x.sym, .slice y.a y.len y.cap] 81))) :
    (rsC 0).wp Tryz.prog (Exit.then K Q) { tmps := #[.agg #[.int .i64 x.op, .int .i64 x.d, .int .i64 x.a, .int .i64 x.b, .int .i64 x.n, .string x.sym, .slice y.a y.len y.cap], undef, undef, undef, undef, undef, undef, undef, undef, undef, undef, undef, undef, undef, undef, undef, undef, undef, undef, undef, undef, undef, undef, undef, undef, undef, undef, undef, undef, undef, undef, undef, undef, undef, undef, undef, undef, undef, undef, undef, undef, undef, undef, undef, undef, undef, undef, undef, undef, undef, undef, undef, undef, undef, undef, undef, undef, undef, undef, undef, undef, undef, undef, undef, undef, undef, undef, undef, undef, undef, undef, undef, undef, undef, undef, undef, undef, undef, undef, undef, undef, undef, undef, undef, undef, undef, undef, undef, undef, undef, undef, undef, undef, undef, undef, undef, undef, undef, undef, undef, undef, undef, undef, undef, undef, undef, undef, undef, undef, undef, undef, undef, undef, undef, undef, undef, undef, undef, undef, undef, undef, undef, undef, undef, undef, undef, undef, undef, undef, undef, undef, undef, undef, undef, undef, undef, undef, undef, undef, undef, undef, undef, undef], defers := [] } w := by
  subst hg
  have HKt : Hid _ := hK
  clear hK
  conv => arg 2; whnf
  go_wp2_with fail
  exact HKt.out
set_option maxRecDepth 100000 in
set_option maxHeartbeats 8000000 in
theorem readStep_1 (x : Pl.IrI) (y : SV) (w : World) (h : x.op = 1) : Calls Tryz.prog 58 #[.agg #[.int .i64 x.op, .int .i64 x.d, .int .i64 x.a, .int .i64 x.b, .int .i64 x.n, .string x.sym, .slice y.a y.len y.cap]] w fun e w' => e = .returned (.tuple #[.iface 151 (.agg #[.int .i64 x.d, .int .i64 x.n]), .bool true]) ∧ Below w.heap.size w w' := by
  have e1 : (x.op == 1) = true := by simp; omega
  clear h
  go_enter Tryz.func58, Tryz.ntmps58
  refine wp_seq ?_
  refine rs0_is x y w.heap.size w rfl _ _ ?_
  have hnb : (w.alloc (.cells #[.int .i64 x.op, .int .i64 x.d, .int .i64 x.a, .int .i64 x.b, .int .i64 x.n, .string x.sym, .slice y.a y.len y.cap] 81)).heap[w.heap.size]? = some (.cells #[.int .i64 x.op, .int .i64 x.d, .int .i64 x.a, .int .i64 x.b, .int .i64 x.n, .string x.sym, .slice y.a y.len y.cap] 81 (0, 0)) := heap_alloc_new w _
  have HB0 : Hid (Below w.heap.size w (w.alloc (.cells #[.int .i64 x.op, .int .i64 x.d, .int .i64 x.a, .int .i64 x.b, .int .i64 x.n, .string x.sym, .slice y.a y.len y.cap] 81))) := below_alloc _ _
  generalize w.alloc (.cells #[.int .i64 x.op, .int .i64 x.d, .int .i64 x.a, .int .i64 x.b, .int .i64 x.n, .string x.sym, .slice y.a y.len y.cap] 81) = w0 at *
  refine wp_seq ?_
  refine rs1_is x y w.heap.size w0 hnb _ _ ?_
  intro s7 s8 s9 s10 s11 s12 s13 s14 s15 s16 s17 g4 g5 g6 w1 hb1 k4 k5 k6
  have hbx := (hb1.block _ (Array.getElem?_eq_some_iff.1 hnb).1).trans hnb
  have HB : Hid (Below w.heap.size w w1) := HB0.out.trans (hb1.mono HB0.out.size)
  have b0 := cell_of_row w1 w.heap.size 0 _ 81 (0, 0) hbx
  have b1 := cell_of_row w1 w.heap.size 1 _ 81 (0, 0) hbx
  have b2 := cell_of_row w1 w.heap.size 2 _ 81 (0, 0) hbx
  have b3 := cell_of_row w1 w.heap.size 3 _ 81 (0, 0) hbx
  have b4 := cell_of_row w1 w.heap.size 4 _ 81 (0, 0) hbx
  have b5 := cell_of_row w1 w.heap.size 5 _ 81 (0, 0) hbx
  have b6 := cell_of_row w1 w.heap.size 6 _ 81 (0, 0) hbx
  have q4 := cell_of_row w1 g4 0 _ 143 (0, 0) k4
  have q5 := cell_of_row w1 g5 0 _ 145 (0, 0) k5
  have r5 := cell_of_row w1 g5 1 _ 145 (0, 0) k5
  have q6 := cell_of_row w1 g6 0 _ 147 (0, 0) k6
  simp only [List.getElem?_toArray, List.getElem?_cons_zero, List.getElem?_cons_succ] at b0 b1 b2 b3 b4 b5 b6 q4 q5 r5 q6
  clear hb1 hnb k4 k5 k6 hbx HB0
  go_wp2_with fail
  go_ret2
  exact ⟨rfl, HB.out⟩
set_option maxRecDepth 100000 in
set_option maxHeartbeats 8000000 in
theorem readStep_2 (x : Pl.IrI) (y : SV) (w : World) (h : x.op = 2) : Calls Tryz.prog 58 #[.agg #[.int .i64 x.op, .int .i64 x.d, .int .i64 x.a, .int .i64 x.b, .int .i64 x.n, .string x.sym, .slice y.a y.len y.cap]] w fun e w' => e = .returned (.tuple #[.iface 153 (.agg #[.int .i64 x.a, .int .i64 x.d]), .bool true]) ∧ Below w.heap.size w w' := by
  have e1 : (x.op == 1) = false := by simp; omega
  have e2 : (x.op == 2) = true := by simp; omega
  clear h
  go_enter Tryz.func58, Tryz.ntmps58
  refine wp_seq ?_
  refine rs0_is x y w.heap.size w rfl _ _ ?_
  have hnb : (w.alloc (.cells #[.int .i64 x.op, .int .i64 x.d, .int .i64 x.a, .int .i64 x.b, .int .i64 x.n, .string x.sym, .slice y.a y.len y.cap] 81)).heap[w.heap.size]? = some (.cells #[.int .i64 x.op, .int .i64 x.d, .int .i64 x.a, .int .i64 x.b, .int .i64 x.n, .string x.sym, .slice y.a y.len y.cap] 81 (0, 0)) := heap_alloc_new w _
  have HB0 : Hid (Below w.heap.size w (w.alloc (.cells #[.int .i64 x.op, .int .i64 x.d, .int .i64 x.a, .int .i64 x.b, .int .i64 x.n, .string x.sym, .slice y.a y.len y.cap] 81))) := below_alloc _ _
  generalize w.alloc (.cells #[.int .i64 x.op, .int .i64 x.d, .int .i64 x.a, .int .i64 x.b, .int .i64 x.n, .string x.sym, .slice y.a y.len y.cap] 81) = w0 at *
  refine wp_seq ?_
  refine rs1_is x y w.heap.size w0 hnb _ _ ?_
  intro s7 s8 s9 s10 s11 s12 s13 s14 s15 s16 s17 g4 g5 g6 w1 hb1 k4 k5 k6
  have hbx := (hb1.block _ (Array.getElem?_eq_some_iff.1 hnb).1).trans hnb
  have HB : Hid (Below w.heap.size w w1) := HB0.out.trans (hb1.mono HB0.out.size)
  have b0 := cell_of_row w1 w.heap.size 0 _ 81 (0, 0) hbx
  have b1 := cell_of_row w1 w.heap.size 1 _ 81 (0, 0) hbx
  have b2 := cell_of_row w1 w.heap.size 2 _ 81 (0, 0) hbx
  have b3 := cell_of_row w1 w.heap.size 3 _ 81 (0, 0) hbx
  have b4 := cell_of_row w1 w.heap.size 4 _ 81 (0, 0) hbx
  have b5 := cell_of_row w1 w.heap.size 5 _ 81 (0, 0) hbx
  have b6 := cell_of_row w1 w.heap.size 6 _ 81 (0, 0) hbx
  have q4 := cell_of_row w1 g4 0 _ 143 (0, 0) k4
  have q5 := cell_of_row w1 g5 0 _ 145 (0, 0) k5
  have r5 := cell_of_row w1 g5 1 _ 145 (0, 0) k5
  have q6 := cell_of_row w1 g6 0 _ 147 (0, 0) k6
  simp only [List.getElem?_toArray, List.getElem?_cons_zero, List.getElem?_cons_succ] at b0 b1 b2 b3 b4 b5 b6 q4 q5 r5 q6
  clear hb1 hnb k4 k5 k6 hbx HB0
  go_wp2_with fail
  go_ret2
  exact ⟨rfl, HB.out⟩
set_option maxRecDepth 100000 in
set_option maxHeartbeats 8000000 in
theorem readStep_3 (x : Pl.IrI) (y : SV) (w : World) (h : x.op = 3) : Calls Tryz.prog 58 #[.agg #[.int .i64 x.op, .int .i64 x.d, .int .i64 x.a, .int .i64 x.b, .int .i64 x.n, .string x.sym, .slice y.a y.len y.cap]] w fun e w' => e = .returned (.tuple #[.iface 155 (.agg #[.int .i64 x.a, .int .i64 x.b, .int .i64 x.d, .int .i64 x.n]), .bool true]) ∧ Below w.heap.size w w' := by
  have e1 : (x.op == 1) = false := by simp; omega
  have e2 : (x.op == 2) = false := by simp; omega
  have e3 : (x.op == 3) = true := by simp; omega
  clear h
  go_enter Tryz.func58, Tryz.ntmps58
  refine wp_seq ?_
  refine rs0_is x y w.heap.size w rfl _ _ ?_
  have hnb : (w.alloc (.cells #[.int .i64 x.op, .int .i64 x.d, .int .i64 x.a, .int .i64 x.b, .int .i64 x.n, .string x.sym, .slice y.a y.len y.cap] 81)).heap[w.heap.size]? = some (.cells #[.int .i64 x.op, .int .i64 x.d, .int .i64 x.a, .int .i64 x.b, .int .i64 x.n, .string x.sym, .slice y.a y.len y.cap] 81 (0, 0)) := heap_alloc_new w _
  have HB0 : Hid (Below w.heap.size w (w.alloc (.cells #[.int .i64 x.op, .int .i64 x.d, .int .i64 x.a, .int .i64 x.b, .int .i64 x.n, .string x.sym, .slice y.a y.len y.cap] 81))) := below_alloc _ _
  generalize w.alloc (.cells #[.int .i64 x.op, .int .i64 x.d, .int .i64 x.a, .int .i64 x.b, .int .i64 x.n, .string x.sym, .slice y.a y.len y.cap] 81) = w0 at *
  refine wp_seq ?_
  refine rs1_is x y w.heap.size w0 hnb _ _ ?_
  intro s7 s8 s9 s10 s11 s12 s13 s14 s15 s16 s17 g4 g5 g6 w1 hb1 k4 k5 k6
  have hbx := (hb1.block _ (Array.getElem?_eq_some_iff.1 hnb).1).trans hnb
  have HB : Hid (Below w.heap.size w w1) := HB0.out.trans (hb1.mono HB0.out.size)
  have b0 := cell_of_row w1 w.heap.size 0 _ 81 (0, 0) hbx
  have b1 := cell_of_row w1 w.heap.size 1 _ 81 (0, 0) hbx
  have b2 := cell_of_row w1 w.heap.size 2 _ 81 (0, 0) hbx
  have b3 := cell_of_row w1 w.heap.size 3 _ 81 (0, 0) hbx
  have b4 := cell_of_row w1 w.heap.size 4 _ 81 (0, 0) hbx
  have b5 := cell_of_row w1 w.heap.size 5 _ 81 (0, 0) hbx
  have b6 := cell_of_row w1 w.heap.size 6 _ 81 (0, 0) hbx
  have q4 := cell_of_row w1 g4 0 _ 143 (0, 0) k4
  have q5 := cell_of_row w1 g5 0 _ 145 (0, 0) k5
  have r5 := cell_of_row w1 g5 1 _ 145 (0, 0) k5
  have q6 := cell_of_row w1 g6 0 _ 147 (0, 0) k6
  simp only [List.getElem?_toArray, List.getElem?_cons_zero, List.getElem?_cons_succ] at b0 b1 b2 b3 b4 b5 b6 q4 q5 r5 q6
  clear hb1 hnb k4 k5 k6 hbx HB0
  go_wp2_with fail
  go_ret2
  exact ⟨rfl, HB.out⟩
set_option maxRecDepth 100000 in
set_option maxHeartbeats 8000000 in
theorem readStep_4 (x : Pl.IrI) (y : SV) (w : World) (h : x.op = 4) : Calls Tryz.prog 58 #[.agg #[.int .i64 x.op, .int .i64 x.d, .int .i64 x.a, .int .i64 x.b, .int .i64 x.n, .string x.sym, .slice y.a y.len y.cap]] w fun e w' => e = .returned (.tuple #[.iface 157 (.agg #[.int .i64 x.a, .int .i64 x.d, .int .i64 x.n]), .bool true]) ∧ Below w.heap.size w w' := by
  have e1 : (x.op == 1) = false := by simp; omega
  have e2 : (x.op == 2) = false := by simp; omega
  have e3 : (x.op == 3) = false := by simp; omega
  have e4 : (x.op == 4) = true := by simp; omega
  clear h
  go_enter Tryz.func58, Tryz.ntmps58
  refine wp_seq ?_
  refine rs0_is x y w.heap.size w rfl _ _ ?_
  have hnb : (w.alloc (.cells #[.int .i64 x.op, .int .i64 x.d, .int .i64 x.a, .int .i64 x.b, .int .i64 x.n, .string x.sym, .slice y.a y.len y.cap] 81)).heap[w.heap.size]? = some (.cells #[.int .i64 x.op, .int .i64 x.d, .int .i64 x.a, .int .i64 x.b, .int .i64 x.n, .string x.sym, .slice y.a y.len y.cap] 81 (0, 0)) := heap_alloc_new w _
  have HB0 : Hid (Below w.heap.size w (w.alloc (.cells #[.int .i64 x.op, .int .i64 x.d, .int .i64 x.a, .int .i64 x.b, .int .i64 x.n, .string x.sym, .slice y.a y.len y.cap] 81))) := below_alloc _ _
  generalize w.alloc (.cells #[.int .i64 x.op, .int .i64 x.d, .int .i64 x.a, .int .i64 x.b, .int .i64 x.n, .string x.sym, .slice y.a y.len y.cap] 81) = w0 at *
  refine wp_seq ?_
  refine rs1_is x y w.heap.size w0 hnb _ _ ?_
  intro s7 s8 s9 s10 s11 s12 s13 s14 s15 s16 s17 g4 g5 g6 w1 hb1 k4 k5 k6
  have hbx := (hb1.block _ (Array.getElem?_eq_some_iff.1 hnb).1).trans hnb
  have HB : Hid (Below w.heap.size w w1) := HB0.out.trans (hb1.mono HB0.out.size)
  have b0 := cell_of_row w1 w.heap.size 0 _ 81 (0, 0) hbx
  have b1 := cell_of_row w1 w.heap.size 1 _ 81 (0, 0) hbx
  have b2 := cell_of_row w1 w.heap.size 2 _ 81 (0, 0) hbx
  have b3 := cell_of_row w1 w.heap.size 3 _ 81 (0, 0) hbx
  have b4 := cell_of_row w1 w.heap.size 4 _ 81 (0, 0) hbx
  have b5 := cell_of_row w1 w.heap.size 5 _ 81 (0, 0) hbx
  have b6 := cell_of_row w1 w.heap.size 6 _ 81 (0, 0) hbx
  have q4 := cell_of_row w1 g4 0 _ 143 (0, 0) k4
  have q5 := cell_of_row w1 g5 0 _ 145 (0, 0) k5
  have r5 := cell_of_row w1 g5 1 _ 145 (0, 0) k5
  have q6 := cell_of_row w1 g6 0 _ 147 (0, 0) k6
  simp only [List.getElem?_toArray, List.getElem?_cons_zero, List.getElem?_cons_succ] at b0 b1 b2 b3 b4 b5 b6 q4 q5 r5 q6
  clear hb1 hnb k4 k5 k6 hbx HB0
  go_wp2_with fail
  go_ret2
  exact ⟨rfl, HB.out⟩
set_option maxRecDepth 100000 in
set_option maxHeartbeats 8000000 in
theorem readStep_5 (x : Pl.IrI) (y : SV) (w : World) (h : x.op = 5) : Calls Tryz.prog 58 #[.agg #[.int .i64 x.op, .int .i64 x.d, .int .i64 x.a, .int .i64 x.b, .int .i64 x.n, .string x.sym, .slice y.a y.len y.cap]] w fun e w' => e = .returned (.tuple #[.iface 158 (.agg #[.int .i64 x.a, .int .i64 x.d, .int .i64 x.n]), .bool true]) ∧ Below w.heap.size w w' := by
  have e1 : (x.op == 1) = false := by simp; omega
  have e2 : (x.op == 2) = false := by simp; omega
  have e3 : (x.op == 3) = false := by simp; omega
  have e4 : (x.op == 4) = false := by simp; omega
  have e5 : (x.op == 5) = true := by simp; omega
  clear h
  go_enter Tryz.func58, Tryz.ntmps58
  refine wp_seq ?_
  refine rs0_is x y w.heap.size w rfl _ _ ?_
  have hnb : (w.alloc (.cells #[.int .i64 x.op, .int .i64 x.d, .int .i64 x.a, .int .i64 x.b, .int .i64 x.n, .string x.sym, .slice y.a y.len y.cap] 81)).heap[w.heap.size]? = some (.cells #[.int .i64 x.op, .int .i64 x.d, .int .i64 x.a, .int .i64 x.b, .int .i64 x.n, .string x.sym, .slice y.a y.len y.cap] 81 (0, 0)) := heap_alloc_new w _
  have HB0 : Hid (Below w.heap.size w (w.alloc (.cells #[.int .i64 x.op, .int .i64 x.d, .int .i64 x.a, .int .i64 x.b, .int .i64 x.n, .string x.sym, .slice y.a y.len y.cap] 81))) := below_alloc _ _
  generalize w.alloc (.cells #[.int .i64 x.op, .int .i64 x.d, .int .i64 x.a, .int .i64 x.b, .int .i64 x.n, .string x.sym, .slice y.a y.len y.cap] 81) = w0 at *
  refine wp_seq ?_
  refine rs1_is x y w.heap.size w0 hnb _ _ ?_
  intro s7 s8 s9 s10 s11 s12 s13 s14 s15 s16 s17 g4 g5 g6 w1 hb1 k4 k5 k6
  have hbx := (hb1.block _ (Array.getElem?_eq_some_iff.1 hnb).1).trans hnb
  have HB : Hid (Below w.heap.size w w1) := HB0.out.trans (hb1.mono HB0.out.size)
  have b0 := cell_of_row w1 w.heap.size 0 _ 81 (0, 0) hbx
  have b1 := cell_of_row w1 w.heap.size 1 _ 81 (0, 0) hbx
  have b2 := cell_of_row w1 w.heap.size 2 _ 81 (0, 0) hbx
  have b3 := cell_of_row w1 w.heap.size 3 _ 81 (0, 0) hbx
  have b4 := cell_of_row w1 w.heap.size 4 _ 81 (0, 0) hbx
  have b5 := cell_of_row w1 w.heap.size 5 _ 81 (0, 0) hbx
  have b6 := cell_of_row w1 w.heap.size 6 _ 81 (0, 0) hbx
  have q4 := cell_of_row w1 g4 0 _ 143 (0, 0) k4
  have q5 := cell_of_row w1 g5 0 _ 145 (0, 0) k5
  have r5 := cell_of_row w1 g5 1 _ 145 (0, 0) k5
  have q6 := cell_of_row w1 g6 0 _ 147 (0, 0) k6
  simp only [List.getElem?_toArray, List.getElem?_cons_zero, List.getElem?_cons_succ] at b0 b1 b2 b3 b4 b5 b6 q4 q5 r5 q6
  clear hb1 hnb k4 k5 k6 hbx HB0
  go_wp2_with fail
  go_ret2
  exact ⟨rfl, HB.out⟩
set_option maxRecDepth 100000 in
set_option maxHeartbeats 8000000 in
theorem readStep_6 (x : Pl.IrI) (y : SV) (w : World) (h : x.op = 6) : Calls Tryz.prog 58 #[.agg #[.int .i64 x.op, .int .i64 x.d, .int .i64 x.a, .int .i64 x.b, .int .i64 x.n, .string x.sym, .slice y.a y.len y.cap]] w fun e w' => e = .returned (.tuple #[.iface 161 (.agg #[.int .i64 x.a, .int .i64 x.b, .int .i64 x.n]), .bool true]) ∧ Below w.heap.size w w' := by
  have e1 : (x.op == 1) = false := by simp; omega
  have e2 : (x.op == 2) = false := by simp; omega
  have e3 : (x.op == 3) = false := by simp; omega
  have e4 : (x.op == 4) = false := by simp; omega
  have e5 : (x.op == 5) = false := by simp; omega
  have e6 : (x.op == 6) = true := by simp; omega
  clear h
  go_enter Tryz.func58, Tryz.ntmps58
  refine wp_seq ?_
  refine rs0_is x y w.heap.size w rfl _ _ ?_
  have hnb : (w.alloc (.cells #[.int .i64 x.op, .int .i64 x.d, .int .i64 x.a, .int .i64 x.b, .int .i64 x.n, .string x.sym, .slice y.a y.len y.cap] 81)).heap[w.heap.size]? = some (.cells #[.int .i64 x.op, .int .i64 x.d, .int .i64 x.a, .int .i64 x.b, .int .i64 x.n, .string x.sym, .slice y.a y.len y.cap] 81 (0, 0)) := heap_alloc_new w _
  have HB0 : Hid (Below w.heap.size w (w.alloc (.cells #[.int .i64 x.op, .int .i64 x.d, .int .i64 x.a, .int .i64 x.b, .int .i64 x.n, .string x.sym, .slice y.a y.len y.cap] 81))) := below_alloc _ _
  generalize w.alloc (.cells #[.int .i64 x.op, .int .i64 x.d, .int .i64 x.a, .int .i64 x.b, .int .i64 x.n, .string x.sym, .slice y.a y.len y.cap] 81) = w0 at *
  refine wp_seq ?_
  refine rs1_is x y w.heap.size w0 hnb _ _ ?_
  intro s7 s8 s9 s10 s11 s12 s13 s14 s15 s16 s17 g4 g5 g6 w1 hb1 k4 k5 k6
  have hbx := (hb1.block _ (Array.getElem?_eq_some_iff.1 hnb).1).trans hnb
  have HB : Hid (Below w.heap.size w w1) := HB0.out.trans (hb1.mono HB0.out.size)
  have b0 := cell_of_row w1 w.heap.size 0 _ 81 (0, 0) hbx
  have b1 := cell_of_row w1 w.heap.size 1 _ 81 (0, 0) hbx
  have b2 := cell_of_row w1 w.heap.size 2 _ 81 (0, 0) hbx
  have b3 := cell_of_row w1 w.heap.size 3 _ 81 (0, 0) hbx
  have b4 := cell_of_row w1 w.heap.size 4 _ 81 (0, 0) hbx
  have b5 := cell_of_row w1 w.heap.size 5 _ 81 (0, 0) hbx
  have b6 := cell_of_row w1 w.heap.size 6 _ 81 (0, 0) hbx
  have q4 := cell_of_row w1 g4 0 _ 143 (0, 0) k4
  have q5 := cell_of_row w1 g5 0 _ 145 (0, 0) k5
  have r5 := cell_of_row w1 g5 1 _ 145 (0, 0) k5
  have q6 := cell_of_row w1 g6 0 _ 147 (0, 0) k6
  simp only [List.getElem?_toArray, List.getElem?_cons_zero, List.getElem?_cons_succ] at b0 b1 b2 b3 b4 b5 b6 q4 q5 r5 q6
  clear hb1 hnb k4 k5 k6 hbx HB0
  go_wp2_with fail
  go_ret2
  exact ⟨rfl, HB.out⟩
set_option maxRecDepth 100000 in
set_option maxHeartbeats 8000000 in
theorem readStep_7 (x : Pl.IrI) (y : SV) (w : World) (h : x.op = 7) : Calls Tryz.prog 58 #[.agg #[.int .i64 x.op, .int .i64 x.d, .int .i64 x.a, .int .i64 x.b, .int .i64 x.n, .string x.sym, .slice y.a y.len y.cap]] w fun e w' => e = .returned (.tuple #[.iface 163 (.agg #[.int .i64 x.d, .string x.sym, .int .i64 x.n]), .bool true]) ∧ Below w.heap.size w w' := by
  have e1 : (x.op == 1) = false := by simp; omega
  have e2 : (x.op == 2) = false := by simp; omega
  have e3 : (x.op == 3) = false := by simp; omega
  have e4 : (x.op == 4) = false := by simp; omega
  have e5 : (x.op == 5) = false := by simp; omega
  have e6 : (x.op == 6) = false := by simp; omega
  have e7 : (x.op == 7) = true := by simp; omega
  clear h
  go_enter Tryz.func58, Tryz.ntmps58
  refine wp_seq ?_
  refine rs0_is x y w.heap.size w rfl _ _ ?_
  have hnb : (w.alloc (.cells #[.int .i64 x.op, .int .i64 x.d, .int .i64 x.a, .int .i64 x.b, .int .i64 x.n, .string x.sym, .slice y.a y.len y.cap] 81)).heap[w.heap.size]? = some (.cells #[.int .i64 x.op, .int .i64 x.d, .int .i64 x.a, .int .i64 x.b, .int .i64 x.n, .string x.sym, .slice y.a y.len y.cap] 81 (0, 0)) := heap_alloc_new w _
  have HB0 : Hid (Below w.heap.size w (w.alloc (.cells #[.int .i64 x.op, .int .i64 x.d, .int .i64 x.a, .int .i64 x.b, .int .i64 x.n, .string x.sym, .slice y.a y.len y.cap] 81))) := below_alloc _ _
  generalize w.alloc (.cells #[.int .i64 x.op, .int .i64 x.d, .int .i64 x.a, .int .i64 x.b, .int .i64 x.n, .string x.sym, .slice y.a y.len y.cap] 81) = w0 at *
  refine wp_seq ?_
  refine rs1_is x y w.heap.size w0 hnb _ _ ?_
  intro s7 s8 s9 s10 s11 s12 s13 s14 s15 s16 s17 g4 g5 g6 w1 hb1 k4 k5 k6
  have hbx := (hb1.block _ (Array.getElem?_eq_some_iff.1 hnb).1).trans hnb
  have HB : Hid (Below w.heap.size w w1) := HB0.out.trans (hb1.mono HB0.out.size)
  have b0 := cell_of_row w1 w.heap.size 0 _ 81 (0, 0) hbx
  have b1 := cell_of_row w1 w.heap.size 1 _ 81 (0, 0) hbx
  have b2 := cell_of_row w1 w.heap.size 2 _ 81 (0, 0) hbx
  have b3 := cell_of_row w1 w.heap.size 3 _ 81 (0, 0) hbx
  have b4 := cell_of_row w1 w.heap.size 4 _ 81 (0, 0) hbx
  have b5 := cell_of_row w1 w.heap.size 5 _ 81 (0, 0) hbx
  have b6 := cell_of_row w1 w.heap.size 6 _ 81 (0, 0) hbx
  have q4 := cell_of_row w1 g4 0 _ 143 (0, 0) k4
  have q5 := cell_of_row w1 g5 0 _ 145 (0, 0) k5
  have r5 := cell_of_row w1 g5 1 _ 145 (0, 0) k5
  have q6 := cell_of_row w1 g6 0 _ 147 (0, 0) k6
  simp only [List.getElem?_toArray, List.getElem?_cons_zero, List.getElem?_cons_succ] at b0 b1 b2 b3 b4 b5 b6 q4 q5 r5 q6
  clear hb1 hnb k4 k5 k6 hbx HB0
  go_wp2_with fail
  go_ret2
  exact ⟨rfl, HB.out⟩
set_option maxRecDepth 100000 in
set_option maxHeartbeats 8000000 in
theorem readStep_8 (x : Pl.IrI) (y : SV) (w : World) (h : x.op = 8) : Calls Tryz.prog 58 #[.agg #[.int .i64 x.op, .int .i64 x.d, .int .i64 x.a, .int .i64 x.b, .int .i64 x.n, .string x.sym, .slice y.a y.len y.cap]] w fun e w' => e = .returned (.tuple #[.iface 165 (.agg #[.int .i64 x.d, .int .i64 x.n]), .bool true]) ∧ Below w.heap.size w w' := by
  have e1 : (x.op == 1) = false := by simp; omega
  have e2 : (x.op == 2) = false := by simp; omega
  have e3 : (x.op == 3) = false := by simp; omega
  have e4 : (x.op == 4) = false := by simp; omega
  have e5 : (x.op == 5) = false := by simp; omega
  have e6 : (x.op == 6) = false := by simp; omega
  have e7 : (x.op == 7) = false := by simp; omega
  have e8 : (x.op == 8) = true := by simp; omega
  clear h
  go_enter Tryz.func58, Tryz.ntmps58
  refine wp_seq ?_
  refine rs0_is x y w.heap.size w rfl _ _ ?_
  have hnb : (w.alloc (.cells #[.int .i64 x.op, .int .i64 x.d, .int .i64 x.a, .int .i64 x.b, .int .i64 x.n, .string x.sym, .slice y.a y.len y.cap] 81)).heap[w.heap.size]? = some (.cells #[.int .i64 x.op, .int .i64 x.d, .int .i64 x.a, .int .i64 x.b, .int .i64 x.n, .string x.sym, .slice y.a y.len y.cap] 81 (0, 0)) := heap_alloc_new w _
  have HB0 : Hid (Below w.heap.size w (w.alloc (.cells #[.int .i64 x.op, .int .i64 x.d, .int .i64 x.a, .int .i64 x.b, .int .i64 x.n, .string x.sym, .slice y.a y.len y.cap] 81))) := below_alloc _ _
  generalize w.alloc (.cells #[.int .i64 x.op, .int .i64 x.d, .int .i64 x.a, .int .i64 x.b, .int .i64 x.n, .string x.sym, .slice y.a y.len y.cap] 81) = w0 at *
  refine wp_seq ?_
  refine rs1_is x y w.heap.size w0 hnb _ _ ?_
  intro s7 s8 s9 s10 s11 s12 s13 s14 s15 s16 s17 g4 g5 g6 w1 hb1 k4 k5 k6
  have hbx := (hb1.block _ (Array.getElem?_eq_some_iff.1 hnb).1).trans hnb
  have HB : Hid (Below w.heap.size w w1) := HB0.out.trans (hb1.mono HB0.out.size)
  have b0 := cell_of_row w1 w.heap.size 0 _ 81 (0, 0) hbx
  have b1 := cell_of_row w1 w.heap.size 1 _ 81 (0, 0) hbx
  have b2 := cell_of_row w1 w.heap.size 2 _ 81 (0, 0) hbx
  have b3 := cell_of_row w1 w.heap.size 3 _ 81 (0, 0) hbx
  have b4 := cell_of_row w1 w.heap.size 4 _ 81 (0, 0) hbx
  have b5 := cell_of_row w1 w.heap.size 5 _ 81 (0, 0) hbx
  have b6 := cell_of_row w1 w.heap.size 6 _ 81 (0, 0) hbx
  have q4 := cell_of_row w1 g4 0 _ 143 (0, 0) k4
  have q5 := cell_of_row w1 g5 0 _ 145 (0, 0) k5
  have r5 := cell_of_row w1 g5 1 _ 145 (0, 0) k5
  have q6 := cell_of_row w1 g6 0 _ 147 (0, 0) k6
  simp only [List.getElem?_toArray, List.getElem?_cons_zero, List.getElem?_cons_succ] at b0 b1 b2 b3 b4 b5 b6 q4 q5 r5 q6
  clear hb1 hnb k4 k5 k6 hbx HB0
  go_wp2_with fail
  go_ret2
  exact ⟨rfl, HB.out⟩
set_option maxRecDepth 100000 in
set_option maxHeartbeats 8000000 in
theorem readStep_9 (x : Pl.IrI) (y : SV) (w : World) (h : x.op = 9) : Calls Tryz.prog 58 #[.agg #[.int .i64 x.op, .int .i64 x.d, .int .i64 x.a, .int .i64 x.b, .int .i64 x.n, .string x.sym, .slice y.a y.len y.cap]] w fun e w' => e = .returned (.tuple #[.iface 168 (.agg #[.int .i64 x.d, .string x.sym, .slice y.a y.len y.cap]), .bool true]) ∧ Below w.heap.size w w' := by
  have e1 : (x.op == 1) = false := by simp; omega
  have e2 : (x.op == 2) = false := by simp; omega
  have e3 : (x.op == 3) = false := by simp; omega
  have e4 : (x.op == 4) = false := by simp; omega
  have e5 : (x.op == 5) = false := by simp; omega
  have e6 : (x.op == 6) = false := by simp; omega
  have e7 : (x.op == 7) = false := by simp; omega
  have e8 : (x.op == 8) = false := by simp; omega
  have e9 : (x.op == 9) = true := by simp; omega
  clear h
  go_enter Tryz.func58, Tryz.ntmps58
  refine wp_seq ?_
  refine rs0_is x y w.heap.size w rfl _ _ ?_
  have hnb : (w.alloc (.cells #[.int .i64 x.op, .int .i64 x.d, .int .i64 x.a, .int .i64 x.b, .int .i64 x.n, .string x.sym, .slice y.a y.len y.cap] 81)).heap[w.heap.size]? = some (.cells #[.int .i64 x.op, .int .i64 x.d, .int .i64 x.a, .int .i64 x.b, .int .i64 x.n, .string x.sym, .slice y.a y.len y.cap] 81 (0, 0)) := heap_alloc_new w _
  have HB0 : Hid (Below w.heap.size w (w.alloc (.cells #[.int .i64 x.op, .int .i64 x.d, .int .i64 x.a, .int .i64 x.b, .int .i64 x.n, .string x.sym, .slice y.a y.len y.cap] 81))) := below_alloc _ _
  generalize w.alloc (.cells #[.int .i64 x.op, .int .i64 x.d, .int .i64 x.a, .int .i64 x.b, .int .i64 x.n, .string x.sym, .slice y.a y.len y.cap] 81) = w0 at *
  refine wp_seq ?_
  refine rs1_is x y w.heap.size w0 hnb _ _ ?_
  intro s7 s8 s9 s10 s11 s12 s13 s14 s15 s16 s17 g4 g5 g6 w1 hb1 k4 k5 k6
  have hbx := (hb1.block _ (Array.getElem?_eq_some_iff.1 hnb).1).trans hnb
  have HB : Hid (Below w.heap.size w w1) := HB0.out.trans (hb1.mono HB0.out.size)
  have b0 := cell_of_row w1 w.heap.size 0 _ 81 (0, 0) hbx
  have b1 := cell_of_row w1 w.heap.size 1 _ 81 (0, 0) hbx
  have b2 := cell_of_row w1 w.heap.size 2 _ 81 (0, 0) hbx
  have b3 := cell_of_row w1 w.heap.size 3 _ 81 (0, 0) hbx
  have b4 := cell_of_row w1 w.heap.size 4 _ 81 (0, 0) hbx
  have b5 := cell_of_row w1 w.heap.size 5 _ 81 (0, 0) hbx
  have b6 := cell_of_row w1 w.heap.size 6 _ 81 (0, 0) hbx
  have q4 := cell_of_row w1 g4 0 _ 143 (0, 0) k4
  have q5 := cell_of_row w1 g5 0 _ 145 (0, 0) k5
  have r5 := cell_of_row w1 g5 1 _ 145 (0, 0) k5
  have q6 := cell_of_row w1 g6 0 _ 147 (0, 0) k6
  simp only [List.getElem?_toArray, List.getElem?_cons_zero, List.getElem?_cons_succ] at b0 b1 b2 b3 b4 b5 b6 q4 q5 r5 q6
  clear hb1 hnb k4 k5 k6 hbx HB0
  go_wp2_with fail
  go_ret2
  exact ⟨rfl, HB.out⟩
set_option maxRecDepth 100000 in
set_option maxHeartbeats 8000000 in
theorem readStep_10 (x : Pl.IrI) (y : SV) (w : World) (h : x.op = 10) : Calls Tryz.prog 58 #[.agg #[.int .i64 x.op, .int .i64 x.d, .int .i64 x.a, .int .i64 x.b, .int .i64 x.n, .string x.sym, .slice y.a y.len y.cap]] w fun e w' => e = .returned (.tuple #[.iface 170 (.agg #[.int .i64 x.d, .int .i64 x.a, .slice y.a y.len y.cap]), .bool true]) ∧ Below w.heap.size w w' := by
  have e1 : (x.op == 1) = false := by simp; omega
  have e2 : (x.op == 2) = false := by simp; omega
  have e3 : (x.op == 3) = false := by simp; omega
  have e4 : (x.op == 4) = false := by simp; omega
  have e5 : (x.op == 5) = false := by simp; omega
  have e6 : (x.op == 6) = false := by simp; omega
  have e7 : (x.op == 7) = false := by simp; omega
  have e8 : (x.op == 8) = false := by simp; omega
  have e9 : (x.op == 9) = false := by simp; omega
  have e10 : (x.op == 10) = true := by simp; omega
  clear h
  go_enter Tryz.func58, Tryz.ntmps58
  refine wp_seq ?_
  refine rs0_is x y w.heap.size w rfl _ _ ?_
  have hnb : (w.alloc (.cells #[.int .i64 x.op, .int .i64 x.d, .int .i64 x.a, .int .i64 x.b, .int .i64 x.n, .string x.sym, .slice y.a y.len y.cap] 81)).heap[w.heap.size]? = some (.cells #[.int .i64 x.op, .int .i64 x.d, .int .i64 x.a, .int .i64 x.b, .int .i64 x.n, .string x.sym, .slice y.a y.len y.cap] 81 (0, 0)) := heap_alloc_new w _
  have HB0 : Hid (Below w.heap.size w (w.alloc (.cells #[.int .i64 x.op, .int .i64 x.d, .int .i64 x.a, .int .i64 x.b, .int .i64 x.n, .string x.sym, .slice y.a y.len y.cap] 81))) := below_alloc _ _
  generalize w.alloc (.cells #[.int .i64 x.op, .int .i64 x.d, .int .i64 x.a, .int .i64 x.b, .int .i64 x.n, .string x.sym, .slice y.a y.len y.cap] 81) = w0 at *
  refine wp_seq ?_
  refine rs1_is x y w.heap.size w0 hnb _ _ ?_
  intro s7 s8 s9 s10 s11 s12 s13 s14 s15 s16 s17 g4 g5 g6 w1 hb1 k4 k5 k6
  have hbx := (hb1.block _ (Array.getElem?_eq_some_iff.1 hnb).1).trans hnb
  have HB : Hid (Below w.heap.size w w1) := HB0.out.trans (hb1.mono HB0.out.size)
  have b0 := cell_of_row w1 w.heap.size 0 _ 81 (0, 0) hbx
  have b1 := cell_of_row w1 w.heap.size 1 _ 81 (0, 0) hbx
  have b2 := cell_of_row w1 w.heap.size 2 _ 81 (0, 0) hbx
  have b3 := cell_of_row w1 w.heap.size 3 _ 81 (0, 0) hbx
  have b4 := cell_of_row w1 w.heap.size 4 _ 81 (0, 0) hbx
  have b5 := cell_of_row w1 w.heap.size 5 _ 81 (0, 0) hbx
  have b6 := cell_of_row w1 w.heap.size 6 _ 81 (0, 0) hbx
  have q4 := cell_of_row w1 g4 0 _ 143 (0, 0) k4
  have q5 := cell_of_row w1 g5 0 _ 145 (0, 0) k5
  have r5 := cell_of_row w1 g5 1 _ 145 (0, 0) k5
  have q6 := cell_of_row w1 g6 0 _ 147 (0, 0) k6
  simp only [List.getElem?_toArray, List.getElem?_cons_zero, List.getElem?_cons_succ] at b0 b1 b2 b3 b4 b5 b6 q4 q5 r5 q6
  clear hb1 hnb k4 k5 k6 hbx HB0
  go_wp2_with fail
  go_ret2
  exact ⟨rfl, HB.out⟩
set_option maxRecDepth 100000 in
set_option maxHeartbeats 8000000 in
theorem readStep_11 (x : Pl.IrI) (y : SV) (w : World) (h : x.op = 11) : Calls Tryz.prog 58 #[.agg #[.int .i64 x.op, .int .i64 x.d, .int .i64 x.a, .int .i64 x.b, .int .i64 x.n, .string x.sym, .slice y.a y.len y.cap]] w fun e w' => e = .returned (.tuple #[.iface 172 (.agg #[.int .i64 x.n]), .bool true]) ∧ Below w.heap.size w w' := by
  have e1 : (x.op == 1) = false := by simp; omega
  have e2 : (x.op == 2) = false := by simp; omega
  have e3 : (x.op == 3) = false := by simp; omega
  have e4 : (x.op == 4) = false := by simp; omega
  have e5 : (x.op == 5) = false := by simp; omega
  have e6 : (x.op == 6) = false := by simp; omega
  have e7 : (x.op == 7) = false := by simp; omega
  have e8 : (x.op == 8) = false := by simp; omega
  have e9 : (x.op == 9) = false := by simp; omega
  have e10 : (x.op == 10) = false := by simp; omega
  have e11 : (x.op == 11) = true := by simp; omega
  clear h
  go_enter Tryz.func58, Tryz.ntmps58
  refine wp_seq ?_
  refine rs0_is x y w.heap.size w rfl _ _ ?_
  have hnb : (w.alloc (.cells #[.int .i64 x.op, .int .i64 x.d, .int .i64 x.a, .int .i64 x.b, .int .i64 x.n, .string x.sym, .slice y.a y.len y.cap] 81)).heap[w.heap.size]? = some (.cells #[.int .i64 x.op, .int .i64 x.d, .int .i64 x.a, .int .i64 x.b, .int .i64 x.n, .string x.sym, .slice y.a y.len y.cap] 81 (0, 0)) := heap_alloc_new w _
  have HB0 : Hid (Below w.heap.size w (w.alloc (.cells #[.int .i64 x.op, .int .i64 x.d, .int .i64 x.a, .int .i64 x.b, .int .i64 x.n, .string x.sym, .slice y.a y.len y.cap] 81))) := below_alloc _ _
  generalize w.alloc (.cells #[.int .i64 x.op, .int .i64 x.d, .int .i64 x.a, .int .i64 x.b, .int .i64 x.n, .string x.sym, .slice y.a y.len y.cap] 81) = w0 at *
  refine wp_seq ?_
  refine rs1_is x y w.heap.size w0 hnb _ _ ?_
  intro s7 s8 s9 s10 s11 s12 s13 s14 s15 s16 s17 g4 g5 g6 w1 hb1 k4 k5 k6
  have hbx := (hb1.block _ (Array.getElem?_eq_some_iff.1 hnb).1).trans hnb
  have HB : Hid (Below w.heap.size w w1) := HB0.out.trans (hb1.mono HB0.out.size)
  have b0 := cell_of_row w1 w.heap.size 0 _ 81 (0, 0) hbx
  have b1 := cell_of_row w1 w.heap.size 1 _ 81 (0, 0) hbx
  have b2 := cell_of_row w1 w.heap.size 2 _ 81 (0, 0) hbx
  have b3 := cell_of_row w1 w.heap.size 3 _ 81 (0, 0) hbx
  have b4 := cell_of_row w1 w.heap.size 4 _ 81 (0, 0) hbx
  have b5 := cell_of_row w1 w.heap.size 5 _ 81 (0, 0) hbx
  have b6 := cell_of_row w1 w.heap.size 6 _ 81 (0, 0) hbx
  have q4 := cell_of_row w1 g4 0 _ 143 (0, 0) k4
  have q5 := cell_of_row w1 g5 0 _ 145 (0, 0) k5
  have r5 := cell_of_row w1 g5 1 _ 145 (0, 0) k5
  have q6 := cell_of_row w1 g6 0 _ 147 (0, 0) k6
  simp only [List.getElem?_toArray, List.getElem?_cons_zero, List.getElem?_cons_succ] at b0 b1 b2 b3 b4 b5 b6 q4 q5 r5 q6
  clear hb1 hnb k4 k5 k6 hbx HB0
  go_wp2_with fail
  go_ret2
  exact ⟨rfl, HB.out⟩
set_option maxRecDepth 100000 in
set_option maxHeartbeats 8000000 in
theorem readStep_12 (x : Pl.IrI) (y : SV) (w : World) (h : x.op = 12) : Calls Tryz.prog 58 #[.agg #[.int .i64 x.op, .int .i64 x.d, .int .i64 x.a, .int .i64 x.b, .int .i64 x.n, .string x.sym, .slice y.a y.len y.cap]] w fun e w' => e = .returned (.tuple #[.iface 173 (.agg #[.int .i64 x.n]), .bool true]) ∧ Below w.heap.size w w' := by
  have e1 : (x.op == 1) = false := by simp; omega
  have e2 : (x.op == 2) = false := by simp; omega
  have e3 : (x.op == 3) = false := by simp; omega
  have e4 : (x.op == 4) = false := by simp; omega
  have e5 : (x.op == 5) = false := by simp; omega
  have e6 : (x.op == 6) = false := by simp; omega
  have e7 : (x.op == 7) = false := by simp; omega
  have e8 : (x.op == 8) = false := by simp; omega
  have e9 : (x.op == 9) = false := by simp; omega
  have e10 : (x.op == 10) = false := by simp; omega
  have e11 : (x.op == 11) = false := by simp; omega
  have e12 : (x.op == 12) = true := by simp; omega
  clear h
  go_enter Tryz.func58, Tryz.ntmps58
  refine wp_seq ?_
  refine rs0_is x y w.heap.size w rfl _ _ ?_
  have hnb : (w.alloc (.cells #[.int .i64 x.op, .int .i64 x.d, .int .i64 x.a, .int .i64 x.b, .int .i64 x.n, .string x.sym, .slice y.a y.len y.cap] 81)).heap[w.heap.size]? = some (.cells #[.int .i64 x.op, .int .i64 x.d, .int .i64 x.a, .int .i64 x.b, .int .i64 x.n, .string x.sym, .slice y.a y.len y.cap] 81 (0, 0)) := heap_alloc_new w _
  have HB0 : Hid (Below w.heap.size w (w.alloc (.cells #[.int .i64 x.op, .int .i64 x.d, .int .i64 x.a, .int .i64 x.b, .int .i64 x.n, .string x.sym, .slice y.a y.len y.cap] 81))) := below_alloc _ _
  generalize w.alloc (.cells #[.int .i64 x.op, .int .i64 x.d, .int .i64 x.a, .int .i64 x.b, .int .i64 x.n, .string x.sym, .slice y.a y.len y.cap] 81) = w0 at *
  refine wp_seq ?_
  refine rs1_is x y w.heap.size w0 hnb _ _ ?_
  intro s7 s8 s9 s10 s11 s12 s13 s14 s15 s16 s17 g4 g5 g6 w1 hb1 k4 k5 k6
  have hbx := (hb1.block _ (Array.getElem?_eq_some_iff.1 hnb).1).trans hnb
  have HB : Hid (Below w.heap.size w w1) := HB0.out.trans (hb1.mono HB0.out.size)
  have b0 := cell_of_row w1 w.heap.size 0 _ 81 (0, 0) hbx
  have b1 := cell_of_row w1 w.heap.size 1 _ 81 (0, 0) hbx
  have b2 := cell_of_row w1 w.heap.size 2 _ 81 (0, 0) hbx
  have b3 := cell_of_row w1 w.heap.size 3 _ 81 (0, 0) hbx
  have b4 := cell_of_row w1 w.heap.size 4 _ 81 (0, 0) hbx
  have b5 := cell_of_row w1 w.heap.size 5 _ 81 (0, 0) hbx
  have b6 := cell_of_row w1 w.heap.size 6 _ 81 (0, 0) hbx
  have q4 := cell_of_row w1 g4 0 _ 143 (0, 0) k4
  have q5 := cell_of_row w1 g5 0 _ 145 (0, 0) k5
  have r5 := cell_of_row w1 g5 1 _ 145 (0, 0) k5
  have q6 := cell_of_row w1 g6 0 _ 147 (0, 0) k6
  simp only [List.getElem?_toArray, List.getElem?_cons_zero, List.getElem?_cons_succ] at b0 b1 b2 b3 b4 b5 b6 q4 q5 r5 q6
  clear hb1 hnb k4 k5 k6 hbx HB0
  go_wp2_with fail
  go_ret2
  exact ⟨rfl, HB.out⟩
set_option maxRecDepth 100000 in
set_option maxHeartbeats 8000000 in
theorem readStep_13 (x : Pl.IrI) (y : SV) (w : World) (h : x.op = 13) : Calls Tryz.prog 58 #[.agg #[.int .i64 x.op, .int .i64 x.d, .int .i64 x.a, .int .i64 x.b, .int .i64 x.n, .string x.sym, .slice y.a y.len y.cap]] w fun e w' => e = .returned (.tuple #[.iface 175 (.agg #[.int .i64 x.a, .int .i64 x.b, .string x.sym, .int .i64 x.n]), .bool true]) ∧ Below w.heap.size w w' := by
  have e1 : (x.op == 1) = false := by simp; omega
  have e2 : (x.op == 2) = false := by simp; omega
  have e3 : (x.op == 3) = false := by simp; omega
  have e4 : (x.op == 4) = false := by simp; omega
  have e5 : (x.op == 5) = false := by simp; omega
  have e6 : (x.op == 6) = false := by simp; omega
  have e7 : (x.op == 7) = false := by simp; omega
  have e8 : (x.op == 8) = false := by simp; omega
  have e9 : (x.op == 9) = false := by simp; omega
  have e10 : (x.op == 10) = false := by simp; omega
  have e11 : (x.op == 11) = false := by simp; omega
  have e12 : (x.op == 12) = false := by simp; omega
  have e13 : (x.op == 13) = true := by simp; omega
  clear h
  go_enter Tryz.func58, Tryz.ntmps58
  refine wp_seq ?_
  refine rs0_is x y w.heap.size w rfl _ _ ?_
  have hnb : (w.alloc (.cells #[.int .i64 x.op, .int .i64 x.d, .int .i64 x.a, .int .i64 x.b, .int .i64 x.n, .string x.sym, .slice y.a y.len y.cap] 81)).heap[w.heap.size]? = some (.cells #[.int .i64 x.op, .int .i64 x.d, .int .i64 x.a, .int .i64 x.b, .int .i64 x.n, .string x.sym, .slice y.a y.len y.cap] 81 (0, 0)) := heap_alloc_new w _
  have HB0 : Hid (Below w.heap.size w (w.alloc (.cells #[.int .i64 x.op, .int .i64 x.d, .int .i64 x.a, .int .i64 x.b, .int .i64 x.n, .string x.sym, .slice y.a y.len y.cap] 81))) := below_alloc _ _
  generalize w.alloc (.cells #[.int .i64 x.op, .int .i64 x.d, .int .i64 x.a, .int .i64 x.b, .int .i64 x.n, .string x.sym, .slice y.a y.len y.cap] 81) = w0 at *
  refine wp_seq ?_
  refine rs1_is x y w.heap.size w0 hnb _ _ ?_
  intro s7 s8 s9 s10 s11 s12 s13 s14 s15 s16 s17 g4 g5 g6 w1 hb1 k4 k5 k6
  have hbx := (hb1.block _ (Array.getElem?_eq_some_iff.1 hnb).1).trans hnb
  have HB : Hid (Below w.heap.size w w1) := HB0.out.trans (hb1.mono HB0.out.size)
  have b0 := cell_of_row w1 w.heap.size 0 _ 81 (0, 0) hbx
  have b1 := cell_of_row w1 w.heap.size 1 _ 81 (0, 0) hbx
  have b2 := cell_of_row w1 w.heap.size 2 _ 81 (0, 0) hbx
  have b3 := cell_of_row w1 w.heap.size 3 _ 81 (0, 0) hbx
  have b4 := cell_of_row w1 w.heap.size 4 _ 81 (0, 0) hbx
  have b5 := cell_of_row w1 w.heap.size 5 _ 81 (0, 0) hbx
  have b6 := cell_of_row w1 w.heap.size 6 _ 81 (0, 0) hbx
  have q4 := cell_of_row w1 g4 0 _ 143 (0, 0) k4
  have q5 := cell_of_row w1 g5 0 _ 145 (0, 0) k5
  have r5 := cell_of_row w1 g5 1 _ 145 (0, 0) k5
  have q6 := cell_of_row w1 g6 0 _ 147 (0, 0) k6
  simp only [List.getElem?_toArray, List.getElem?_cons_zero, List.getElem?_cons_succ] at b0 b1 b2 b3 b4 b5 b6 q4 q5 r5 q6
  clear hb1 hnb k4 k5 k6 hbx HB0
  go_wp2_with fail
  go_ret2
  exact ⟨rfl, HB.out⟩
set_option maxRecDepth 100000 in
set_option maxHeartbeats 8000000 in
theorem readStep_14 (x : Pl.IrI) (y : SV) (w : World) (h : x.op = 14) : Calls Tryz.prog 58 #[.agg #[.int .i64 x.op, .int .i64 x.d, .int .i64 x.a, .int .i64 x.b, .int .i64 x.n, .string x.sym, .slice y.a y.len y.cap]] w fun e w' => e = .returned (.tuple #[.iface 177 (.agg #[.int .i64 x.a]), .bool true]) ∧ Below w.heap.size w w' := by
  have e1 : (x.op == 1) = false := by simp; omega
  have e2 : (x.op == 2) = false := by simp; omega
  have e3 : (x.op == 3) = false := by simp; omega
  have e4 : (x.op == 4) = false := by simp; omega
  have e5 : (x.op == 5) = false := by simp; omega
  have e6 : (x.op == 6) = false := by simp; omega
  have e7 : (x.op == 7) = false := by simp; omega
  have e8 : (x.op == 8) = false := by simp; omega
  have e9 : (x.op == 9) = false := by simp; omega
  have e10 : (x.op == 10) = false := by simp; omega
  have e11 : (x.op == 11) = false := by simp; omega
  have e12 : (x.op == 12) = false := by simp; omega
  have e13 : (x.op == 13) = false := by simp; omega
  have e14 : (x.op == 14) = true := by simp; omega
  clear h
  go_enter Tryz.func58, Tryz.ntmps58
  refine wp_seq ?_
  refine rs0_is x y w.heap.size w rfl _ _ ?_
  have hnb : (w.alloc (.cells #[.int .i64 x.op, .int .i64 x.d, .int .i64 x.a, .int .i64 x.b, .int .i64 x.n, .string x.sym, .slice y.a y.len y.cap] 81)).heap[w.heap.size]? = some (.cells #[.int .i64 x.op, .int .i64 x.d, .int .i64 x.a, .int .i64 x.b, .int .i64 x.n, .string x.sym, .slice y.a y.len y.cap] 81 (0, 0)) := heap_alloc_new w _
  have HB0 : Hid (Below w.heap.size w (w.alloc (.cells #[.int .i64 x.op, .int .i64 x.d, .int .i64 x.a, .int .i64 x.b, .int .i64 x.n, .string x.sym, .slice y.a y.len y.cap] 81))) := below_alloc _ _
  generalize w.alloc (.cells #[.int .i64 x.op, .int .i64 x.d, .int .i64 x.a, .int .i64 x.b, .int .i64 x.n, .string x.sym, .slice y.a y.len y.cap] 81) = w0 at *
  refine wp_seq ?_
  refine rs1_is x y w.heap.size w0 hnb _ _ ?_
  intro s7 s8 s9 s10 s11 s12 s13 s14 s15 s16 s17 g4 g5 g6 w1 hb1 k4 k5 k6
  have hbx := (hb1.block _ (Array.getElem?_eq_some_iff.1 hnb).1).trans hnb
  have HB : Hid (Below w.heap.size w w1) := HB0.out.trans (hb1.mono HB0.out.size)
  have b0 := cell_of_row w1 w.heap.size 0 _ 81 (0, 0) hbx
  have b1 := cell_of_row w1 w.heap.size 1 _ 81 (0, 0) hbx
  have b2 := cell_of_row w1 w.heap.size 2 _ 81 (0, 0) hbx
  have b3 := cell_of_row w1 w.heap.size 3 _ 81 (0, 0) hbx
  have b4 := cell_of_row w1 w.heap.size 4 _ 81 (0, 0) hbx
  have b5 := cell_of_row w1 w.heap.size 5 _ 81 (0, 0) hbx
  have b6 := cell_of_row w1 w.heap.size 6 _ 81 (0, 0) hbx
  have q4 := cell_of_row w1 g4 0 _ 143 (0, 0) k4
  have q5 := cell_of_row w1 g5 0 _ 145 (0, 0) k5
  have r5 := cell_of_row w1 g5 1 _ 145 (0, 0) k5
  have q6 := cell_of_row w1 g6 0 _ 147 (0, 0) k6
  simp only [List.getElem?_toArray, List.getElem?_cons_zero, List.getElem?_cons_succ] at b0 b1 b2 b3 b4 b5 b6 q4 q5 r5 q6
  clear hb1 hnb k4 k5 k6 hbx HB0
  go_wp2_with fail
  go_ret2
  exact ⟨rfl, HB.out⟩
set_option maxRecDepth 100000 in
set_option maxHeartbeats 8000000 in
theorem readStep_15 (x : Pl.IrI) (y : SV) (w : World) (h : x.op = 15) : Calls Tryz.prog 58 #[.agg #[.int .i64 x.op, .int .i64 x.d, .int .i64 x.a, .int .i64 x.b, .int .i64 x.n, .string x.sym, .slice y.a y.len y.cap]] w fun e w' => e = .returned (.tuple #[.iface 179 (.agg #[.int .i64 x.a, .int .i64 x.b, .int .i64 x.n]), .bool true]) ∧ Below w.heap.size w w' := by
  have e1 : (x.op == 1) = false := by simp; omega
  have e2 : (x.op == 2) = false := by simp; omega
  have e3 : (x.op == 3) = false := by simp; omega
  have e4 : (x.op == 4) = false := by simp; omega
  have e5 : (x.op == 5) = false := by simp; omega
  have e6 : (x.op == 6) = false := by simp; omega
  have e7 : (x.op == 7) = false := by simp; omega
  have e8 : (x.op == 8) = false := by simp; omega
  have e9 : (x.op == 9) = false := by simp; omega
  have e10 : (x.op == 10) = false := by simp; omega
  have e11 : (x.op == 11) = false := by simp; omega
  have e12 : (x.op == 12) = false := by simp; omega
  have e13 : (x.op == 13) = false := by simp; omega
  have e14 : (x.op == 14) = false := by simp; omega
  have e15 : (x.op == 15) = true := by simp; omega
  clear h
  go_enter Tryz.func58, Tryz.ntmps58
  refine wp_seq ?_
  refine rs0_is x y w.heap.size w rfl _ _ ?_
  have hnb : (w.alloc (.cells #[.int .i64 x.op, .int .i64 x.d, .int .i64 x.a, .int .i64 x.b, .int .i64 x.n, .string x.sym, .slice y.a y.len y.cap] 81)).heap[w.heap.size]? = some (.cells #[.int .i64 x.op, .int .i64 x.d, .int .i64 x.a, .int .i64 x.b, .int .i64 x.n, .string x.sym, .slice y.a y.len y.cap] 81 (0, 0)) := heap_alloc_new w _
  have HB0 : Hid (Below w.heap.size w (w.alloc (.cells #[.int .i64 x.op, .int .i64 x.d, .int .i64 x.a, .int .i64 x.b, .int .i64 x.n, .string x.sym, .slice y.a y.len y.cap] 81))) := below_alloc _ _
  generalize w.alloc (.cells #[.int .i64 x.op, .int .i64 x.d, .int .i64 x.a, .int .i64 x.b, .int .i64 x.n, .string x.sym, .slice y.a y.len y.cap] 81) = w0 at *
  refine wp_seq ?_
  refine rs1_is x y w.heap.size w0 hnb _ _ ?_
  intro s7 s8 s9 s10 s11 s12 s13 s14 s15 s16 s17 g4 g5 g6 w1 hb1 k4 k5 k6
  have hbx := (hb1.block _ (Array.getElem?_eq_some_iff.1 hnb).1).trans hnb
  have HB : Hid (Below w.heap.size w w1) := HB0.out.trans (hb1.mono HB0.out.size)
  have b0 := cell_of_row w1 w.heap.size 0 _ 81 (0, 0) hbx
  have b1 := cell_of_row w1 w.heap.size 1 _ 81 (0, 0) hbx
  have b2 := cell_of_row w1 w.heap.size 2 _ 81 (0, 0) hbx
  have b3 := cell_of_row w1 w.heap.size 3 _ 81 (0, 0) hbx
  have b4 := cell_of_row w1 w.heap.size 4 _ 81 (0, 0) hbx
  have b5 := cell_of_row w1 w.heap.size 5 _ 81 (0, 0) hbx
  have b6 := cell_of_row w1 w.heap.size 6 _ 81 (0, 0) hbx
  have q4 := cell_of_row w1 g4 0 _ 143 (0, 0) k4
  have q5 := cell_of_row w1 g5 0 _ 145 (0, 0) k5
  have r5 := cell_of_row w1 g5 1 _ 145 (0, 0) k5
  have q6 := cell_of_row w1 g6 0 _ 147 (0, 0) k6
  simp only [List.getElem?_toArray, List.getElem?_cons_zero, List.getElem?_cons_succ] at b0 b1 b2 b3 b4 b5 b6 q4 q5 r5 q6
  clear hb1 hnb k4 k5 k6 hbx HB0
  go_wp2_with fail
  go_ret2
  exact ⟨rfl, HB.out⟩
set_option maxRecDepth 100000 in
set_option maxHeartbeats 8000000 in
theorem readStep_16 (x : Pl.IrI) (y : SV) (w : World) (h : x.op = 16) : Calls Tryz.prog 58 #[.agg #[.int .i64 x.op, .int .i64 x.d, .int .i64 x.a, .int .i64 x.b, .int .i64 x.n, .string x.sym, .slice y.a y.len y.cap]] w fun e w' => e = .returned (.tuple #[.iface 181 (.agg #[.int .i64 x.a, .int .i64 x.n]), .bool true]) ∧ Below w.heap.size w w' := by
  have e1 : (x.op == 1) = false := by simp; omega
  have e2 : (x.op == 2) = false := by simp; omega
  have e3 : (x.op == 3) = false := by simp; omega
  have e4 : (x.op == 4) = false := by simp; omega
  have e5 : (x.op == 5) = false := by simp; omega
  have e6 : (x.op == 6) = false := by simp; omega
  have e7 : (x.op == 7) = false := by simp; omega
  have e8 : (x.op == 8) = false := by simp; omega
  have e9 : (x.op == 9) = false := by simp; omega
  have e10 : (x.op == 10) = false := by simp; omega
  have e11 : (x.op == 11) = false := by simp; omega
  have e12 : (x.op == 12) = false := by simp; omega
  have e13 : (x.op == 13) = false := by simp; omega
  have e14 : (x.op == 14) = false := by simp; omega
  have e15 : (x.op == 15) = false := by simp; omega
  have e16 : (x.op == 16) = true := by simp; omega
  clear h
  go_enter Tryz.func58, Tryz.ntmps58
  refine wp_seq ?_
  refine rs0_is x y w.heap.size w rfl _ _ ?_
  have hnb : (w.alloc (.cells #[.int .i64 x.op, .int .i64 x.d, .int .i64 x.a, .int .i64 x.b, .int .i64 x.n, .string x.sym, .slice y.a y.len y.cap] 81)).heap[w.heap.size]? = some (.cells #[.int .i64 x.op, .int .i64 x.d, .int .i64 x.a, .int .i64 x.b, .int .i64 x.n, .string x.sym, .slice y.a y.len y.cap] 81 (0, 0)) := heap_alloc_new w _
  have HB0 : Hid (Below w.heap.size w (w.alloc (.cells #[.int .i64 x.op, .int .i64 x.d, .int .i64 x.a, .int .i64 x.b, .int .i64 x.n, .string x.sym, .slice y.a y.len y.cap] 81))) := below_alloc _ _
  generalize w.alloc (.cells #[.int .i64 x.op, .int .i64 x.d, .int .i64 x.a, .int .i64 x.b, .int .i64 x.n, .string x.sym, .slice y.a y.len y.cap] 81) = w0 at *
  refine wp_seq ?_
  refine rs1_is x y w.heap.size w0 hnb _ _ ?_
  intro s7 s8 s9 s10 s11 s12 s13 s14 s15 s16 s17 g4 g5 g6 w1 hb1 k4 k5 k6
  have hbx := (hb1.block _ (Array.getElem?_eq_some_iff.1 hnb).1).trans hnb
  have HB : Hid (Below w.heap.size w w1) := HB0.out.trans (hb1.mono HB0.out.size)
  have b0 := cell_of_row w1 w.heap.size 0 _ 81 (0, 0) hbx
  have b1 := cell_of_row w1 w.heap.size 1 _ 81 (0, 0) hbx
  have b2 := cell_of_row w1 w.heap.size 2 _ 81 (0, 0) hbx
  have b3 := cell_of_row w1 w.heap.size 3 _ 81 (0, 0) hbx
  have b4 := cell_of_row w1 w.heap.size 4 _ 81 (0, 0) hbx
  have b5 := cell_of_row w1 w.heap.size 5 _ 81 (0, 0) hbx
  have b6 := cell_of_row w1 w.heap.size 6 _ 81 (0, 0) hbx
  have q4 := cell_of_row w1 g4 0 _ 143 (0, 0) k4
  have q5 := cell_of_row w1 g5 0 _ 145 (0, 0) k5
  have r5 := cell_of_row w1 g5 1 _ 145 (0, 0) k5
  have q6 := cell_of_row w1 g6 0 _ 147 (0, 0) k6
  simp only [List.getElem?_toArray, List.getElem?_cons_zero, List.getElem?_cons_succ] at b0 b1 b2 b3 b4 b5 b6 q4 q5 r5 q6
  clear hb1 hnb k4 k5 k6 hbx HB0
  go_wp2_with fail
  go_ret2
  exact ⟨rfl, HB.out⟩
set_option maxRecDepth 100000 in
set_option maxHeartbeats 8000000 in
theorem readStep_0 (x : Pl.IrI) (y : SV) (w : World) (h : x.op < 1 ∨ 16 < x.op) : Calls Tryz.prog 58 #[.agg #[.int .i64 x.op, .int .i64 x.d, .int .i64 x.a, .int .i64 x.b, .int .i64 x.n, .string x.sym, .slice y.a y.len y.cap]] w fun e w' => e = .returned (.tuple #[.nilIface, .bool false]) ∧ Below w.heap.size w w' := by
  have e1 : (x.op == 1) = false := by simp; omega
  have e2 : (x.op == 2) = false := by simp; omega
  have e3 : (x.op == 3) = false := by simp; omega
  have e4 : (x.op == 4) = false := by simp; omega
  have e5 : (x.op == 5) = false := by simp; omega
  have e6 : (x.op == 6) = false := by simp; omega
  have e7 : (x.op == 7) = false := by simp; omega
  have e8 : (x.op == 8) = false := by simp; omega
  have e9 : (x.op == 9) = false := by simp; omega
  have e10 : (x.op == 10) = false := by simp; omega
  have e11 : (x.op == 11) = false := by simp; omega
  have e12 : (x.op == 12) = false := by simp; omega
  have e13 : (x.op == 13) = false := by simp; omega
  have e14 : (x.op == 14) = false := by simp; omega
  have e15 : (x.op == 15) = false := by simp; omega
  have e16 : (x.op == 16) = false := by simp; omega
  clear h
  go_enter Tryz.func58, Tryz.ntmps58
  refine wp_seq ?_
  refine rs0_is x y w.heap.size w rfl _ _ ?_
  have hnb : (w.alloc (.cells #[.int .i64 x.op, .int .i64 x.d, .int .i64 x.a, .int .i64 x.b, .int .i64 x.n, .string x.sym, .slice y.a y.len y.cap] 81)).heap[w.heap.size]? = some (.cells #[.int .i64 x.op, .int .i64 x.d, .int .i64 x.a, .int .i64 x.b, .int .i64 x.n, .string x.sym, .slice y.a y.len y.cap] 81 (0, 0)) := heap_alloc_new w _
  have HB0 : Hid (Below w.heap.size w (w.alloc (.cells #[.int .i64 x.op, .int .i64 x.d, .int .i64 x.a, .int .i64 x.b, .int .i64 x.n, .string x.sym, .slice y.a y.len y.cap] 81))) := below_alloc _ _
  generalize w.alloc (.cells #[.int .i64 x.op, .int .i64 x.d, .int .i64 x.a, .int .i64 x.b, .int .i64 x.n, .string x.sym, .slice y.a y.len y.cap] 81) = w0 at *
  refine wp_seq ?_
  refine rs1_is x y w.heap.size w0 hnb _ _ ?_
  intro s7 s8 s9 s10 s11 s12 s13 s14 s15 s16 s17 g4 g5 g6 w1 hb1 k4 k5 k6
  have hbx := (hb1.block _ (Array.getElem?_eq_some_iff.1 hnb).1).trans hnb
  have HB : Hid (Below w.heap.size w w1) := HB0.out.trans (hb1.mono HB0.out.size)
  have b0 := cell_of_row w1 w.heap.size 0 _ 81 (0, 0) hbx
  have b1 := cell_of_row w1 w.heap.size 1 _ 81 (0, 0) hbx
  have b2 := cell_of_row w1 w.heap.size 2 _ 81 (0, 0) hbx
  have b3 := cell_of_row w1 w.heap.size 3 _ 81 (0, 0) hbx
  have b4 := cell_of_row w1 w.heap.size 4 _ 81 (0, 0) hbx
  have b5 := cell_of_row w1 w.heap.size 5 _ 81 (0, 0) hbx
  have b6 := cell_of_row w1 w.heap.size 6 _ 81 (0, 0) hbx
  have q4 := cell_of_row w1 g4 0 _ 143 (0, 0) k4
  have q5 := cell_of_row w1 g5 0 _ 145 (0, 0) k5
  have r5 := cell_of_row w1 g5 1 _ 145 (0, 0) k5
  have q6 := cell_of_row w1 g6 0 _ 147 (0, 0) k6
  simp only [List.getElem?_toArray, List.getElem?_cons_zero, List.getElem?_cons_succ] at b0 b1 b2 b3 b4 b5 b6 q4 q5 r5 q6
  clear hb1 hnb k4 k5 k6 hbx HB0
  go_wp2_with fail
  go_ret2
  exact ⟨rfl, HB.out⟩
theorem readStep_is (k : Nat) (hk : 1 ≤ k ∧ k ≤ 16) (x : Pl.IrI) (hx : x.op = k) (y : SV) (w : World) : Calls Tryz.prog 58 #[.agg #[.int .i64 x.op, .int .i64 x.d, .int .i64 x.a, .int .i64 x.b, .int .i64 x.n, .string x.sym, .slice y.a y.len y.cap]] w fun e w' => e = .returned (.tuple #[stV k x y, .bool true]) ∧ Below w.heap.size w w' := by
  obtain ⟨h1, h2⟩ := hk
  rcases (show k = 1 ∨ k = 2 ∨ k = 3 ∨ k = 4 ∨ k = 5 ∨ k = 6 ∨ k = 7 ∨ k = 8 ∨ k = 9 ∨ k = 10 ∨ k = 11 ∨ k = 12 ∨ k = 13 ∨ k = 14 ∨ k = 15 ∨ k = 16 by omega) with rfl | rfl | rfl | rfl | rfl | rfl | rfl | rfl | rfl | rfl | rfl | rfl | rfl | rfl | rfl | rfl
  · exact readStep_1 x y w hx
  · exact readStep_2 x y w hx
  · exact readStep_3 x y w hx
  · exact readStep_4 x y w hx
  · exact readStep_5 x y w hx
  · exact readStep_6 x y w hx
  · exact readStep_7 x y w hx
  · exact readStep_8 x y w hx
  · exact readStep_9 x y w hx
  · exact readStep_10 x y w hx
  · exact readStep_11 x y w hx
  · exact readStep_12 x y w hx
  · exact readStep_13 x y w hx
  · exact readStep_14 x y w hx
  · exact readStep_15 x y w hx
  · exact readStep_16 x y w hx
end Go.Proofs.YtcgfgmlfbgbkfaaGreatDoor.W
namespace Go.Proofs.YtcgfgmlfbgbkfaaGreatDoor.W
open Go.RowKit
theorem run_append_noneA {P : Program} {w : World} (base : Nat) (t ty e : TypeId) (i : TypeInfo) (size c : Nat) (ht : P.underlying t = some (.slice e)) (hi : P.info? e = some i)
    (v : Value) (n : Nat) (xs : List Value) (hown : w.ownsRow base e size v n xs) :
    (Builtin.append_ #[t, t] ty #[v, .slice none 0 c]).run P w = .ok v w := by
  rcases hown.2 with ⟨rfl, rfl⟩ | ⟨g, cap, cur, rfl, _, _, hnc, _⟩
  · simp [Builtin.append_, run_underlying ht, sizeOf, typeInfo, hi, Builtin.lenOf, Builtin.firstCells]
  · simp [Builtin.append_, run_underlying ht, sizeOf, typeInfo, hi, Builtin.lenOf, Builtin.firstCells, hnc, storeCells]
theorem wpList_append_noneA {P : Program} {w : World} {ops : Array Oper} {rest : List Oper} {o : Oper} {a : Act} {Q : Exit → Act → World → Prop} (hgd : o.guard = none) (s x : Operand) (t : TypeId)
    (ho : o.op = .call { callee := .builtin .append, args := #[s, x], argTypes := #[t, t] })
    (base : Nat) (e : TypeId) (i : TypeInfo) (size c : Nat) (ht : P.underlying t = some (.slice e)) (hi : P.info? e = some i)
    (v : Value) (n : Nat) (xs : List Value) (hs : a.eval s = v) (hown : w.ownsRow base e size v n xs) (hx : a.eval x = .slice none 0 c)
    (h : wpList P ops Q rest (a.put o.dst v) w) : wpList P ops Q (o :: rest) a w := by
  refine wpList_plain hgd fun K hK => ?_
  have hrun := run_append_noneA (P := P) (w := w) base t o.type e i size c ht hi v n xs hown
  unfold Oper.wp
  simp [execOp, ho, resolve, invoke, builtin, hs, hx, hrun, Result.andThen]
  exact hK _ _ h
set_option maxHeartbeats 1000000 in
theorem cloneInts_rowA {lo : Nat} (a : Option Addr) (len cap : Nat) (zs : List Int) (w : World) (h : Row .i64 lo w a len cap zs) (hsz : len ≤ 1048576) :
    Calls Tryz.prog 190 #[.slice a len cap] w fun e w' => ∃ a' cap', e = .returned (.slice a' len cap') ∧ Own .i64 3 w.heap.size w' a' len cap' zs ∧ Below w.heap.size w w' := by
  obtain ⟨i0, hi, hz0, hz1, hz2⟩ := info_parts Tryz.infoi64
  have hq : ∀ (w : World) (a : Option Addr) (n c n' c' : Nat), (binOp .eql 22 (.slice a n c) (.slice none n' c')).run Tryz.prog w = .ok (.bool a.isNone) w := fun w a n c n' c' => Lib.run_eql_slice_nil w _ _ a n c n' c' Tryz.underlying22
  obtain ⟨hl, hlc, hcm, hwf, h5⟩ := h
  have HW : Hid (∀ n ∈ zs, (Lit.int .i64 n).wf = true) := hwf
  clear hwf
  have hE : (w.alloc (.cells #[] 3)).ownsRow w.heap.size 3 1 (.slice (some ⟨w.heap.size, 0, none⟩) 0 0) 0 [] := World.ownsRow_lit w #[] 0 (Nat.le_refl _) (Nat.zero_le _) rfl
  cases a with
  | none =>
    have h0 : len = 0 := by rcases h5 with h | ⟨b, off, hb, _⟩; exact h; cases hb
    subst h0
    have hz : zs = [] := by cases zs with | nil => rfl | cons => simp at hl
    subst hz
    clear hl h5
    go_enter Tryz.func190, Tryz.ntmps190
    go_wp2
    go_ret
    exact ⟨none, 0, rfl, ⟨World.ownsRow_nil _ _ _ _, fun n hn => (by cases hn)⟩, Below.refl _ _⟩
  | some ad =>
    have HN : Hid (∀ j u, (zs.map (Value.int .i64))[j]? = some u → (w.alloc (.cells #[] 3)).cell? (ad.add j) = some u) := fun j u hj => by
      have hjl : j < len := by
        have := (List.getElem?_eq_some_iff.1 hj).1
        rw [List.length_map] at this
        omega
      rcases h5 with h | ⟨b, off, hb, _, hlt, hc⟩
      · omega
      · cases hb
        have e1 : (⟨b, off, none⟩ : Addr).add j = ⟨b, off + j, none⟩ := by
          simp only [Addr.add]
          split <;> simp_all
        rw [e1, (below_alloc w _).cell (p := ⟨b, off + j, none⟩) hlt, hc j hjl, ← hj, List.getElem?_map, List.getElem?_eq_getElem (by omega), List.getD_eq_getElem?_getD, List.getElem?_eq_getElem (by omega)]
        rfl
    clear h5
    go_enter Tryz.func190, Tryz.ntmps190
    go_wp2_with (at_builtin; refine wpList_append_own _ rfl (.tmp 5) (.tmp 6) 22 rfl w.heap.size 3 i0 (.int .i64 0) 1 8 Tryz.underlying22 hi hz0 hz1 hz2 rfl (by decide) _ 0 [] rfl hE ad len cap (zs.map (Value.int .i64)) rfl (by rw [List.length_map, hl, Nat.mul_one]) HN.out (by intro u hu; obtain ⟨n, _, rfl⟩ := List.mem_map.1 hu; rfl) (by unfold maxLen; omega) (by omega) (by simp) ?_)
    intro v' u1 hown' hgr _
    have HO' : Hid (u1.ownsRow w.heap.size 3 1 v' len (zs.map (Value.int .i64))) := by show u1.ownsRow _ _ _ _ _ _; simpa using hown'
    have HB : Hid (Below w.heap.size w u1) := (below_alloc w _).grown hgr (by simp) (fun k hk => by simp [Value.ownBlock] at hk; omega)
    clear hown' hgr hE HN
    obtain ⟨a', c', hv⟩ : ∃ a' c', v' = .slice a' len c' := by
      rcases HO'.out.2 with ⟨q0, q1⟩ | ⟨g', c', _, q0, _⟩
      · subst q1; exact ⟨none, 0, q0⟩
      · exact ⟨_, c', q0⟩
    subst hv
    go_wp2
    go_ret
    exact ⟨a', c', rfl, ⟨HO'.out, HW.out⟩, HB.out⟩
end Go.Proofs.YtcgfgmlfbgbkfaaGreatDoor.W
