import Derived.Test.YtomhmjhcbencmaaStD
set_option linter.unusedVariables false
set_option linter.unusedSimpArgs false
namespace Go.Proofs.Ytomhmjhcbencmaa.W
open Go.RowKit
/-- the six slices of a machine lie in spans of their own, in whatever order -/
def MApart (t0 t6 : Nat) (v : MV) : Prop := ∃ l h : Nat → Nat, (Span v.code (l 0) (h 0) ∧ Span v.regs (l 1) (h 1) ∧ Span v.data (l 2) (h 2) ∧ Span v.stk (l 3) (h 3) ∧ Span v.inp (l 4) (h 4) ∧ Span v.out (l 5) (h 5)) ∧ (∀ i, i < 6 → t0 ≤ l i ∧ h i ≤ t6) ∧ ∀ i j, i < 6 → j < 6 → i ≠ j → h i ≤ l j ∨ h j ≤ l i
theorem MSepAt.apart {t0 t6 : Nat} {v : MV} (hs : MSepAt t0 t6 v) : MApart t0 t6 v := by
  obtain ⟨t1, t2, t3, t4, t5, p0, p1, p2, p3, p4, p5, q0, q1, q2, q3, q4, q5⟩ := hs
  refine ⟨fun | 0 => t0 | 1 => t1 | 2 => t2 | 3 => t3 | 4 => t4 | _ => t5, fun | 0 => t1 | 1 => t2 | 2 => t3 | 3 => t4 | 4 => t5 | _ => t6, ⟨p0, p1, p2, p3, p4, p5⟩, ?_, ?_⟩
  · intro i hi
    rcases (show i = 0 ∨ i = 1 ∨ i = 2 ∨ i = 3 ∨ i = 4 ∨ i = 5 by omega) with rfl | rfl | rfl | rfl | rfl | rfl <;> simp <;> omega
  · intro i j hi hj hij
    rcases (show i = 0 ∨ i = 1 ∨ i = 2 ∨ i = 3 ∨ i = 4 ∨ i = 5 by omega) with rfl | rfl | rfl | rfl | rfl | rfl <;> rcases (show j = 0 ∨ j = 1 ∨ j = 2 ∨ j = 3 ∨ j = 4 ∨ j = 5 by omega) with rfl | rfl | rfl | rfl | rfl | rfl <;> simp <;> omega
set_option maxHeartbeats 4000000 in
theorem markMachine_apart {lo t0 t6 : Nat} (v : MV) (m : Pl.Mac) (k : Int) (w : World) (h : MOwn lo w v m) (hs : MApart t0 t6 v) (h6 : t6 ≤ w.heap.size) (hk : 0 ≤ k ∧ k ≤ 1073741824) (hsz : Pl.mSize m ≤ 1048576) :
    Calls Try.prog 12 #[.agg #[.slice v.code.a v.code.len v.code.cap, .int .i64 m.pc, .slice v.regs.a v.regs.len v.regs.cap, .slice v.data.a v.data.len v.data.cap, .slice v.stk.a v.stk.len v.stk.cap, .slice v.inp.a v.inp.len v.inp.cap, .slice v.out.a v.out.len v.out.cap, .int .i64 m.steps, .int .i64 m.fin, .int .i64 m.val], .int .i64 k] w fun e w' => e = .returned (.int .i64 (k + (Pl.mSize m : Int))) ∧ MOwn lo w' v (marked v m k) ∧ Outside t0 t6 w w' := by
  obtain ⟨l, h', ⟨p0, p1, p2, p3, p4, p5⟩, hin, hap⟩ := hs
  have HAP : Hid (∀ i j, i < 6 → j < 6 → i ≠ j → h' i ≤ l j ∨ h' j ≤ l i) := hap
  have HIN : Hid (∀ i, i < 6 → t0 ≤ l i ∧ h' i ≤ t6) := hin
  clear hap hin
  obtain ⟨r0, r1, r2, r3, r4, r5⟩ := h
  have e0 := r0.row.1
  have e1 := r1.row.1
  have e2 := r2.row.1
  have e3 := r3.row.1
  have e4 := r4.row.1
  have e5 := r5.row.1
  have HS : Hid (Pl.mSize m = v.code.len + v.regs.len + v.data.len + v.stk.len + v.inp.len + v.out.len) := by
    show Pl.mSize m = _
    unfold Pl.mSize
    rw [e0, e1, e2, e3, e4, e5]
  have hsum : v.code.len + v.regs.len + v.data.len + v.stk.len + v.inp.len + v.out.len ≤ 1048576 := by rw [← HS.out]; exact hsz
  clear e0 e1 e2 e3 e4 e5 hsz
  have R0 : Hid (Own .i64 3 lo w v.code.a v.code.len v.code.cap m.code) := r0
  have R1 : Hid (Own .i64 3 lo w v.regs.a v.regs.len v.regs.cap m.regs) := r1
  have R2 : Hid (Own .u8 5 lo w v.data.a v.data.len v.data.cap m.data) := r2
  have R3 : Hid (Own .u8 5 lo w v.stk.a v.stk.len v.stk.cap m.stk) := r3
  have R4 : Hid (Own .u8 5 lo w v.inp.a v.inp.len v.inp.cap m.inp) := r4
  have R5 : Hid (Own .u8 5 lo w v.out.a v.out.len v.out.cap m.out) := r5
  clear r0 r1 r2 r3 r4 r5
  go_enter Try.func12, Try.ntmps12
  go_wp2_with fail
  refine calls_at fun u0 hu0 => ?_
  have Q0 : Hid (u0.heap[w.heap.size]? = some (.cells #[.slice v.code.a v.code.len v.code.cap, .int .i64 m.pc, .slice v.regs.a v.regs.len v.regs.cap, .slice v.data.a v.data.len v.data.cap, .slice v.stk.a v.stk.len v.stk.cap, .slice v.inp.a v.inp.len v.inp.cap, .slice v.out.a v.out.len v.out.cap, .int .i64 m.steps, .int .i64 m.fin, .int .i64 m.val] 27)) := by show u0.heap[w.heap.size]? = _; rw [hu0]; exact heap_alloc_new w _
  have dd : Below w.heap.size w u0 := by rw [hu0]; exact below_alloc w _
  have T0 : Hid (Outside t0 t6 w u0) := Outside.of_below dd
  have Z0 : Hid (w.heap.size < u0.heap.size) := by show w.heap.size < u0.heap.size; rw [hu0]; simp
  have K0_0 : Hid (Own .i64 3 lo u0 v.code.a v.code.len v.code.cap m.code) := R0.out.keep dd
  have K0_1 : Hid (Own .i64 3 lo u0 v.regs.a v.regs.len v.regs.cap m.regs) := R1.out.keep dd
  have K0_2 : Hid (Own .u8 5 lo u0 v.data.a v.data.len v.data.cap m.data) := R2.out.keep dd
  have K0_3 : Hid (Own .u8 5 lo u0 v.stk.a v.stk.len v.stk.cap m.stk) := R3.out.keep dd
  have K0_4 : Hid (Own .u8 5 lo u0 v.inp.a v.inp.len v.inp.cap m.inp) := R4.out.keep dd
  have K0_5 : Hid (Own .u8 5 lo u0 v.out.a v.out.len v.out.cap m.out) := R5.out.keep dd
  clear hu0 dd R0 R1 R2 R3 R4 R5
  refine (markIntS_any v.code.a v.code.len v.code.cap m.code (k) u0 K0_0.out (by omega)).mono ?_
  rintro e u1 ⟨rfl, o0, h0⟩
  have M1_0 : Hid (Own .i64 3 lo u1 v.code.a v.code.len v.code.cap (mkIntS (k) v.code.len)) := o0
  have K1_1 : Hid (Own .i64 3 lo u1 v.regs.a v.regs.len v.regs.cap m.regs) := K0_1.out.untouched p1 p0 (HAP.out 1 0 (by decide) (by decide) (by decide)) h0
  have K1_2 : Hid (Own .u8 5 lo u1 v.data.a v.data.len v.data.cap m.data) := K0_2.out.untouched p2 p0 (HAP.out 2 0 (by decide) (by decide) (by decide)) h0
  have K1_3 : Hid (Own .u8 5 lo u1 v.stk.a v.stk.len v.stk.cap m.stk) := K0_3.out.untouched p3 p0 (HAP.out 3 0 (by decide) (by decide) (by decide)) h0
  have K1_4 : Hid (Own .u8 5 lo u1 v.inp.a v.inp.len v.inp.cap m.inp) := K0_4.out.untouched p4 p0 (HAP.out 4 0 (by decide) (by decide) (by decide)) h0
  have K1_5 : Hid (Own .u8 5 lo u1 v.out.a v.out.len v.out.cap m.out) := K0_5.out.untouched p5 p0 (HAP.out 5 0 (by decide) (by decide) (by decide)) h0
  have T1 : Hid (Outside t0 t6 w u1) := T0.out.trans (Outside.of_touch h0 p0 (HIN.out 0 (by decide)).1 (HIN.out 0 (by decide)).2)
  have Q1 : Hid (u1.heap[w.heap.size]? = some (.cells #[.slice v.code.a v.code.len v.code.cap, .int .i64 m.pc, .slice v.regs.a v.regs.len v.regs.cap, .slice v.data.a v.data.len v.data.cap, .slice v.stk.a v.stk.len v.stk.cap, .slice v.inp.a v.inp.len v.inp.cap, .slice v.out.a v.out.len v.out.cap, .int .i64 m.steps, .int .i64 m.fin, .int .i64 m.val] 27)) := (h0.block w.heap.size (fun ad had => by have := p0 ad had; have := (HIN.out 0 (by decide)).2; omega)).trans Q0.out
  clear o0 h0 T0 Q0 K0_0 K0_1 K0_2 K0_3 K0_4 K0_5 
  have kb : ∀ j, u1.cell? ⟨w.heap.size, j, none⟩ = (#[.slice v.code.a v.code.len v.code.cap, .int .i64 m.pc, .slice v.regs.a v.regs.len v.regs.cap, .slice v.data.a v.data.len v.data.cap, .slice v.stk.a v.stk.len v.stk.cap, .slice v.inp.a v.inp.len v.inp.cap, .slice v.out.a v.out.len v.out.cap, .int .i64 m.steps, .int .i64 m.fin, .int .i64 m.val] : Array Value)[j]? := fun j => cell_of_row u1 w.heap.size j _ 27 (0, 0) Q1.out
  go_wp2_with fail
  clear kb
  refine (markIntS_any v.regs.a v.regs.len v.regs.cap m.regs (k + (v.code.len : Int)) u1 K1_1.out (by omega)).mono ?_
  rintro e u2 ⟨rfl, o1, h1⟩
  have M2_1 : Hid (Own .i64 3 lo u2 v.regs.a v.regs.len v.regs.cap (mkIntS (k + (v.code.len : Int)) v.regs.len)) := o1
  have M2_0 : Hid (Own .i64 3 lo u2 v.code.a v.code.len v.code.cap (mkIntS (k) v.code.len)) := M1_0.out.untouched p0 p1 (HAP.out 0 1 (by decide) (by decide) (by decide)) h1
  have K2_2 : Hid (Own .u8 5 lo u2 v.data.a v.data.len v.data.cap m.data) := K1_2.out.untouched p2 p1 (HAP.out 2 1 (by decide) (by decide) (by decide)) h1
  have K2_3 : Hid (Own .u8 5 lo u2 v.stk.a v.stk.len v.stk.cap m.stk) := K1_3.out.untouched p3 p1 (HAP.out 3 1 (by decide) (by decide) (by decide)) h1
  have K2_4 : Hid (Own .u8 5 lo u2 v.inp.a v.inp.len v.inp.cap m.inp) := K1_4.out.untouched p4 p1 (HAP.out 4 1 (by decide) (by decide) (by decide)) h1
  have K2_5 : Hid (Own .u8 5 lo u2 v.out.a v.out.len v.out.cap m.out) := K1_5.out.untouched p5 p1 (HAP.out 5 1 (by decide) (by decide) (by decide)) h1
  have T2 : Hid (Outside t0 t6 w u2) := T1.out.trans (Outside.of_touch h1 p1 (HIN.out 1 (by decide)).1 (HIN.out 1 (by decide)).2)
  have Q2 : Hid (u2.heap[w.heap.size]? = some (.cells #[.slice v.code.a v.code.len v.code.cap, .int .i64 m.pc, .slice v.regs.a v.regs.len v.regs.cap, .slice v.data.a v.data.len v.data.cap, .slice v.stk.a v.stk.len v.stk.cap, .slice v.inp.a v.inp.len v.inp.cap, .slice v.out.a v.out.len v.out.cap, .int .i64 m.steps, .int .i64 m.fin, .int .i64 m.val] 27)) := (h1.block w.heap.size (fun ad had => by have := p1 ad had; have := (HIN.out 1 (by decide)).2; omega)).trans Q1.out
  clear o1 h1 T1 Q1 K1_1 K1_2 K1_3 K1_4 K1_5 M1_0
  have kb : ∀ j, u2.cell? ⟨w.heap.size, j, none⟩ = (#[.slice v.code.a v.code.len v.code.cap, .int .i64 m.pc, .slice v.regs.a v.regs.len v.regs.cap, .slice v.data.a v.data.len v.data.cap, .slice v.stk.a v.stk.len v.stk.cap, .slice v.inp.a v.inp.len v.inp.cap, .slice v.out.a v.out.len v.out.cap, .int .i64 m.steps, .int .i64 m.fin, .int .i64 m.val] : Array Value)[j]? := fun j => cell_of_row u2 w.heap.size j _ 27 (0, 0) Q2.out
  go_wp2_with fail
  clear kb
  refine (markByteS_any v.data.a v.data.len v.data.cap m.data (k + (v.code.len : Int) + (v.regs.len : Int)) u2 K2_2.out (by omega)).mono ?_
  rintro e u3 ⟨rfl, o2, h2⟩
  have M3_2 : Hid (Own .u8 5 lo u3 v.data.a v.data.len v.data.cap (mkByteS (k + (v.code.len : Int) + (v.regs.len : Int)) v.data.len)) := o2
  have M3_0 : Hid (Own .i64 3 lo u3 v.code.a v.code.len v.code.cap (mkIntS (k) v.code.len)) := M2_0.out.untouched p0 p2 (HAP.out 0 2 (by decide) (by decide) (by decide)) h2
  have M3_1 : Hid (Own .i64 3 lo u3 v.regs.a v.regs.len v.regs.cap (mkIntS (k + (v.code.len : Int)) v.regs.len)) := M2_1.out.untouched p1 p2 (HAP.out 1 2 (by decide) (by decide) (by decide)) h2
  have K3_3 : Hid (Own .u8 5 lo u3 v.stk.a v.stk.len v.stk.cap m.stk) := K2_3.out.untouched p3 p2 (HAP.out 3 2 (by decide) (by decide) (by decide)) h2
  have K3_4 : Hid (Own .u8 5 lo u3 v.inp.a v.inp.len v.inp.cap m.inp) := K2_4.out.untouched p4 p2 (HAP.out 4 2 (by decide) (by decide) (by decide)) h2
  have K3_5 : Hid (Own .u8 5 lo u3 v.out.a v.out.len v.out.cap m.out) := K2_5.out.untouched p5 p2 (HAP.out 5 2 (by decide) (by decide) (by decide)) h2
  have T3 : Hid (Outside t0 t6 w u3) := T2.out.trans (Outside.of_touch h2 p2 (HIN.out 2 (by decide)).1 (HIN.out 2 (by decide)).2)
  have Q3 : Hid (u3.heap[w.heap.size]? = some (.cells #[.slice v.code.a v.code.len v.code.cap, .int .i64 m.pc, .slice v.regs.a v.regs.len v.regs.cap, .slice v.data.a v.data.len v.data.cap, .slice v.stk.a v.stk.len v.stk.cap, .slice v.inp.a v.inp.len v.inp.cap, .slice v.out.a v.out.len v.out.cap, .int .i64 m.steps, .int .i64 m.fin, .int .i64 m.val] 27)) := (h2.block w.heap.size (fun ad had => by have := p2 ad had; have := (HIN.out 2 (by decide)).2; omega)).trans Q2.out
  clear o2 h2 T2 Q2 K2_2 K2_3 K2_4 K2_5 M2_0 M2_1
  have kb : ∀ j, u3.cell? ⟨w.heap.size, j, none⟩ = (#[.slice v.code.a v.code.len v.code.cap, .int .i64 m.pc, .slice v.regs.a v.regs.len v.regs.cap, .slice v.data.a v.data.len v.data.cap, .slice v.stk.a v.stk.len v.stk.cap, .slice v.inp.a v.inp.len v.inp.cap, .slice v.out.a v.out.len v.out.cap, .int .i64 m.steps, .int .i64 m.fin, .int .i64 m.val] : Array Value)[j]? := fun j => cell_of_row u3 w.heap.size j _ 27 (0, 0) Q3.out
  go_wp2_with fail
  clear kb
  refine (markByteS_any v.stk.a v.stk.len v.stk.cap m.stk (k + (v.code.len : Int) + (v.regs.len : Int) + (v.data.len : Int)) u3 K3_3.out (by omega)).mono ?_
  rintro e u4 ⟨rfl, o3, h3⟩
  have M4_3 : Hid (Own .u8 5 lo u4 v.stk.a v.stk.len v.stk.cap (mkByteS (k + (v.code.len : Int) + (v.regs.len : Int) + (v.data.len : Int)) v.stk.len)) := o3
  have M4_0 : Hid (Own .i64 3 lo u4 v.code.a v.code.len v.code.cap (mkIntS (k) v.code.len)) := M3_0.out.untouched p0 p3 (HAP.out 0 3 (by decide) (by decide) (by decide)) h3
  have M4_1 : Hid (Own .i64 3 lo u4 v.regs.a v.regs.len v.regs.cap (mkIntS (k + (v.code.len : Int)) v.regs.len)) := M3_1.out.untouched p1 p3 (HAP.out 1 3 (by decide) (by decide) (by decide)) h3
  have M4_2 : Hid (Own .u8 5 lo u4 v.data.a v.data.len v.data.cap (mkByteS (k + (v.code.len : Int) + (v.regs.len : Int)) v.data.len)) := M3_2.out.untouched p2 p3 (HAP.out 2 3 (by decide) (by decide) (by decide)) h3
  have K4_4 : Hid (Own .u8 5 lo u4 v.inp.a v.inp.len v.inp.cap m.inp) := K3_4.out.untouched p4 p3 (HAP.out 4 3 (by decide) (by decide) (by decide)) h3
  have K4_5 : Hid (Own .u8 5 lo u4 v.out.a v.out.len v.out.cap m.out) := K3_5.out.untouched p5 p3 (HAP.out 5 3 (by decide) (by decide) (by decide)) h3
  have T4 : Hid (Outside t0 t6 w u4) := T3.out.trans (Outside.of_touch h3 p3 (HIN.out 3 (by decide)).1 (HIN.out 3 (by decide)).2)
  have Q4 : Hid (u4.heap[w.heap.size]? = some (.cells #[.slice v.code.a v.code.len v.code.cap, .int .i64 m.pc, .slice v.regs.a v.regs.len v.regs.cap, .slice v.data.a v.data.len v.data.cap, .slice v.stk.a v.stk.len v.stk.cap, .slice v.inp.a v.inp.len v.inp.cap, .slice v.out.a v.out.len v.out.cap, .int .i64 m.steps, .int .i64 m.fin, .int .i64 m.val] 27)) := (h3.block w.heap.size (fun ad had => by have := p3 ad had; have := (HIN.out 3 (by decide)).2; omega)).trans Q3.out
  clear o3 h3 T3 Q3 K3_3 K3_4 K3_5 M3_0 M3_1 M3_2
  have kb : ∀ j, u4.cell? ⟨w.heap.size, j, none⟩ = (#[.slice v.code.a v.code.len v.code.cap, .int .i64 m.pc, .slice v.regs.a v.regs.len v.regs.cap, .slice v.data.a v.data.len v.data.cap, .slice v.stk.a v.stk.len v.stk.cap, .slice v.inp.a v.inp.len v.inp.cap, .slice v.out.a v.out.len v.out.cap, .int .i64 m.steps, .int .i64 m.fin, .int .i64 m.val] : Array Value)[j]? := fun j => cell_of_row u4 w.heap.size j _ 27 (0, 0) Q4.out
  go_wp2_with fail
  clear kb
  refine (markByteS_any v.inp.a v.inp.len v.inp.cap m.inp (k + (v.code.len : Int) + (v.regs.len : Int) + (v.data.len : Int) + (v.stk.len : Int)) u4 K4_4.out (by omega)).mono ?_
  rintro e u5 ⟨rfl, o4, h4⟩
  have M5_4 : Hid (Own .u8 5 lo u5 v.inp.a v.inp.len v.inp.cap (mkByteS (k + (v.code.len : Int) + (v.regs.len : Int) + (v.data.len : Int) + (v.stk.len : Int)) v.inp.len)) := o4
  have M5_0 : Hid (Own .i64 3 lo u5 v.code.a v.code.len v.code.cap (mkIntS (k) v.code.len)) := M4_0.out.untouched p0 p4 (HAP.out 0 4 (by decide) (by decide) (by decide)) h4
  have M5_1 : Hid (Own .i64 3 lo u5 v.regs.a v.regs.len v.regs.cap (mkIntS (k + (v.code.len : Int)) v.regs.len)) := M4_1.out.untouched p1 p4 (HAP.out 1 4 (by decide) (by decide) (by decide)) h4
  have M5_2 : Hid (Own .u8 5 lo u5 v.data.a v.data.len v.data.cap (mkByteS (k + (v.code.len : Int) + (v.regs.len : Int)) v.data.len)) := M4_2.out.untouched p2 p4 (HAP.out 2 4 (by decide) (by decide) (by decide)) h4
  have M5_3 : Hid (Own .u8 5 lo u5 v.stk.a v.stk.len v.stk.cap (mkByteS (k + (v.code.len : Int) + (v.regs.len : Int) + (v.data.len : Int)) v.stk.len)) := M4_3.out.untouched p3 p4 (HAP.out 3 4 (by decide) (by decide) (by decide)) h4
  have K5_5 : Hid (Own .u8 5 lo u5 v.out.a v.out.len v.out.cap m.out) := K4_5.out.untouched p5 p4 (HAP.out 5 4 (by decide) (by decide) (by decide)) h4
  have T5 : Hid (Outside t0 t6 w u5) := T4.out.trans (Outside.of_touch h4 p4 (HIN.out 4 (by decide)).1 (HIN.out 4 (by decide)).2)
  have Q5 : Hid (u5.heap[w.heap.size]? = some (.cells #[.slice v.code.a v.code.len v.code.cap, .int .i64 m.pc, .slice v.regs.a v.regs.len v.regs.cap, .slice v.data.a v.data.len v.data.cap, .slice v.stk.a v.stk.len v.stk.cap, .slice v.inp.a v.inp.len v.inp.cap, .slice v.out.a v.out.len v.out.cap, .int .i64 m.steps, .int .i64 m.fin, .int .i64 m.val] 27)) := (h4.block w.heap.size (fun ad had => by have := p4 ad had; have := (HIN.out 4 (by decide)).2; omega)).trans Q4.out
  clear o4 h4 T4 Q4 K4_4 K4_5 M4_0 M4_1 M4_2 M4_3
  have kb : ∀ j, u5.cell? ⟨w.heap.size, j, none⟩ = (#[.slice v.code.a v.code.len v.code.cap, .int .i64 m.pc, .slice v.regs.a v.regs.len v.regs.cap, .slice v.data.a v.data.len v.data.cap, .slice v.stk.a v.stk.len v.stk.cap, .slice v.inp.a v.inp.len v.inp.cap, .slice v.out.a v.out.len v.out.cap, .int .i64 m.steps, .int .i64 m.fin, .int .i64 m.val] : Array Value)[j]? := fun j => cell_of_row u5 w.heap.size j _ 27 (0, 0) Q5.out
  go_wp2_with fail
  clear kb
  refine (markByteS_any v.out.a v.out.len v.out.cap m.out (k + (v.code.len : Int) + (v.regs.len : Int) + (v.data.len : Int) + (v.stk.len : Int) + (v.inp.len : Int)) u5 K5_5.out (by omega)).mono ?_
  rintro e u6 ⟨rfl, o5, h5⟩
  have M6_5 : Hid (Own .u8 5 lo u6 v.out.a v.out.len v.out.cap (mkByteS (k + (v.code.len : Int) + (v.regs.len : Int) + (v.data.len : Int) + (v.stk.len : Int) + (v.inp.len : Int)) v.out.len)) := o5
  have M6_0 : Hid (Own .i64 3 lo u6 v.code.a v.code.len v.code.cap (mkIntS (k) v.code.len)) := M5_0.out.untouched p0 p5 (HAP.out 0 5 (by decide) (by decide) (by decide)) h5
  have M6_1 : Hid (Own .i64 3 lo u6 v.regs.a v.regs.len v.regs.cap (mkIntS (k + (v.code.len : Int)) v.regs.len)) := M5_1.out.untouched p1 p5 (HAP.out 1 5 (by decide) (by decide) (by decide)) h5
  have M6_2 : Hid (Own .u8 5 lo u6 v.data.a v.data.len v.data.cap (mkByteS (k + (v.code.len : Int) + (v.regs.len : Int)) v.data.len)) := M5_2.out.untouched p2 p5 (HAP.out 2 5 (by decide) (by decide) (by decide)) h5
  have M6_3 : Hid (Own .u8 5 lo u6 v.stk.a v.stk.len v.stk.cap (mkByteS (k + (v.code.len : Int) + (v.regs.len : Int) + (v.data.len : Int)) v.stk.len)) := M5_3.out.untouched p3 p5 (HAP.out 3 5 (by decide) (by decide) (by decide)) h5
  have M6_4 : Hid (Own .u8 5 lo u6 v.inp.a v.inp.len v.inp.cap (mkByteS (k + (v.code.len : Int) + (v.regs.len : Int) + (v.data.len : Int) + (v.stk.len : Int)) v.inp.len)) := M5_4.out.untouched p4 p5 (HAP.out 4 5 (by decide) (by decide) (by decide)) h5
  have T6 : Hid (Outside t0 t6 w u6) := T5.out.trans (Outside.of_touch h5 p5 (HIN.out 5 (by decide)).1 (HIN.out 5 (by decide)).2)
  have Q6 : Hid (u6.heap[w.heap.size]? = some (.cells #[.slice v.code.a v.code.len v.code.cap, .int .i64 m.pc, .slice v.regs.a v.regs.len v.regs.cap, .slice v.data.a v.data.len v.data.cap, .slice v.stk.a v.stk.len v.stk.cap, .slice v.inp.a v.inp.len v.inp.cap, .slice v.out.a v.out.len v.out.cap, .int .i64 m.steps, .int .i64 m.fin, .int .i64 m.val] 27)) := (h5.block w.heap.size (fun ad had => by have := p5 ad had; have := (HIN.out 5 (by decide)).2; omega)).trans Q5.out
  clear o5 h5 T5 Q5 K5_5 M5_0 M5_1 M5_2 M5_3 M5_4
  have kb : ∀ j, u6.cell? ⟨w.heap.size, j, none⟩ = (#[.slice v.code.a v.code.len v.code.cap, .int .i64 m.pc, .slice v.regs.a v.regs.len v.regs.cap, .slice v.data.a v.data.len v.data.cap, .slice v.stk.a v.stk.len v.stk.cap, .slice v.inp.a v.inp.len v.inp.cap, .slice v.out.a v.out.len v.out.cap, .int .i64 m.steps, .int .i64 m.fin, .int .i64 m.val] : Array Value)[j]? := fun j => cell_of_row u6 w.heap.size j _ 27 (0, 0) Q6.out
  go_wp2
  go_ret
  refine ⟨ret_int (by have := HS.out; omega), ⟨M6_0.out, M6_1.out, M6_2.out, M6_3.out, M6_4.out, M6_5.out⟩, T6.out⟩
end Go.Proofs.Ytomhmjhcbencmaa.W
