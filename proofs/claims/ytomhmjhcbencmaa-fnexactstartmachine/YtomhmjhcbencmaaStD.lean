import Derived.Test.YtomhmjhcbencmaaStC
set_option linter.unusedVariables false
namespace Go.Proofs.Ytomhmjhcbencmaa.W
open Go.RowKit
/-- nothing has turned but blocks from t0 on and below t6, and new ones -/
structure Outside (t0 t6 : Nat) (w w' : World) : Prop where
  os : w'.os = w.os
  tape : w'.tape = w.tape
  output : w'.output = w.output
  size : w.heap.size ≤ w'.heap.size
  block : ∀ b, b < w.heap.size → b < t0 ∨ t6 ≤ b → w'.heap[b]? = w.heap[b]?
theorem Outside.trans {t0 t6 : Nat} {a b c : World} (h : Outside t0 t6 a b) (k : Outside t0 t6 b c) : Outside t0 t6 a c :=
  ⟨k.os.trans h.os, k.tape.trans h.tape, k.output.trans h.output, Nat.le_trans h.size k.size, fun i h1 h2 => (k.block i (Nat.lt_of_lt_of_le h1 h.size) h2).trans (h.block i h1 h2)⟩
theorem Outside.of_below {t0 t6 : Nat} {a b : World} (h : Below a.heap.size a b) : Outside t0 t6 a b := ⟨h.os, h.tape, h.output, h.size, fun i h1 _ => h.block i h1⟩
theorem Outside.of_touch {t0 t6 lo hi : Nat} {s : SV} {a b : World} (h : Touch s.a a b) (hs : Span s lo hi) (h0 : t0 ≤ lo) (h6 : hi ≤ t6) : Outside t0 t6 a b :=
  ⟨h.os, h.tape, h.output, Nat.le_of_eq h.size.symm, fun i _ h2 => h.block i (fun ad had => by have := hs ad had; omega)⟩
theorem Outside.below {t0 t6 : Nat} {a b : World} (h : Outside t0 t6 a b) (hs : t0 ≤ a.heap.size) : Below t0 a b := ⟨h.os, h.tape, h.output, h.size, fun i hi => h.block i (by omega) (.inl hi)⟩
/-- a slice in one span is as it was behind a mark of one in another -/
theorem Own.untouched {k : IntKind} {e : TypeId} {lo l1 h1 l2 h2 : Nat} {w w' : World} {s t : SV} {zs : List Int} (h : Own k e lo w s.a s.len s.cap zs) (hs : Span s l1 h1) (ht : Span t l2 h2) (hd : h1 ≤ l2 ∨ h2 ≤ l1) (hT : Touch t.a w w') : Own k e lo w' s.a s.len s.cap zs := by
  obtain ⟨hown, hwf⟩ := h
  refine ⟨⟨hown.1, ?_⟩, hwf⟩
  rcases hown.2 with h0 | ⟨g, cap', cur, h0, hlo, hg, hr⟩
  · exact .inl h0
  · refine .inr ⟨g, cap', cur, h0, hlo, ?_, hr⟩
    simp only [Value.slice.injEq] at h0
    rw [hT.block g (fun ad had => by
      have a1 := hs ⟨g, 0, none⟩ h0.1
      have a2 := ht ad had
      have a3 : l1 ≤ g ∧ g < h1 := a1
      omega), hg]
def MSepAt (t0 t6 : Nat) (v : MV) : Prop := ∃ t1 t2 t3 t4 t5 : Nat, Span v.code t0 t1 ∧ Span v.regs t1 t2 ∧ Span v.data t2 t3 ∧ Span v.stk t3 t4 ∧ Span v.inp t4 t5 ∧ Span v.out t5 t6 ∧ t0 ≤ t1 ∧ t1 ≤ t2 ∧ t2 ≤ t3 ∧ t3 ≤ t4 ∧ t4 ≤ t5 ∧ t5 ≤ t6
theorem MSep.at {v : MV} (h : MSep v) : ∃ t0 t6, MSepAt t0 t6 v := by
  obtain ⟨t0, t1, t2, t3, t4, t5, t6, h⟩ := h
  exact ⟨t0, t6, t1, t2, t3, t4, t5, h⟩
/-- a machine behind its mark -/
def marked (v : MV) (m : Pl.Mac) (k : Int) : Pl.Mac := ⟨mkIntS (k) v.code.len, m.pc, mkIntS (k + (v.code.len : Int)) v.regs.len, mkByteS (k + (v.code.len : Int) + (v.regs.len : Int)) v.data.len, mkByteS (k + (v.code.len : Int) + (v.regs.len : Int) + (v.data.len : Int)) v.stk.len, mkByteS (k + (v.code.len : Int) + (v.regs.len : Int) + (v.data.len : Int) + (v.stk.len : Int)) v.inp.len, mkByteS (k + (v.code.len : Int) + (v.regs.len : Int) + (v.data.len : Int) + (v.stk.len : Int) + (v.inp.len : Int)) v.out.len, m.steps, m.fin, m.val⟩
set_option maxHeartbeats 4000000 in
theorem markMachine_any {lo t0 t6 : Nat} (v : MV) (m : Pl.Mac) (k : Int) (w : World) (h : MOwn lo w v m) (hs : MSepAt t0 t6 v) (h6 : t6 ≤ w.heap.size) (hk : 0 ≤ k ∧ k ≤ 1073741824) (hsz : Pl.mSize m ≤ 1048576) :
    Calls Try.prog 12 #[.agg #[.slice v.code.a v.code.len v.code.cap, .int .i64 m.pc, .slice v.regs.a v.regs.len v.regs.cap, .slice v.data.a v.data.len v.data.cap, .slice v.stk.a v.stk.len v.stk.cap, .slice v.inp.a v.inp.len v.inp.cap, .slice v.out.a v.out.len v.out.cap, .int .i64 m.steps, .int .i64 m.fin, .int .i64 m.val], .int .i64 k] w fun e w' => e = .returned (.int .i64 (k + (Pl.mSize m : Int))) ∧ MOwn lo w' v (marked v m k) ∧ Outside t0 t6 w w' := by
  obtain ⟨t1, t2, t3, t4, t5, p0, p1, p2, p3, p4, p5, q0, q1, q2, q3, q4, q5⟩ := hs
  obtain ⟨r0, r1, r2, r3, r4, r5⟩ := h
  have e0 := r0.row.1
  have e1 := r1.row.1
  have e2 := r2.row.1
  have e3 := r3.row.1
  have e4 := r4.row.1
  have e5 := r5.row.1
  have HS : Hid (Pl.mSize m = v.code.len + v.regs.len + v.data.len + v.stk.len + v.inp.len + v.out.len) := by
    show Pl.mSize m = _
    unfold Pl.mSize
    rw [e0, e1, e2, e3, e4, e5]
  have hsum : v.code.len + v.regs.len + v.data.len + v.stk.len + v.inp.len + v.out.len ≤ 1048576 := by rw [← HS.out]; exact hsz
  clear e0 e1 e2 e3 e4 e5 hsz
  have R0 : Hid (Own .i64 3 lo w v.code.a v.code.len v.code.cap m.code) := r0
  have R1 : Hid (Own .i64 3 lo w v.regs.a v.regs.len v.regs.cap m.regs) := r1
  have R2 : Hid (Own .u8 5 lo w v.data.a v.data.len v.data.cap m.data) := r2
  have R3 : Hid (Own .u8 5 lo w v.stk.a v.stk.len v.stk.cap m.stk) := r3
  have R4 : Hid (Own .u8 5 lo w v.inp.a v.inp.len v.inp.cap m.inp) := r4
  have R5 : Hid (Own .u8 5 lo w v.out.a v.out.len v.out.cap m.out) := r5
  clear r0 r1 r2 r3 r4 r5
  go_enter Try.func12, Try.ntmps12
  go_wp2_with fail
  refine calls_at fun u0 hu0 => ?_
  have Q0 : Hid (u0.heap[w.heap.size]? = some (.cells #[.slice v.code.a v.code.len v.code.cap, .int .i64 m.pc, .slice v.regs.a v.regs.len v.regs.cap, .slice v.data.a v.data.len v.data.cap, .slice v.stk.a v.stk.len v.stk.cap, .slice v.inp.a v.inp.len v.inp.cap, .slice v.out.a v.out.len v.out.cap, .int .i64 m.steps, .int .i64 m.fin, .int .i64 m.val] 27)) := by show u0.heap[w.heap.size]? = _; rw [hu0]; exact heap_alloc_new w _
  have dd : Below w.heap.size w u0 := by rw [hu0]; exact below_alloc w _
  have T0 : Hid (Outside t0 t6 w u0) := Outside.of_below dd
  have Z0 : Hid (w.heap.size < u0.heap.size) := by show w.heap.size < u0.heap.size; rw [hu0]; simp
  have K0_0 : Hid (Own .i64 3 lo u0 v.code.a v.code.len v.code.cap m.code) := R0.out.keep dd
  have K0_1 : Hid (Own .i64 3 lo u0 v.regs.a v.regs.len v.regs.cap m.regs) := R1.out.keep dd
  have K0_2 : Hid (Own .u8 5 lo u0 v.data.a v.data.len v.data.cap m.data) := R2.out.keep dd
  have K0_3 : Hid (Own .u8 5 lo u0 v.stk.a v.stk.len v.stk.cap m.stk) := R3.out.keep dd
  have K0_4 : Hid (Own .u8 5 lo u0 v.inp.a v.inp.len v.inp.cap m.inp) := R4.out.keep dd
  have K0_5 : Hid (Own .u8 5 lo u0 v.out.a v.out.len v.out.cap m.out) := R5.out.keep dd
  clear hu0 dd R0 R1 R2 R3 R4 R5
  refine (markIntS_any v.code.a v.code.len v.code.cap m.code (k) u0 K0_0.out (by omega)).mono ?_
  rintro e u1 ⟨rfl, o0, h0⟩
  have M1_0 : Hid (Own .i64 3 lo u1 v.code.a v.code.len v.code.cap (mkIntS (k) v.code.len)) := o0
  have K1_1 : Hid (Own .i64 3 lo u1 v.regs.a v.regs.len v.regs.cap m.regs) := K0_1.out.untouched p1 p0 (by omega) h0
  have K1_2 : Hid (Own .u8 5 lo u1 v.data.a v.data.len v.data.cap m.data) := K0_2.out.untouched p2 p0 (by omega) h0
  have K1_3 : Hid (Own .u8 5 lo u1 v.stk.a v.stk.len v.stk.cap m.stk) := K0_3.out.untouched p3 p0 (by omega) h0
  have K1_4 : Hid (Own .u8 5 lo u1 v.inp.a v.inp.len v.inp.cap m.inp) := K0_4.out.untouched p4 p0 (by omega) h0
  have K1_5 : Hid (Own .u8 5 lo u1 v.out.a v.out.len v.out.cap m.out) := K0_5.out.untouched p5 p0 (by omega) h0
  have T1 : Hid (Outside t0 t6 w u1) := T0.out.trans (Outside.of_touch h0 p0 (by omega) (by omega))
  have Q1 : Hid (u1.heap[w.heap.size]? = some (.cells #[.slice v.code.a v.code.len v.code.cap, .int .i64 m.pc, .slice v.regs.a v.regs.len v.regs.cap, .slice v.data.a v.data.len v.data.cap, .slice v.stk.a v.stk.len v.stk.cap, .slice v.inp.a v.inp.len v.inp.cap, .slice v.out.a v.out.len v.out.cap, .int .i64 m.steps, .int .i64 m.fin, .int .i64 m.val] 27)) := (h0.block w.heap.size (fun ad had => by have := p0 ad had; omega)).trans Q0.out
  clear o0 h0 T0 Q0 K0_0 K0_1 K0_2 K0_3 K0_4 K0_5 
  have kb : ∀ j, u1.cell? ⟨w.heap.size, j, none⟩ = (#[.slice v.code.a v.code.len v.code.cap, .int .i64 m.pc, .slice v.regs.a v.regs.len v.regs.cap, .slice v.data.a v.data.len v.data.cap, .slice v.stk.a v.stk.len v.stk.cap, .slice v.inp.a v.inp.len v.inp.cap, .slice v.out.a v.out.len v.out.cap, .int .i64 m.steps, .int .i64 m.fin, .int .i64 m.val] : Array Value)[j]? := fun j => cell_of_row u1 w.heap.size j _ 27 (0, 0) Q1.out
  go_wp2_with fail
  clear kb
  refine (markIntS_any v.regs.a v.regs.len v.regs.cap m.regs (k + (v.code.len : Int)) u1 K1_1.out (by omega)).mono ?_
  rintro e u2 ⟨rfl, o1, h1⟩
  have M2_1 : Hid (Own .i64 3 lo u2 v.regs.a v.regs.len v.regs.cap (mkIntS (k + (v.code.len : Int)) v.regs.len)) := o1
  have M2_0 : Hid (Own .i64 3 lo u2 v.code.a v.code.len v.code.cap (mkIntS (k) v.code.len)) := M1_0.out.untouched p0 p1 (by omega) h1
  have K2_2 : Hid (Own .u8 5 lo u2 v.data.a v.data.len v.data.cap m.data) := K1_2.out.untouched p2 p1 (by omega) h1
  have K2_3 : Hid (Own .u8 5 lo u2 v.stk.a v.stk.len v.stk.cap m.stk) := K1_3.out.untouched p3 p1 (by omega) h1
  have K2_4 : Hid (Own .u8 5 lo u2 v.inp.a v.inp.len v.inp.cap m.inp) := K1_4.out.untouched p4 p1 (by omega) h1
  have K2_5 : Hid (Own .u8 5 lo u2 v.out.a v.out.len v.out.cap m.out) := K1_5.out.untouched p5 p1 (by omega) h1
  have T2 : Hid (Outside t0 t6 w u2) := T1.out.trans (Outside.of_touch h1 p1 (by omega) (by omega))
  have Q2 : Hid (u2.heap[w.heap.size]? = some (.cells #[.slice v.code.a v.code.len v.code.cap, .int .i64 m.pc, .slice v.regs.a v.regs.len v.regs.cap, .slice v.data.a v.data.len v.data.cap, .slice v.stk.a v.stk.len v.stk.cap, .slice v.inp.a v.inp.len v.inp.cap, .slice v.out.a v.out.len v.out.cap, .int .i64 m.steps, .int .i64 m.fin, .int .i64 m.val] 27)) := (h1.block w.heap.size (fun ad had => by have := p1 ad had; omega)).trans Q1.out
  clear o1 h1 T1 Q1 K1_1 K1_2 K1_3 K1_4 K1_5 M1_0
  have kb : ∀ j, u2.cell? ⟨w.heap.size, j, none⟩ = (#[.slice v.code.a v.code.len v.code.cap, .int .i64 m.pc, .slice v.regs.a v.regs.len v.regs.cap, .slice v.data.a v.data.len v.data.cap, .slice v.stk.a v.stk.len v.stk.cap, .slice v.inp.a v.inp.len v.inp.cap, .slice v.out.a v.out.len v.out.cap, .int .i64 m.steps, .int .i64 m.fin, .int .i64 m.val] : Array Value)[j]? := fun j => cell_of_row u2 w.heap.size j _ 27 (0, 0) Q2.out
  go_wp2_with fail
  clear kb
  refine (markByteS_any v.data.a v.data.len v.data.cap m.data (k + (v.code.len : Int) + (v.regs.len : Int)) u2 K2_2.out (by omega)).mono ?_
  rintro e u3 ⟨rfl, o2, h2⟩
  have M3_2 : Hid (Own .u8 5 lo u3 v.data.a v.data.len v.data.cap (mkByteS (k + (v.code.len : Int) + (v.regs.len : Int)) v.data.len)) := o2
  have M3_0 : Hid (Own .i64 3 lo u3 v.code.a v.code.len v.code.cap (mkIntS (k) v.code.len)) := M2_0.out.untouched p0 p2 (by omega) h2
  have M3_1 : Hid (Own .i64 3 lo u3 v.regs.a v.regs.len v.regs.cap (mkIntS (k + (v.code.len : Int)) v.regs.len)) := M2_1.out.untouched p1 p2 (by omega) h2
  have K3_3 : Hid (Own .u8 5 lo u3 v.stk.a v.stk.len v.stk.cap m.stk) := K2_3.out.untouched p3 p2 (by omega) h2
  have K3_4 : Hid (Own .u8 5 lo u3 v.inp.a v.inp.len v.inp.cap m.inp) := K2_4.out.untouched p4 p2 (by omega) h2
  have K3_5 : Hid (Own .u8 5 lo u3 v.out.a v.out.len v.out.cap m.out) := K2_5.out.untouched p5 p2 (by omega) h2
  have T3 : Hid (Outside t0 t6 w u3) := T2.out.trans (Outside.of_touch h2 p2 (by omega) (by omega))
  have Q3 : Hid (u3.heap[w.heap.size]? = some (.cells #[.slice v.code.a v.code.len v.code.cap, .int .i64 m.pc, .slice v.regs.a v.regs.len v.regs.cap, .slice v.data.a v.data.len v.data.cap, .slice v.stk.a v.stk.len v.stk.cap, .slice v.inp.a v.inp.len v.inp.cap, .slice v.out.a v.out.len v.out.cap, .int .i64 m.steps, .int .i64 m.fin, .int .i64 m.val] 27)) := (h2.block w.heap.size (fun ad had => by have := p2 ad had; omega)).trans Q2.out
  clear o2 h2 T2 Q2 K2_2 K2_3 K2_4 K2_5 M2_0 M2_1
  have kb : ∀ j, u3.cell? ⟨w.heap.size, j, none⟩ = (#[.slice v.code.a v.code.len v.code.cap, .int .i64 m.pc, .slice v.regs.a v.regs.len v.regs.cap, .slice v.data.a v.data.len v.data.cap, .slice v.stk.a v.stk.len v.stk.cap, .slice v.inp.a v.inp.len v.inp.cap, .slice v.out.a v.out.len v.out.cap, .int .i64 m.steps, .int .i64 m.fin, .int .i64 m.val] : Array Value)[j]? := fun j => cell_of_row u3 w.heap.size j _ 27 (0, 0) Q3.out
  go_wp2_with fail
  clear kb
  refine (markByteS_any v.stk.a v.stk.len v.stk.cap m.stk (k + (v.code.len : Int) + (v.regs.len : Int) + (v.data.len : Int)) u3 K3_3.out (by omega)).mono ?_
  rintro e u4 ⟨rfl, o3, h3⟩
  have M4_3 : Hid (Own .u8 5 lo u4 v.stk.a v.stk.len v.stk.cap (mkByteS (k + (v.code.len : Int) + (v.regs.len : Int) + (v.data.len : Int)) v.stk.len)) := o3
  have M4_0 : Hid (Own .i64 3 lo u4 v.code.a v.code.len v.code.cap (mkIntS (k) v.code.len)) := M3_0.out.untouched p0 p3 (by omega) h3
  have M4_1 : Hid (Own .i64 3 lo u4 v.regs.a v.regs.len v.regs.cap (mkIntS (k + (v.code.len : Int)) v.regs.len)) := M3_1.out.untouched p1 p3 (by omega) h3
  have M4_2 : Hid (Own .u8 5 lo u4 v.data.a v.data.len v.data.cap (mkByteS (k + (v.code.len : Int) + (v.regs.len : Int)) v.data.len)) := M3_2.out.untouched p2 p3 (by omega) h3
  have K4_4 : Hid (Own .u8 5 lo u4 v.inp.a v.inp.len v.inp.cap m.inp) := K3_4.out.untouched p4 p3 (by omega) h3
  have K4_5 : Hid (Own .u8 5 lo u4 v.out.a v.out.len v.out.cap m.out) := K3_5.out.untouched p5 p3 (by omega) h3
  have T4 : Hid (Outside t0 t6 w u4) := T3.out.trans (Outside.of_touch h3 p3 (by omega) (by omega))
  have Q4 : Hid (u4.heap[w.heap.size]? = some (.cells #[.slice v.code.a v.code.len v.code.cap, .int .i64 m.pc, .slice v.regs.a v.regs.len v.regs.cap, .slice v.data.a v.data.len v.data.cap, .slice v.stk.a v.stk.len v.stk.cap, .slice v.inp.a v.inp.len v.inp.cap, .slice v.out.a v.out.len v.out.cap, .int .i64 m.steps, .int .i64 m.fin, .int .i64 m.val] 27)) := (h3.block w.heap.size (fun ad had => by have := p3 ad had; omega)).trans Q3.out
  clear o3 h3 T3 Q3 K3_3 K3_4 K3_5 M3_0 M3_1 M3_2
  have kb : ∀ j, u4.cell? ⟨w.heap.size, j, none⟩ = (#[.slice v.code.a v.code.len v.code.cap, .int .i64 m.pc, .slice v.regs.a v.regs.len v.regs.cap, .slice v.data.a v.data.len v.data.cap, .slice v.stk.a v.stk.len v.stk.cap, .slice v.inp.a v.inp.len v.inp.cap, .slice v.out.a v.out.len v.out.cap, .int .i64 m.steps, .int .i64 m.fin, .int .i64 m.val] : Array Value)[j]? := fun j => cell_of_row u4 w.heap.size j _ 27 (0, 0) Q4.out
  go_wp2_with fail
  clear kb
  refine (markByteS_any v.inp.a v.inp.len v.inp.cap m.inp (k + (v.code.len : Int) + (v.regs.len : Int) + (v.data.len : Int) + (v.stk.len : Int)) u4 K4_4.out (by omega)).mono ?_
  rintro e u5 ⟨rfl, o4, h4⟩
  have M5_4 : Hid (Own .u8 5 lo u5 v.inp.a v.inp.len v.inp.cap (mkByteS (k + (v.code.len : Int) + (v.regs.len : Int) + (v.data.len : Int) + (v.stk.len : Int)) v.inp.len)) := o4
  have M5_0 : Hid (Own .i64 3 lo u5 v.code.a v.code.len v.code.cap (mkIntS (k) v.code.len)) := M4_0.out.untouched p0 p4 (by omega) h4
  have M5_1 : Hid (Own .i64 3 lo u5 v.regs.a v.regs.len v.regs.cap (mkIntS (k + (v.code.len : Int)) v.regs.len)) := M4_1.out.untouched p1 p4 (by omega) h4
  have M5_2 : Hid (Own .u8 5 lo u5 v.data.a v.data.len v.data.cap (mkByteS (k + (v.code.len : Int) + (v.regs.len : Int)) v.data.len)) := M4_2.out.untouched p2 p4 (by omega) h4
  have M5_3 : Hid (Own .u8 5 lo u5 v.stk.a v.stk.len v.stk.cap (mkByteS (k + (v.code.len : Int) + (v.regs.len : Int) + (v.data.len : Int)) v.stk.len)) := M4_3.out.untouched p3 p4 (by omega) h4
  have K5_5 : Hid (Own .u8 5 lo u5 v.out.a v.out.len v.out.cap m.out) := K4_5.out.untouched p5 p4 (by omega) h4
  have T5 : Hid (Outside t0 t6 w u5) := T4.out.trans (Outside.of_touch h4 p4 (by omega) (by omega))
  have Q5 : Hid (u5.heap[w.heap.size]? = some (.cells #[.slice v.code.a v.code.len v.code.cap, .int .i64 m.pc, .slice v.regs.a v.regs.len v.regs.cap, .slice v.data.a v.data.len v.data.cap, .slice v.stk.a v.stk.len v.stk.cap, .slice v.inp.a v.inp.len v.inp.cap, .slice v.out.a v.out.len v.out.cap, .int .i64 m.steps, .int .i64 m.fin, .int .i64 m.val] 27)) := (h4.block w.heap.size (fun ad had => by have := p4 ad had; omega)).trans Q4.out
  clear o4 h4 T4 Q4 K4_4 K4_5 M4_0 M4_1 M4_2 M4_3
  have kb : ∀ j, u5.cell? ⟨w.heap.size, j, none⟩ = (#[.slice v.code.a v.code.len v.code.cap, .int .i64 m.pc, .slice v.regs.a v.regs.len v.regs.cap, .slice v.data.a v.data.len v.data.cap, .slice v.stk.a v.stk.len v.stk.cap, .slice v.inp.a v.inp.len v.inp.cap, .slice v.out.a v.out.len v.out.cap, .int .i64 m.steps, .int .i64 m.fin, .int .i64 m.val] : Array Value)[j]? := fun j => cell_of_row u5 w.heap.size j _ 27 (0, 0) Q5.out
  go_wp2_with fail
  clear kb
  refine (markByteS_any v.out.a v.out.len v.out.cap m.out (k + (v.code.len : Int) + (v.regs.len : Int) + (v.data.len : Int) + (v.stk.len : Int) + (v.inp.len : Int)) u5 K5_5.out (by omega)).mono ?_
  rintro e u6 ⟨rfl, o5, h5⟩
  have M6_5 : Hid (Own .u8 5 lo u6 v.out.a v.out.len v.out.cap (mkByteS (k + (v.code.len : Int) + (v.regs.len : Int) + (v.data.len : Int) + (v.stk.len : Int) + (v.inp.len : Int)) v.out.len)) := o5
  have M6_0 : Hid (Own .i64 3 lo u6 v.code.a v.code.len v.code.cap (mkIntS (k) v.code.len)) := M5_0.out.untouched p0 p5 (by omega) h5
  have M6_1 : Hid (Own .i64 3 lo u6 v.regs.a v.regs.len v.regs.cap (mkIntS (k + (v.code.len : Int)) v.regs.len)) := M5_1.out.untouched p1 p5 (by omega) h5
  have M6_2 : Hid (Own .u8 5 lo u6 v.data.a v.data.len v.data.cap (mkByteS (k + (v.code.len : Int) + (v.regs.len : Int)) v.data.len)) := M5_2.out.untouched p2 p5 (by omega) h5
  have M6_3 : Hid (Own .u8 5 lo u6 v.stk.a v.stk.len v.stk.cap (mkByteS (k + (v.code.len : Int) + (v.regs.len : Int) + (v.data.len : Int)) v.stk.len)) := M5_3.out.untouched p3 p5 (by omega) h5
  have M6_4 : Hid (Own .u8 5 lo u6 v.inp.a v.inp.len v.inp.cap (mkByteS (k + (v.code.len : Int) + (v.regs.len : Int) + (v.data.len : Int) + (v.stk.len : Int)) v.inp.len)) := M5_4.out.untouched p4 p5 (by omega) h5
  have T6 : Hid (Outside t0 t6 w u6) := T5.out.trans (Outside.of_touch h5 p5 (by omega) (by omega))
  have Q6 : Hid (u6.heap[w.heap.size]? = some (.cells #[.slice v.code.a v.code.len v.code.cap, .int .i64 m.pc, .slice v.regs.a v.regs.len v.regs.cap, .slice v.data.a v.data.len v.data.cap, .slice v.stk.a v.stk.len v.stk.cap, .slice v.inp.a v.inp.len v.inp.cap, .slice v.out.a v.out.len v.out.cap, .int .i64 m.steps, .int .i64 m.fin, .int .i64 m.val] 27)) := (h5.block w.heap.size (fun ad had => by have := p5 ad had; omega)).trans Q5.out
  clear o5 h5 T5 Q5 K5_5 M5_0 M5_1 M5_2 M5_3 M5_4
  have kb : ∀ j, u6.cell? ⟨w.heap.size, j, none⟩ = (#[.slice v.code.a v.code.len v.code.cap, .int .i64 m.pc, .slice v.regs.a v.regs.len v.regs.cap, .slice v.data.a v.data.len v.data.cap, .slice v.stk.a v.stk.len v.stk.cap, .slice v.inp.a v.inp.len v.inp.cap, .slice v.out.a v.out.len v.out.cap, .int .i64 m.steps, .int .i64 m.fin, .int .i64 m.val] : Array Value)[j]? := fun j => cell_of_row u6 w.heap.size j _ 27 (0, 0) Q6.out
  go_wp2
  go_ret
  refine ⟨ret_int (by have := HS.out; omega), ⟨M6_0.out, M6_1.out, M6_2.out, M6_3.out, M6_4.out, M6_5.out⟩, T6.out⟩
set_option maxHeartbeats 4000000 in
theorem heldMachine_any {lo : Nat} (v : MV) (m : Pl.Mac) (k : Int) (w : World) (h : MIs lo w v (marked v m k)) (hk : 0 ≤ k ∧ k ≤ 1073741824) (hsum : v.code.len + v.regs.len + v.data.len + v.stk.len + v.inp.len + v.out.len ≤ 1048576) :
    Calls Try.prog 13 #[.agg #[.slice v.code.a v.code.len v.code.cap, .int .i64 m.pc, .slice v.regs.a v.regs.len v.regs.cap, .slice v.data.a v.data.len v.data.cap, .slice v.stk.a v.stk.len v.stk.cap, .slice v.inp.a v.inp.len v.inp.cap, .slice v.out.a v.out.len v.out.cap, .int .i64 m.steps, .int .i64 m.fin, .int .i64 m.val], .int .i64 k] w fun e w' => e = .returned (.int .i64 (k + (v.code.len : Int) + (v.regs.len : Int) + (v.data.len : Int) + (v.stk.len : Int) + (v.inp.len : Int) + (v.out.len : Int))) ∧ Below w.heap.size w w' := by
  obtain ⟨r0, r1, r2, r3, r4, r5⟩ := h
  unfold marked at r0 r1 r2 r3 r4 r5
  dsimp only at r0 r1 r2 r3 r4 r5
  have R0 : Hid (Row .i64 lo w v.code.a v.code.len v.code.cap (mkIntS (k) v.code.len)) := r0
  have R1 : Hid (Row .i64 lo w v.regs.a v.regs.len v.regs.cap (mkIntS (k + (v.code.len : Int)) v.regs.len)) := r1
  have R2 : Hid (Row .u8 lo w v.data.a v.data.len v.data.cap (mkByteS (k + (v.code.len : Int) + (v.regs.len : Int)) v.data.len)) := r2
  have R3 : Hid (Row .u8 lo w v.stk.a v.stk.len v.stk.cap (mkByteS (k + (v.code.len : Int) + (v.regs.len : Int) + (v.data.len : Int)) v.stk.len)) := r3
  have R4 : Hid (Row .u8 lo w v.inp.a v.inp.len v.inp.cap (mkByteS (k + (v.code.len : Int) + (v.regs.len : Int) + (v.data.len : Int) + (v.stk.len : Int)) v.inp.len)) := r4
  have R5 : Hid (Row .u8 lo w v.out.a v.out.len v.out.cap (mkByteS (k + (v.code.len : Int) + (v.regs.len : Int) + (v.data.len : Int) + (v.stk.len : Int) + (v.inp.len : Int)) v.out.len)) := r5
  clear r0 r1 r2 r3 r4 r5
  go_enter Try.func13, Try.ntmps13
  go_wp2_with fail
  refine calls_at fun u0 hu0 => ?_
  have Q0 : Hid (u0.heap[w.heap.size]? = some (.cells #[.slice v.code.a v.code.len v.code.cap, .int .i64 m.pc, .slice v.regs.a v.regs.len v.regs.cap, .slice v.data.a v.data.len v.data.cap, .slice v.stk.a v.stk.len v.stk.cap, .slice v.inp.a v.inp.len v.inp.cap, .slice v.out.a v.out.len v.out.cap, .int .i64 m.steps, .int .i64 m.fin, .int .i64 m.val] 27)) := by show u0.heap[w.heap.size]? = _; rw [hu0]; exact heap_alloc_new w _
  have B0 : Hid (Below w.heap.size w u0) := by show Below w.heap.size w u0; rw [hu0]; exact below_alloc w _
  have Z0 : Hid (w.heap.size < u0.heap.size) := by show w.heap.size < u0.heap.size; rw [hu0]; simp
  clear hu0
  refine (heldIntS_any v.code.a v.code.len v.code.cap (k) u0 (Row.keep R0.out B0.out) (by omega)).mono ?_
  rintro e u1 ⟨rfl, d0⟩
  have Q1 : Hid (u1.heap[w.heap.size]? = some (.cells #[.slice v.code.a v.code.len v.code.cap, .int .i64 m.pc, .slice v.regs.a v.regs.len v.regs.cap, .slice v.data.a v.data.len v.data.cap, .slice v.stk.a v.stk.len v.stk.cap, .slice v.inp.a v.inp.len v.inp.cap, .slice v.out.a v.out.len v.out.cap, .int .i64 m.steps, .int .i64 m.fin, .int .i64 m.val] 27)) := (d0.block _ Z0.out).trans Q0.out
  have B1 : Hid (Below w.heap.size w u1) := B0.out.trans (d0.mono (Nat.le_of_lt Z0.out))
  have Z1 : Hid (w.heap.size < u1.heap.size) := Nat.lt_of_lt_of_le Z0.out d0.size
  clear d0 Q0 B0 Z0
  have kb : ∀ j, u1.cell? ⟨w.heap.size, j, none⟩ = (#[.slice v.code.a v.code.len v.code.cap, .int .i64 m.pc, .slice v.regs.a v.regs.len v.regs.cap, .slice v.data.a v.data.len v.data.cap, .slice v.stk.a v.stk.len v.stk.cap, .slice v.inp.a v.inp.len v.inp.cap, .slice v.out.a v.out.len v.out.cap, .int .i64 m.steps, .int .i64 m.fin, .int .i64 m.val] : Array Value)[j]? := fun j => cell_of_row u1 w.heap.size j _ 27 (0, 0) Q1.out
  go_wp2_with fail
  clear kb
  refine (heldIntS_any v.regs.a v.regs.len v.regs.cap (k + (v.code.len : Int)) u1 (Row.keep R1.out B1.out) (by omega)).mono ?_
  rintro e u2 ⟨rfl, d1⟩
  have Q2 : Hid (u2.heap[w.heap.size]? = some (.cells #[.slice v.code.a v.code.len v.code.cap, .int .i64 m.pc, .slice v.regs.a v.regs.len v.regs.cap, .slice v.data.a v.data.len v.data.cap, .slice v.stk.a v.stk.len v.stk.cap, .slice v.inp.a v.inp.len v.inp.cap, .slice v.out.a v.out.len v.out.cap, .int .i64 m.steps, .int .i64 m.fin, .int .i64 m.val] 27)) := (d1.block _ Z1.out).trans Q1.out
  have B2 : Hid (Below w.heap.size w u2) := B1.out.trans (d1.mono (Nat.le_of_lt Z1.out))
  have Z2 : Hid (w.heap.size < u2.heap.size) := Nat.lt_of_lt_of_le Z1.out d1.size
  clear d1 Q1 B1 Z1
  have kb : ∀ j, u2.cell? ⟨w.heap.size, j, none⟩ = (#[.slice v.code.a v.code.len v.code.cap, .int .i64 m.pc, .slice v.regs.a v.regs.len v.regs.cap, .slice v.data.a v.data.len v.data.cap, .slice v.stk.a v.stk.len v.stk.cap, .slice v.inp.a v.inp.len v.inp.cap, .slice v.out.a v.out.len v.out.cap, .int .i64 m.steps, .int .i64 m.fin, .int .i64 m.val] : Array Value)[j]? := fun j => cell_of_row u2 w.heap.size j _ 27 (0, 0) Q2.out
  go_wp2_with fail
  clear kb
  refine (heldByteS_any v.data.a v.data.len v.data.cap (k + (v.code.len : Int) + (v.regs.len : Int)) u2 (Row.keep R2.out B2.out) (by omega)).mono ?_
  rintro e u3 ⟨rfl, d2⟩
  have Q3 : Hid (u3.heap[w.heap.size]? = some (.cells #[.slice v.code.a v.code.len v.code.cap, .int .i64 m.pc, .slice v.regs.a v.regs.len v.regs.cap, .slice v.data.a v.data.len v.data.cap, .slice v.stk.a v.stk.len v.stk.cap, .slice v.inp.a v.inp.len v.inp.cap, .slice v.out.a v.out.len v.out.cap, .int .i64 m.steps, .int .i64 m.fin, .int .i64 m.val] 27)) := (d2.block _ Z2.out).trans Q2.out
  have B3 : Hid (Below w.heap.size w u3) := B2.out.trans (d2.mono (Nat.le_of_lt Z2.out))
  have Z3 : Hid (w.heap.size < u3.heap.size) := Nat.lt_of_lt_of_le Z2.out d2.size
  clear d2 Q2 B2 Z2
  have kb : ∀ j, u3.cell? ⟨w.heap.size, j, none⟩ = (#[.slice v.code.a v.code.len v.code.cap, .int .i64 m.pc, .slice v.regs.a v.regs.len v.regs.cap, .slice v.data.a v.data.len v.data.cap, .slice v.stk.a v.stk.len v.stk.cap, .slice v.inp.a v.inp.len v.inp.cap, .slice v.out.a v.out.len v.out.cap, .int .i64 m.steps, .int .i64 m.fin, .int .i64 m.val] : Array Value)[j]? := fun j => cell_of_row u3 w.heap.size j _ 27 (0, 0) Q3.out
  go_wp2_with fail
  clear kb
  refine (heldByteS_any v.stk.a v.stk.len v.stk.cap (k + (v.code.len : Int) + (v.regs.len : Int) + (v.data.len : Int)) u3 (Row.keep R3.out B3.out) (by omega)).mono ?_
  rintro e u4 ⟨rfl, d3⟩
  have Q4 : Hid (u4.heap[w.heap.size]? = some (.cells #[.slice v.code.a v.code.len v.code.cap, .int .i64 m.pc, .slice v.regs.a v.regs.len v.regs.cap, .slice v.data.a v.data.len v.data.cap, .slice v.stk.a v.stk.len v.stk.cap, .slice v.inp.a v.inp.len v.inp.cap, .slice v.out.a v.out.len v.out.cap, .int .i64 m.steps, .int .i64 m.fin, .int .i64 m.val] 27)) := (d3.block _ Z3.out).trans Q3.out
  have B4 : Hid (Below w.heap.size w u4) := B3.out.trans (d3.mono (Nat.le_of_lt Z3.out))
  have Z4 : Hid (w.heap.size < u4.heap.size) := Nat.lt_of_lt_of_le Z3.out d3.size
  clear d3 Q3 B3 Z3
  have kb : ∀ j, u4.cell? ⟨w.heap.size, j, none⟩ = (#[.slice v.code.a v.code.len v.code.cap, .int .i64 m.pc, .slice v.regs.a v.regs.len v.regs.cap, .slice v.data.a v.data.len v.data.cap, .slice v.stk.a v.stk.len v.stk.cap, .slice v.inp.a v.inp.len v.inp.cap, .slice v.out.a v.out.len v.out.cap, .int .i64 m.steps, .int .i64 m.fin, .int .i64 m.val] : Array Value)[j]? := fun j => cell_of_row u4 w.heap.size j _ 27 (0, 0) Q4.out
  go_wp2_with fail
  clear kb
  refine (heldByteS_any v.inp.a v.inp.len v.inp.cap (k + (v.code.len : Int) + (v.regs.len : Int) + (v.data.len : Int) + (v.stk.len : Int)) u4 (Row.keep R4.out B4.out) (by omega)).mono ?_
  rintro e u5 ⟨rfl, d4⟩
  have Q5 : Hid (u5.heap[w.heap.size]? = some (.cells #[.slice v.code.a v.code.len v.code.cap, .int .i64 m.pc, .slice v.regs.a v.regs.len v.regs.cap, .slice v.data.a v.data.len v.data.cap, .slice v.stk.a v.stk.len v.stk.cap, .slice v.inp.a v.inp.len v.inp.cap, .slice v.out.a v.out.len v.out.cap, .int .i64 m.steps, .int .i64 m.fin, .int .i64 m.val] 27)) := (d4.block _ Z4.out).trans Q4.out
  have B5 : Hid (Below w.heap.size w u5) := B4.out.trans (d4.mono (Nat.le_of_lt Z4.out))
  have Z5 : Hid (w.heap.size < u5.heap.size) := Nat.lt_of_lt_of_le Z4.out d4.size
  clear d4 Q4 B4 Z4
  have kb : ∀ j, u5.cell? ⟨w.heap.size, j, none⟩ = (#[.slice v.code.a v.code.len v.code.cap, .int .i64 m.pc, .slice v.regs.a v.regs.len v.regs.cap, .slice v.data.a v.data.len v.data.cap, .slice v.stk.a v.stk.len v.stk.cap, .slice v.inp.a v.inp.len v.inp.cap, .slice v.out.a v.out.len v.out.cap, .int .i64 m.steps, .int .i64 m.fin, .int .i64 m.val] : Array Value)[j]? := fun j => cell_of_row u5 w.heap.size j _ 27 (0, 0) Q5.out
  go_wp2_with fail
  clear kb
  refine (heldByteS_any v.out.a v.out.len v.out.cap (k + (v.code.len : Int) + (v.regs.len : Int) + (v.data.len : Int) + (v.stk.len : Int) + (v.inp.len : Int)) u5 (Row.keep R5.out B5.out) (by omega)).mono ?_
  rintro e u6 ⟨rfl, d5⟩
  have Q6 : Hid (u6.heap[w.heap.size]? = some (.cells #[.slice v.code.a v.code.len v.code.cap, .int .i64 m.pc, .slice v.regs.a v.regs.len v.regs.cap, .slice v.data.a v.data.len v.data.cap, .slice v.stk.a v.stk.len v.stk.cap, .slice v.inp.a v.inp.len v.inp.cap, .slice v.out.a v.out.len v.out.cap, .int .i64 m.steps, .int .i64 m.fin, .int .i64 m.val] 27)) := (d5.block _ Z5.out).trans Q5.out
  have B6 : Hid (Below w.heap.size w u6) := B5.out.trans (d5.mono (Nat.le_of_lt Z5.out))
  have Z6 : Hid (w.heap.size < u6.heap.size) := Nat.lt_of_lt_of_le Z5.out d5.size
  clear d5 Q5 B5 Z5
  have kb : ∀ j, u6.cell? ⟨w.heap.size, j, none⟩ = (#[.slice v.code.a v.code.len v.code.cap, .int .i64 m.pc, .slice v.regs.a v.regs.len v.regs.cap, .slice v.data.a v.data.len v.data.cap, .slice v.stk.a v.stk.len v.stk.cap, .slice v.inp.a v.inp.len v.inp.cap, .slice v.out.a v.out.len v.out.cap, .int .i64 m.steps, .int .i64 m.fin, .int .i64 m.val] : Array Value)[j]? := fun j => cell_of_row u6 w.heap.size j _ 27 (0, 0) Q6.out
  go_wp2
  go_ret
  exact ⟨rfl, B6.out⟩
end Go.Proofs.Ytomhmjhcbencmaa.W
