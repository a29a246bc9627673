import Derived.Test.YtjdfffdeljgenaaGreatDoorP03
import Derived.Test.YtjdfffdeljgenaaGreatDoorP09
set_option linter.unusedVariables false
set_option linter.unusedSimpArgs false
namespace Go.Proofs.YtjdfffdeljgenaaGreatDoor.W
open Go.RowKit
structure Outside (t0 t6 : Nat) (w w' : World) : Prop where
  os : w'.os = w.os
  tape : w'.tape = w.tape
  output : w'.output = w.output
  size : w.heap.size ≤ w'.heap.size
  block : ∀ b, b < w.heap.size → b < t0 ∨ t6 ≤ b → w'.heap[b]? = w.heap[b]?
theorem Outside.trans {t0 t6 : Nat} {a b c : World} (h : Outside t0 t6 a b) (k : Outside t0 t6 b c) : Outside t0 t6 a c :=
  ⟨k.os.trans h.os, k.tape.trans h.tape, k.output.trans h.output, Nat.le_trans h.size k.size, fun i h1 h2 => (k.block i (Nat.lt_of_lt_of_le h1 h.size) h2).trans (h.block i h1 h2)⟩
theorem Outside.of_below {t0 t6 : Nat} {a b : World} (h : Below a.heap.size a b) : Outside t0 t6 a b := ⟨h.os, h.tape, h.output, h.size, fun i h1 _ => h.block i h1⟩
theorem Outside.of_touch {t0 t6 lo hi : Nat} {s : SV} {a b : World} (h : Touch s.a a b) (hs : Span s lo hi) (h0 : t0 ≤ lo) (h6 : hi ≤ t6) : Outside t0 t6 a b :=
  ⟨h.os, h.tape, h.output, Nat.le_of_eq h.size.symm, fun i _ h2 => h.block i (fun ad had => by have := hs ad had; omega)⟩
theorem Outside.below {t0 t6 : Nat} {a b : World} (h : Outside t0 t6 a b) (hs : t0 ≤ a.heap.size) : Below t0 a b := ⟨h.os, h.tape, h.output, h.size, fun i hi => h.block i (by omega) (.inl hi)⟩
theorem Own.untouched {k : IntKind} {e : TypeId} {lo l1 h1 l2 h2 : Nat} {w w' : World} {s t : SV} {zs : List Int} (h : Own k e lo w s.a s.len s.cap zs) (hs : Span s l1 h1) (ht : Span t l2 h2) (hd : h1 ≤ l2 ∨ h2 ≤ l1) (hT : Touch t.a w w') : Own k e lo w' s.a s.len s.cap zs := by
  obtain ⟨hown, hwf⟩ := h
  refine ⟨⟨hown.1, ?_⟩, hwf⟩
  rcases hown.2 with h0 | ⟨g, cap', cur, h0, hlo, hg, hr⟩
  · exact .inl h0
  · refine .inr ⟨g, cap', cur, h0, hlo, ?_, hr⟩
    simp only [Value.slice.injEq] at h0
    rw [hT.block g (fun ad had => by
      have a1 := hs ⟨g, 0, none⟩ h0.1
      have a2 := ht ad had
      have a3 : l1 ≤ g ∧ g < h1 := a1
      omega), hg]
def MSepAt (t0 t6 : Nat) (v : MV) : Prop := ∃ t1 t2 t3 t4 t5 : Nat, Span v.code t0 t1 ∧ Span v.regs t1 t2 ∧ Span v.data t2 t3 ∧ Span v.stk t3 t4 ∧ Span v.inp t4 t5 ∧ Span v.out t5 t6 ∧ t0 ≤ t1 ∧ t1 ≤ t2 ∧ t2 ≤ t3 ∧ t3 ≤ t4 ∧ t4 ≤ t5 ∧ t5 ≤ t6
theorem MSep.at {v : MV} (h : MSep v) : ∃ t0 t6, MSepAt t0 t6 v := by
  obtain ⟨t0, t1, t2, t3, t4, t5, t6, h⟩ := h
  exact ⟨t0, t6, t1, t2, t3, t4, t5, h⟩
def marked (v : MV) (m : Pl.Mac) (k : Int) : Pl.Mac := ⟨mkIntS (k) v.code.len, m.pc, mkIntS (k + (v.code.len : Int)) v.regs.len, mkByteS (k + (v.code.len : Int) + (v.regs.len : Int)) v.data.len, mkByteS (k + (v.code.len : Int) + (v.regs.len : Int) + (v.data.len : Int)) v.stk.len, mkByteS (k + (v.code.len : Int) + (v.regs.len : Int) + (v.data.len : Int) + (v.stk.len : Int)) v.inp.len, mkByteS (k + (v.code.len : Int) + (v.regs.len : Int) + (v.data.len : Int) + (v.stk.len : Int) + (v.inp.len : Int)) v.out.len, m.steps, m.fin, m.val⟩
set_option maxHeartbeats 4000000 in
theorem markMachine_any {lo t0 t6 : Nat} (v : MV) (m : Pl.Mac) (k : Int) (w : World) (h : MOwn lo w v m) (hs : MSepAt t0 t6 v) (h6 : t6 ≤ w.heap.size) (hk : 0 ≤ k ∧ k ≤ 1073741824) (hsz : Pl.mSize m ≤ 1048576) :
    Calls Tryz.prog 20 #[.agg #[.slice v.code.a v.code.len v.code.cap, .int .i64 m.pc, .slice v.regs.a v.regs.len v.regs.cap, .slice v.data.a v.data.len v.data.cap, .slice v.stk.a v.stk.len v.stk.cap, .slice v.inp.a v.inp.len v.inp.cap, .slice v.out.a v.out.len v.out.cap, .int .i64 m.steps, .int .i64 m.fin, .int .i64 m.val], .int .i64 k] w fun e w' => e = .returned (.int .i64 (k + (Pl.mSize m : Int))) ∧ MOwn lo w' v (marked v m k) ∧ Outside t0 t6 w w' := by
  obtain ⟨t1, t2, t3, t4, t5, p0, p1, p2, p3, p4, p5, q0, q1, q2, q3, q4, q5⟩ := hs
  obtain ⟨r0, r1, r2, r3, r4, r5⟩ := h
  have e0 := r0.row.1
  have e1 := r1.row.1
  have e2 := r2.row.1
  have e3 := r3.row.1
  have e4 := r4.row.1
  have e5 := r5.row.1
  have HS : Hid (Pl.mSize m = v.code.len + v.regs.len + v.data.len + v.stk.len + v.inp.len + v.out.len) := by
    show Pl.mSize m = _
    unfold Pl.mSize
    rw [e0, e1, e2, e3, e4, e5]
  have hsum : v.code.len + v.regs.len + v.data.len + v.stk.len + v.inp.len + v.out.len ≤ 1048576 := by rw [← HS.out]; exact hsz
  clear e0 e1 e2 e3 e4 e5 hsz
  have R0 : Hid (Own .i64 3 lo w v.code.a v.code.len v.code.cap m.code) := r0
  have R1 : Hid (Own .i64 3 lo w v.regs.a v.regs.len v.regs.cap m.regs) := r1
  have R2 : Hid (Own .u8 5 lo w v.data.a v.data.len v.data.cap m.data) := r2
  have R3 : Hid (Own .u8 5 lo w v.stk.a v.stk.len v.stk.cap m.stk) := r3
  have R4 : Hid (Own .u8 5 lo w v.inp.a v.inp.len v.inp.cap m.inp) := r4
  have R5 : Hid (Own .u8 5 lo w v.out.a v.out.len v.out.cap m.out) := r5
  clear r0 r1 r2 r3 r4 r5
  go_enter Tryz.func20, Tryz.ntmps20
  go_wp2_with fail
  refine calls_at fun u0 hu0 => ?_
  have Q0 : Hid (u0.heap[w.heap.size]? = some (.cells #[.slice v.code.a v.code.len v.code.cap, .int .i64 m.pc, .slice v.regs.a v.regs.len v.regs.cap, .slice v.data.a v.data.len v.data.cap, .slice v.stk.a v.stk.len v.stk.cap, .slice v.inp.a v.inp.len v.inp.cap, .slice v.out.a v.out.len v.out.cap, .int .i64 m.steps, .int .i64 m.fin, .int .i64 m.val] 25)) := by show u0.heap[w.heap.size]? = _; rw [hu0]; exact heap_alloc_new w _
  have dd : Below w.heap.size w u0 := by rw [hu0]; exact below_alloc w _
  have T0 : Hid (Outside t0 t6 w u0) := Outside.of_below dd
  have Z0 : Hid (w.heap.size < u0.heap.size) := by show w.heap.size < u0.heap.size; rw [hu0]; simp
  have K0_0 : Hid (Own .i64 3 lo u0 v.code.a v.code.len v.code.cap m.code) := R0.out.keep dd
  have K0_1 : Hid (Own .i64 3 lo u0 v.regs.a v.regs.len v.regs.cap m.regs) := R1.out.keep dd
  have K0_2 : Hid (Own .u8 5 lo u0 v.data.a v.data.len v.data.cap m.data) := R2.out.keep dd
  have K0_3 : Hid (Own .u8 5 lo u0 v.stk.a v.stk.len v.stk.cap m.stk) := R3.out.keep dd
  have K0_4 : Hid (Own .u8 5 lo u0 v.inp.a v.inp.len v.inp.cap m.inp) := R4.out.keep dd
  have K0_5 : Hid (Own .u8 5 lo u0 v.out.a v.out.len v.out.cap m.out) := R5.out.keep dd
  clear hu0 dd R0 R1 R2 R3 R4 R5
  refine (markIntS_any v.code.a v.code.len v.code.cap m.code (k) u0 K0_0.out (by omega)).mono ?_
  rintro e u1 ⟨rfl, o0, h0⟩
  have M1_0 : Hid (Own .i64 3 lo u1 v.code.a v.code.len v.code.cap (mkIntS (k) v.code.len)) := o0
  have K1_1 : Hid (Own .i64 3 lo u1 v.regs.a v.regs.len v.regs.cap m.regs) := K0_1.out.untouched p1 p0 (by omega) h0
  have K1_2 : Hid (Own .u8 5 lo u1 v.data.a v.data.len v.data.cap m.data) := K0_2.out.untouched p2 p0 (by omega) h0
  have K1_3 : Hid (Own .u8 5 lo u1 v.stk.a v.stk.len v.stk.cap m.stk) := K0_3.out.untouched p3 p0 (by omega) h0
  have K1_4 : Hid (Own .u8 5 lo u1 v.inp.a v.inp.len v.inp.cap m.inp) := K0_4.out.untouched p4 p0 (by omega) h0
  have K1_5 : Hid (Own .u8 5 lo u1 v.out.a v.out.len v.out.cap m.out) := K0_5.out.untouched p5 p0 (by omega) h0
  have T1 : Hid (Outside t0 t6 w u1) := T0.out.trans (Outside.of_touch h0 p0 (by omega) (by omega))
  have Q1 : Hid (u1.heap[w.heap.size]? = some (.cells #[.slice v.code.a v.code.len v.code.cap, .int .i64 m.pc, .slice v.regs.a v.regs.len v.regs.cap, .slice v.data.a v.data.len v.data.cap, .slice v.stk.a v.stk.len v.stk.cap, .slice v.inp.a v.inp.len v.inp.cap, .slice v.out.a v.out.len v.out.cap, .int .i64 m.steps, .int .i64 m.fin, .int .i64 m.val] 25)) := (h0.block w.heap.size (fun ad had => by have := p0 ad had; omega)).trans Q0.out
  clear o0 h0 T0 Q0 K0_0 K0_1 K0_2 K0_3 K0_4 K0_5 
  have kb : ∀ j, u1.cell? ⟨w.heap.size, j, none⟩ = (#[.slice v.code.a v.code.len v.code.cap, .int .i64 m.pc, .slice v.regs.a v.regs.len v.regs.cap, .slice v.data.a v.data.len v.data.cap, .slice v.stk.a v.stk.len v.stk.cap, .slice v.inp.a v.inp.len v.inp.cap, .slice v.out.a v.out.len v.out.cap, .int .i64 m.steps, .int .i64 m.fin, .int .i64 m.val] : Array Value)[j]? := fun j => cell_of_row u1 w.heap.size j _ 25 (0, 0) Q1.out
  go_wp2_with fail
  clear kb
  refine (markIntS_any v.regs.a v.regs.len v.regs.cap m.regs (k + (v.code.len : Int)) u1 K1_1.out (by omega)).mono ?_
  rintro e u2 ⟨rfl, o1, h1⟩
  have M2_1 : Hid (Own .i64 3 lo u2 v.regs.a v.regs.len v.regs.cap (mkIntS (k + (v.code.len : Int)) v.regs.len)) := o1
  have M2_0 : Hid (Own .i64 3 lo u2 v.code.a v.code.len v.code.cap (mkIntS (k) v.code.len)) := M1_0.out.untouched p0 p1 (by omega) h1
  have K2_2 : Hid (Own .u8 5 lo u2 v.data.a v.data.len v.data.cap m.data) := K1_2.out.untouched p2 p1 (by omega) h1
  have K2_3 : Hid (Own .u8 5 lo u2 v.stk.a v.stk.len v.stk.cap m.stk) := K1_3.out.untouched p3 p1 (by omega) h1
  have K2_4 : Hid (Own .u8 5 lo u2 v.inp.a v.inp.len v.inp.cap m.inp) := K1_4.out.untouched p4 p1 (by omega) h1
  have K2_5 : Hid (Own .u8 5 lo u2 v.out.a v.out.len v.out.cap m.out) := K1_5.out.untouched p5 p1 (by omega) h1
  have T2 : Hid (Outside t0 t6 w u2) := T1.out.trans (Outside.of_touch h1 p1 (by omega) (by omega))
  have Q2 : Hid (u2.heap[w.heap.size]? = some (.cells #[.slice v.code.a v.code.len v.code.cap, .int .i64 m.pc, .slice v.regs.a v.regs.len v.regs.cap, .slice v.data.a v.data.len v.data.cap, .slice v.stk.a v.stk.len v.stk.cap, .slice v.inp.a v.inp.len v.inp.cap, .slice v.out.a v.out.len v.out.cap, .int .i64 m.steps, .int .i64 m.fin, .int .i64 m.val] 25)) := (h1.block w.heap.size (fun ad had => by have := p1 ad had; omega)).trans Q1.out
  clear o1 h1 T1 Q1 K1_1 K1_2 K1_3 K1_4 K1_5 M1_0
  have kb : ∀ j, u2.cell? ⟨w.heap.size, j, none⟩ = (#[.slice v.code.a v.code.len v.code.cap, .int .i64 m.pc, .slice v.regs.a v.regs.len v.regs.cap, .slice v.data.a v.data.len v.data.cap, .slice v.stk.a v.stk.len v.stk.cap, .slice v.inp.a v.inp.len v.inp.cap, .slice v.out.a v.out.len v.out.cap, .int .i64 m.steps, .int .i64 m.fin, .int .i64 m.val] : Array Value)[j]? := fun j => cell_of_row u2 w.heap.size j _ 25 (0, 0) Q2.out
  go_wp2_with fail
  clear kb
  refine (markByteS_any v.data.a v.data.len v.data.cap m.data (k + (v.code.len : Int) + (v.regs.len : Int)) u2 K2_2.out (by omega)).mono ?_
  rintro e u3 ⟨rfl, o2, h2⟩
  have M3_2 : Hid (Own .u8 5 lo u3 v.data.a v.data.len v.data.cap (mkByteS (k + (v.code.len : Int) + (v.regs.len : Int)) v.data.len)) := o2
  have M3_0 : Hid (Own .i64 3 lo u3 v.code.a v.code.len v.code.cap (mkIntS (k) v.code.len)) := M2_0.out.untouched p0 p2 (by omega) h2
  have M3_1 : Hid (Own .i64 3 lo u3 v.regs.a v.regs.len v.regs.cap (mkIntS (k + (v.code.len : Int)) v.regs.len)) := M2_1.out.untouched p1 p2 (by omega) h2
  have K3_3 : Hid (Own .u8 5 lo u3 v.stk.a v.stk.len v.stk.cap m.stk) := K2_3.out.untouched p3 p2 (by omega) h2
  have K3_4 : Hid (Own .u8 5 lo u3 v.inp.a v.inp.len v.inp.cap m.inp) := K2_4.out.untouched p4 p2 (by omega) h2
  have K3_5 : Hid (Own .u8 5 lo u3 v.out.a v.out.len v.out.cap m.out) := K2_5.out.untouched p5 p2 (by omega) h2
  have T3 : Hid (Outside t0 t6 w u3) := T2.out.trans (Outside.of_touch h2 p2 (by omega) (by omega))
  have Q3 : Hid (u3.heap[w.heap.size]? = some (.cells #[.slice v.code.a v.code.len v.code.cap, .int .i64 m.pc, .slice v.regs.a v.regs.len v.regs.cap, .slice v.data.a v.data.len v.data.cap, .slice v.stk.a v.stk.len v.stk.cap, .slice v.inp.a v.inp.len v.inp.cap, .slice v.out.a v.out.len v.out.cap, .int .i64 m.steps, .int .i64 m.fin, .int .i64 m.val] 25)) := (h2.block w.heap.size (fun ad had => by have := p2 ad had; omega)).trans Q2.out
  clear o2 h2 T2 Q2 K2_2 K2_3 K2_4 K2_5 M2_0 M2_1
  have kb : ∀ j, u3.cell? ⟨w.heap.size, j, none⟩ = (#[.slice v.code.a v.code.len v.code.cap, .int .i64 m.pc, .slice v.regs.a v.regs.len v.regs.cap, .slice v.data.a v.data.len v.data.cap, .slice v.stk.a v.stk.len v.stk.cap, .slice v.inp.a v.inp.len v.inp.cap, .slice v.out.a v.out.len v.out.cap, .int .i64 m.steps, .int .i64 m.fin, .int .i64 m.val] : Array Value)[j]? := fun j => cell_of_row u3 w.heap.size j _ 25 (0, 0) Q3.out
  go_wp2_with fail
  clear kb
  refine (markByteS_any v.stk.a v.stk.len v.stk.cap m.stk (k + (v.code.len : Int) + (v.regs.len : Int) + (v.data.len : Int)) u3 K3_3.out (by omega)).mono ?_
  rintro e u4 ⟨rfl, o3, h3⟩
  have M4_3 : Hid (Own .u8 5 lo u4 v.stk.a v.stk.len v.stk.cap (mkByteS (k + (v.code.len : Int) + (v.regs.len : Int) + (v.data.len : Int)) v.stk.len)) := o3
  have M4_0 : Hid (Own .i64 3 lo u4 v.code.a v.code.len v.code.cap (mkIntS (k) v.code.len)) := M3_0.out.untouched p0 p3 (by omega) h3
  have M4_1 : Hid (Own .i64 3 lo u4 v.regs.a v.regs.len v.regs.cap (mkIntS (k + (v.code.len : Int)) v.regs.len)) := M3_1.out.untouched p1 p3 (by omega) h3
  have M4_2 : Hid (Own .u8 5 lo u4 v.data.a v.data.len v.data.cap (mkByteS (k + (v.code.len : Int) + (v.regs.len : Int)) v.data.len)) := M3_2.out.untouched p2 p3 (by omega) h3
  have K4_4 : Hid (Own .u8 5 lo u4 v.inp.a v.inp.len v.inp.cap m.inp) := K3_4.out.untouched p4 p3 (by omega) h3
  have K4_5 : Hid (Own .u8 5 lo u4 v.out.a v.out.len v.out.cap m.out) := K3_5.out.untouched p5 p3 (by omega) h3
  have T4 : Hid (Outside t0 t6 w u4) := T3.out.trans (Outside.of_touch h3 p3 (by omega) (by omega))
  have Q4 : Hid (u4.heap[w.heap.size]? = some (.cells #[.slice v.code.a v.code.len v.code.cap, .int .i64 m.pc, .slice v.regs.a v.regs.len v.regs.cap, .slice v.data.a v.data.len v.data.cap, .slice v.stk.a v.stk.len v.stk.cap, .slice v.inp.a v.inp.len v.inp.cap, .slice v.out.a v.out.len v.out.cap, .int .i64 m.steps, .int .i64 m.fin, .int .i64 m.val] 25)) := (h3.block w.heap.size (fun ad had => by have := p3 ad had; omega)).trans Q3.out
  clear o3 h3 T3 Q3 K3_3 K3_4 K3_5 M3_0 M3_1 M3_2
  have kb : ∀ j, u4.cell? ⟨w.heap.size, j, none⟩ = (#[.slice v.code.a v.code.len v.code.cap, .int .i64 m.pc, .slice v.regs.a v.regs.len v.regs.cap, .slice v.data.a v.data.len v.data.cap, .slice v.stk.a v.stk.len v.stk.cap, .slice v.inp.a v.inp.len v.inp.cap, .slice v.out.a v.out.len v.out.cap, .int .i64 m.steps, .int .i64 m.fin, .int .i64 m.val] : Array Value)[j]? := fun j => cell_of_row u4 w.heap.size j _ 25 (0, 0) Q4.out
  go_wp2_with fail
  clear kb
  refine (markByteS_any v.inp.a v.inp.len v.inp.cap m.inp (k + (v.code.len : Int) + (v.regs.len : Int) + (v.data.len : Int) + (v.stk.len : Int)) u4 K4_4.out (by omega)).mono ?_
  rintro e u5 ⟨rfl, o4, h4⟩
  have M5_4 : Hid (Own .u8 5 lo u5 v.inp.a v.inp.len v.inp.cap (mkByteS (k + (v.code.len : Int) + (v.regs.len : Int) + (v.data.len : Int) + (v.stk.len : Int)) v.inp.len)) := o4
  have M5_0 : Hid (Own .i64 3 lo u5 v.code.a v.code.len v.code.cap (mkIntS (k) v.code.len)) := M4_0.out.untouched p0 p4 (by omega) h4
  have M5_1 : Hid (Own .i64 3 lo u5 v.regs.a v.regs.len v.regs.cap (mkIntS (k + (v.code.len : Int)) v.regs.len)) := M4_1.out.untouched p1 p4 (by omega) h4
  have M5_2 : Hid (Own .u8 5 lo u5 v.data.a v.data.len v.data.cap (mkByteS (k + (v.code.len : Int) + (v.regs.len : Int)) v.data.len)) := M4_2.out.untouched p2 p4 (by omega) h4
  have M5_3 : Hid (Own .u8 5 lo u5 v.stk.a v.stk.len v.stk.cap (mkByteS (k + (v.code.len : Int) + (v.regs.len : Int) + (v.data.len : Int)) v.stk.len)) := M4_3.out.untouched p3 p4 (by omega) h4
  have K5_5 : Hid (Own .u8 5 lo u5 v.out.a v.out.len v.out.cap m.out) := K4_5.out.untouched p5 p4 (by omega) h4
  have T5 : Hid (Outside t0 t6 w u5) := T4.out.trans (Outside.of_touch h4 p4 (by omega) (by omega))
  have Q5 : Hid (u5.heap[w.heap.size]? = some (.cells #[.slice v.code.a v.code.len v.code.cap, .int .i64 m.pc, .slice v.regs.a v.regs.len v.regs.cap, .slice v.data.a v.data.len v.data.cap, .slice v.stk.a v.stk.len v.stk.cap, .slice v.inp.a v.inp.len v.inp.cap, .slice v.out.a v.out.len v.out.cap, .int .i64 m.steps, .int .i64 m.fin, .int .i64 m.val] 25)) := (h4.block w.heap.size (fun ad had => by have := p4 ad had; omega)).trans Q4.out
  clear o4 h4 T4 Q4 K4_4 K4_5 M4_0 M4_1 M4_2 M4_3
  have kb : ∀ j, u5.cell? ⟨w.heap.size, j, none⟩ = (#[.slice v.code.a v.code.len v.code.cap, .int .i64 m.pc, .slice v.regs.a v.regs.len v.regs.cap, .slice v.data.a v.data.len v.data.cap, .slice v.stk.a v.stk.len v.stk.cap, .slice v.inp.a v.inp.len v.inp.cap, .slice v.out.a v.out.len v.out.cap, .int .i64 m.steps, .int .i64 m.fin, .int .i64 m.val] : Array Value)[j]? := fun j => cell_of_row u5 w.heap.size j _ 25 (0, 0) Q5.out
  go_wp2_with fail
  clear kb
  refine (markByteS_any v.out.a v.out.len v.out.cap m.out (k + (v.code.len : Int) + (v.regs.len : Int) + (v.data.len : Int) + (v.stk.len : Int) + (v.inp.len : Int)) u5 K5_5.out (by omega)).mono ?_
  rintro e u6 ⟨rfl, o5, h5⟩
  have M6_5 : Hid (Own .u8 5 lo u6 v.out.a v.out.len v.out.cap (mkByteS (k + (v.code.len : Int) + (v.regs.len : Int) + (v.data.len : Int) + (v.stk.len : Int) + (v.inp.len : Int)) v.out.len)) := o5
  have M6_0 : Hid (Own .i64 3 lo u6 v.code.a v.code.len v.code.cap (mkIntS (k) v.code.len)) := M5_0.out.untouched p0 p5 (by omega) h5
  have M6_1 : Hid (Own .i64 3 lo u6 v.regs.a v.regs.len v.regs.cap (mkIntS (k + (v.code.len : Int)) v.regs.len)) := M5_1.out.untouched p1 p5 (by omega) h5
  have M6_2 : Hid (Own .u8 5 lo u6 v.data.a v.data.len v.data.cap (mkByteS (k + (v.code.len : Int) + (v.regs.len : Int)) v.data.len)) := M5_2.out.untouched p2 p5 (by omega) h5
  have M6_3 : Hid (Own .u8 5 lo u6 v.stk.a v.stk.len v.stk.cap (mkByteS (k + (v.code.len : Int) + (v.regs.len : Int) + (v.data.len : Int)) v.stk.len)) := M5_3.out.untouched p3 p5 (by omega) h5
  have M6_4 : Hid (Own .u8 5 lo u6 v.inp.a v.inp.len v.inp.cap (mkByteS (k + (v.code.len : Int) + (v.regs.len : Int) + (v.data.len : Int) + (v.stk.len : Int)) v.inp.len)) := M5_4.out.untouched p4 p5 (by omega) h5
  have T6 : Hid (Outside t0 t6 w u6) := T5.out.trans (Outside.of_touch h5 p5 (by omega) (by omega))
  have Q6 : Hid (u6.heap[w.heap.size]? = some (.cells #[.slice v.code.a v.code.len v.code.cap, .int .i64 m.pc, .slice v.regs.a v.regs.len v.regs.cap, .slice v.data.a v.data.len v.data.cap, .slice v.stk.a v.stk.len v.stk.cap, .slice v.inp.a v.inp.len v.inp.cap, .slice v.out.a v.out.len v.out.cap, .int .i64 m.steps, .int .i64 m.fin, .int .i64 m.val] 25)) := (h5.block w.heap.size (fun ad had => by have := p5 ad had; omega)).trans Q5.out
  clear o5 h5 T5 Q5 K5_5 M5_0 M5_1 M5_2 M5_3 M5_4
  have kb : ∀ j, u6.cell? ⟨w.heap.size, j, none⟩ = (#[.slice v.code.a v.code.len v.code.cap, .int .i64 m.pc, .slice v.regs.a v.regs.len v.regs.cap, .slice v.data.a v.data.len v.data.cap, .slice v.stk.a v.stk.len v.stk.cap, .slice v.inp.a v.inp.len v.inp.cap, .slice v.out.a v.out.len v.out.cap, .int .i64 m.steps, .int .i64 m.fin, .int .i64 m.val] : Array Value)[j]? := fun j => cell_of_row u6 w.heap.size j _ 25 (0, 0) Q6.out
  go_wp2
  go_ret
  refine ⟨ret_int (by have := HS.out; omega), ⟨M6_0.out, M6_1.out, M6_2.out, M6_3.out, M6_4.out, M6_5.out⟩, T6.out⟩
set_option maxHeartbeats 4000000 in
theorem heldMachine_any {lo : Nat} (v : MV) (m : Pl.Mac) (k : Int) (w : World) (h : MIs lo w v (marked v m k)) (hk : 0 ≤ k ∧ k ≤ 1073741824) (hsum : v.code.len + v.regs.len + v.data.len + v.stk.len + v.inp.len + v.out.len ≤ 1048576) :
    Calls Tryz.prog 21 #[.agg #[.slice v.code.a v.code.len v.code.cap, .int .i64 m.pc, .slice v.regs.a v.regs.len v.regs.cap, .slice v.data.a v.data.len v.data.cap, .slice v.stk.a v.stk.len v.stk.cap, .slice v.inp.a v.inp.len v.inp.cap, .slice v.out.a v.out.len v.out.cap, .int .i64 m.steps, .int .i64 m.fin, .int .i64 m.val], .int .i64 k] w fun e w' => e = .returned (.int .i64 (k + (v.code.len : Int) + (v.regs.len : Int) + (v.data.len : Int) + (v.stk.len : Int) + (v.inp.len : Int) + (v.out.len : Int))) ∧ Below w.heap.size w w' := by
  obtain ⟨r0, r1, r2, r3, r4, r5⟩ := h
  unfold marked at r0 r1 r2 r3 r4 r5
  dsimp only at r0 r1 r2 r3 r4 r5
  have R0 : Hid (Row .i64 lo w v.code.a v.code.len v.code.cap (mkIntS (k) v.code.len)) := r0
  have R1 : Hid (Row .i64 lo w v.regs.a v.regs.len v.regs.cap (mkIntS (k + (v.code.len : Int)) v.regs.len)) := r1
  have R2 : Hid (Row .u8 lo w v.data.a v.data.len v.data.cap (mkByteS (k + (v.code.len : Int) + (v.regs.len : Int)) v.data.len)) := r2
  have R3 : Hid (Row .u8 lo w v.stk.a v.stk.len v.stk.cap (mkByteS (k + (v.code.len : Int) + (v.regs.len : Int) + (v.data.len : Int)) v.stk.len)) := r3
  have R4 : Hid (Row .u8 lo w v.inp.a v.inp.len v.inp.cap (mkByteS (k + (v.code.len : Int) + (v.regs.len : Int) + (v.data.len : Int) + (v.stk.len : Int)) v.inp.len)) := r4
  have R5 : Hid (Row .u8 lo w v.out.a v.out.len v.out.cap (mkByteS (k + (v.code.len : Int) + (v.regs.len : Int) + (v.data.len : Int) + (v.stk.len : Int) + (v.inp.len : Int)) v.out.len)) := r5
  clear r0 r1 r2 r3 r4 r5
  go_enter Tryz.func21, Tryz.ntmps21
  go_wp2_with fail
  refine calls_at fun u0 hu0 => ?_
  have Q0 : Hid (u0.heap[w.heap.size]? = some (.cells #[.slice v.code.a v.code.len v.code.cap, .int .i64 m.pc, .slice v.regs.a v.regs.len v.regs.cap, .slice v.data.a v.data.len v.data.cap, .slice v.stk.a v.stk.len v.stk.cap, .slice v.inp.a v.inp.len v.inp.cap, .slice v.out.a v.out.len v.out.cap, .int .i64 m.steps, .int .i64 m.fin, .int .i64 m.val] 25)) := by show u0.heap[w.heap.size]? = _; rw [hu0]; exact heap_alloc_new w _
  have B0 : Hid (Below w.heap.size w u0) := by show Below w.heap.size w u0; rw [hu0]; exact below_alloc w _
  have Z0 : Hid (w.heap.size < u0.heap.size) := by show w.heap.size < u0.heap.size; rw [hu0]; simp
  clear hu0
  refine (heldIntS_any v.code.a v.code.len v.code.cap (k) u0 (Row.keep R0.out B0.out) (by omega)).mono ?_
  rintro e u1 ⟨rfl, d0⟩
  have Q1 : Hid (u1.heap[w.heap.size]? = some (.cells #[.slice v.code.a v.code.len v.code.cap, .int .i64 m.pc, .slice v.regs.a v.regs.len v.regs.cap, .slice v.data.a v.data.len v.data.cap, .slice v.stk.a v.stk.len v.stk.cap, .slice v.inp.a v.inp.len v.inp.cap, .slice v.out.a v.out.len v.out.cap, .int .i64 m.steps, .int .i64 m.fin, .int .i64 m.val] 25)) := (d0.block _ Z0.out).trans Q0.out
  have B1 : Hid (Below w.heap.size w u1) := B0.out.trans (d0.mono (Nat.le_of_lt Z0.out))
  have Z1 : Hid (w.heap.size < u1.heap.size) := Nat.lt_of_lt_of_le Z0.out d0.size
  clear d0 Q0 B0 Z0
  have kb : ∀ j, u1.cell? ⟨w.heap.size, j, none⟩ = (#[.slice v.code.a v.code.len v.code.cap, .int .i64 m.pc, .slice v.regs.a v.regs.len v.regs.cap, .slice v.data.a v.data.len v.data.cap, .slice v.stk.a v.stk.len v.stk.cap, .slice v.inp.a v.inp.len v.inp.cap, .slice v.out.a v.out.len v.out.cap, .int .i64 m.steps, .int .i64 m.fin, .int .i64 m.val] : Array Value)[j]? := fun j => cell_of_row u1 w.heap.size j _ 25 (0, 0) Q1.out
  go_wp2_with fail
  clear kb
  refine (heldIntS_any v.regs.a v.regs.len v.regs.cap (k + (v.code.len : Int)) u1 (Row.keep R1.out B1.out) (by omega)).mono ?_
  rintro e u2 ⟨rfl, d1⟩
  have Q2 : Hid (u2.heap[w.heap.size]? = some (.cells #[.slice v.code.a v.code.len v.code.cap, .int .i64 m.pc, .slice v.regs.a v.regs.len v.regs.cap, .slice v.data.a v.data.len v.data.cap, .slice v.stk.a v.stk.len v.stk.cap, .slice v.inp.a v.inp.len v.inp.cap, .slice v.out.a v.out.len v.out.cap, .int .i64 m.steps, .int .i64 m.fin, .int .i64 m.val] 25)) := (d1.block _ Z1.out).trans Q1.out
  have B2 : Hid (Below w.heap.size w u2) := B1.out.trans (d1.mono (Nat.le_of_lt Z1.out))
  have Z2 : Hid (w.heap.size < u2.heap.size) := Nat.lt_of_lt_of_le Z1.out d1.size
  clear d1 Q1 B1 Z1
  have kb : ∀ j, u2.cell? ⟨w.heap.size, j, none⟩ = (#[.slice v.code.a v.code.len v.code.cap, .int .i64 m.pc, .slice v.regs.a v.regs.len v.regs.cap, .slice v.data.a v.data.len v.data.cap, .slice v.stk.a v.stk.len v.stk.cap, .slice v.inp.a v.inp.len v.inp.cap, .slice v.out.a v.out.len v.out.cap, .int .i64 m.steps, .int .i64 m.fin, .int .i64 m.val] : Array Value)[j]? := fun j => cell_of_row u2 w.heap.size j _ 25 (0, 0) Q2.out
  go_wp2_with fail
  clear kb
  refine (heldByteS_any v.data.a v.data.len v.data.cap (k + (v.code.len : Int) + (v.regs.len : Int)) u2 (Row.keep R2.out B2.out) (by omega)).mono ?_
  rintro e u3 ⟨rfl, d2⟩
  have Q3 : Hid (u3.heap[w.heap.size]? = some (.cells #[.slice v.code.a v.code.len v.code.cap, .int .i64 m.pc, .slice v.regs.a v.regs.len v.regs.cap, .slice v.data.a v.data.len v.data.cap, .slice v.stk.a v.stk.len v.stk.cap, .slice v.inp.a v.inp.len v.inp.cap, .slice v.out.a v.out.len v.out.cap, .int .i64 m.steps, .int .i64 m.fin, .int .i64 m.val] 25)) := (d2.block _ Z2.out).trans Q2.out
  have B3 : Hid (Below w.heap.size w u3) := B2.out.trans (d2.mono (Nat.le_of_lt Z2.out))
  have Z3 : Hid (w.heap.size < u3.heap.size) := Nat.lt_of_lt_of_le Z2.out d2.size
  clear d2 Q2 B2 Z2
  have kb : ∀ j, u3.cell? ⟨w.heap.size, j, none⟩ = (#[.slice v.code.a v.code.len v.code.cap, .int .i64 m.pc, .slice v.regs.a v.regs.len v.regs.cap, .slice v.data.a v.data.len v.data.cap, .slice v.stk.a v.stk.len v.stk.cap, .slice v.inp.a v.inp.len v.inp.cap, .slice v.out.a v.out.len v.out.cap, .int .i64 m.steps, .int .i64 m.fin, .int .i64 m.val] : Array Value)[j]? := fun j => cell_of_row u3 w.heap.size j _ 25 (0, 0) Q3.out
  go_wp2_with fail
  clear kb
  refine (heldByteS_any v.stk.a v.stk.len v.stk.cap (k + (v.code.len : Int) + (v.regs.len : Int) + (v.data.len : Int)) u3 (Row.keep R3.out B3.out) (by omega)).mono ?_
  rintro e u4 ⟨rfl, d3⟩
  have Q4 : Hid (u4.heap[w.heap.size]? = some (.cells #[.slice v.code.a v.code.len v.code.cap, .int .i64 m.pc, .slice v.regs.a v.regs.len v.regs.cap, .slice v.data.a v.data.len v.data.cap, .slice v.stk.a v.stk.len v.stk.cap, .slice v.inp.a v.inp.len v.inp.cap, .slice v.out.a v.out.len v.out.cap, .int .i64 m.steps, .int .i64 m.fin, .int .i64 m.val] 25)) := (d3.block _ Z3.out).trans Q3.out
  have B4 : Hid (Below w.heap.size w u4) := B3.out.trans (d3.mono (Nat.le_of_lt Z3.out))
  have Z4 : Hid (w.heap.size < u4.heap.size) := Nat.lt_of_lt_of_le Z3.out d3.size
  clear d3 Q3 B3 Z3
  have kb : ∀ j, u4.cell? ⟨w.heap.size, j, none⟩ = (#[.slice v.code.a v.code.len v.code.cap, .int .i64 m.pc, .slice v.regs.a v.regs.len v.regs.cap, .slice v.data.a v.data.len v.data.cap, .slice v.stk.a v.stk.len v.stk.cap, .slice v.inp.a v.inp.len v.inp.cap, .slice v.out.a v.out.len v.out.cap, .int .i64 m.steps, .int .i64 m.fin, .int .i64 m.val] : Array Value)[j]? := fun j => cell_of_row u4 w.heap.size j _ 25 (0, 0) Q4.out
  go_wp2_with fail
  clear kb
  refine (heldByteS_any v.inp.a v.inp.len v.inp.cap (k + (v.code.len : Int) + (v.regs.len : Int) + (v.data.len : Int) + (v.stk.len : Int)) u4 (Row.keep R4.out B4.out) (by omega)).mono ?_
  rintro e u5 ⟨rfl, d4⟩
  have Q5 : Hid (u5.heap[w.heap.size]? = some (.cells #[.slice v.code.a v.code.len v.code.cap, .int .i64 m.pc, .slice v.regs.a v.regs.len v.regs.cap, .slice v.data.a v.data.len v.data.cap, .slice v.stk.a v.stk.len v.stk.cap, .slice v.inp.a v.inp.len v.inp.cap, .slice v.out.a v.out.len v.out.cap, .int .i64 m.steps, .int .i64 m.fin, .int .i64 m.val] 25)) := (d4.block _ Z4.out).trans Q4.out
  have B5 : Hid (Below w.heap.size w u5) := B4.out.trans (d4.mono (Nat.le_of_lt Z4.out))
  have Z5 : Hid (w.heap.size < u5.heap.size) := Nat.lt_of_lt_of_le Z4.out d4.size
  clear d4 Q4 B4 Z4
  have kb : ∀ j, u5.cell? ⟨w.heap.size, j, none⟩ = (#[.slice v.code.a v.code.len v.code.cap, .int .i64 m.pc, .slice v.regs.a v.regs.len v.regs.cap, .slice v.data.a v.data.len v.data.cap, .slice v.stk.a v.stk.len v.stk.cap, .slice v.inp.a v.inp.len v.inp.cap, .slice v.out.a v.out.len v.out.cap, .int .i64 m.steps, .int .i64 m.fin, .int .i64 m.val] : Array Value)[j]? := fun j => cell_of_row u5 w.heap.size j _ 25 (0, 0) Q5.out
  go_wp2_with fail
  clear kb
  refine (heldByteS_any v.out.a v.out.len v.out.cap (k + (v.code.len : Int) + (v.regs.len : Int) + (v.data.len : Int) + (v.stk.len : Int) + (v.inp.len : Int)) u5 (Row.keep R5.out B5.out) (by omega)).mono ?_
  rintro e u6 ⟨rfl, d5⟩
  have Q6 : Hid (u6.heap[w.heap.size]? = some (.cells #[.slice v.code.a v.code.len v.code.cap, .int .i64 m.pc, .slice v.regs.a v.regs.len v.regs.cap, .slice v.data.a v.data.len v.data.cap, .slice v.stk.a v.stk.len v.stk.cap, .slice v.inp.a v.inp.len v.inp.cap, .slice v.out.a v.out.len v.out.cap, .int .i64 m.steps, .int .i64 m.fin, .int .i64 m.val] 25)) := (d5.block _ Z5.out).trans Q5.out
  have B6 : Hid (Below w.heap.size w u6) := B5.out.trans (d5.mono (Nat.le_of_lt Z5.out))
  have Z6 : Hid (w.heap.size < u6.heap.size) := Nat.lt_of_lt_of_le Z5.out d5.size
  clear d5 Q5 B5 Z5
  have kb : ∀ j, u6.cell? ⟨w.heap.size, j, none⟩ = (#[.slice v.code.a v.code.len v.code.cap, .int .i64 m.pc, .slice v.regs.a v.regs.len v.regs.cap, .slice v.data.a v.data.len v.data.cap, .slice v.stk.a v.stk.len v.stk.cap, .slice v.inp.a v.inp.len v.inp.cap, .slice v.out.a v.out.len v.out.cap, .int .i64 m.steps, .int .i64 m.fin, .int .i64 m.val] : Array Value)[j]? := fun j => cell_of_row u6 w.heap.size j _ 25 (0, 0) Q6.out
  go_wp2
  go_ret
  exact ⟨rfl, B6.out⟩
end Go.Proofs.YtjdfffdeljgenaaGreatDoor.W
namespace Go.Proofs.YtjdfffdeljgenaaGreatDoor.W
open Go.RowKit
def MApart (t0 t6 : Nat) (v : MV) : Prop := ∃ l h : Nat → Nat, (Span v.code (l 0) (h 0) ∧ Span v.regs (l 1) (h 1) ∧ Span v.data (l 2) (h 2) ∧ Span v.stk (l 3) (h 3) ∧ Span v.inp (l 4) (h 4) ∧ Span v.out (l 5) (h 5)) ∧ (∀ i, i < 6 → t0 ≤ l i ∧ h i ≤ t6) ∧ ∀ i j, i < 6 → j < 6 → i ≠ j → h i ≤ l j ∨ h j ≤ l i
theorem MSepAt.apart {t0 t6 : Nat} {v : MV} (hs : MSepAt t0 t6 v) : MApart t0 t6 v := by
  obtain ⟨t1, t2, t3, t4, t5, p0, p1, p2, p3, p4, p5, q0, q1, q2, q3, q4, q5⟩ := hs
  refine ⟨fun | 0 => t0 | 1 => t1 | 2 => t2 | 3 => t3 | 4 => t4 | _ => t5, fun | 0 => t1 | 1 => t2 | 2 => t3 | 3 => t4 | 4 => t5 | _ => t6, ⟨p0, p1, p2, p3, p4, p5⟩, ?_, ?_⟩
  · intro i hi
    rcases (show i = 0 ∨ i = 1 ∨ i = 2 ∨ i = 3 ∨ i = 4 ∨ i = 5 by omega) with rfl | rfl | rfl | rfl | rfl | rfl <;> simp <;> omega
  · intro i j hi hj hij
    rcases (show i = 0 ∨ i = 1 ∨ i = 2 ∨ i = 3 ∨ i = 4 ∨ i = 5 by omega) with rfl | rfl | rfl | rfl | rfl | rfl <;> rcases (show j = 0 ∨ j = 1 ∨ j = 2 ∨ j = 3 ∨ j = 4 ∨ j = 5 by omega) with rfl | rfl | rfl | rfl | rfl | rfl <;> simp <;> omega
end Go.Proofs.YtjdfffdeljgenaaGreatDoor.W
namespace Go.Proofs.YtjdfffdeljgenaaGreatDoor.Pl
def stk_ (zs : List Int) (p : Nat) (x : Int) : Nat → List Int
  | 0 => zs
  | k + 1 => (stk_ zs p x k).set (p + k) (x / pw (8 * k) % 256)
theorem stk_length (zs : List Int) (p : Nat) (x : Int) : ∀ k, (stk_ zs p x k).length = zs.length
  | 0 => rfl
  | k + 1 => by unfold stk_; rw [List.length_set]; exact stk_length zs p x k
theorem stk_bytes {zs : List Int} (hz : ∀ n ∈ zs, 0 ≤ n ∧ n ≤ 255) (p : Nat) (x : Int) : ∀ k, ∀ n ∈ stk_ zs p x k, 0 ≤ n ∧ n ≤ 255
  | 0 => hz
  | k + 1 => by
    intro n hn
    unfold stk_ at hn
    rcases List.mem_or_eq_of_mem_set hn with h | h
    · exact stk_bytes hz p x k n h
    · subst h; omega
end Go.Proofs.YtjdfffdeljgenaaGreatDoor.Pl
namespace Go.Proofs.YtjdfffdeljgenaaGreatDoor.W
open Go.RowKit
set_option maxHeartbeats 1000000 in
theorem store_bad (da sa : Option Addr) (dl dc sl sc : Nat) (kind at_ x code : Int) (w : World)
    (HF : Hid (∀ W, Calls Tryz.prog 107 #[.agg #[.iface 78 (.slice da dl dc), .iface 79 (.slice sa sl sc)], .int .i64 kind, .int .i64 at_] W fun e w' => e = .panicked [{ v := .iface 97 (.int .i64 code), recovered := false }] ∧ Below W.heap.size W w')) :
    Calls Tryz.prog 82 #[.agg #[.iface 78 (.slice da dl dc), .iface 79 (.slice sa sl sc)], .int .i64 kind, .int .i64 at_, .int .i64 x] w fun e w' => e = .panicked [{ v := .iface 97 (.int .i64 code), recovered := false }] ∧ Below w.heap.size w w' := by
  have P0 : Hid ((w.alloc (.cells #[.iface 78 (.slice da dl dc), .iface 79 (.slice sa sl sc)] 53)).heap[w.heap.size]? = some (.cells #[.iface 78 (.slice da dl dc), .iface 79 (.slice sa sl sc)] 53)) := heap_alloc_new w _
  go_enter Tryz.func82, Tryz.ntmps82
  go_wp2_with (refine wpList_load_row rfl 53 _ rfl (w.heap.size) ?hx 53 #[.iface 78 (.slice da dl dc), .iface 79 (.slice sa sl sc)] (0, 0) _ ?hg Tryz.underlying53 ?hd ?hi ?_; (case hx => rfl); (case hg => exact P0.out); (case hd => rfl); (case hi => kernel_rfl))
  refine (HF.out _).mono ?_
  rintro e u1 ⟨rfl, d1⟩
  go_wp2_with fail
  exact ⟨rfl, rfl, (below_alloc w _).trans (d1.mono (by simp))⟩
theorem wf_u8 {n : Int} (h : 0 ≤ n ∧ n ≤ 255) : (Lit.int .u8 n).wf = true := by
  simp [Lit.wf, IntKind.min, IntKind.max, IntKind.signed, IntKind.bits]
  omega
set_option maxHeartbeats 4000000 in
theorem store_good {lo : Nat} (da sa : Option Addr) (dl dc sl sc : Nat) (kind at_ x : Int) (g p size cap c0 len : Nat) (zs : List Int) (hs : 1 ≤ size ∧ size ≤ 4) (hx : -9223372036854775808 ≤ x ∧ x ≤ 9223372036854775807) (hp : p + size ≤ len) (hcap : c0 ≤ 9223372036854775807) (w : World) (hz : ∀ n ∈ zs, 0 ≤ n ∧ n ≤ 255)
    (ho : Own .u8 5 lo w (some ⟨g, 0, none⟩) len cap zs)
    (HF : Hid (∀ W, Calls Tryz.prog 107 #[.agg #[.iface 78 (.slice da dl dc), .iface 79 (.slice sa sl sc)], .int .i64 kind, .int .i64 at_] W fun e w' => e = .returned (.slice (some ⟨g, 0 + p, none⟩) size c0) ∧ Below W.heap.size W w')) :
    Calls Tryz.prog 82 #[.agg #[.iface 78 (.slice da dl dc), .iface 79 (.slice sa sl sc)], .int .i64 kind, .int .i64 at_, .int .i64 x] w fun e w' => e = .returned (.tuple #[]) ∧ ∃ u, Below w.heap.size w u ∧ Touch (some ⟨g, 0, none⟩) u w' ∧ Own .u8 5 lo w' (some ⟨g, 0, none⟩) len cap (Pl.stk_ zs p x size) := by
  have P0 : Hid ((w.alloc (.cells #[.iface 78 (.slice da dl dc), .iface 79 (.slice sa sl sc)] 53)).heap[w.heap.size]? = some (.cells #[.iface 78 (.slice da dl dc), .iface 79 (.slice sa sl sc)] 53)) := heap_alloc_new w _
  have HO : Hid (Own .u8 5 lo w (some ⟨g, 0, none⟩) len cap zs) := ho
  have HZ : Hid (∀ n ∈ zs, 0 ≤ n ∧ n ≤ 255) := hz
  have HL : Hid (zs.length = len) := ho.row.1
  clear ho hz
  go_enter Tryz.func82, Tryz.ntmps82
  go_wp2_with (refine wpList_load_row rfl 53 _ rfl (w.heap.size) ?hx 53 #[.iface 78 (.slice da dl dc), .iface 79 (.slice sa sl sc)] (0, 0) _ ?hg Tryz.underlying53 ?hd ?hi ?_; (case hx => rfl); (case hg => exact P0.out); (case hd => rfl); (case hi => kernel_rfl))
  refine (HF.out _).mono ?_
  rintro e u1 ⟨rfl, d1⟩
  have B1 : Hid (Below w.heap.size w u1) := (below_alloc w _).trans (d1.mono (by simp))
  clear d1 P0 HF
  have HO1 : Hid (u1.ownsRow lo 5 1 (.slice (some ⟨g, 0, none⟩) len cap) len (zs.map (Value.int .u8))) := (HO.out.keep B1.out).1
  clear HO
  rw [Nat.zero_add]
  go_wp2_with fail
  go_loopw [16] (fun i wr => ∃ j : Nat, j ≤ size ∧ i = .int .i64 j ∧ wr.ownsRow lo 5 1 (.slice (some ⟨g, 0, none⟩) len cap) len ((Pl.stk_ zs p x j).map (Value.int .u8)) ∧ Touch (some ⟨g, 0, none⟩) u1 wr) (fun i _ => size - (intOf i).toNat)
  case atStart => exact ⟨0, Nat.zero_le _, rfl, HO1.out, Touch.refl _ _⟩
  case round =>
    obtain ⟨j, hj, rfl, hw, ht⟩ := hrel
    clear HO1
    have HW : Hid (wr.ownsRow lo 5 1 (.slice (some ⟨g, 0, none⟩) len cap) len ((Pl.stk_ zs p x j).map (Value.int .u8))) := hw
    have HT : Hid (Touch (some ⟨g, 0, none⟩) u1 wr) := ht
    clear hw ht
    by_cases hlt : j < size
    · have hfz : wr.frozen? ⟨g, p + j, none⟩ = false := HW.out.frozenAt (p + j)
      obtain ⟨y, hy⟩ : ∃ y, wr.cell? ⟨g, p + j, none⟩ = some (.int .u8 y) := by
        have := HW.out.cellAt (p + j) (by omega)
        rw [List.getElem?_map, List.getElem?_eq_getElem (by rw [Pl.stk_length]; have := HL.out; omega)] at this
        exact ⟨_, this⟩
      have HS := HW.out.stored (p + j) (.int .u8 (x / Pl.pw (8 * j) % 256))
      have HS' : Hid ((wr.setCell ⟨g, p + j, none⟩ (.int .u8 (x / Pl.pw (8 * j) % 256))).ownsRow lo 5 1 (.slice (some ⟨g, 0, none⟩) len cap) len ((Pl.stk_ zs p x (j + 1)).map (Value.int .u8))) := by
        have h := HS.1
        rw [← List.map_set] at h
        exact h
      clear HS
      rcases (show j = 0 ∨ j = 1 ∨ j = 2 ∨ j = 3 by omega) with rfl | rfl | rfl | rfl
      · rw [show Pl.pw (8 * 0) = 1 from by decide] at HS'
        rw [Nat.add_zero] at hfz hy HS'
        rw [Int.ediv_one] at HS'
        go_wp2
        go_roundw
        case rel => exact ⟨1, by omega, rfl, HS'.out, HT.out.setCell rfl _⟩
        case measure => simp [intOf]; omega
      · rw [show Pl.pw (8 * 1) = 256 from by decide] at HS'
        go_wp2
        go_roundw
        case rel => exact ⟨2, by omega, rfl, HS'.out, HT.out.setCell rfl _⟩
        case measure => simp [intOf]; omega
      · rw [show Pl.pw (8 * 2) = 65536 from by decide] at HS'
        go_wp2
        go_roundw
        case rel => exact ⟨3, by omega, rfl, HS'.out, HT.out.setCell rfl _⟩
        case measure => simp [intOf]; omega
      · rw [show Pl.pw (8 * 3) = 16777216 from by decide] at HS'
        go_wp2
        go_roundw
        case rel => exact ⟨4, by omega, rfl, HS'.out, HT.out.setCell rfl _⟩
        case measure => simp [intOf]; omega
    · have hje : j = size := by omega
      subst hje
      go_wp2
      go_end0
      exact ⟨rfl, u1, B1.out, HT.out, HW.out, fun n hn => wf_u8 (Pl.stk_bytes HZ.out p x _ n hn)⟩
end Go.Proofs.YtjdfffdeljgenaaGreatDoor.W
namespace Go.Proofs.YtjdfffdeljgenaaGreatDoor.Pl
theorem pw_eight (j : Nat) : pw (8 * (j + 1)) = pw (8 * j) * 256 := by
  have : 8 * (j + 1) = 8 * j + 8 := by omega
  rw [this]
  simp only [pw, Int.pow_add]
  rfl
theorem stk_wd (zs : List Int) (p : Nat) (x : Int) : ∀ k, k ≤ 4 → stk_ zs p (wd x) k = stk_ zs p x k
  | 0, _ => rfl
  | k + 1, h => by
    unfold stk_
    rw [stk_wd zs p x k (by omega)]
    have e : wd x / pw (8 * k) % 256 = x / pw (8 * k) % 256 := by
      have e0 : wd x = x % 4294967296 := rfl
      rcases (show k = 0 ∨ k = 1 ∨ k = 2 ∨ k = 3 by omega) with rfl | rfl | rfl | rfl
      · rw [show pw (8 * 0) = 1 from by decide, e0]; omega
      · rw [show pw (8 * 1) = 256 from by decide, e0]; omega
      · rw [show pw (8 * 2) = 65536 from by decide, e0]; omega
      · rw [show pw (8 * 3) = 16777216 from by decide, e0]; omega
    rw [e]
end Go.Proofs.YtjdfffdeljgenaaGreatDoor.Pl
namespace Go.Proofs.YtjdfffdeljgenaaGreatDoor.W
open Go.RowKit
set_option maxHeartbeats 1000000 in
theorem l3Store_align (gm : Nat) (kind at_ x : Int) (size : Nat) (hs : 1 ≤ size ∧ size ≤ 4) (hk : Pl.ks kind = size) (ha : (at_.tmod (size : Int) != 0) = true) (w : World) :
    Calls Tryz.prog 76 #[.pointer (some ⟨gm, 0, none⟩), .int .i64 kind, .int .i64 at_, .int .i64 x] w fun e w' => e = .returned (.int .i64 3) ∧ w' = w := by
  go_enter Tryz.func76, Tryz.ntmps76
  go_wp2_with (go_at_call 103; refine (specKindSize_any _ _).mono ?_; rintro e w' ⟨rfl, rfl⟩; rw [hk])
  go_ret
  exact ⟨rfl, rfl⟩
set_option maxHeartbeats 1000000 in
theorem l3Store_none (v : MV) (m : Pl.Mac) (gm : Nat) (kind at_ x : Int) (size : Nat) (w : World) (hm : w.heap[gm]? = some (.cells #[.slice v.code.a v.code.len v.code.cap, .int .i64 m.pc, .slice v.regs.a v.regs.len v.regs.cap, .slice v.data.a v.data.len v.data.cap, .slice v.stk.a v.stk.len v.stk.cap, .slice v.inp.a v.inp.len v.inp.cap, .slice v.out.a v.out.len v.out.cap, .int .i64 m.steps, .int .i64 m.fin, .int .i64 m.val] 25)) (hb : -9223372036854775808 ≤ at_ ∧ at_ ≤ 9223372036854775807) (hl : v.data.len ≤ 65536) (hl' : v.stk.len ≤ 65536) (hs : 1 ≤ size ∧ size ≤ 4) (hk : Pl.ks kind = size) (ha : (at_.tmod (size : Int) != 0) = false) (hd0 : Hid (at_ < 1048576 ∨ (v.data.len : Int) - size < at_ - 1048576)) (hd1 : Hid (at_ < 2097152 - (v.stk.len : Int) ∨ (v.stk.len : Int) - size < at_ - (2097152 - (v.stk.len : Int)))) :
    Calls Tryz.prog 76 #[.pointer (some ⟨gm, 0, none⟩), .int .i64 kind, .int .i64 at_, .int .i64 x] w fun e w' => e = .returned (.int .i64 4) ∧ w' = w := by
  have HM : Hid (w.heap[gm]? = some (.cells #[.slice v.code.a v.code.len v.code.cap, .int .i64 m.pc, .slice v.regs.a v.regs.len v.regs.cap, .slice v.data.a v.data.len v.data.cap, .slice v.stk.a v.stk.len v.stk.cap, .slice v.inp.a v.inp.len v.inp.cap, .slice v.out.a v.out.len v.out.cap, .int .i64 m.steps, .int .i64 m.fin, .int .i64 m.val] 25)) := hm
  have hs0 : ((size : Int) == 0) = false := by simp; omega
  clear hm
  go_enter Tryz.func76, Tryz.ntmps76
  go_wp2_with (first | (go_at_call 103; refine (specKindSize_any _ _).mono ?_; rintro e w' ⟨rfl, rfl⟩; rw [hk]) | (go_at_call 104; refine (spot_none v m gm _ size _ HM.out hb hl hl' hs hd0.out hd1.out).mono ?_; rintro e w' ⟨rfl, rfl⟩))
  go_ret
  exact ⟨rfl, rfl⟩
set_option maxHeartbeats 4000000 in
theorem l3Store_data {lo : Nat} (v : MV) (m : Pl.Mac) (gm : Nat) (kind at_ x : Int) (g p size : Nat) (zs : List Int) (w : World) (hm : w.heap[gm]? = some (.cells #[.slice v.code.a v.code.len v.code.cap, .int .i64 m.pc, .slice v.regs.a v.regs.len v.regs.cap, .slice v.data.a v.data.len v.data.cap, .slice v.stk.a v.stk.len v.stk.cap, .slice v.inp.a v.inp.len v.inp.cap, .slice v.out.a v.out.len v.out.cap, .int .i64 m.steps, .int .i64 m.fin, .int .i64 m.val] 25)) (hb : -9223372036854775808 ≤ at_ ∧ at_ ≤ 9223372036854775807) (hl : v.data.len ≤ 65536) (hl' : v.stk.len ≤ 65536) (hs : 1 ≤ size ∧ size ≤ 4) (hk : Pl.ks kind = size) (ha : (at_.tmod (size : Int) != 0) = false)  (hp : Hid (at_ = 1048576 + p)) (h2 : p + size ≤ v.data.len) (hadr : v.data.a = some ⟨g, 0, none⟩) (hne : gm ≠ g)
    (HZ : Hid (∀ n ∈ zs, 0 ≤ n ∧ n ≤ 255)) (ho : Own .u8 5 lo w v.data.a v.data.len v.data.cap zs) :
    Calls Tryz.prog 76 #[.pointer (some ⟨gm, 0, none⟩), .int .i64 kind, .int .i64 at_, .int .i64 x] w fun e w' => e = .returned (.int .i64 0) ∧ Own .u8 5 lo w' v.data.a v.data.len v.data.cap (Pl.stk_ zs p x size) ∧ Touch v.data.a w w' := by
  have HL : Hid (zs.length = v.data.len) := ho.row.1
  rw [hadr] at ho ⊢
  have HO : Hid (w.ownsRow lo 5 1 (.slice (some ⟨g, 0, none⟩) v.data.len v.data.cap) v.data.len (zs.map (Value.int .u8))) := ho.1
  have HM : Hid (w.heap[gm]? = some (.cells #[.slice v.code.a v.code.len v.code.cap, .int .i64 m.pc, .slice v.regs.a v.regs.len v.regs.cap, .slice v.data.a v.data.len v.data.cap, .slice v.stk.a v.stk.len v.stk.cap, .slice v.inp.a v.inp.len v.inp.cap, .slice v.out.a v.out.len v.out.cap, .int .i64 m.steps, .int .i64 m.fin, .int .i64 m.val] 25)) := hm
  have HA : Hid (v.data.a = some ⟨g, 0, none⟩) := hadr
  have hs0 : ((size : Int) == 0) = false := by simp; omega
  have HNE : Hid (gm ≠ g) := hne
  clear ho hm hne
  rw [← Pl.stk_wd zs p x size hs.2]
  obtain ⟨z, hz⟩ : ∃ z, z = Pl.wd x := ⟨_, rfl⟩
  have hzb := Pl.wd_bd x
  rw [← hz] at hzb ⊢
  have HX : Hid (z = Pl.wd x) := hz
  clear hz hadr
  have w0n : ∃ w0, w0 = w := ⟨w, rfl⟩
  obtain ⟨w0, hw0⟩ := w0n
  rw [← hw0] at HO HM ⊢
  clear hw0
  go_enter Tryz.func76, Tryz.ntmps76
  go_wp2_with (first | (go_at_call 103; refine (specKindSize_any _ _).mono ?_; rintro e w' ⟨rfl, hw'⟩; rw [hw', hk]; clear hw') | (go_at_call 104; refine (spot_data v m gm _ p size _ HM.out hb hl hl' hs hp.out h2).mono ?_; rintro e w' ⟨rfl, hw'⟩; rw [hw']; clear hw') | (go_at_call 75; refine (specWord_any _ _).mono ?_; rintro e w' ⟨rfl, hw'⟩; rw [hw', ← HX.out]; clear hw'))
  go_loopw [3, 12] (fun y i wr => ∃ j : Nat, j ≤ size ∧ i = .int .i64 j ∧ y = .int .i64 (z / Pl.pw (8 * j)) ∧ wr.ownsRow lo 5 1 (.slice (some ⟨g, 0, none⟩) v.data.len v.data.cap) v.data.len ((Pl.stk_ zs p z j).map (Value.int .u8)) ∧ Touch (some ⟨g, 0, none⟩) w0 wr) (fun _ i _ => size - (intOf i).toNat)
  case atStart => exact ⟨0, Nat.zero_le _, rfl, by rw [show Pl.pw (8 * 0) = 1 from by decide, Int.ediv_one], HO.out, Touch.refl _ _⟩
  case round =>
    obtain ⟨j, hj, rfl, rfl, hw, ht⟩ := hrel
    have HW : Hid (wr.ownsRow lo 5 1 (.slice (some ⟨g, 0, none⟩) v.data.len v.data.cap) v.data.len ((Pl.stk_ zs p z j).map (Value.int .u8))) := hw
    have HT : Hid (Touch (some ⟨g, 0, none⟩) w0 wr) := ht
    have km : ∀ j, wr.cell? ⟨gm, j, none⟩ = (#[.slice v.code.a v.code.len v.code.cap, .int .i64 m.pc, .slice v.regs.a v.regs.len v.regs.cap, .slice v.data.a v.data.len v.data.cap, .slice v.stk.a v.stk.len v.stk.cap, .slice v.inp.a v.inp.len v.inp.cap, .slice v.out.a v.out.len v.out.cap, .int .i64 m.steps, .int .i64 m.fin, .int .i64 m.val] : Array Value)[j]? := fun j => cell_of_row wr gm j _ 25 (0, 0) ((ht.block gm (fun ad had => by simp at had; subst had; exact HNE.out)).trans HM.out)
    rw [HA.out] at km
    clear hw ht HO
    obtain ⟨y, hy⟩ : ∃ y, y = z / Pl.pw (8 * j) := ⟨_, rfl⟩
    have hyb : 0 ≤ y ∧ y ≤ 4294967295 := by
      have p1 := Pl.pw_pos (8 * j)
      have a1 : 0 ≤ z / Pl.pw (8 * j) := Int.ediv_nonneg hzb.1 (by omega)
      have a2 := Int.ediv_le_self (Pl.pw (8 * j)) hzb.1
      rw [hy]; omega
    have HN : Hid (z / Pl.pw (8 * (j + 1)) = y / 256) := by
      show z / Pl.pw (8 * (j + 1)) = y / 256
      rw [hy, Pl.pw_eight, Int.ediv_ediv_of_nonneg (Int.le_of_lt (Pl.pw_pos _))]
    rw [← hy]
    by_cases hlt : j < size
    · have hfz : wr.frozen? ⟨g, p + j, none⟩ = false := HW.out.frozenAt (p + j)
      obtain ⟨c, hc⟩ : ∃ c, wr.cell? ⟨g, p + j, none⟩ = some (.int .u8 c) := by
        have := HW.out.cellAt (p + j) (by omega)
        rw [List.getElem?_map, List.getElem?_eq_getElem (by rw [Pl.stk_length]; have := HL.out; omega)] at this
        exact ⟨_, this⟩
      have HS : Hid ((wr.setCell ⟨g, p + j, none⟩ (.int .u8 (y % 256))).ownsRow lo 5 1 (.slice (some ⟨g, 0, none⟩) v.data.len v.data.cap) v.data.len ((Pl.stk_ zs p z (j + 1)).map (Value.int .u8))) := by
        have h := (HW.out.stored (p + j) (.int .u8 (z / Pl.pw (8 * j) % 256))).1
        rw [← List.map_set, ← hy] at h
        show World.ownsRow _ _ _ _ _ _ _
        unfold Pl.stk_
        rw [← hy]
        exact h
      clear hy
      go_wp2
      go_roundw
      case rel => exact ⟨j + 1, by omega, by go_num, congrArg (Value.int .i64) HN.out.symm, HS.out, HT.out.setCell rfl _⟩
      case measure => simp [intOf]; omega
    · have hje : j = size := by omega
      subst hje
      go_wp2
      go_ret
      exact ⟨rfl, ⟨HW.out, fun n hn => wf_u8 (Pl.stk_bytes HZ.out p z _ n hn)⟩, HT.out⟩
set_option maxHeartbeats 4000000 in
theorem l3Store_stack {lo : Nat} (v : MV) (m : Pl.Mac) (gm : Nat) (kind at_ x : Int) (g p size : Nat) (zs : List Int) (w : World) (hm : w.heap[gm]? = some (.cells #[.slice v.code.a v.code.len v.code.cap, .int .i64 m.pc, .slice v.regs.a v.regs.len v.regs.cap, .slice v.data.a v.data.len v.data.cap, .slice v.stk.a v.stk.len v.stk.cap, .slice v.inp.a v.inp.len v.inp.cap, .slice v.out.a v.out.len v.out.cap, .int .i64 m.steps, .int .i64 m.fin, .int .i64 m.val] 25)) (hb : -9223372036854775808 ≤ at_ ∧ at_ ≤ 9223372036854775807) (hl : v.data.len ≤ 65536) (hl' : v.stk.len ≤ 65536) (hs : 1 ≤ size ∧ size ≤ 4) (hk : Pl.ks kind = size) (ha : (at_.tmod (size : Int) != 0) = false) (hd0 : Hid (at_ < 1048576 ∨ (v.data.len : Int) - size < at_ - 1048576)) (hp : Hid (at_ = 2097152 - (v.stk.len : Int) + p)) (h2 : p + size ≤ v.stk.len) (hadr : v.stk.a = some ⟨g, 0, none⟩) (hne : gm ≠ g)
    (HZ : Hid (∀ n ∈ zs, 0 ≤ n ∧ n ≤ 255)) (ho : Own .u8 5 lo w v.stk.a v.stk.len v.stk.cap zs) :
    Calls Tryz.prog 76 #[.pointer (some ⟨gm, 0, none⟩), .int .i64 kind, .int .i64 at_, .int .i64 x] w fun e w' => e = .returned (.int .i64 0) ∧ Own .u8 5 lo w' v.stk.a v.stk.len v.stk.cap (Pl.stk_ zs p x size) ∧ Touch v.stk.a w w' := by
  have HL : Hid (zs.length = v.stk.len) := ho.row.1
  rw [hadr] at ho ⊢
  have HO : Hid (w.ownsRow lo 5 1 (.slice (some ⟨g, 0, none⟩) v.stk.len v.stk.cap) v.stk.len (zs.map (Value.int .u8))) := ho.1
  have HM : Hid (w.heap[gm]? = some (.cells #[.slice v.code.a v.code.len v.code.cap, .int .i64 m.pc, .slice v.regs.a v.regs.len v.regs.cap, .slice v.data.a v.data.len v.data.cap, .slice v.stk.a v.stk.len v.stk.cap, .slice v.inp.a v.inp.len v.inp.cap, .slice v.out.a v.out.len v.out.cap, .int .i64 m.steps, .int .i64 m.fin, .int .i64 m.val] 25)) := hm
  have HA : Hid (v.stk.a = some ⟨g, 0, none⟩) := hadr
  have hs0 : ((size : Int) == 0) = false := by simp; omega
  have HNE : Hid (gm ≠ g) := hne
  clear ho hm hne
  rw [← Pl.stk_wd zs p x size hs.2]
  obtain ⟨z, hz⟩ : ∃ z, z = Pl.wd x := ⟨_, rfl⟩
  have hzb := Pl.wd_bd x
  rw [← hz] at hzb ⊢
  have HX : Hid (z = Pl.wd x) := hz
  clear hz hadr
  have w0n : ∃ w0, w0 = w := ⟨w, rfl⟩
  obtain ⟨w0, hw0⟩ := w0n
  rw [← hw0] at HO HM ⊢
  clear hw0
  go_enter Tryz.func76, Tryz.ntmps76
  go_wp2_with (first | (go_at_call 103; refine (specKindSize_any _ _).mono ?_; rintro e w' ⟨rfl, hw'⟩; rw [hw', hk]; clear hw') | (go_at_call 104; refine (spot_stack v m gm _ p size _ HM.out hb hl hl' hs hd0.out hp.out h2).mono ?_; rintro e w' ⟨rfl, hw'⟩; rw [hw']; clear hw') | (go_at_call 75; refine (specWord_any _ _).mono ?_; rintro e w' ⟨rfl, hw'⟩; rw [hw', ← HX.out]; clear hw'))
  go_loopw [3, 12] (fun y i wr => ∃ j : Nat, j ≤ size ∧ i = .int .i64 j ∧ y = .int .i64 (z / Pl.pw (8 * j)) ∧ wr.ownsRow lo 5 1 (.slice (some ⟨g, 0, none⟩) v.stk.len v.stk.cap) v.stk.len ((Pl.stk_ zs p z j).map (Value.int .u8)) ∧ Touch (some ⟨g, 0, none⟩) w0 wr) (fun _ i _ => size - (intOf i).toNat)
  case atStart => exact ⟨0, Nat.zero_le _, rfl, by rw [show Pl.pw (8 * 0) = 1 from by decide, Int.ediv_one], HO.out, Touch.refl _ _⟩
  case round =>
    obtain ⟨j, hj, rfl, rfl, hw, ht⟩ := hrel
    have HW : Hid (wr.ownsRow lo 5 1 (.slice (some ⟨g, 0, none⟩) v.stk.len v.stk.cap) v.stk.len ((Pl.stk_ zs p z j).map (Value.int .u8))) := hw
    have HT : Hid (Touch (some ⟨g, 0, none⟩) w0 wr) := ht
    have km : ∀ j, wr.cell? ⟨gm, j, none⟩ = (#[.slice v.code.a v.code.len v.code.cap, .int .i64 m.pc, .slice v.regs.a v.regs.len v.regs.cap, .slice v.data.a v.data.len v.data.cap, .slice v.stk.a v.stk.len v.stk.cap, .slice v.inp.a v.inp.len v.inp.cap, .slice v.out.a v.out.len v.out.cap, .int .i64 m.steps, .int .i64 m.fin, .int .i64 m.val] : Array Value)[j]? := fun j => cell_of_row wr gm j _ 25 (0, 0) ((ht.block gm (fun ad had => by simp at had; subst had; exact HNE.out)).trans HM.out)
    rw [HA.out] at km
    clear hw ht HO
    obtain ⟨y, hy⟩ : ∃ y, y = z / Pl.pw (8 * j) := ⟨_, rfl⟩
    have hyb : 0 ≤ y ∧ y ≤ 4294967295 := by
      have p1 := Pl.pw_pos (8 * j)
      have a1 : 0 ≤ z / Pl.pw (8 * j) := Int.ediv_nonneg hzb.1 (by omega)
      have a2 := Int.ediv_le_self (Pl.pw (8 * j)) hzb.1
      rw [hy]; omega
    have HN : Hid (z / Pl.pw (8 * (j + 1)) = y / 256) := by
      show z / Pl.pw (8 * (j + 1)) = y / 256
      rw [hy, Pl.pw_eight, Int.ediv_ediv_of_nonneg (Int.le_of_lt (Pl.pw_pos _))]
    rw [← hy]
    by_cases hlt : j < size
    · have hfz : wr.frozen? ⟨g, p + j, none⟩ = false := HW.out.frozenAt (p + j)
      obtain ⟨c, hc⟩ : ∃ c, wr.cell? ⟨g, p + j, none⟩ = some (.int .u8 c) := by
        have := HW.out.cellAt (p + j) (by omega)
        rw [List.getElem?_map, List.getElem?_eq_getElem (by rw [Pl.stk_length]; have := HL.out; omega)] at this
        exact ⟨_, this⟩
      have HS : Hid ((wr.setCell ⟨g, p + j, none⟩ (.int .u8 (y % 256))).ownsRow lo 5 1 (.slice (some ⟨g, 0, none⟩) v.stk.len v.stk.cap) v.stk.len ((Pl.stk_ zs p z (j + 1)).map (Value.int .u8))) := by
        have h := (HW.out.stored (p + j) (.int .u8 (z / Pl.pw (8 * j) % 256))).1
        rw [← List.map_set, ← hy] at h
        show World.ownsRow _ _ _ _ _ _ _
        unfold Pl.stk_
        rw [← hy]
        exact h
      clear hy
      go_wp2
      go_roundw
      case rel => exact ⟨j + 1, by omega, by go_num, congrArg (Value.int .i64) HN.out.symm, HS.out, HT.out.setCell rfl _⟩
      case measure => simp [intOf]; omega
    · have hje : j = size := by omega
      subst hje
      go_wp2
      go_ret
      exact ⟨rfl, ⟨HW.out, fun n hn => wf_u8 (Pl.stk_bytes HZ.out p z _ n hn)⟩, HT.out⟩
end Go.Proofs.YtjdfffdeljgenaaGreatDoor.W
