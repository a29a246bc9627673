import Derived.Test.YtfcfnbncgadomaaQ10
set_option linter.unusedVariables false
set_option linter.unusedSimpArgs false
namespace Go.Proofs.Ytfcfnbncgadomaa.W
open Go.RowKit
theorem keep_oth {U : World} {g b i : Nat} {o : Obj} {v : Value} (h : U.heap[g]? = some o) (hg : g ≠ b) : (U.setCell ⟨b, i, none⟩ v).heap[g]? = some o := (Below.heap_setCell U ⟨b, i, none⟩ v g hg).trans h
/-- a slice whose block lies in a span -/
def Span (s : SV) (lo hi : Nat) : Prop := ∀ ad, s.a = some ad → lo ≤ ad.block ∧ ad.block < hi
theorem Own.span {k : IntKind} {e : TypeId} {lo hi : Nat} {w : World} {a : Option Addr} {len cap : Nat} {zs : List Int} (h : Own k e lo w a len cap zs) (hh : w.heap.size ≤ hi) : Span ⟨a, len, cap⟩ lo hi := by
  intro ad had
  have had' : a = some ad := had
  subst had'
  have := h.1.lt ad.block rfl
  omega
/-- the slices of a machine lie in spans of their own -/
def MSep (v : MV) : Prop := ∃ t0 t1 t2 t3 t4 t5 t6 : Nat, Span v.code t0 t1 ∧ Span v.regs t1 t2 ∧ Span v.data t2 t3 ∧ Span v.stk t3 t4 ∧ Span v.inp t4 t5 ∧ Span v.out t5 t6 ∧ t0 ≤ t1 ∧ t1 ≤ t2 ∧ t2 ≤ t3 ∧ t3 ≤ t4 ∧ t4 ≤ t5 ∧ t5 ≤ t6
set_option maxHeartbeats 4000000 in
theorem copyMachine_any {lo : Nat} (v : MV) (m : Pl.Mac) (w : World) (h : MOwn lo w v m) (hsz : Pl.mSize m ≤ 1048576) :
    Calls Try.prog 26 #[.agg #[.slice v.code.a v.code.len v.code.cap, .int .i64 m.pc, .slice v.regs.a v.regs.len v.regs.cap, .slice v.data.a v.data.len v.data.cap, .slice v.stk.a v.stk.len v.stk.cap, .slice v.inp.a v.inp.len v.inp.cap, .slice v.out.a v.out.len v.out.cap, .int .i64 m.steps, .int .i64 m.fin, .int .i64 m.val]] w fun e w' => ∃ v' : MV, e = .returned (.agg #[.slice v'.code.a v'.code.len v'.code.cap, .int .i64 m.pc, .slice v'.regs.a v'.regs.len v'.regs.cap, .slice v'.data.a v'.data.len v'.data.cap, .slice v'.stk.a v'.stk.len v'.stk.cap, .slice v'.inp.a v'.inp.len v'.inp.cap, .slice v'.out.a v'.out.len v'.out.cap, .int .i64 m.steps, .int .i64 m.fin, .int .i64 m.val]) ∧ MOwn w.heap.size w' v' m ∧ MSep v' ∧ Below w.heap.size w w' := by
  obtain ⟨⟨ca, cl, cc⟩, ⟨ra, rl, rc⟩, ⟨da, dl, dc⟩, ⟨sa, sl, sc⟩, ⟨ia, il, ic⟩, ⟨oa, ol, oc⟩⟩ := v
  obtain ⟨code, pc, regs, data, stk, inp, out, steps, fin, val⟩ := m
  unfold Pl.mSize at hsz
  obtain ⟨r1, r2, r3, r4, r5, r6⟩ := h
  dsimp only at r1 r2 r3 r4 r5 r6 hsz ⊢
  have hs : cl ≤ 1048576 ∧ rl ≤ 1048576 ∧ dl ≤ 1048576 ∧ sl ≤ 1048576 ∧ il ≤ 1048576 ∧ ol ≤ 1048576 := by
    rw [r1.row.1, r2.row.1, r3.row.1, r4.row.1, r5.row.1, r6.row.1] at hsz
    omega
  clear hsz
  obtain ⟨s1, s2, s3, s4, s5, s6⟩ := hs
  have R1 : Hid (Own .i64 3 lo w ca cl cc code) := r1
  have R2 : Hid (Own .i64 3 lo w ra rl rc regs) := r2
  have R3 : Hid (Own .u8 5 lo w da dl dc data) := r3
  have R4 : Hid (Own .u8 5 lo w sa sl sc stk) := r4
  have R5 : Hid (Own .u8 5 lo w ia il ic inp) := r5
  have R6 : Hid (Own .u8 5 lo w oa ol oc out) := r6
  clear r1 r2 r3 r4 r5 r6
  go_enter Try.func26, Try.ntmps26
  go_wp2_with fail
  refine calls_at fun U1 hU1 => ?_
  have z1 : U1.heap.size = w.heap.size + 2 := by rw [hU1]; simp
  have ot1 : U1.heap[w.heap.size]? = some (.cells #[.slice ca cl cc, .int .i64 pc, .slice ra rl rc, .slice da dl dc, .slice sa sl sc, .slice ia il ic, .slice oa ol oc, .int .i64 steps, .int .i64 fin, .int .i64 val] 25) := by
    rw [hU1, Below.heap_alloc _ _ _ (by simp)]
    exact heap_alloc_new w _
  have re1 : U1.heap[w.heap.size + 1]? = some (.cells #[.slice none 0 0, .int .i64 0, .slice none 0 0, .slice none 0 0, .slice none 0 0, .slice none 0 0, .slice none 0 0, .int .i64 0, .int .i64 0, .int .i64 0] 25) := by
    rw [hU1]
    have := heap_alloc_new (w.alloc (.cells #[.slice ca cl cc, .int .i64 pc, .slice ra rl rc, .slice da dl dc, .slice sa sl sc, .slice ia il ic, .slice oa ol oc, .int .i64 steps, .int .i64 fin, .int .i64 val] 25)) (.cells #[.slice none 0 0, .int .i64 0, .slice none 0 0, .slice none 0 0, .slice none 0 0, .slice none 0 0, .slice none 0 0, .int .i64 0, .int .i64 0, .int .i64 0] 25)
    simpa using this
  have b1 : Below w.heap.size w U1 := by
    rw [hU1]
    exact ((Below.refl _ _).alloc (Nat.le_refl _) _).alloc (by simp) _
  have HK1 : Hid (U1.heap.size = w.heap.size + 2 ∧ Below w.heap.size w U1) := ⟨z1, b1⟩
  clear z1 b1
  refine (cloneInts_any ca cl cc code U1 (R1.out.keep HK1.out.2) s1).mono ?_
  rintro e u1 ⟨a1, c1, rfl, o1, d1⟩
  have zz1 : w.heap.size + 1 < U1.heap.size := by have := HK1.out.1; omega
  have q1 : u1.heap[w.heap.size]? = some (.cells #[.slice ca cl cc, .int .i64 pc, .slice ra rl rc, .slice da dl dc, .slice sa sl sc, .slice ia il ic, .slice oa ol oc, .int .i64 steps, .int .i64 fin, .int .i64 val] 25) := by rw [d1.block _ (by omega)]; exact ot1
  have X1 : Hid (u1.heap[w.heap.size + 1]? = some (.cells #[.slice none 0 0, .int .i64 0, .slice none 0 0, .slice none 0 0, .slice none 0 0, .slice none 0 0, .slice none 0 0, .int .i64 0, .int .i64 0, .int .i64 0] 25)) := by
    show u1.heap[w.heap.size + 1]? = _
    rw [d1.block _ (by omega)]; exact re1
  have Q1 : Hid _ := q1
  have ko : ∀ j, u1.cell? ⟨w.heap.size, j, none⟩ = (#[.slice ca cl cc, .int .i64 pc, .slice ra rl rc, .slice da dl dc, .slice sa sl sc, .slice ia il ic, .slice oa ol oc, .int .i64 steps, .int .i64 fin, .int .i64 val] : Array Value)[j]? := fun j => cell_of_row u1 (w.heap.size) j _ 25 (0, 0) q1
  have kf : ∀ j, u1.frozen? ⟨w.heap.size, j, none⟩ = false := fun j => frozen_of_row u1 (w.heap.size) j _ 25 q1
  have O1 : Hid (Own .i64 3 U1.heap.size u1 a1 cl c1 code) := o1
  have D1 : Hid (Below U1.heap.size U1 u1) := d1
  have B1 : Hid (Below w.heap.size w u1) := HK1.out.2.trans (d1.mono (by have := zz1; omega))
  have S1 : Hid (U1.heap.size ≤ u1.heap.size) := d1.size
  clear o1 d1 ot1 re1 hU1 q1
  go_wp2_with fail
  clear ko kf
  refine calls_at fun U2 hU2 => ?_
  have ot2 : U2.heap[w.heap.size]? = some (.cells #[.slice a1 cl c1, .int .i64 pc, .slice ra rl rc, .slice da dl dc, .slice sa sl sc, .slice ia il ic, .slice oa ol oc, .int .i64 steps, .int .i64 fin, .int .i64 val] 25) := by
    rw [hU2]
    exact row_put Q1.out 0 (.slice a1 cl c1) rfl
  have re2 : U2.heap[w.heap.size + 1]? = some (.cells #[.slice none 0 0, .int .i64 0, .slice none 0 0, .slice none 0 0, .slice none 0 0, .slice none 0 0, .slice none 0 0, .int .i64 0, .int .i64 0, .int .i64 0] 25) := by
    rw [hU2]
    exact keep_oth X1.out (show w.heap.size + 1 ≠ w.heap.size by omega)
  have HK2 : Hid (U2.heap.size = u1.heap.size ∧ Below w.heap.size w U2) := by
    rw [hU2]
    exact ⟨by simp, B1.out.setCell (show w.heap.size ≤ w.heap.size by omega) _⟩
  have A1 : Hid (Above (w.heap.size + 1 + 1) u1 U2) := by
    rw [hU2]
    exact (Above.refl _ _).setCell (show w.heap.size < w.heap.size + 1 + 1 by omega) _
  refine (cloneInts_any ra rl rc regs U2 (R2.out.keep HK2.out.2) s2).mono ?_
  rintro e u2 ⟨a2, c2, rfl, o2, d2⟩
  have zz2 : w.heap.size + 1 < U2.heap.size := by have := HK2.out.1; have := zz1; have := S1.out; omega
  have q2 : u2.heap[w.heap.size]? = some (.cells #[.slice a1 cl c1, .int .i64 pc, .slice ra rl rc, .slice da dl dc, .slice sa sl sc, .slice ia il ic, .slice oa ol oc, .int .i64 steps, .int .i64 fin, .int .i64 val] 25) := by rw [d2.block _ (by omega)]; exact ot2
  have X2 : Hid (u2.heap[w.heap.size + 1]? = some (.cells #[.slice none 0 0, .int .i64 0, .slice none 0 0, .slice none 0 0, .slice none 0 0, .slice none 0 0, .slice none 0 0, .int .i64 0, .int .i64 0, .int .i64 0] 25)) := by
    show u2.heap[w.heap.size + 1]? = _
    rw [d2.block _ (by omega)]; exact re2
  have Q2 : Hid _ := q2
  have ko : ∀ j, u2.cell? ⟨w.heap.size, j, none⟩ = (#[.slice a1 cl c1, .int .i64 pc, .slice ra rl rc, .slice da dl dc, .slice sa sl sc, .slice ia il ic, .slice oa ol oc, .int .i64 steps, .int .i64 fin, .int .i64 val] : Array Value)[j]? := fun j => cell_of_row u2 (w.heap.size) j _ 25 (0, 0) q2
  have kf : ∀ j, u2.frozen? ⟨w.heap.size, j, none⟩ = false := fun j => frozen_of_row u2 (w.heap.size) j _ 25 q2
  have O2 : Hid (Own .i64 3 U2.heap.size u2 a2 rl c2 regs) := o2
  have D2 : Hid (Below U2.heap.size U2 u2) := d2
  have B2 : Hid (Below w.heap.size w u2) := HK2.out.2.trans (d2.mono (by have := zz2; omega))
  have S2 : Hid (U2.heap.size ≤ u2.heap.size) := d2.size
  clear o2 d2 ot2 re2 hU2 q2
  go_wp2_with fail
  clear ko kf
  refine calls_at fun U3 hU3 => ?_
  have ot3 : U3.heap[w.heap.size]? = some (.cells #[.slice a1 cl c1, .int .i64 pc, .slice a2 rl c2, .slice da dl dc, .slice sa sl sc, .slice ia il ic, .slice oa ol oc, .int .i64 steps, .int .i64 fin, .int .i64 val] 25) := by
    rw [hU3]
    exact row_put Q2.out 2 (.slice a2 rl c2) rfl
  have re3 : U3.heap[w.heap.size + 1]? = some (.cells #[.slice none 0 0, .int .i64 0, .slice none 0 0, .slice none 0 0, .slice none 0 0, .slice none 0 0, .slice none 0 0, .int .i64 0, .int .i64 0, .int .i64 0] 25) := by
    rw [hU3]
    exact keep_oth X2.out (show w.heap.size + 1 ≠ w.heap.size by omega)
  have HK3 : Hid (U3.heap.size = u2.heap.size ∧ Below w.heap.size w U3) := by
    rw [hU3]
    exact ⟨by simp, B2.out.setCell (show w.heap.size ≤ w.heap.size by omega) _⟩
  have A2 : Hid (Above (w.heap.size + 1 + 1) u2 U3) := by
    rw [hU3]
    exact (Above.refl _ _).setCell (show w.heap.size < w.heap.size + 1 + 1 by omega) _
  refine (cloneBytes_any da dl dc data U3 (R3.out.keep HK3.out.2) s3).mono ?_
  rintro e u3 ⟨a3, c3, rfl, o3, d3⟩
  have zz3 : w.heap.size + 1 < U3.heap.size := by have := HK3.out.1; have := zz2; have := S2.out; omega
  have q3 : u3.heap[w.heap.size]? = some (.cells #[.slice a1 cl c1, .int .i64 pc, .slice a2 rl c2, .slice da dl dc, .slice sa sl sc, .slice ia il ic, .slice oa ol oc, .int .i64 steps, .int .i64 fin, .int .i64 val] 25) := by rw [d3.block _ (by omega)]; exact ot3
  have X3 : Hid (u3.heap[w.heap.size + 1]? = some (.cells #[.slice none 0 0, .int .i64 0, .slice none 0 0, .slice none 0 0, .slice none 0 0, .slice none 0 0, .slice none 0 0, .int .i64 0, .int .i64 0, .int .i64 0] 25)) := by
    show u3.heap[w.heap.size + 1]? = _
    rw [d3.block _ (by omega)]; exact re3
  have Q3 : Hid _ := q3
  have ko : ∀ j, u3.cell? ⟨w.heap.size, j, none⟩ = (#[.slice a1 cl c1, .int .i64 pc, .slice a2 rl c2, .slice da dl dc, .slice sa sl sc, .slice ia il ic, .slice oa ol oc, .int .i64 steps, .int .i64 fin, .int .i64 val] : Array Value)[j]? := fun j => cell_of_row u3 (w.heap.size) j _ 25 (0, 0) q3
  have kf : ∀ j, u3.frozen? ⟨w.heap.size, j, none⟩ = false := fun j => frozen_of_row u3 (w.heap.size) j _ 25 q3
  have O3 : Hid (Own .u8 5 U3.heap.size u3 a3 dl c3 data) := o3
  have D3 : Hid (Below U3.heap.size U3 u3) := d3
  have B3 : Hid (Below w.heap.size w u3) := HK3.out.2.trans (d3.mono (by have := zz3; omega))
  have S3 : Hid (U3.heap.size ≤ u3.heap.size) := d3.size
  clear o3 d3 ot3 re3 hU3 q3
  go_wp2_with fail
  clear ko kf
  refine calls_at fun U4 hU4 => ?_
  have ot4 : U4.heap[w.heap.size]? = some (.cells #[.slice a1 cl c1, .int .i64 pc, .slice a2 rl c2, .slice a3 dl c3, .slice sa sl sc, .slice ia il ic, .slice oa ol oc, .int .i64 steps, .int .i64 fin, .int .i64 val] 25) := by
    rw [hU4]
    exact row_put Q3.out 3 (.slice a3 dl c3) rfl
  have re4 : U4.heap[w.heap.size + 1]? = some (.cells #[.slice none 0 0, .int .i64 0, .slice none 0 0, .slice none 0 0, .slice none 0 0, .slice none 0 0, .slice none 0 0, .int .i64 0, .int .i64 0, .int .i64 0] 25) := by
    rw [hU4]
    exact keep_oth X3.out (show w.heap.size + 1 ≠ w.heap.size by omega)
  have HK4 : Hid (U4.heap.size = u3.heap.size ∧ Below w.heap.size w U4) := by
    rw [hU4]
    exact ⟨by simp, B3.out.setCell (show w.heap.size ≤ w.heap.size by omega) _⟩
  have A3 : Hid (Above (w.heap.size + 1 + 1) u3 U4) := by
    rw [hU4]
    exact (Above.refl _ _).setCell (show w.heap.size < w.heap.size + 1 + 1 by omega) _
  refine (cloneBytes_any sa sl sc stk U4 (R4.out.keep HK4.out.2) s4).mono ?_
  rintro e u4 ⟨a4, c4, rfl, o4, d4⟩
  have zz4 : w.heap.size + 1 < U4.heap.size := by have := HK4.out.1; have := zz3; have := S3.out; omega
  have q4 : u4.heap[w.heap.size]? = some (.cells #[.slice a1 cl c1, .int .i64 pc, .slice a2 rl c2, .slice a3 dl c3, .slice sa sl sc, .slice ia il ic, .slice oa ol oc, .int .i64 steps, .int .i64 fin, .int .i64 val] 25) := by rw [d4.block _ (by omega)]; exact ot4
  have X4 : Hid (u4.heap[w.heap.size + 1]? = some (.cells #[.slice none 0 0, .int .i64 0, .slice none 0 0, .slice none 0 0, .slice none 0 0, .slice none 0 0, .slice none 0 0, .int .i64 0, .int .i64 0, .int .i64 0] 25)) := by
    show u4.heap[w.heap.size + 1]? = _
    rw [d4.block _ (by omega)]; exact re4
  have Q4 : Hid _ := q4
  have ko : ∀ j, u4.cell? ⟨w.heap.size, j, none⟩ = (#[.slice a1 cl c1, .int .i64 pc, .slice a2 rl c2, .slice a3 dl c3, .slice sa sl sc, .slice ia il ic, .slice oa ol oc, .int .i64 steps, .int .i64 fin, .int .i64 val] : Array Value)[j]? := fun j => cell_of_row u4 (w.heap.size) j _ 25 (0, 0) q4
  have kf : ∀ j, u4.frozen? ⟨w.heap.size, j, none⟩ = false := fun j => frozen_of_row u4 (w.heap.size) j _ 25 q4
  have O4 : Hid (Own .u8 5 U4.heap.size u4 a4 sl c4 stk) := o4
  have D4 : Hid (Below U4.heap.size U4 u4) := d4
  have B4 : Hid (Below w.heap.size w u4) := HK4.out.2.trans (d4.mono (by have := zz4; omega))
  have S4 : Hid (U4.heap.size ≤ u4.heap.size) := d4.size
  clear o4 d4 ot4 re4 hU4 q4
  go_wp2_with fail
  clear ko kf
  refine calls_at fun U5 hU5 => ?_
  have ot5 : U5.heap[w.heap.size]? = some (.cells #[.slice a1 cl c1, .int .i64 pc, .slice a2 rl c2, .slice a3 dl c3, .slice a4 sl c4, .slice ia il ic, .slice oa ol oc, .int .i64 steps, .int .i64 fin, .int .i64 val] 25) := by
    rw [hU5]
    exact row_put Q4.out 4 (.slice a4 sl c4) rfl
  have re5 : U5.heap[w.heap.size + 1]? = some (.cells #[.slice none 0 0, .int .i64 0, .slice none 0 0, .slice none 0 0, .slice none 0 0, .slice none 0 0, .slice none 0 0, .int .i64 0, .int .i64 0, .int .i64 0] 25) := by
    rw [hU5]
    exact keep_oth X4.out (show w.heap.size + 1 ≠ w.heap.size by omega)
  have HK5 : Hid (U5.heap.size = u4.heap.size ∧ Below w.heap.size w U5) := by
    rw [hU5]
    exact ⟨by simp, B4.out.setCell (show w.heap.size ≤ w.heap.size by omega) _⟩
  have A4 : Hid (Above (w.heap.size + 1 + 1) u4 U5) := by
    rw [hU5]
    exact (Above.refl _ _).setCell (show w.heap.size < w.heap.size + 1 + 1 by omega) _
  refine (cloneBytes_any ia il ic inp U5 (R5.out.keep HK5.out.2) s5).mono ?_
  rintro e u5 ⟨a5, c5, rfl, o5, d5⟩
  have zz5 : w.heap.size + 1 < U5.heap.size := by have := HK5.out.1; have := zz4; have := S4.out; omega
  have q5 : u5.heap[w.heap.size]? = some (.cells #[.slice a1 cl c1, .int .i64 pc, .slice a2 rl c2, .slice a3 dl c3, .slice a4 sl c4, .slice ia il ic, .slice oa ol oc, .int .i64 steps, .int .i64 fin, .int .i64 val] 25) := by rw [d5.block _ (by omega)]; exact ot5
  have X5 : Hid (u5.heap[w.heap.size + 1]? = some (.cells #[.slice none 0 0, .int .i64 0, .slice none 0 0, .slice none 0 0, .slice none 0 0, .slice none 0 0, .slice none 0 0, .int .i64 0, .int .i64 0, .int .i64 0] 25)) := by
    show u5.heap[w.heap.size + 1]? = _
    rw [d5.block _ (by omega)]; exact re5
  have Q5 : Hid _ := q5
  have ko : ∀ j, u5.cell? ⟨w.heap.size, j, none⟩ = (#[.slice a1 cl c1, .int .i64 pc, .slice a2 rl c2, .slice a3 dl c3, .slice a4 sl c4, .slice ia il ic, .slice oa ol oc, .int .i64 steps, .int .i64 fin, .int .i64 val] : Array Value)[j]? := fun j => cell_of_row u5 (w.heap.size) j _ 25 (0, 0) q5
  have kf : ∀ j, u5.frozen? ⟨w.heap.size, j, none⟩ = false := fun j => frozen_of_row u5 (w.heap.size) j _ 25 q5
  have O5 : Hid (Own .u8 5 U5.heap.size u5 a5 il c5 inp) := o5
  have D5 : Hid (Below U5.heap.size U5 u5) := d5
  have B5 : Hid (Below w.heap.size w u5) := HK5.out.2.trans (d5.mono (by have := zz5; omega))
  have S5 : Hid (U5.heap.size ≤ u5.heap.size) := d5.size
  clear o5 d5 ot5 re5 hU5 q5
  go_wp2_with fail
  clear ko kf
  refine calls_at fun U6 hU6 => ?_
  have ot6 : U6.heap[w.heap.size]? = some (.cells #[.slice a1 cl c1, .int .i64 pc, .slice a2 rl c2, .slice a3 dl c3, .slice a4 sl c4, .slice a5 il c5, .slice oa ol oc, .int .i64 steps, .int .i64 fin, .int .i64 val] 25) := by
    rw [hU6]
    exact row_put Q5.out 5 (.slice a5 il c5) rfl
  have re6 : U6.heap[w.heap.size + 1]? = some (.cells #[.slice none 0 0, .int .i64 0, .slice none 0 0, .slice none 0 0, .slice none 0 0, .slice none 0 0, .slice none 0 0, .int .i64 0, .int .i64 0, .int .i64 0] 25) := by
    rw [hU6]
    exact keep_oth X5.out (show w.heap.size + 1 ≠ w.heap.size by omega)
  have HK6 : Hid (U6.heap.size = u5.heap.size ∧ Below w.heap.size w U6) := by
    rw [hU6]
    exact ⟨by simp, B5.out.setCell (show w.heap.size ≤ w.heap.size by omega) _⟩
  have A5 : Hid (Above (w.heap.size + 1 + 1) u5 U6) := by
    rw [hU6]
    exact (Above.refl _ _).setCell (show w.heap.size < w.heap.size + 1 + 1 by omega) _
  refine (cloneBytes_any oa ol oc out U6 (R6.out.keep HK6.out.2) s6).mono ?_
  rintro e u6 ⟨a6, c6, rfl, o6, d6⟩
  have zz6 : w.heap.size + 1 < U6.heap.size := by have := HK6.out.1; have := zz5; have := S5.out; omega
  have q6 : u6.heap[w.heap.size]? = some (.cells #[.slice a1 cl c1, .int .i64 pc, .slice a2 rl c2, .slice a3 dl c3, .slice a4 sl c4, .slice a5 il c5, .slice oa ol oc, .int .i64 steps, .int .i64 fin, .int .i64 val] 25) := by rw [d6.block _ (by omega)]; exact ot6
  have X6 : Hid (u6.heap[w.heap.size + 1]? = some (.cells #[.slice none 0 0, .int .i64 0, .slice none 0 0, .slice none 0 0, .slice none 0 0, .slice none 0 0, .slice none 0 0, .int .i64 0, .int .i64 0, .int .i64 0] 25)) := by
    show u6.heap[w.heap.size + 1]? = _
    rw [d6.block _ (by omega)]; exact re6
  have Q6 : Hid _ := q6
  have ko : ∀ j, u6.cell? ⟨w.heap.size, j, none⟩ = (#[.slice a1 cl c1, .int .i64 pc, .slice a2 rl c2, .slice a3 dl c3, .slice a4 sl c4, .slice a5 il c5, .slice oa ol oc, .int .i64 steps, .int .i64 fin, .int .i64 val] : Array Value)[j]? := fun j => cell_of_row u6 (w.heap.size) j _ 25 (0, 0) q6
  have kf : ∀ j, u6.frozen? ⟨w.heap.size, j, none⟩ = false := fun j => frozen_of_row u6 (w.heap.size) j _ 25 q6
  have O6 : Hid (Own .u8 5 U6.heap.size u6 a6 ol c6 out) := o6
  have D6 : Hid (Below U6.heap.size U6 u6) := d6
  have B6 : Hid (Below w.heap.size w u6) := HK6.out.2.trans (d6.mono (by have := zz6; omega))
  have S6 : Hid (U6.heap.size ≤ u6.heap.size) := d6.size
  clear o6 d6 ot6 re6 hU6 q6
  have hrow : (u6.setCell ⟨w.heap.size, 6, none⟩ (.slice a6 ol c6)).heap[w.heap.size]? = some (.cells #[.slice a1 cl c1, .int .i64 pc, .slice a2 rl c2, .slice a3 dl c3, .slice a4 sl c4, .slice a5 il c5, .slice a6 ol c6, .int .i64 steps, .int .i64 fin, .int .i64 val] 25) := row_put Q6.out 6 (.slice a6 ol c6) rfl
  have hres : (u6.setCell ⟨w.heap.size, 6, none⟩ (.slice a6 ol c6)).heap[w.heap.size + 1]? = some (.cells #[.slice none 0 0, .int .i64 0, .slice none 0 0, .slice none 0 0, .slice none 0 0, .slice none 0 0, .slice none 0 0, .int .i64 0, .int .i64 0, .int .i64 0] 25) := keep_oth X6.out (show w.heap.size + 1 ≠ w.heap.size by omega)
  have HRES : Hid _ := hres
  have HROW : Hid _ := hrow
  clear hrow hres
  have HAB : Hid (Above (w.heap.size + 1 + 1) u6 (u6.setCell ⟨w.heap.size, 6, none⟩ (.slice a6 ol c6)) ∧ Below w.heap.size w (u6.setCell ⟨w.heap.size, 6, none⟩ (.slice a6 ol c6))) := ⟨(Above.refl _ _).setCell (show w.heap.size < w.heap.size + 1 + 1 by omega) _, B6.out.setCell (show w.heap.size ≤ w.heap.size by omega) _⟩
  go_wp2_with (first | (refine wpList_load_row rfl 25 _ rfl (w.heap.size) ?hx 25 #[.slice a1 cl c1, .int .i64 pc, .slice a2 rl c2, .slice a3 dl c3, .slice a4 sl c4, .slice a5 il c5, .slice a6 ol c6, .int .i64 steps, .int .i64 fin, .int .i64 val] (0, 0) _ ?hg Try.underlying25 ?hd ?hi ?_; (case hx => rfl); (case hg => exact HROW.out); (case hd => rfl); (case hi => kernel_rfl)) | (refine wpList_store_row rfl 25 _ _ rfl (w.heap.size + 1) #[.slice a1 cl c1, .int .i64 pc, .slice a2 rl c2, .slice a3 dl c3, .slice a4 sl c4, .slice a5 il c5, .slice a6 ol c6, .int .i64 steps, .int .i64 fin, .int .i64 val] ?hx ?hy 25 #[.slice none 0 0, .int .i64 0, .slice none 0 0, .slice none 0 0, .slice none 0 0, .slice none 0 0, .slice none 0 0, .int .i64 0, .int .i64 0, .int .i64 0] ?hg ?hi ?ho ?h1 ?_; (case hx => rfl); (case hy => rfl); (case hg => exact HRES.out); (case hi => kernel_rfl); (case ho => kernel_rfl); (case h1 => kernel_rfl); refine Hid.out ?_))
  unfold Hid
  clear ko kf
  go_wp2_with fail
  refine bodyPost_ret (v := .agg #[.slice a1 cl c1, .int .i64 pc, .slice a2 rl c2, .slice a3 dl c3, .slice a4 sl c4, .slice a5 il c5, .slice a6 ol c6, .int .i64 steps, .int .i64 fin, .int .i64 val]) ?hres rfl ⟨⟨⟨a1, cl, c1⟩, ⟨a2, rl, c2⟩, ⟨a3, dl, c3⟩, ⟨a4, sl, c4⟩, ⟨a5, il, c5⟩, ⟨a6, ol, c6⟩⟩, rfl, ⟨((O1.out.same ((A1.out.trans (Above.of_below D2.out)).trans ((A2.out.trans (Above.of_below D3.out)).trans ((A3.out.trans (Above.of_below D4.out)).trans ((A4.out.trans (Above.of_below D5.out)).trans ((A5.out.trans (Above.of_below D6.out)).trans (HAB.out.1.setRow (show w.heap.size + 1 < w.heap.size + 1 + 1 from by omega) _)))))) (by have := zz1; omega)).lower (by have := zz1; omega)), ((O2.out.same ((A2.out.trans (Above.of_below D3.out)).trans ((A3.out.trans (Above.of_below D4.out)).trans ((A4.out.trans (Above.of_below D5.out)).trans ((A5.out.trans (Above.of_below D6.out)).trans (HAB.out.1.setRow (show w.heap.size + 1 < w.heap.size + 1 + 1 from by omega) _))))) (by have := zz2; omega)).lower (by have := zz2; omega)), ((O3.out.same ((A3.out.trans (Above.of_below D4.out)).trans ((A4.out.trans (Above.of_below D5.out)).trans ((A5.out.trans (Above.of_below D6.out)).trans (HAB.out.1.setRow (show w.heap.size + 1 < w.heap.size + 1 + 1 from by omega) _)))) (by have := zz3; omega)).lower (by have := zz3; omega)), ((O4.out.same ((A4.out.trans (Above.of_below D5.out)).trans ((A5.out.trans (Above.of_below D6.out)).trans (HAB.out.1.setRow (show w.heap.size + 1 < w.heap.size + 1 + 1 from by omega) _))) (by have := zz4; omega)).lower (by have := zz4; omega)), ((O5.out.same ((A5.out.trans (Above.of_below D6.out)).trans (HAB.out.1.setRow (show w.heap.size + 1 < w.heap.size + 1 + 1 from by omega) _)) (by have := zz5; omega)).lower (by have := zz5; omega)), ((O6.out.same (HAB.out.1.setRow (show w.heap.size + 1 < w.heap.size + 1 + 1 from by omega) _) (by have := zz6; omega)).lower (by have := zz6; omega))⟩, ⟨U1.heap.size, U2.heap.size, U3.heap.size, U4.heap.size, U5.heap.size, U6.heap.size, u6.heap.size, O1.out.span (by have := HK2.out.1; omega), O2.out.span (by have := HK3.out.1; omega), O3.out.span (by have := HK4.out.1; omega), O4.out.span (by have := HK5.out.1; omega), O5.out.span (by have := HK6.out.1; omega), O6.out.span (by omega), (by have := S1.out; have := HK2.out.1; omega), (by have := S2.out; have := HK3.out.1; omega), (by have := S3.out; have := HK4.out.1; omega), (by have := S4.out; have := HK5.out.1; omega), (by have := S5.out; have := HK6.out.1; omega), (by have := S6.out; omega)⟩, below_setRow HAB.out.2 (show w.heap.size ≤ w.heap.size + 1 from by omega) _⟩
  case hres =>
    refine results_cell_row Try.results26 _ _ (w.heap.size + 1) 25 #[.slice a1 cl c1, .int .i64 pc, .slice a2 rl c2, .slice a3 dl c3, .slice a4 sl c4, .slice a5 il c5, .slice a6 ol c6, .int .i64 steps, .int .i64 fin, .int .i64 val] (0, 0) _ ?hp ?hg Try.underlying25 ?hd ?hi
    case hp => rfl
    case hg => exact setRow_heap _ _ _ _ _ _ HRES.out
    case hd => rfl
    case hi => kernel_rfl
set_option maxHeartbeats 4000000 in
theorem l3Copy_any {lo : Nat} (v : MV) (m : Pl.Mac) (w : World) (h : MOwn lo w v m) (hsz : Pl.mSize m ≤ 1048576) :
    Calls Try.prog 22 #[.agg #[.slice v.code.a v.code.len v.code.cap, .int .i64 m.pc, .slice v.regs.a v.regs.len v.regs.cap, .slice v.data.a v.data.len v.data.cap, .slice v.stk.a v.stk.len v.stk.cap, .slice v.inp.a v.inp.len v.inp.cap, .slice v.out.a v.out.len v.out.cap, .int .i64 m.steps, .int .i64 m.fin, .int .i64 m.val]] w fun e w' => ∃ v' : MV, e = .returned (.agg #[.slice v'.code.a v'.code.len v'.code.cap, .int .i64 m.pc, .slice v'.regs.a v'.regs.len v'.regs.cap, .slice v'.data.a v'.data.len v'.data.cap, .slice v'.stk.a v'.stk.len v'.stk.cap, .slice v'.inp.a v'.inp.len v'.inp.cap, .slice v'.out.a v'.out.len v'.out.cap, .int .i64 m.steps, .int .i64 m.fin, .int .i64 m.val]) ∧ MOwn w.heap.size w' v' m ∧ MSep v' ∧ Below w.heap.size w w' := by
  obtain ⟨⟨ca, cl, cc⟩, ⟨ra, rl, rc⟩, ⟨da, dl, dc⟩, ⟨sa, sl, sc⟩, ⟨ia, il, ic⟩, ⟨oa, ol, oc⟩⟩ := v
  obtain ⟨code, pc, regs, data, stk, inp, out, steps, fin, val⟩ := m
  unfold Pl.mSize at hsz
  obtain ⟨r1, r2, r3, r4, r5, r6⟩ := h
  dsimp only at r1 r2 r3 r4 r5 r6 hsz ⊢
  have hs : cl ≤ 1048576 ∧ rl ≤ 1048576 ∧ dl ≤ 1048576 ∧ sl ≤ 1048576 ∧ il ≤ 1048576 ∧ ol ≤ 1048576 := by
    rw [r1.row.1, r2.row.1, r3.row.1, r4.row.1, r5.row.1, r6.row.1] at hsz
    omega
  clear hsz
  obtain ⟨s1, s2, s3, s4, s5, s6⟩ := hs
  have R1 : Hid (Own .i64 3 lo w ca cl cc code) := r1
  have R2 : Hid (Own .i64 3 lo w ra rl rc regs) := r2
  have R3 : Hid (Own .u8 5 lo w da dl dc data) := r3
  have R4 : Hid (Own .u8 5 lo w sa sl sc stk) := r4
  have R5 : Hid (Own .u8 5 lo w ia il ic inp) := r5
  have R6 : Hid (Own .u8 5 lo w oa ol oc out) := r6
  clear r1 r2 r3 r4 r5 r6
  have PB : Hid (((w.alloc (.cells #[.slice ca cl cc, .int .i64 pc, .slice ra rl rc, .slice da dl dc, .slice sa sl sc, .slice ia il ic, .slice oa ol oc, .int .i64 steps, .int .i64 fin, .int .i64 val] 25)).alloc (.cells #[.slice none 0 0, .int .i64 0, .slice none 0 0, .slice none 0 0, .slice none 0 0, .slice none 0 0, .slice none 0 0, .int .i64 0, .int .i64 0, .int .i64 0] 25)).heap[w.heap.size]? = some (.cells #[.slice ca cl cc, .int .i64 pc, .slice ra rl rc, .slice da dl dc, .slice sa sl sc, .slice ia il ic, .slice oa ol oc, .int .i64 steps, .int .i64 fin, .int .i64 val] 25)) := (Below.heap_alloc _ _ _ (by simp)).trans (heap_alloc_new w _)
  have hsz2 : ((w.alloc (.cells #[.slice ca cl cc, .int .i64 pc, .slice ra rl rc, .slice da dl dc, .slice sa sl sc, .slice ia il ic, .slice oa ol oc, .int .i64 steps, .int .i64 fin, .int .i64 val] 25)).alloc (.cells #[.slice none 0 0, .int .i64 0, .slice none 0 0, .slice none 0 0, .slice none 0 0, .slice none 0 0, .slice none 0 0, .int .i64 0, .int .i64 0, .int .i64 0] 25)).heap.size = w.heap.size + 1 + 1 := by simp
  have PN : Hid ((((w.alloc (.cells #[.slice ca cl cc, .int .i64 pc, .slice ra rl rc, .slice da dl dc, .slice sa sl sc, .slice ia il ic, .slice oa ol oc, .int .i64 steps, .int .i64 fin, .int .i64 val] 25)).alloc (.cells #[.slice none 0 0, .int .i64 0, .slice none 0 0, .slice none 0 0, .slice none 0 0, .slice none 0 0, .slice none 0 0, .int .i64 0, .int .i64 0, .int .i64 0] 25)).alloc (.cells #[.slice none 0 0, .int .i64 0, .slice none 0 0, .slice none 0 0, .slice none 0 0, .slice none 0 0, .slice none 0 0, .int .i64 0, .int .i64 0, .int .i64 0] 25)).heap[w.heap.size + 1 + 1]? = some (.cells #[.slice none 0 0, .int .i64 0, .slice none 0 0, .slice none 0 0, .slice none 0 0, .slice none 0 0, .slice none 0 0, .int .i64 0, .int .i64 0, .int .i64 0] 25)) := by
    have := heap_alloc_new ((w.alloc (.cells #[.slice ca cl cc, .int .i64 pc, .slice ra rl rc, .slice da dl dc, .slice sa sl sc, .slice ia il ic, .slice oa ol oc, .int .i64 steps, .int .i64 fin, .int .i64 val] 25)).alloc (.cells #[.slice none 0 0, .int .i64 0, .slice none 0 0, .slice none 0 0, .slice none 0 0, .slice none 0 0, .slice none 0 0, .int .i64 0, .int .i64 0, .int .i64 0] 25)) (.cells #[.slice none 0 0, .int .i64 0, .slice none 0 0, .slice none 0 0, .slice none 0 0, .slice none 0 0, .slice none 0 0, .int .i64 0, .int .i64 0, .int .i64 0] 25)
    rw [hsz2] at this
    exact this
  clear hsz2
  go_enter Try.func22, Try.ntmps22
  go_wp2_with (first | (refine wpList_load_row rfl 25 _ rfl (w.heap.size) ?hx 25 #[.slice ca cl cc, .int .i64 pc, .slice ra rl rc, .slice da dl dc, .slice sa sl sc, .slice ia il ic, .slice oa ol oc, .int .i64 steps, .int .i64 fin, .int .i64 val] (0, 0) _ ?hg Try.underlying25 ?hd ?hi ?_; (case hx => rfl); (case hg => exact PB.out); (case hd => rfl); (case hi => kernel_rfl)) | (refine wpList_store_row rfl 25 _ _ rfl (w.heap.size + 1 + 1) #[.slice ca cl cc, .int .i64 pc, .slice ra rl rc, .slice da dl dc, .slice sa sl sc, .slice ia il ic, .slice oa ol oc, .int .i64 steps, .int .i64 fin, .int .i64 val] ?hx ?hy 25 #[.slice none 0 0, .int .i64 0, .slice none 0 0, .slice none 0 0, .slice none 0 0, .slice none 0 0, .slice none 0 0, .int .i64 0, .int .i64 0, .int .i64 0] ?hg ?hi ?ho ?h1 ?_; (case hx => rfl); (case hy => rfl); (case hg => exact PN.out); (case hi => kernel_rfl); (case ho => kernel_rfl); (case h1 => kernel_rfl); refine Hid.out ?_))
  unfold Hid
  refine wpList_at fun V hV => ?_
  have zV : V.heap.size = w.heap.size + 3 := by rw [hV]; simp
  have bxV : V.heap[w.heap.size]? = some (.cells #[.slice ca cl cc, .int .i64 pc, .slice ra rl rc, .slice da dl dc, .slice sa sl sc, .slice ia il ic, .slice oa ol oc, .int .i64 steps, .int .i64 fin, .int .i64 val] 25) := by
    rw [hV, setRow_other _ _ _ _ (by omega), Below.heap_alloc _ _ _ (by simp; omega)]
    exact PB.out
  have reV : V.heap[w.heap.size + 1]? = some (.cells #[.slice none 0 0, .int .i64 0, .slice none 0 0, .slice none 0 0, .slice none 0 0, .slice none 0 0, .slice none 0 0, .int .i64 0, .int .i64 0, .int .i64 0] 25) := by
    rw [hV, setRow_other _ _ _ _ (by omega), Below.heap_alloc _ _ _ (by simp)]
    have := heap_alloc_new (w.alloc (.cells #[.slice ca cl cc, .int .i64 pc, .slice ra rl rc, .slice da dl dc, .slice sa sl sc, .slice ia il ic, .slice oa ol oc, .int .i64 steps, .int .i64 fin, .int .i64 val] 25)) (.cells #[.slice none 0 0, .int .i64 0, .slice none 0 0, .slice none 0 0, .slice none 0 0, .slice none 0 0, .slice none 0 0, .int .i64 0, .int .i64 0, .int .i64 0] 25)
    simpa using this
  have otV : V.heap[w.heap.size + 1 + 1]? = some (.cells #[.slice ca cl cc, .int .i64 pc, .slice ra rl rc, .slice da dl dc, .slice sa sl sc, .slice ia il ic, .slice oa ol oc, .int .i64 steps, .int .i64 fin, .int .i64 val] 25) := by
    rw [hV]
    exact setRow_heap _ _ _ _ _ _ PN.out
  have bV : Below w.heap.size w V := by
    rw [hV]
    exact below_setRow ((((Below.refl _ _).alloc (Nat.le_refl _) _).alloc (by simp) _).alloc (by simp; omega) _) (by omega) _
  have kb : ∀ j, V.cell? ⟨w.heap.size, j, none⟩ = (#[.slice ca cl cc, .int .i64 pc, .slice ra rl rc, .slice da dl dc, .slice sa sl sc, .slice ia il ic, .slice oa ol oc, .int .i64 steps, .int .i64 fin, .int .i64 val] : Array Value)[j]? := fun j => cell_of_row V w.heap.size j _ 25 (0, 0) bxV
  have HBX : Hid _ := bxV
  have HRE : Hid _ := reV
  have HOT : Hid _ := otV
  have HKV : Hid (V.heap.size = w.heap.size + 3 ∧ Below w.heap.size w V) := ⟨zV, bV⟩
  clear hV zV bV bxV reV otV PB PN
  go_wp2_with fail
  clear kb
  refine calls_at fun U1 hU1 => ?_
  have bx1 : U1.heap[w.heap.size]? = some (.cells #[.slice ca cl cc, .int .i64 pc, .slice ra rl rc, .slice da dl dc, .slice sa sl sc, .slice ia il ic, .slice oa ol oc, .int .i64 steps, .int .i64 fin, .int .i64 val] 25) := by rw [hU1]; exact HBX.out
  have ot1 : U1.heap[w.heap.size + 1 + 1]? = some (.cells #[.slice ca cl cc, .int .i64 pc, .slice ra rl rc, .slice da dl dc, .slice sa sl sc, .slice ia il ic, .slice oa ol oc, .int .i64 steps, .int .i64 fin, .int .i64 val] 25) := by rw [hU1]; exact HOT.out
  have re1 : U1.heap[w.heap.size + 1]? = some (.cells #[.slice none 0 0, .int .i64 0, .slice none 0 0, .slice none 0 0, .slice none 0 0, .slice none 0 0, .slice none 0 0, .int .i64 0, .int .i64 0, .int .i64 0] 25) := by rw [hU1]; exact HRE.out
  have HK1 : Hid (U1.heap.size = w.heap.size + 3 ∧ Below w.heap.size w U1) := by rw [hU1]; exact HKV.out
  clear HBX HOT HRE HKV
  refine (l3Ints_any ca cl cc code U1 (R1.out.keep HK1.out.2) s1).mono ?_
  rintro e u1 ⟨a1, c1, rfl, o1, d1⟩
  have zz1 : w.heap.size + 1 + 1 < U1.heap.size := by have := HK1.out.1; omega
  have p1 : u1.heap[w.heap.size]? = some (.cells #[.slice ca cl cc, .int .i64 pc, .slice ra rl rc, .slice da dl dc, .slice sa sl sc, .slice ia il ic, .slice oa ol oc, .int .i64 steps, .int .i64 fin, .int .i64 val] 25) := by rw [d1.block _ (by omega)]; exact bx1
  have P1 : Hid _ := p1
  have q1 : u1.heap[w.heap.size + 1 + 1]? = some (.cells #[.slice ca cl cc, .int .i64 pc, .slice ra rl rc, .slice da dl dc, .slice sa sl sc, .slice ia il ic, .slice oa ol oc, .int .i64 steps, .int .i64 fin, .int .i64 val] 25) := by rw [d1.block _ (by omega)]; exact ot1
  have X1 : Hid (u1.heap[w.heap.size + 1]? = some (.cells #[.slice none 0 0, .int .i64 0, .slice none 0 0, .slice none 0 0, .slice none 0 0, .slice none 0 0, .slice none 0 0, .int .i64 0, .int .i64 0, .int .i64 0] 25)) := by
    show u1.heap[w.heap.size + 1]? = _
    rw [d1.block _ (by omega)]; exact re1
  have Q1 : Hid _ := q1
  have kb : ∀ j, u1.cell? ⟨w.heap.size, j, none⟩ = (#[.slice ca cl cc, .int .i64 pc, .slice ra rl rc, .slice da dl dc, .slice sa sl sc, .slice ia il ic, .slice oa ol oc, .int .i64 steps, .int .i64 fin, .int .i64 val] : Array Value)[j]? := fun j => cell_of_row u1 w.heap.size j _ 25 (0, 0) p1
  have ko : ∀ j, u1.cell? ⟨w.heap.size + 1 + 1, j, none⟩ = (#[.slice ca cl cc, .int .i64 pc, .slice ra rl rc, .slice da dl dc, .slice sa sl sc, .slice ia il ic, .slice oa ol oc, .int .i64 steps, .int .i64 fin, .int .i64 val] : Array Value)[j]? := fun j => cell_of_row u1 (w.heap.size + 1 + 1) j _ 25 (0, 0) q1
  have kf : ∀ j, u1.frozen? ⟨w.heap.size + 1 + 1, j, none⟩ = false := fun j => frozen_of_row u1 (w.heap.size + 1 + 1) j _ 25 q1
  have O1 : Hid (Own .i64 3 U1.heap.size u1 a1 cl c1 code) := o1
  have D1 : Hid (Below U1.heap.size U1 u1) := d1
  have B1 : Hid (Below w.heap.size w u1) := HK1.out.2.trans (d1.mono (by have := zz1; omega))
  have S1 : Hid (U1.heap.size ≤ u1.heap.size) := d1.size
  clear o1 d1 bx1 p1 ot1 re1 hU1 q1
  go_wp2_with fail
  clear kb ko kf
  refine calls_at fun U2 hU2 => ?_
  have bx2 : U2.heap[w.heap.size]? = some (.cells #[.slice ca cl cc, .int .i64 pc, .slice ra rl rc, .slice da dl dc, .slice sa sl sc, .slice ia il ic, .slice oa ol oc, .int .i64 steps, .int .i64 fin, .int .i64 val] 25) := by
    rw [hU2]
    exact keep_oth P1.out (show w.heap.size ≠ w.heap.size + 1 + 1 by omega)
  have ot2 : U2.heap[w.heap.size + 1 + 1]? = some (.cells #[.slice a1 cl c1, .int .i64 pc, .slice ra rl rc, .slice da dl dc, .slice sa sl sc, .slice ia il ic, .slice oa ol oc, .int .i64 steps, .int .i64 fin, .int .i64 val] 25) := by
    rw [hU2]
    exact row_put Q1.out 0 (.slice a1 cl c1) rfl
  have re2 : U2.heap[w.heap.size + 1]? = some (.cells #[.slice none 0 0, .int .i64 0, .slice none 0 0, .slice none 0 0, .slice none 0 0, .slice none 0 0, .slice none 0 0, .int .i64 0, .int .i64 0, .int .i64 0] 25) := by
    rw [hU2]
    exact keep_oth X1.out (show w.heap.size + 1 ≠ w.heap.size + 1 + 1 by omega)
  have HK2 : Hid (U2.heap.size = u1.heap.size ∧ Below w.heap.size w U2) := by
    rw [hU2]
    exact ⟨by simp, B1.out.setCell (show w.heap.size ≤ w.heap.size + 1 + 1 by omega) _⟩
  have A1 : Hid (Above (w.heap.size + 1 + 1 + 1) u1 U2) := by
    rw [hU2]
    exact (Above.refl _ _).setCell (show w.heap.size + 1 + 1 < w.heap.size + 1 + 1 + 1 by omega) _
  refine (l3Ints_any ra rl rc regs U2 (R2.out.keep HK2.out.2) s2).mono ?_
  rintro e u2 ⟨a2, c2, rfl, o2, d2⟩
  have zz2 : w.heap.size + 1 + 1 < U2.heap.size := by have := HK2.out.1; have := zz1; have := S1.out; omega
  have p2 : u2.heap[w.heap.size]? = some (.cells #[.slice ca cl cc, .int .i64 pc, .slice ra rl rc, .slice da dl dc, .slice sa sl sc, .slice ia il ic, .slice oa ol oc, .int .i64 steps, .int .i64 fin, .int .i64 val] 25) := by rw [d2.block _ (by omega)]; exact bx2
  have P2 : Hid _ := p2
  have q2 : u2.heap[w.heap.size + 1 + 1]? = some (.cells #[.slice a1 cl c1, .int .i64 pc, .slice ra rl rc, .slice da dl dc, .slice sa sl sc, .slice ia il ic, .slice oa ol oc, .int .i64 steps, .int .i64 fin, .int .i64 val] 25) := by rw [d2.block _ (by omega)]; exact ot2
  have X2 : Hid (u2.heap[w.heap.size + 1]? = some (.cells #[.slice none 0 0, .int .i64 0, .slice none 0 0, .slice none 0 0, .slice none 0 0, .slice none 0 0, .slice none 0 0, .int .i64 0, .int .i64 0, .int .i64 0] 25)) := by
    show u2.heap[w.heap.size + 1]? = _
    rw [d2.block _ (by omega)]; exact re2
  have Q2 : Hid _ := q2
  have kb : ∀ j, u2.cell? ⟨w.heap.size, j, none⟩ = (#[.slice ca cl cc, .int .i64 pc, .slice ra rl rc, .slice da dl dc, .slice sa sl sc, .slice ia il ic, .slice oa ol oc, .int .i64 steps, .int .i64 fin, .int .i64 val] : Array Value)[j]? := fun j => cell_of_row u2 w.heap.size j _ 25 (0, 0) p2
  have ko : ∀ j, u2.cell? ⟨w.heap.size + 1 + 1, j, none⟩ = (#[.slice a1 cl c1, .int .i64 pc, .slice ra rl rc, .slice da dl dc, .slice sa sl sc, .slice ia il ic, .slice oa ol oc, .int .i64 steps, .int .i64 fin, .int .i64 val] : Array Value)[j]? := fun j => cell_of_row u2 (w.heap.size + 1 + 1) j _ 25 (0, 0) q2
  have kf : ∀ j, u2.frozen? ⟨w.heap.size + 1 + 1, j, none⟩ = false := fun j => frozen_of_row u2 (w.heap.size + 1 + 1) j _ 25 q2
  have O2 : Hid (Own .i64 3 U2.heap.size u2 a2 rl c2 regs) := o2
  have D2 : Hid (Below U2.heap.size U2 u2) := d2
  have B2 : Hid (Below w.heap.size w u2) := HK2.out.2.trans (d2.mono (by have := zz2; omega))
  have S2 : Hid (U2.heap.size ≤ u2.heap.size) := d2.size
  clear o2 d2 bx2 p2 ot2 re2 hU2 q2
  go_wp2_with fail
  clear kb ko kf
  refine calls_at fun U3 hU3 => ?_
  have bx3 : U3.heap[w.heap.size]? = some (.cells #[.slice ca cl cc, .int .i64 pc, .slice ra rl rc, .slice da dl dc, .slice sa sl sc, .slice ia il ic, .slice oa ol oc, .int .i64 steps, .int .i64 fin, .int .i64 val] 25) := by
    rw [hU3]
    exact keep_oth P2.out (show w.heap.size ≠ w.heap.size + 1 + 1 by omega)
  have ot3 : U3.heap[w.heap.size + 1 + 1]? = some (.cells #[.slice a1 cl c1, .int .i64 pc, .slice a2 rl c2, .slice da dl dc, .slice sa sl sc, .slice ia il ic, .slice oa ol oc, .int .i64 steps, .int .i64 fin, .int .i64 val] 25) := by
    rw [hU3]
    exact row_put Q2.out 2 (.slice a2 rl c2) rfl
  have re3 : U3.heap[w.heap.size + 1]? = some (.cells #[.slice none 0 0, .int .i64 0, .slice none 0 0, .slice none 0 0, .slice none 0 0, .slice none 0 0, .slice none 0 0, .int .i64 0, .int .i64 0, .int .i64 0] 25) := by
    rw [hU3]
    exact keep_oth X2.out (show w.heap.size + 1 ≠ w.heap.size + 1 + 1 by omega)
  have HK3 : Hid (U3.heap.size = u2.heap.size ∧ Below w.heap.size w U3) := by
    rw [hU3]
    exact ⟨by simp, B2.out.setCell (show w.heap.size ≤ w.heap.size + 1 + 1 by omega) _⟩
  have A2 : Hid (Above (w.heap.size + 1 + 1 + 1) u2 U3) := by
    rw [hU3]
    exact (Above.refl _ _).setCell (show w.heap.size + 1 + 1 < w.heap.size + 1 + 1 + 1 by omega) _
  refine (l3Bytes_any da dl dc data U3 (R3.out.keep HK3.out.2) s3).mono ?_
  rintro e u3 ⟨a3, c3, rfl, o3, d3⟩
  have zz3 : w.heap.size + 1 + 1 < U3.heap.size := by have := HK3.out.1; have := zz2; have := S2.out; omega
  have p3 : u3.heap[w.heap.size]? = some (.cells #[.slice ca cl cc, .int .i64 pc, .slice ra rl rc, .slice da dl dc, .slice sa sl sc, .slice ia il ic, .slice oa ol oc, .int .i64 steps, .int .i64 fin, .int .i64 val] 25) := by rw [d3.block _ (by omega)]; exact bx3
  have P3 : Hid _ := p3
  have q3 : u3.heap[w.heap.size + 1 + 1]? = some (.cells #[.slice a1 cl c1, .int .i64 pc, .slice a2 rl c2, .slice da dl dc, .slice sa sl sc, .slice ia il ic, .slice oa ol oc, .int .i64 steps, .int .i64 fin, .int .i64 val] 25) := by rw [d3.block _ (by omega)]; exact ot3
  have X3 : Hid (u3.heap[w.heap.size + 1]? = some (.cells #[.slice none 0 0, .int .i64 0, .slice none 0 0, .slice none 0 0, .slice none 0 0, .slice none 0 0, .slice none 0 0, .int .i64 0, .int .i64 0, .int .i64 0] 25)) := by
    show u3.heap[w.heap.size + 1]? = _
    rw [d3.block _ (by omega)]; exact re3
  have Q3 : Hid _ := q3
  have kb : ∀ j, u3.cell? ⟨w.heap.size, j, none⟩ = (#[.slice ca cl cc, .int .i64 pc, .slice ra rl rc, .slice da dl dc, .slice sa sl sc, .slice ia il ic, .slice oa ol oc, .int .i64 steps, .int .i64 fin, .int .i64 val] : Array Value)[j]? := fun j => cell_of_row u3 w.heap.size j _ 25 (0, 0) p3
  have ko : ∀ j, u3.cell? ⟨w.heap.size + 1 + 1, j, none⟩ = (#[.slice a1 cl c1, .int .i64 pc, .slice a2 rl c2, .slice da dl dc, .slice sa sl sc, .slice ia il ic, .slice oa ol oc, .int .i64 steps, .int .i64 fin, .int .i64 val] : Array Value)[j]? := fun j => cell_of_row u3 (w.heap.size + 1 + 1) j _ 25 (0, 0) q3
  have kf : ∀ j, u3.frozen? ⟨w.heap.size + 1 + 1, j, none⟩ = false := fun j => frozen_of_row u3 (w.heap.size + 1 + 1) j _ 25 q3
  have O3 : Hid (Own .u8 5 U3.heap.size u3 a3 dl c3 data) := o3
  have D3 : Hid (Below U3.heap.size U3 u3) := d3
  have B3 : Hid (Below w.heap.size w u3) := HK3.out.2.trans (d3.mono (by have := zz3; omega))
  have S3 : Hid (U3.heap.size ≤ u3.heap.size) := d3.size
  clear o3 d3 bx3 p3 ot3 re3 hU3 q3
  go_wp2_with fail
  clear kb ko kf
  refine calls_at fun U4 hU4 => ?_
  have bx4 : U4.heap[w.heap.size]? = some (.cells #[.slice ca cl cc, .int .i64 pc, .slice ra rl rc, .slice da dl dc, .slice sa sl sc, .slice ia il ic, .slice oa ol oc, .int .i64 steps, .int .i64 fin, .int .i64 val] 25) := by
    rw [hU4]
    exact keep_oth P3.out (show w.heap.size ≠ w.heap.size + 1 + 1 by omega)
  have ot4 : U4.heap[w.heap.size + 1 + 1]? = some (.cells #[.slice a1 cl c1, .int .i64 pc, .slice a2 rl c2, .slice a3 dl c3, .slice sa sl sc, .slice ia il ic, .slice oa ol oc, .int .i64 steps, .int .i64 fin, .int .i64 val] 25) := by
    rw [hU4]
    exact row_put Q3.out 3 (.slice a3 dl c3) rfl
  have re4 : U4.heap[w.heap.size + 1]? = some (.cells #[.slice none 0 0, .int .i64 0, .slice none 0 0, .slice none 0 0, .slice none 0 0, .slice none 0 0, .slice none 0 0, .int .i64 0, .int .i64 0, .int .i64 0] 25) := by
    rw [hU4]
    exact keep_oth X3.out (show w.heap.size + 1 ≠ w.heap.size + 1 + 1 by omega)
  have HK4 : Hid (U4.heap.size = u3.heap.size ∧ Below w.heap.size w U4) := by
    rw [hU4]
    exact ⟨by simp, B3.out.setCell (show w.heap.size ≤ w.heap.size + 1 + 1 by omega) _⟩
  have A3 : Hid (Above (w.heap.size + 1 + 1 + 1) u3 U4) := by
    rw [hU4]
    exact (Above.refl _ _).setCell (show w.heap.size + 1 + 1 < w.heap.size + 1 + 1 + 1 by omega) _
  refine (l3Bytes_any sa sl sc stk U4 (R4.out.keep HK4.out.2) s4).mono ?_
  rintro e u4 ⟨a4, c4, rfl, o4, d4⟩
  have zz4 : w.heap.size + 1 + 1 < U4.heap.size := by have := HK4.out.1; have := zz3; have := S3.out; omega
  have p4 : u4.heap[w.heap.size]? = some (.cells #[.slice ca cl cc, .int .i64 pc, .slice ra rl rc, .slice da dl dc, .slice sa sl sc, .slice ia il ic, .slice oa ol oc, .int .i64 steps, .int .i64 fin, .int .i64 val] 25) := by rw [d4.block _ (by omega)]; exact bx4
  have P4 : Hid _ := p4
  have q4 : u4.heap[w.heap.size + 1 + 1]? = some (.cells #[.slice a1 cl c1, .int .i64 pc, .slice a2 rl c2, .slice a3 dl c3, .slice sa sl sc, .slice ia il ic, .slice oa ol oc, .int .i64 steps, .int .i64 fin, .int .i64 val] 25) := by rw [d4.block _ (by omega)]; exact ot4
  have X4 : Hid (u4.heap[w.heap.size + 1]? = some (.cells #[.slice none 0 0, .int .i64 0, .slice none 0 0, .slice none 0 0, .slice none 0 0, .slice none 0 0, .slice none 0 0, .int .i64 0, .int .i64 0, .int .i64 0] 25)) := by
    show u4.heap[w.heap.size + 1]? = _
    rw [d4.block _ (by omega)]; exact re4
  have Q4 : Hid _ := q4
  have kb : ∀ j, u4.cell? ⟨w.heap.size, j, none⟩ = (#[.slice ca cl cc, .int .i64 pc, .slice ra rl rc, .slice da dl dc, .slice sa sl sc, .slice ia il ic, .slice oa ol oc, .int .i64 steps, .int .i64 fin, .int .i64 val] : Array Value)[j]? := fun j => cell_of_row u4 w.heap.size j _ 25 (0, 0) p4
  have ko : ∀ j, u4.cell? ⟨w.heap.size + 1 + 1, j, none⟩ = (#[.slice a1 cl c1, .int .i64 pc, .slice a2 rl c2, .slice a3 dl c3, .slice sa sl sc, .slice ia il ic, .slice oa ol oc, .int .i64 steps, .int .i64 fin, .int .i64 val] : Array Value)[j]? := fun j => cell_of_row u4 (w.heap.size + 1 + 1) j _ 25 (0, 0) q4
  have kf : ∀ j, u4.frozen? ⟨w.heap.size + 1 + 1, j, none⟩ = false := fun j => frozen_of_row u4 (w.heap.size + 1 + 1) j _ 25 q4
  have O4 : Hid (Own .u8 5 U4.heap.size u4 a4 sl c4 stk) := o4
  have D4 : Hid (Below U4.heap.size U4 u4) := d4
  have B4 : Hid (Below w.heap.size w u4) := HK4.out.2.trans (d4.mono (by have := zz4; omega))
  have S4 : Hid (U4.heap.size ≤ u4.heap.size) := d4.size
  clear o4 d4 bx4 p4 ot4 re4 hU4 q4
  go_wp2_with fail
  clear kb ko kf
  refine calls_at fun U5 hU5 => ?_
  have bx5 : U5.heap[w.heap.size]? = some (.cells #[.slice ca cl cc, .int .i64 pc, .slice ra rl rc, .slice da dl dc, .slice sa sl sc, .slice ia il ic, .slice oa ol oc, .int .i64 steps, .int .i64 fin, .int .i64 val] 25) := by
    rw [hU5]
    exact keep_oth P4.out (show w.heap.size ≠ w.heap.size + 1 + 1 by omega)
  have ot5 : U5.heap[w.heap.size + 1 + 1]? = some (.cells #[.slice a1 cl c1, .int .i64 pc, .slice a2 rl c2, .slice a3 dl c3, .slice a4 sl c4, .slice ia il ic, .slice oa ol oc, .int .i64 steps, .int .i64 fin, .int .i64 val] 25) := by
    rw [hU5]
    exact row_put Q4.out 4 (.slice a4 sl c4) rfl
  have re5 : U5.heap[w.heap.size + 1]? = some (.cells #[.slice none 0 0, .int .i64 0, .slice none 0 0, .slice none 0 0, .slice none 0 0, .slice none 0 0, .slice none 0 0, .int .i64 0, .int .i64 0, .int .i64 0] 25) := by
    rw [hU5]
    exact keep_oth X4.out (show w.heap.size + 1 ≠ w.heap.size + 1 + 1 by omega)
  have HK5 : Hid (U5.heap.size = u4.heap.size ∧ Below w.heap.size w U5) := by
    rw [hU5]
    exact ⟨by simp, B4.out.setCell (show w.heap.size ≤ w.heap.size + 1 + 1 by omega) _⟩
  have A4 : Hid (Above (w.heap.size + 1 + 1 + 1) u4 U5) := by
    rw [hU5]
    exact (Above.refl _ _).setCell (show w.heap.size + 1 + 1 < w.heap.size + 1 + 1 + 1 by omega) _
  refine (l3Bytes_any ia il ic inp U5 (R5.out.keep HK5.out.2) s5).mono ?_
  rintro e u5 ⟨a5, c5, rfl, o5, d5⟩
  have zz5 : w.heap.size + 1 + 1 < U5.heap.size := by have := HK5.out.1; have := zz4; have := S4.out; omega
  have p5 : u5.heap[w.heap.size]? = some (.cells #[.slice ca cl cc, .int .i64 pc, .slice ra rl rc, .slice da dl dc, .slice sa sl sc, .slice ia il ic, .slice oa ol oc, .int .i64 steps, .int .i64 fin, .int .i64 val] 25) := by rw [d5.block _ (by omega)]; exact bx5
  have P5 : Hid _ := p5
  have q5 : u5.heap[w.heap.size + 1 + 1]? = some (.cells #[.slice a1 cl c1, .int .i64 pc, .slice a2 rl c2, .slice a3 dl c3, .slice a4 sl c4, .slice ia il ic, .slice oa ol oc, .int .i64 steps, .int .i64 fin, .int .i64 val] 25) := by rw [d5.block _ (by omega)]; exact ot5
  have X5 : Hid (u5.heap[w.heap.size + 1]? = some (.cells #[.slice none 0 0, .int .i64 0, .slice none 0 0, .slice none 0 0, .slice none 0 0, .slice none 0 0, .slice none 0 0, .int .i64 0, .int .i64 0, .int .i64 0] 25)) := by
    show u5.heap[w.heap.size + 1]? = _
    rw [d5.block _ (by omega)]; exact re5
  have Q5 : Hid _ := q5
  have kb : ∀ j, u5.cell? ⟨w.heap.size, j, none⟩ = (#[.slice ca cl cc, .int .i64 pc, .slice ra rl rc, .slice da dl dc, .slice sa sl sc, .slice ia il ic, .slice oa ol oc, .int .i64 steps, .int .i64 fin, .int .i64 val] : Array Value)[j]? := fun j => cell_of_row u5 w.heap.size j _ 25 (0, 0) p5
  have ko : ∀ j, u5.cell? ⟨w.heap.size + 1 + 1, j, none⟩ = (#[.slice a1 cl c1, .int .i64 pc, .slice a2 rl c2, .slice a3 dl c3, .slice a4 sl c4, .slice ia il ic, .slice oa ol oc, .int .i64 steps, .int .i64 fin, .int .i64 val] : Array Value)[j]? := fun j => cell_of_row u5 (w.heap.size + 1 + 1) j _ 25 (0, 0) q5
  have kf : ∀ j, u5.frozen? ⟨w.heap.size + 1 + 1, j, none⟩ = false := fun j => frozen_of_row u5 (w.heap.size + 1 + 1) j _ 25 q5
  have O5 : Hid (Own .u8 5 U5.heap.size u5 a5 il c5 inp) := o5
  have D5 : Hid (Below U5.heap.size U5 u5) := d5
  have B5 : Hid (Below w.heap.size w u5) := HK5.out.2.trans (d5.mono (by have := zz5; omega))
  have S5 : Hid (U5.heap.size ≤ u5.heap.size) := d5.size
  clear o5 d5 bx5 p5 ot5 re5 hU5 q5
  go_wp2_with fail
  clear kb ko kf
  refine calls_at fun U6 hU6 => ?_
  have bx6 : U6.heap[w.heap.size]? = some (.cells #[.slice ca cl cc, .int .i64 pc, .slice ra rl rc, .slice da dl dc, .slice sa sl sc, .slice ia il ic, .slice oa ol oc, .int .i64 steps, .int .i64 fin, .int .i64 val] 25) := by
    rw [hU6]
    exact keep_oth P5.out (show w.heap.size ≠ w.heap.size + 1 + 1 by omega)
  have ot6 : U6.heap[w.heap.size + 1 + 1]? = some (.cells #[.slice a1 cl c1, .int .i64 pc, .slice a2 rl c2, .slice a3 dl c3, .slice a4 sl c4, .slice a5 il c5, .slice oa ol oc, .int .i64 steps, .int .i64 fin, .int .i64 val] 25) := by
    rw [hU6]
    exact row_put Q5.out 5 (.slice a5 il c5) rfl
  have re6 : U6.heap[w.heap.size + 1]? = some (.cells #[.slice none 0 0, .int .i64 0, .slice none 0 0, .slice none 0 0, .slice none 0 0, .slice none 0 0, .slice none 0 0, .int .i64 0, .int .i64 0, .int .i64 0] 25) := by
    rw [hU6]
    exact keep_oth X5.out (show w.heap.size + 1 ≠ w.heap.size + 1 + 1 by omega)
  have HK6 : Hid (U6.heap.size = u5.heap.size ∧ Below w.heap.size w U6) := by
    rw [hU6]
    exact ⟨by simp, B5.out.setCell (show w.heap.size ≤ w.heap.size + 1 + 1 by omega) _⟩
  have A5 : Hid (Above (w.heap.size + 1 + 1 + 1) u5 U6) := by
    rw [hU6]
    exact (Above.refl _ _).setCell (show w.heap.size + 1 + 1 < w.heap.size + 1 + 1 + 1 by omega) _
  refine (l3Bytes_any oa ol oc out U6 (R6.out.keep HK6.out.2) s6).mono ?_
  rintro e u6 ⟨a6, c6, rfl, o6, d6⟩
  have zz6 : w.heap.size + 1 + 1 < U6.heap.size := by have := HK6.out.1; have := zz5; have := S5.out; omega
  have p6 : u6.heap[w.heap.size]? = some (.cells #[.slice ca cl cc, .int .i64 pc, .slice ra rl rc, .slice da dl dc, .slice sa sl sc, .slice ia il ic, .slice oa ol oc, .int .i64 steps, .int .i64 fin, .int .i64 val] 25) := by rw [d6.block _ (by omega)]; exact bx6
  have P6 : Hid _ := p6
  have q6 : u6.heap[w.heap.size + 1 + 1]? = some (.cells #[.slice a1 cl c1, .int .i64 pc, .slice a2 rl c2, .slice a3 dl c3, .slice a4 sl c4, .slice a5 il c5, .slice oa ol oc, .int .i64 steps, .int .i64 fin, .int .i64 val] 25) := by rw [d6.block _ (by omega)]; exact ot6
  have X6 : Hid (u6.heap[w.heap.size + 1]? = some (.cells #[.slice none 0 0, .int .i64 0, .slice none 0 0, .slice none 0 0, .slice none 0 0, .slice none 0 0, .slice none 0 0, .int .i64 0, .int .i64 0, .int .i64 0] 25)) := by
    show u6.heap[w.heap.size + 1]? = _
    rw [d6.block _ (by omega)]; exact re6
  have Q6 : Hid _ := q6
  have kb : ∀ j, u6.cell? ⟨w.heap.size, j, none⟩ = (#[.slice ca cl cc, .int .i64 pc, .slice ra rl rc, .slice da dl dc, .slice sa sl sc, .slice ia il ic, .slice oa ol oc, .int .i64 steps, .int .i64 fin, .int .i64 val] : Array Value)[j]? := fun j => cell_of_row u6 w.heap.size j _ 25 (0, 0) p6
  have ko : ∀ j, u6.cell? ⟨w.heap.size + 1 + 1, j, none⟩ = (#[.slice a1 cl c1, .int .i64 pc, .slice a2 rl c2, .slice a3 dl c3, .slice a4 sl c4, .slice a5 il c5, .slice oa ol oc, .int .i64 steps, .int .i64 fin, .int .i64 val] : Array Value)[j]? := fun j => cell_of_row u6 (w.heap.size + 1 + 1) j _ 25 (0, 0) q6
  have kf : ∀ j, u6.frozen? ⟨w.heap.size + 1 + 1, j, none⟩ = false := fun j => frozen_of_row u6 (w.heap.size + 1 + 1) j _ 25 q6
  have O6 : Hid (Own .u8 5 U6.heap.size u6 a6 ol c6 out) := o6
  have D6 : Hid (Below U6.heap.size U6 u6) := d6
  have B6 : Hid (Below w.heap.size w u6) := HK6.out.2.trans (d6.mono (by have := zz6; omega))
  have S6 : Hid (U6.heap.size ≤ u6.heap.size) := d6.size
  clear o6 d6 bx6 p6 ot6 re6 hU6 q6
  have hrow : (u6.setCell ⟨w.heap.size + 1 + 1, 6, none⟩ (.slice a6 ol c6)).heap[w.heap.size + 1 + 1]? = some (.cells #[.slice a1 cl c1, .int .i64 pc, .slice a2 rl c2, .slice a3 dl c3, .slice a4 sl c4, .slice a5 il c5, .slice a6 ol c6, .int .i64 steps, .int .i64 fin, .int .i64 val] 25) := row_put Q6.out 6 (.slice a6 ol c6) rfl
  have hres : (u6.setCell ⟨w.heap.size + 1 + 1, 6, none⟩ (.slice a6 ol c6)).heap[w.heap.size + 1]? = some (.cells #[.slice none 0 0, .int .i64 0, .slice none 0 0, .slice none 0 0, .slice none 0 0, .slice none 0 0, .slice none 0 0, .int .i64 0, .int .i64 0, .int .i64 0] 25) := keep_oth X6.out (show w.heap.size + 1 ≠ w.heap.size + 1 + 1 by omega)
  have HRES : Hid _ := hres
  have HROW : Hid _ := hrow
  clear hrow hres
  have HAB : Hid (Above (w.heap.size + 1 + 1 + 1) u6 (u6.setCell ⟨w.heap.size + 1 + 1, 6, none⟩ (.slice a6 ol c6)) ∧ Below w.heap.size w (u6.setCell ⟨w.heap.size + 1 + 1, 6, none⟩ (.slice a6 ol c6))) := ⟨(Above.refl _ _).setCell (show w.heap.size + 1 + 1 < w.heap.size + 1 + 1 + 1 by omega) _, B6.out.setCell (show w.heap.size ≤ w.heap.size + 1 + 1 by omega) _⟩
  go_wp2_with (first | (refine wpList_load_row rfl 25 _ rfl (w.heap.size + 1 + 1) ?hx 25 #[.slice a1 cl c1, .int .i64 pc, .slice a2 rl c2, .slice a3 dl c3, .slice a4 sl c4, .slice a5 il c5, .slice a6 ol c6, .int .i64 steps, .int .i64 fin, .int .i64 val] (0, 0) _ ?hg Try.underlying25 ?hd ?hi ?_; (case hx => rfl); (case hg => exact HROW.out); (case hd => rfl); (case hi => kernel_rfl)) | (refine wpList_store_row rfl 25 _ _ rfl (w.heap.size + 1) #[.slice a1 cl c1, .int .i64 pc, .slice a2 rl c2, .slice a3 dl c3, .slice a4 sl c4, .slice a5 il c5, .slice a6 ol c6, .int .i64 steps, .int .i64 fin, .int .i64 val] ?hx ?hy 25 #[.slice none 0 0, .int .i64 0, .slice none 0 0, .slice none 0 0, .slice none 0 0, .slice none 0 0, .slice none 0 0, .int .i64 0, .int .i64 0, .int .i64 0] ?hg ?hi ?ho ?h1 ?_; (case hx => rfl); (case hy => rfl); (case hg => exact HRES.out); (case hi => kernel_rfl); (case ho => kernel_rfl); (case h1 => kernel_rfl); refine Hid.out ?_))
  unfold Hid
  clear kb ko kf
  go_wp2_with fail
  refine bodyPost_ret (v := .agg #[.slice a1 cl c1, .int .i64 pc, .slice a2 rl c2, .slice a3 dl c3, .slice a4 sl c4, .slice a5 il c5, .slice a6 ol c6, .int .i64 steps, .int .i64 fin, .int .i64 val]) ?hres rfl ⟨⟨⟨a1, cl, c1⟩, ⟨a2, rl, c2⟩, ⟨a3, dl, c3⟩, ⟨a4, sl, c4⟩, ⟨a5, il, c5⟩, ⟨a6, ol, c6⟩⟩, rfl, ⟨((O1.out.same ((A1.out.trans (Above.of_below D2.out)).trans ((A2.out.trans (Above.of_below D3.out)).trans ((A3.out.trans (Above.of_below D4.out)).trans ((A4.out.trans (Above.of_below D5.out)).trans ((A5.out.trans (Above.of_below D6.out)).trans (HAB.out.1.setRow (show w.heap.size + 1 < w.heap.size + 1 + 1 + 1 from by omega) _)))))) (by have := zz1; omega)).lower (by have := zz1; omega)), ((O2.out.same ((A2.out.trans (Above.of_below D3.out)).trans ((A3.out.trans (Above.of_below D4.out)).trans ((A4.out.trans (Above.of_below D5.out)).trans ((A5.out.trans (Above.of_below D6.out)).trans (HAB.out.1.setRow (show w.heap.size + 1 < w.heap.size + 1 + 1 + 1 from by omega) _))))) (by have := zz2; omega)).lower (by have := zz2; omega)), ((O3.out.same ((A3.out.trans (Above.of_below D4.out)).trans ((A4.out.trans (Above.of_below D5.out)).trans ((A5.out.trans (Above.of_below D6.out)).trans (HAB.out.1.setRow (show w.heap.size + 1 < w.heap.size + 1 + 1 + 1 from by omega) _)))) (by have := zz3; omega)).lower (by have := zz3; omega)), ((O4.out.same ((A4.out.trans (Above.of_below D5.out)).trans ((A5.out.trans (Above.of_below D6.out)).trans (HAB.out.1.setRow (show w.heap.size + 1 < w.heap.size + 1 + 1 + 1 from by omega) _))) (by have := zz4; omega)).lower (by have := zz4; omega)), ((O5.out.same ((A5.out.trans (Above.of_below D6.out)).trans (HAB.out.1.setRow (show w.heap.size + 1 < w.heap.size + 1 + 1 + 1 from by omega) _)) (by have := zz5; omega)).lower (by have := zz5; omega)), ((O6.out.same (HAB.out.1.setRow (show w.heap.size + 1 < w.heap.size + 1 + 1 + 1 from by omega) _) (by have := zz6; omega)).lower (by have := zz6; omega))⟩, ⟨U1.heap.size, U2.heap.size, U3.heap.size, U4.heap.size, U5.heap.size, U6.heap.size, u6.heap.size, O1.out.span (by have := HK2.out.1; omega), O2.out.span (by have := HK3.out.1; omega), O3.out.span (by have := HK4.out.1; omega), O4.out.span (by have := HK5.out.1; omega), O5.out.span (by have := HK6.out.1; omega), O6.out.span (by omega), (by have := S1.out; have := HK2.out.1; omega), (by have := S2.out; have := HK3.out.1; omega), (by have := S3.out; have := HK4.out.1; omega), (by have := S4.out; have := HK5.out.1; omega), (by have := S5.out; have := HK6.out.1; omega), (by have := S6.out; omega)⟩, below_setRow HAB.out.2 (show w.heap.size ≤ w.heap.size + 1 from by omega) _⟩
  case hres =>
    refine results_cell_row Try.results22 _ _ (w.heap.size + 1) 25 #[.slice a1 cl c1, .int .i64 pc, .slice a2 rl c2, .slice a3 dl c3, .slice a4 sl c4, .slice a5 il c5, .slice a6 ol c6, .int .i64 steps, .int .i64 fin, .int .i64 val] (0, 0) _ ?hp ?hg Try.underlying25 ?hd ?hi
    case hp => rfl
    case hg => exact setRow_heap _ _ _ _ _ _ HRES.out
    case hd => rfl
    case hi => kernel_rfl
end Go.Proofs.Ytfcfnbncgadomaa.W
namespace Go.Proofs.Ytfcfnbncgadomaa.W
open Go.RowKit
/-- nothing but a slice's own block has turned -/
structure Touch (a : Option Addr) (w w' : World) : Prop where
  os : w'.os = w.os
  tape : w'.tape = w.tape
  output : w'.output = w.output
  size : w'.heap.size = w.heap.size
  block : ∀ k, (∀ ad, a = some ad → k ≠ ad.block) → w'.heap[k]? = w.heap[k]?
theorem Touch.refl (a : Option Addr) (w : World) : Touch a w w := ⟨rfl, rfl, rfl, rfl, fun _ _ => rfl⟩
theorem Touch.setCell {a : Option Addr} {w u : World} (h : Touch a w u) {g : Nat} (hp : a = some ⟨g, 0, none⟩) (x : Value) {i : Nat} : Touch a w (u.setCell ⟨g, i, none⟩ x) :=
  ⟨h.os, h.tape, h.output, by simpa using h.size, fun k hk => (Below.heap_setCell u ⟨g, i, none⟩ x k (show k ≠ g from hk ⟨g, 0, none⟩ hp)).trans (h.block k hk)⟩
theorem mkIntS_wf (k : Int) (len : Nat) (hk : 0 ≤ k ∧ k + len ≤ 4611686018427387904) : ∀ n ∈ (List.range len).map (fun (i : Nat) => k + (i : Int)), (Lit.int .i64 n).wf = true := by
  intro n hn
  obtain ⟨i, hi, rfl⟩ := List.mem_map.1 hn
  have := List.mem_range.1 hi
  have h1 : -9223372036854775808 ≤ k + (i : Int) := by omega
  have h2 : k + (i : Int) ≤ 9223372036854775807 := by omega
  generalize k + (i : Int) = y at h1 h2
  simp [Lit.wf, IntKind.min, IntKind.max, IntKind.signed, IntKind.bits]
  omega
theorem mkByteS_wf (k : Int) (len : Nat) (hk : 0 ≤ k ∧ k + len ≤ 4611686018427387904) : ∀ n ∈ (List.range len).map (fun (i : Nat) => (k + (i : Int)) % 256), (Lit.int .u8 n).wf = true := by
  intro n hn
  obtain ⟨i, hi, rfl⟩ := List.mem_map.1 hn
  have h1 : 0 ≤ (k + (i : Int)) % 256 := by omega
  have h2 : (k + (i : Int)) % 256 ≤ 255 := by omega
  generalize (k + (i : Int)) % 256 = y at h1 h2
  simp [Lit.wf, IntKind.min, IntKind.max, IntKind.signed, IntKind.bits]
  omega
/-- what a slice holds behind a mark -/
def mkIntS (k : Int) (len : Nat) : List Int := (List.range len).map fun (i : Nat) => (k + (i : Int))
theorem mkIntS_length (k : Int) (len : Nat) : (mkIntS k len).length = len := by simp [mkIntS]
theorem mkIntS_get (k : Int) (len i : Nat) (h : i < len) : (mkIntS k len).getD i 0 = (k + (i : Int)) := by
  rw [List.getD_eq_getElem?_getD]
  simp [mkIntS, h]
/-- the first j cells marked, the rest as they were -/
def mtIntS (k : Int) (zs : List Int) (j : Nat) : List Int := (mkIntS k zs.length).take j ++ zs.drop j
theorem mtIntS_zero (k : Int) (zs : List Int) : mtIntS k zs 0 = zs := by simp [mtIntS]
theorem mtIntS_full (k : Int) (zs : List Int) {j : Nat} (h : zs.length ≤ j) : mtIntS k zs j = mkIntS k zs.length := by
  unfold mtIntS
  rw [List.take_of_length_le (by rw [mkIntS_length]; exact h), List.drop_of_length_le h, List.append_nil]
theorem mtIntS_length (k : Int) (zs : List Int) (j : Nat) : (mtIntS k zs j).length = zs.length := by
  unfold mtIntS
  rw [List.length_append, List.length_take, List.length_drop, mkIntS_length]; omega
theorem mtIntS_set (k : Int) (zs : List Int) {j : Nat} (h : j < zs.length) : (mtIntS k zs j).set j ((k + (j : Int))) = mtIntS k zs (j + 1) := by
  have hx : (mkIntS k zs.length)[j]? = some ((k + (j : Int))) := by simp [mkIntS, h]
  apply List.ext_getElem?
  intro i
  unfold mtIntS
  rw [List.getElem?_set, List.length_append, List.length_take, List.length_drop, mkIntS_length]
  by_cases h1 : j = i
  · subst h1
    rw [if_pos rfl, if_pos (by omega), List.getElem?_append_left (by rw [List.length_take, mkIntS_length]; omega), List.getElem?_take, if_pos (by omega), hx]
  · rw [if_neg h1]
    by_cases h2 : i < j
    · rw [List.getElem?_append_left (by rw [List.length_take, mkIntS_length]; omega), List.getElem?_append_left (by rw [List.length_take, mkIntS_length]; omega), List.getElem?_take, List.getElem?_take, if_pos h2, if_pos (by omega)]
    · rw [List.getElem?_append_right (by rw [List.length_take, mkIntS_length]; omega), List.getElem?_append_right (by rw [List.length_take, mkIntS_length]; omega), List.length_take, List.length_take, mkIntS_length, List.getElem?_drop, List.getElem?_drop]
      congr 1
      omega
/-- what a slice holds behind a mark -/
def mkByteS (k : Int) (len : Nat) : List Int := (List.range len).map fun (i : Nat) => (k + (i : Int)) % 256
theorem mkByteS_length (k : Int) (len : Nat) : (mkByteS k len).length = len := by simp [mkByteS]
theorem mkByteS_get (k : Int) (len i : Nat) (h : i < len) : (mkByteS k len).getD i 0 = (k + (i : Int)) % 256 := by
  rw [List.getD_eq_getElem?_getD]
  simp [mkByteS, h]
/-- the first j cells marked, the rest as they were -/
def mtByteS (k : Int) (zs : List Int) (j : Nat) : List Int := (mkByteS k zs.length).take j ++ zs.drop j
theorem mtByteS_zero (k : Int) (zs : List Int) : mtByteS k zs 0 = zs := by simp [mtByteS]
theorem mtByteS_full (k : Int) (zs : List Int) {j : Nat} (h : zs.length ≤ j) : mtByteS k zs j = mkByteS k zs.length := by
  unfold mtByteS
  rw [List.take_of_length_le (by rw [mkByteS_length]; exact h), List.drop_of_length_le h, List.append_nil]
theorem mtByteS_length (k : Int) (zs : List Int) (j : Nat) : (mtByteS k zs j).length = zs.length := by
  unfold mtByteS
  rw [List.length_append, List.length_take, List.length_drop, mkByteS_length]; omega
theorem mtByteS_set (k : Int) (zs : List Int) {j : Nat} (h : j < zs.length) : (mtByteS k zs j).set j ((k + (j : Int)) % 256) = mtByteS k zs (j + 1) := by
  have hx : (mkByteS k zs.length)[j]? = some ((k + (j : Int)) % 256) := by simp [mkByteS, h]
  apply List.ext_getElem?
  intro i
  unfold mtByteS
  rw [List.getElem?_set, List.length_append, List.length_take, List.length_drop, mkByteS_length]
  by_cases h1 : j = i
  · subst h1
    rw [if_pos rfl, if_pos (by omega), List.getElem?_append_left (by rw [List.length_take, mkByteS_length]; omega), List.getElem?_take, if_pos (by omega), hx]
  · rw [if_neg h1]
    by_cases h2 : i < j
    · rw [List.getElem?_append_left (by rw [List.length_take, mkByteS_length]; omega), List.getElem?_append_left (by rw [List.length_take, mkByteS_length]; omega), List.getElem?_take, List.getElem?_take, if_pos h2, if_pos (by omega)]
    · rw [List.getElem?_append_right (by rw [List.length_take, mkByteS_length]; omega), List.getElem?_append_right (by rw [List.length_take, mkByteS_length]; omega), List.length_take, List.length_take, mkByteS_length, List.getElem?_drop, List.getElem?_drop]
      congr 1
      omega
end Go.Proofs.Ytfcfnbncgadomaa.W
namespace Go.Proofs.Ytfcfnbncgadomaa.W
open Go.RowKit
/-- nothing has turned but blocks from t0 on and below t6, and new ones -/
structure Outside (t0 t6 : Nat) (w w' : World) : Prop where
  os : w'.os = w.os
  tape : w'.tape = w.tape
  output : w'.output = w.output
  size : w.heap.size ≤ w'.heap.size
  block : ∀ b, b < w.heap.size → b < t0 ∨ t6 ≤ b → w'.heap[b]? = w.heap[b]?
theorem Outside.trans {t0 t6 : Nat} {a b c : World} (h : Outside t0 t6 a b) (k : Outside t0 t6 b c) : Outside t0 t6 a c :=
  ⟨k.os.trans h.os, k.tape.trans h.tape, k.output.trans h.output, Nat.le_trans h.size k.size, fun i h1 h2 => (k.block i (Nat.lt_of_lt_of_le h1 h.size) h2).trans (h.block i h1 h2)⟩
theorem Outside.of_below {t0 t6 : Nat} {a b : World} (h : Below a.heap.size a b) : Outside t0 t6 a b := ⟨h.os, h.tape, h.output, h.size, fun i h1 _ => h.block i h1⟩
theorem Outside.of_touch {t0 t6 lo hi : Nat} {s : SV} {a b : World} (h : Touch s.a a b) (hs : Span s lo hi) (h0 : t0 ≤ lo) (h6 : hi ≤ t6) : Outside t0 t6 a b :=
  ⟨h.os, h.tape, h.output, Nat.le_of_eq h.size.symm, fun i _ h2 => h.block i (fun ad had => by have := hs ad had; omega)⟩
theorem Outside.below {t0 t6 : Nat} {a b : World} (h : Outside t0 t6 a b) (hs : t0 ≤ a.heap.size) : Below t0 a b := ⟨h.os, h.tape, h.output, h.size, fun i hi => h.block i (by omega) (.inl hi)⟩
/-- a slice in one span is as it was behind a mark of one in another -/
theorem Own.untouched {k : IntKind} {e : TypeId} {lo l1 h1 l2 h2 : Nat} {w w' : World} {s t : SV} {zs : List Int} (h : Own k e lo w s.a s.len s.cap zs) (hs : Span s l1 h1) (ht : Span t l2 h2) (hd : h1 ≤ l2 ∨ h2 ≤ l1) (hT : Touch t.a w w') : Own k e lo w' s.a s.len s.cap zs := by
  obtain ⟨hown, hwf⟩ := h
  refine ⟨⟨hown.1, ?_⟩, hwf⟩
  rcases hown.2 with h0 | ⟨g, cap', cur, h0, hlo, hg, hr⟩
  · exact .inl h0
  · refine .inr ⟨g, cap', cur, h0, hlo, ?_, hr⟩
    simp only [Value.slice.injEq] at h0
    rw [hT.block g (fun ad had => by
      have a1 := hs ⟨g, 0, none⟩ h0.1
      have a2 := ht ad had
      have a3 : l1 ≤ g ∧ g < h1 := a1
      omega), hg]
def MSepAt (t0 t6 : Nat) (v : MV) : Prop := ∃ t1 t2 t3 t4 t5 : Nat, Span v.code t0 t1 ∧ Span v.regs t1 t2 ∧ Span v.data t2 t3 ∧ Span v.stk t3 t4 ∧ Span v.inp t4 t5 ∧ Span v.out t5 t6 ∧ t0 ≤ t1 ∧ t1 ≤ t2 ∧ t2 ≤ t3 ∧ t3 ≤ t4 ∧ t4 ≤ t5 ∧ t5 ≤ t6
theorem MSep.at {v : MV} (h : MSep v) : ∃ t0 t6, MSepAt t0 t6 v := by
  obtain ⟨t0, t1, t2, t3, t4, t5, t6, h⟩ := h
  exact ⟨t0, t6, t1, t2, t3, t4, t5, h⟩
/-- a machine behind its mark -/
def marked (v : MV) (m : Pl.Mac) (k : Int) : Pl.Mac := ⟨mkIntS (k) v.code.len, m.pc, mkIntS (k + (v.code.len : Int)) v.regs.len, mkByteS (k + (v.code.len : Int) + (v.regs.len : Int)) v.data.len, mkByteS (k + (v.code.len : Int) + (v.regs.len : Int) + (v.data.len : Int)) v.stk.len, mkByteS (k + (v.code.len : Int) + (v.regs.len : Int) + (v.data.len : Int) + (v.stk.len : Int)) v.inp.len, mkByteS (k + (v.code.len : Int) + (v.regs.len : Int) + (v.data.len : Int) + (v.stk.len : Int) + (v.inp.len : Int)) v.out.len, m.steps, m.fin, m.val⟩
end Go.Proofs.Ytfcfnbncgadomaa.W
namespace Go.Proofs.Ytfcfnbncgadomaa.W
open Go.RowKit
/-- the six slices of a machine lie in spans of their own, in whatever order -/
def MApart (t0 t6 : Nat) (v : MV) : Prop := ∃ l h : Nat → Nat, (Span v.code (l 0) (h 0) ∧ Span v.regs (l 1) (h 1) ∧ Span v.data (l 2) (h 2) ∧ Span v.stk (l 3) (h 3) ∧ Span v.inp (l 4) (h 4) ∧ Span v.out (l 5) (h 5)) ∧ (∀ i, i < 6 → t0 ≤ l i ∧ h i ≤ t6) ∧ ∀ i j, i < 6 → j < 6 → i ≠ j → h i ≤ l j ∨ h j ≤ l i
theorem MSepAt.apart {t0 t6 : Nat} {v : MV} (hs : MSepAt t0 t6 v) : MApart t0 t6 v := by
  obtain ⟨t1, t2, t3, t4, t5, p0, p1, p2, p3, p4, p5, q0, q1, q2, q3, q4, q5⟩ := hs
  refine ⟨fun | 0 => t0 | 1 => t1 | 2 => t2 | 3 => t3 | 4 => t4 | _ => t5, fun | 0 => t1 | 1 => t2 | 2 => t3 | 3 => t4 | 4 => t5 | _ => t6, ⟨p0, p1, p2, p3, p4, p5⟩, ?_, ?_⟩
  · intro i hi
    rcases (show i = 0 ∨ i = 1 ∨ i = 2 ∨ i = 3 ∨ i = 4 ∨ i = 5 by omega) with rfl | rfl | rfl | rfl | rfl | rfl <;> simp <;> omega
  · intro i j hi hj hij
    rcases (show i = 0 ∨ i = 1 ∨ i = 2 ∨ i = 3 ∨ i = 4 ∨ i = 5 by omega) with rfl | rfl | rfl | rfl | rfl | rfl <;> rcases (show j = 0 ∨ j = 1 ∨ j = 2 ∨ j = 3 ∨ j = 4 ∨ j = 5 by omega) with rfl | rfl | rfl | rfl | rfl | rfl <;> simp <;> omega
end Go.Proofs.Ytfcfnbncgadomaa.W
