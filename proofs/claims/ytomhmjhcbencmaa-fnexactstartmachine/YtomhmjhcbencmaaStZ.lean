import Derived.Test.YtomhmjhcbencmaaStY
import Derived.Laws.MakeOwn
set_option linter.unusedVariables false
set_option linter.unusedSimpArgs false
namespace Go.Proofs.Ytomhmjhcbencmaa.W
open Go.RowKit
set_option maxHeartbeats 4000000 in
theorem toImage_spans {lo : Nat} (v : IV) (m : Pl.Img) (w : World) (h : IIs lo w v m) (hsz : m.code.length + m.data.length ≤ 1048576) :
    Calls Try.prog 16 #[.agg #[.slice v.code.a v.code.len v.code.cap, .slice v.data.a v.data.len v.data.cap, .int .i64 m.entry, .int .i64 m.size]] w fun e w' => ∃ v' : IV, e = .returned (.agg #[.slice v'.code.a v'.code.len v'.code.cap, .slice v'.data.a v'.data.len v'.data.cap, .int .i64 m.entry, .int .i64 m.size]) ∧ IOwn w.heap.size w' v' m ∧ (∃ t0 t1 t2, Span v'.code t0 t1 ∧ Span v'.data t1 t2 ∧ w.heap.size ≤ t0 ∧ t0 ≤ t1 ∧ t1 ≤ t2 ∧ t2 ≤ w'.heap.size) ∧ Below w.heap.size w w' := by
  obtain ⟨⟨ca, cl, cc⟩, ⟨da, dl, dc⟩⟩ := v
  obtain ⟨code, data, entry, size⟩ := m
  obtain ⟨r1, r3⟩ := h
  dsimp only at r1 r3 hsz ⊢
  have hs : cl ≤ 1048576 ∧ dl ≤ 1048576 := by
    rw [r1.1, r3.1] at hsz
    omega
  clear hsz
  obtain ⟨s1, s3⟩ := hs
  have R1 : Hid _ := r1
  have R3 : Hid _ := r3
  clear r1 r3
  go_enter Try.func16, Try.ntmps16
  go_wp2_with fail
  refine calls_at fun U1 hU1 => ?_
  have z1 : U1.heap.size = w.heap.size + 3 := by rw [hU1]; simp
  have bx1 : U1.heap[w.heap.size]? = some (.cells #[.slice ca cl cc, .slice da dl dc, .int .i64 entry, .int .i64 size] 35) := by
    rw [hU1, Below.heap_alloc _ _ _ (by simp; omega), Below.heap_alloc _ _ _ (by simp)]
    exact heap_alloc_new w _
  have ot1 : U1.heap[w.heap.size + 1 + 1]? = some (.cells #[.slice none 0 0, .slice none 0 0, .int .i64 0, .int .i64 0] 39) := by
    rw [hU1]
    have := heap_alloc_new ((w.alloc (.cells #[.slice ca cl cc, .slice da dl dc, .int .i64 entry, .int .i64 size] 35)).alloc (.cells #[.slice none 0 0, .slice none 0 0, .int .i64 0, .int .i64 0] 39)) (.cells #[.slice none 0 0, .slice none 0 0, .int .i64 0, .int .i64 0] 39)
    simpa using this
  have re1 : U1.heap[w.heap.size + 1]? = some (.cells #[.slice none 0 0, .slice none 0 0, .int .i64 0, .int .i64 0] 39) := by
    rw [hU1, Below.heap_alloc _ _ _ (by simp)]
    have := heap_alloc_new (w.alloc (.cells #[.slice ca cl cc, .slice da dl dc, .int .i64 entry, .int .i64 size] 35)) (.cells #[.slice none 0 0, .slice none 0 0, .int .i64 0, .int .i64 0] 39)
    simpa using this
  have b1 : Below w.heap.size w U1 := by
    rw [hU1]
    exact (((Below.refl _ _).alloc (Nat.le_refl _) _).alloc (by simp) _).alloc (by simp; omega) _
  have HK1 : Hid (U1.heap.size = w.heap.size + 3 ∧ Below w.heap.size w U1) := ⟨z1, b1⟩
  refine (toIntS_any ca cl cc code U1 (Row.keep R1.out HK1.out.2) s1).mono ?_
  rintro e u1 ⟨rfl, o1, d1⟩
  have zz1 : w.heap.size + 1 + 1 < U1.heap.size := by have := HK1.out.1; omega
  have p1 : u1.heap[w.heap.size]? = some (.cells #[.slice ca cl cc, .slice da dl dc, .int .i64 entry, .int .i64 size] 35) := by rw [d1.block _ (by omega)]; exact bx1
  have q1 : u1.heap[w.heap.size + 1 + 1]? = some (.cells #[.slice none 0 0, .slice none 0 0, .int .i64 0, .int .i64 0] 39) := by rw [d1.block _ (by omega)]; exact ot1
  have X1 : Hid (u1.heap[w.heap.size + 1]? = some (.cells #[.slice none 0 0, .slice none 0 0, .int .i64 0, .int .i64 0] 39)) := by
    show u1.heap[w.heap.size + 1]? = _
    rw [d1.block _ (by omega)]; exact re1
  have P1 : Hid _ := p1
  have Q1 : Hid _ := q1
  have kb : ∀ j, u1.cell? ⟨w.heap.size, j, none⟩ = (#[.slice ca cl cc, .slice da dl dc, .int .i64 entry, .int .i64 size] : Array Value)[j]? := fun j => cell_of_row u1 w.heap.size j _ 35 (0, 0) p1
  have ko : ∀ j, u1.cell? ⟨w.heap.size + 1 + 1, j, none⟩ = (#[.slice none 0 0, .slice none 0 0, .int .i64 0, .int .i64 0] : Array Value)[j]? := fun j => cell_of_row u1 (w.heap.size + 1 + 1) j _ 39 (0, 0) q1
  have kf : ∀ j, u1.frozen? ⟨w.heap.size + 1 + 1, j, none⟩ = false := fun j => frozen_of_row u1 (w.heap.size + 1 + 1) j _ 39 q1
  have O1 : Hid (Own .i64 3 U1.heap.size u1 (some ⟨U1.heap.size, 0, none⟩) cl cl code) := o1
  have D1 : Hid (Below U1.heap.size U1 u1) := d1
  have B1 : Hid (Below w.heap.size w u1) := HK1.out.2.trans (d1.mono (by have := zz1; omega))
  have S1 : Hid (U1.heap.size ≤ u1.heap.size) := d1.size
  clear z1 b1 o1 d1 bx1 ot1 re1 hU1 p1 q1
  go_wp2_with fail
  clear kb ko kf

  refine calls_at fun U2 hU2 => ?_
  have bx2 : U2.heap[w.heap.size]? = some (.cells #[.slice ca cl cc, .slice da dl dc, .int .i64 entry, .int .i64 size] 35) := by
    rw [hU2]
    repeat (first | exact P1.out | rw [heap_setCell_other _ _ _ _ (show w.heap.size ≠ w.heap.size + 1 + 1 by omega)])
  have ot2 : U2.heap[w.heap.size + 1 + 1]? = some (.cells #[.slice (some ⟨U1.heap.size, 0, none⟩) cl cl, .slice none 0 0, .int .i64 0, .int .i64 0] 39) := by
    rw [hU2]
    exact row_put Q1.out 0 (.slice (some ⟨U1.heap.size, 0, none⟩) cl cl) rfl
  have re2 : U2.heap[w.heap.size + 1]? = some (.cells #[.slice none 0 0, .slice none 0 0, .int .i64 0, .int .i64 0] 39) := by
    rw [hU2]
    repeat (first | exact X1.out | rw [heap_setCell_other _ _ _ _ (show w.heap.size + 1 ≠ w.heap.size + 1 + 1 by omega)])
  have HK2 : Hid (U2.heap.size = u1.heap.size ∧ Below w.heap.size w U2) := by
    rw [hU2]
    refine ⟨by simp, ?_⟩
    repeat (first | exact B1.out | refine Below.setCell ?_ (show w.heap.size ≤ w.heap.size + 1 + 1 by omega) _)
  have A1 : Hid (Above (w.heap.size + 1 + 1 + 1) u1 U2) := by
    rw [hU2]
    repeat (first | exact Above.refl _ _ | refine Above.setCell ?_ (show w.heap.size + 1 + 1 < w.heap.size + 1 + 1 + 1 by omega) _)
  refine (toByteS_any da dl dc data U2 (Row.keep R3.out HK2.out.2) s3).mono ?_
  rintro e u2 ⟨rfl, o2, d2⟩
  have zz2 : w.heap.size + 1 + 1 < U2.heap.size := by have := HK2.out.1; have := zz1; have := S1.out; omega
  have p2 : u2.heap[w.heap.size]? = some (.cells #[.slice ca cl cc, .slice da dl dc, .int .i64 entry, .int .i64 size] 35) := by rw [d2.block _ (by omega)]; exact bx2
  have q2 : u2.heap[w.heap.size + 1 + 1]? = some (.cells #[.slice (some ⟨U1.heap.size, 0, none⟩) cl cl, .slice none 0 0, .int .i64 0, .int .i64 0] 39) := by rw [d2.block _ (by omega)]; exact ot2
  have X2 : Hid (u2.heap[w.heap.size + 1]? = some (.cells #[.slice none 0 0, .slice none 0 0, .int .i64 0, .int .i64 0] 39)) := by
    show u2.heap[w.heap.size + 1]? = _
    rw [d2.block _ (by omega)]; exact re2
  have P2 : Hid _ := p2
  have Q2 : Hid _ := q2
  have kb : ∀ j, u2.cell? ⟨w.heap.size, j, none⟩ = (#[.slice ca cl cc, .slice da dl dc, .int .i64 entry, .int .i64 size] : Array Value)[j]? := fun j => cell_of_row u2 w.heap.size j _ 35 (0, 0) p2
  have ko : ∀ j, u2.cell? ⟨w.heap.size + 1 + 1, j, none⟩ = (#[.slice (some ⟨U1.heap.size, 0, none⟩) cl cl, .slice none 0 0, .int .i64 0, .int .i64 0] : Array Value)[j]? := fun j => cell_of_row u2 (w.heap.size + 1 + 1) j _ 39 (0, 0) q2
  have kf : ∀ j, u2.frozen? ⟨w.heap.size + 1 + 1, j, none⟩ = false := fun j => frozen_of_row u2 (w.heap.size + 1 + 1) j _ 39 q2
  have O2 : Hid (Own .u8 5 U2.heap.size u2 (some ⟨U2.heap.size, 0, none⟩) dl dl data) := o2
  have D2 : Hid (Below U2.heap.size U2 u2) := d2
  have B2 : Hid (Below w.heap.size w u2) := HK2.out.2.trans (d2.mono (by have := zz2; omega))
  have S2 : Hid (U2.heap.size ≤ u2.heap.size) := d2.size
  clear o2 d2 bx2 ot2 re2 hU2 p2 q2
  have hrow : (((u2.setCell ⟨w.heap.size + 1 + 1, 1, none⟩ (.slice (some ⟨U2.heap.size, 0, none⟩) dl dl)).setCell ⟨w.heap.size + 1 + 1, 2, none⟩ (.int .i64 entry)).setCell ⟨w.heap.size + 1 + 1, 3, none⟩ (.int .i64 size)).heap[w.heap.size + 1 + 1]? = some (.cells #[.slice (some ⟨U1.heap.size, 0, none⟩) cl cl, .slice (some ⟨U2.heap.size, 0, none⟩) dl dl, .int .i64 entry, .int .i64 size] 39) := row_put (row_put (row_put (Q2.out) 1 (.slice (some ⟨U2.heap.size, 0, none⟩) dl dl) rfl) 2 (.int .i64 entry) rfl) 3 (.int .i64 size) rfl
  have hres : (((u2.setCell ⟨w.heap.size + 1 + 1, 1, none⟩ (.slice (some ⟨U2.heap.size, 0, none⟩) dl dl)).setCell ⟨w.heap.size + 1 + 1, 2, none⟩ (.int .i64 entry)).setCell ⟨w.heap.size + 1 + 1, 3, none⟩ (.int .i64 size)).heap[w.heap.size + 1]? = some (.cells #[.slice none 0 0, .slice none 0 0, .int .i64 0, .int .i64 0] 39) := by
    repeat (first | exact X2.out | rw [heap_setCell_other _ _ _ _ (show w.heap.size + 1 ≠ w.heap.size + 1 + 1 by omega)])
  have HRES : Hid _ := hres
  have HROW : Hid _ := hrow
  clear hrow hres
  have HAB : Hid (Above (w.heap.size + 1 + 1 + 1) u2 (((u2.setCell ⟨w.heap.size + 1 + 1, 1, none⟩ (.slice (some ⟨U2.heap.size, 0, none⟩) dl dl)).setCell ⟨w.heap.size + 1 + 1, 2, none⟩ (.int .i64 entry)).setCell ⟨w.heap.size + 1 + 1, 3, none⟩ (.int .i64 size)) ∧ Below w.heap.size w (((u2.setCell ⟨w.heap.size + 1 + 1, 1, none⟩ (.slice (some ⟨U2.heap.size, 0, none⟩) dl dl)).setCell ⟨w.heap.size + 1 + 1, 2, none⟩ (.int .i64 entry)).setCell ⟨w.heap.size + 1 + 1, 3, none⟩ (.int .i64 size))) := by
    refine ⟨?_, ?_⟩
    · repeat (first | exact Above.refl _ _ | refine Above.setCell ?_ (show w.heap.size + 1 + 1 < w.heap.size + 1 + 1 + 1 by omega) _)
    · repeat (first | exact B2.out | refine Below.setCell ?_ (show w.heap.size ≤ w.heap.size + 1 + 1 by omega) _)
  go_wp2_with (refine wpList_load_row rfl 39 _ rfl (w.heap.size + 1 + 1) ?hx 39 #[.slice (some ⟨U1.heap.size, 0, none⟩) cl cl, .slice (some ⟨U2.heap.size, 0, none⟩) dl dl, .int .i64 entry, .int .i64 size] (0, 0) _ ?hg Try.underlying39 ?hd ?hi ?_; (case hx => rfl); (case hg => exact HROW.out); (case hd => rfl); (case hi => kernel_rfl); refine Hid.out ?_)
  unfold Hid
  clear kb ko kf
  refine wpList_store_row rfl 39 _ _ rfl (w.heap.size + 1) #[.slice (some ⟨U1.heap.size, 0, none⟩) cl cl, .slice (some ⟨U2.heap.size, 0, none⟩) dl dl, .int .i64 entry, .int .i64 size] ?hx ?hy 39 #[.slice none 0 0, .slice none 0 0, .int .i64 0, .int .i64 0] ?hg ?hi ?ho ?h1 ?_
  case hx => rfl
  case hy => rfl
  case hg => exact HRES.out
  case hi => kernel_rfl
  case ho => kernel_rfl
  case h1 => kernel_rfl
  go_wp2_with fail
  refine bodyPost_ret (v := .agg #[.slice (some ⟨U1.heap.size, 0, none⟩) cl cl, .slice (some ⟨U2.heap.size, 0, none⟩) dl dl, .int .i64 entry, .int .i64 size]) ?hres rfl ⟨⟨⟨some ⟨U1.heap.size, 0, none⟩, cl, cl⟩, ⟨some ⟨U2.heap.size, 0, none⟩, dl, dl⟩⟩, rfl, ⟨((O1.out.same ((A1.out.trans (Above.of_below D2.out)).trans (HAB.out.1.setRow (show w.heap.size + 1 < w.heap.size + 1 + 1 + 1 from by omega) _)) (by have := zz1; omega)).lower (by have := zz1; omega)), ((O2.out.same (HAB.out.1.setRow (show w.heap.size + 1 < w.heap.size + 1 + 1 + 1 from by omega) _) (by have := zz2; omega)).lower (by have := zz2; omega))⟩, ⟨U1.heap.size, U2.heap.size, u2.heap.size, O1.out.span (by have := HK2.out.1; omega), O2.out.span (by omega), by have := zz1; omega, by have := S1.out; have := HK2.out.1; omega, by have := S2.out; omega, by simp⟩, (below_setRow HAB.out.2 (show w.heap.size ≤ w.heap.size + 1 from by omega) _)⟩
  case hres =>
    refine results_cell_row Try.results16 _ _ (w.heap.size + 1) 39 #[.slice (some ⟨U1.heap.size, 0, none⟩) cl cl, .slice (some ⟨U2.heap.size, 0, none⟩) dl dl, .int .i64 entry, .int .i64 size] (0, 0) _ ?hp ?hg Try.underlying39 ?hd ?hi
    case hp => rfl
    case hg => exact setRow_heap _ _ _ _ _ _ HRES.out
    case hd => rfl
    case hi => kernel_rfl
set_option maxHeartbeats 2000000 in
theorem markImage_out {lo t0 t1 t2 : Nat} (v : IV) (m : Pl.Img) (k : Int) (w : World) (h : IOwn lo w v m) (p0 : Span v.code t0 t1) (p1 : Span v.data t1 t2) (hq : t0 ≤ t1 ∧ t1 ≤ t2 ∧ t2 ≤ w.heap.size) (hk : 0 ≤ k ∧ k ≤ 1073741824) (hsz : m.code.length + m.data.length ≤ 1048576) :
    Calls Try.prog 21 #[.agg #[.slice v.code.a v.code.len v.code.cap, .slice v.data.a v.data.len v.data.cap, .int .i64 m.entry, .int .i64 m.size], .int .i64 k] w fun e w' => ∃ r : Int, e = .returned (.int .i64 r) ∧ k ≤ r ∧ r ≤ k + 1048576 ∧ Outside t0 t2 w w' := by
  obtain ⟨r0, r1⟩ := h
  have e0 := r0.row.1
  have e1 := r1.row.1
  have hsum : v.code.len + v.data.len ≤ 1048576 := by omega
  clear e0 e1 hsz
  have R0 : Hid (Own .i64 3 lo w v.code.a v.code.len v.code.cap m.code) := r0
  have R1 : Hid (Own .u8 5 lo w v.data.a v.data.len v.data.cap m.data) := r1
  clear r0 r1
  go_enter Try.func21, Try.ntmps21
  go_wp2_with fail
  refine calls_at fun u0 hu0 => ?_
  have Q0 : Hid (u0.heap[w.heap.size]? = some (.cells #[.slice v.code.a v.code.len v.code.cap, .slice v.data.a v.data.len v.data.cap, .int .i64 m.entry, .int .i64 m.size] 39)) := by show u0.heap[w.heap.size]? = _; rw [hu0]; exact heap_alloc_new w _
  have dd : Below w.heap.size w u0 := by rw [hu0]; exact below_alloc w _
  have T0 : Hid (Outside t0 t2 w u0) := Outside.of_below dd
  have K0 : Hid (Own .i64 3 lo u0 v.code.a v.code.len v.code.cap m.code) := R0.out.keep dd
  have K1 : Hid (Own .u8 5 lo u0 v.data.a v.data.len v.data.cap m.data) := R1.out.keep dd
  clear hu0 dd R0 R1
  refine (markIntS_any v.code.a v.code.len v.code.cap m.code k u0 K0.out (by omega)).mono ?_
  rintro e u1 ⟨rfl, _, h0⟩
  have K2 : Hid (Own .u8 5 lo u1 v.data.a v.data.len v.data.cap m.data) := K1.out.untouched p1 p0 (by omega) h0
  have T1 : Hid (Outside t0 t2 w u1) := T0.out.trans (Outside.of_touch h0 p0 (by omega) (by omega))
  have Q1 : Hid (u1.heap[w.heap.size]? = some (.cells #[.slice v.code.a v.code.len v.code.cap, .slice v.data.a v.data.len v.data.cap, .int .i64 m.entry, .int .i64 m.size] 39)) := (h0.block w.heap.size (fun ad had => by have := p0 ad had; omega)).trans Q0.out
  clear h0 T0 Q0 K0 K1
  have kb : ∀ j, u1.cell? ⟨w.heap.size, j, none⟩ = (#[.slice v.code.a v.code.len v.code.cap, .slice v.data.a v.data.len v.data.cap, .int .i64 m.entry, .int .i64 m.size] : Array Value)[j]? := fun j => cell_of_row u1 w.heap.size j _ 39 (0, 0) Q1.out
  go_wp2_with fail
  clear kb
  refine (markByteS_any v.data.a v.data.len v.data.cap m.data (k + v.code.len) u1 K2.out (by omega)).mono ?_
  rintro e u2 ⟨rfl, _, h1⟩
  have T2 : Hid (Outside t0 t2 w u2) := T1.out.trans (Outside.of_touch h1 p1 (by omega) (by omega))
  clear h1 T1 Q1 K2
  go_wp2
  go_ret
  exact ⟨_, rfl, by omega, by omega, T2.out⟩
/-- what both answer -/
def StartsS (m : Pl.Img) (inp : List Int) (m' : Pl.Mac) (b : Bool) : Prop :=
  ∀ (lo lo2 : Nat) (v : IV) (a : Option Addr) (len cap : Nat) (w : World), IOwn lo w v m → Own .u8 5 lo2 w a len cap inp → Calls Try.prog 15 #[.agg #[.slice v.code.a v.code.len v.code.cap, .slice v.data.a v.data.len v.data.cap, .int .i64 m.entry, .int .i64 m.size], .slice a len cap] w fun e w' =>
    ∃ v1 : MV, e = .returned (.tuple #[.agg #[.slice v1.code.a v1.code.len v1.code.cap, .int .i64 m'.pc, .slice v1.regs.a v1.regs.len v1.regs.cap, .slice v1.data.a v1.data.len v1.data.cap, .slice v1.stk.a v1.stk.len v1.stk.cap, .slice v1.inp.a v1.inp.len v1.inp.cap, .slice v1.out.a v1.out.len v1.out.cap, .int .i64 m'.steps, .int .i64 m'.fin, .int .i64 m'.val], .bool b]) ∧ MOwn w.heap.size w' v1 m' ∧ Below w.heap.size w w'
def StartsI (m : Pl.Img) (inp : List Int) (m' : Pl.Mac) (b : Bool) : Prop :=
  ∀ (lo lo2 : Nat) (v : IV) (a : Option Addr) (len cap : Nat) (w : World), IOwn lo w v m → Own .u8 5 lo2 w a len cap inp → Calls Try.prog 18 #[.agg #[.slice v.code.a v.code.len v.code.cap, .slice v.data.a v.data.len v.data.cap, .int .i64 m.entry, .int .i64 m.size], .slice a len cap] w fun e w' =>
    ∃ v1 : MV, e = .returned (.tuple #[.agg #[.slice v1.code.a v1.code.len v1.code.cap, .int .i64 m'.pc, .slice v1.regs.a v1.regs.len v1.regs.cap, .slice v1.data.a v1.data.len v1.data.cap, .slice v1.stk.a v1.stk.len v1.stk.cap, .slice v1.inp.a v1.inp.len v1.inp.cap, .slice v1.out.a v1.out.len v1.out.cap, .int .i64 m'.steps, .int .i64 m'.fin, .int .i64 m'.val], .bool b]) ∧ MOwn w.heap.size w' v1 m' ∧ (∃ t0 t6, MApart t0 t6 v1 ∧ w.heap.size ≤ t0 ∧ t6 ≤ w'.heap.size) ∧ Below w.heap.size w w'
theorem starts_agree (m : Pl.Img) (inp : List Int) (he : -9223372036854775808 ≤ m.entry ∧ m.entry ≤ 9223372036854775807) : ∃ (m' : Pl.Mac) (b : Bool), Pl.mSize m' ≤ 1048576 ∧ StartsS m inp m' b ∧ StartsI m inp m' b := by
  by_cases hyes : (Pl.iOk m && decide (inp.length ≤ 10000)) = true
  · refine ⟨Pl.mStart m inp, true, ?_, ?_, ?_⟩
    · have := hyes
      unfold Pl.iOk Pl.cdOk Pl.skOk at this
      simp only [Bool.and_eq_true, decide_eq_true_eq] at this
      unfold Pl.mSize Pl.mStart Pl.regs0
      simp
      omega
    · intro lo lo2 v a len cap w h hin
      have hl := hin.row.1
      exact specStart_yes v m a len cap inp w h hin he (by rw [← hl]; exact hyes)
    · intro lo lo2 v a len cap w h hin
      have hl := hin.row.1
      exact implStart_yes v m a len cap inp w h hin he (by rw [← hl]; exact hyes)
  · have hno : (Pl.iOk m && decide (inp.length ≤ 10000)) = false := by simpa using hyes
    refine ⟨Pl.mNone, false, by decide, ?_, ?_⟩
    · intro lo lo2 v a len cap w h hin
      have hl := hin.row.1
      refine (specStart_no v m a len cap inp w h hin he (by rw [← hl]; exact hno)).mono ?_
      rintro e w' ⟨rfl, d⟩
      exact ⟨vNone, rfl, vNone_own _ _, d⟩
    · intro lo lo2 v a len cap w h hin
      have hl := hin.row.1
      refine (implStart_no v m a len cap inp w h hin he (by rw [← hl]; exact hno)).mono ?_
      rintro e w' ⟨rfl, d⟩
      exact ⟨vNone, rfl, vNone_own _ _, ⟨w.heap.size, w.heap.size, vNone_apart _, Nat.le_refl _, d.size⟩, d⟩
end Go.Proofs.Ytomhmjhcbencmaa.W
