import Derived.Test.YtomhmjhcbencmaaMacD
import Derived.Test.YtomhmjhcbencmaaStD
import Derived.Deep.RegionWith
import Derived.Deep.Cut
import Derived.Deep.DeepCutAuto
import Derived.Deep.CutRange
set_option linter.unusedVariables false
namespace Go.Proofs.Ytomhmjhcbencmaa.W
open Go.RowKit
theorem wpList_load_row_gg {P : Program} {ops : Array Oper} {rest : List Oper} {o : Oper} {a : Act} {w : World} {Q : Exit → Act → World → Prop} (ty : TypeId) (x : Operand) (ho : o.op = .load ty x) (hw : Region.wanted o (yielded ops a.tmps) = true)
    (g : Nat) (hx : a.eval x = .pointer (some ⟨g, 0, none⟩)) (t : TypeId) (cs : Array Value) (fr : Nat × Nat) (d : TypeDesc) (hg : w.heap[g]? = some (.cells cs t fr))
    (hu : P.underlying ty = some d) (hd : (match d with | .struct _ | .array _ _ => true | _ => false) = true) (hi : (P.info? ty).map (·.size) = some cs.size)
    (h : wpList P ops Q rest (a.put o.dst (.agg cs)) w) : wpList P ops Q (o :: rest) a w := by
  unfold wpList
  rw [if_pos hw]
  exact Or.inl (wp_load_row ty x ho g hx t cs fr d hg hu hd hi h)
theorem Own.outside {k : IntKind} {e : TypeId} {lo l hi t0 t6 : Nat} {w w' : World} {s : SV} {zs : List Int} (h : Own k e lo w s.a s.len s.cap zs) (hs : Span s l hi) (hO : Outside t0 t6 w w') (hd : hi ≤ t0 ∨ t6 ≤ l) : Own k e lo w' s.a s.len s.cap zs := by
  obtain ⟨hown, hwf⟩ := h
  refine ⟨⟨hown.1, ?_⟩, hwf⟩
  rcases hown.2 with h0 | ⟨g, cap', cur, h0, hlo, hg, hr⟩
  · exact .inl h0
  · refine .inr ⟨g, cap', cur, h0, hlo, ?_, hr⟩
    simp only [Value.slice.injEq] at h0
    have a1 : l ≤ g ∧ g < hi := hs ⟨g, 0, none⟩ h0.1
    rw [hO.block g ((Array.getElem?_eq_some_iff.1 hg).1) (by omega), hg]
theorem MSepAt.le {t0 t6 : Nat} {v : MV} (h : MSepAt t0 t6 v) : t0 ≤ t6 := by
  obtain ⟨t1, t2, t3, t4, t5, h⟩ := h
  omega
def MIn (v : MV) (l hi : Nat) : Prop := Span v.code l hi ∧ Span v.regs l hi ∧ Span v.data l hi ∧ Span v.stk l hi ∧ Span v.inp l hi ∧ Span v.out l hi
theorem MOwn.in {lo : Nat} {w : World} {v : MV} {m : Pl.Mac} (h : MOwn lo w v m) : MIn v lo w.heap.size :=
  ⟨h.1.span (Nat.le_refl _), h.2.1.span (Nat.le_refl _), h.2.2.1.span (Nat.le_refl _), h.2.2.2.1.span (Nat.le_refl _), h.2.2.2.2.1.span (Nat.le_refl _), h.2.2.2.2.2.span (Nat.le_refl _)⟩
theorem MOwn.outside {lo l hi t0 t6 : Nat} {w w' : World} {v : MV} {m : Pl.Mac} (h : MOwn lo w v m) (hs : MIn v l hi) (hO : Outside t0 t6 w w') (hd : hi ≤ t0 ∨ t6 ≤ l) : MOwn lo w' v m :=
  ⟨h.1.outside hs.1 hO hd, h.2.1.outside hs.2.1 hO hd, h.2.2.1.outside hs.2.2.1 hO hd, h.2.2.2.1.outside hs.2.2.2.1 hO hd, h.2.2.2.2.1.outside hs.2.2.2.2.1 hO hd, h.2.2.2.2.2.outside hs.2.2.2.2.2 hO hd⟩
set_option maxHeartbeats 2000000 in
theorem toMachine_spans {lo : Nat} (v : MV) (m : Pl.Mac) (w : World) (h : MIs lo w v m) (hsz : Pl.mSize m ≤ 1048576) :
    Calls Try.prog 9 #[.agg #[.slice v.code.a v.code.len v.code.cap, .int .i64 m.pc, .slice v.regs.a v.regs.len v.regs.cap, .slice v.data.a v.data.len v.data.cap, .slice v.stk.a v.stk.len v.stk.cap, .slice v.inp.a v.inp.len v.inp.cap, .slice v.out.a v.out.len v.out.cap, .int .i64 m.steps, .int .i64 m.fin, .int .i64 m.val]] w fun e w' => ∃ v' : MV, e = .returned (.agg #[.slice v'.code.a v'.code.len v'.code.cap, .int .i64 m.pc, .slice v'.regs.a v'.regs.len v'.regs.cap, .slice v'.data.a v'.data.len v'.data.cap, .slice v'.stk.a v'.stk.len v'.stk.cap, .slice v'.inp.a v'.inp.len v'.inp.cap, .slice v'.out.a v'.out.len v'.out.cap, .int .i64 m.steps, .int .i64 m.fin, .int .i64 m.val]) ∧ MOwn w.heap.size w' v' m ∧ (∃ t0 t6, MSepAt t0 t6 v' ∧ w.heap.size ≤ t0 ∧ t6 ≤ w'.heap.size) ∧ Below w.heap.size w w' := by
  obtain ⟨⟨ca, cl, cc⟩, ⟨ra, rl, rc⟩, ⟨da, dl, dc⟩, ⟨sa, sl, sc⟩, ⟨ia, il, ic⟩, ⟨oa, ol, oc⟩⟩ := v
  obtain ⟨code, pc, regs, data, stk, inp, out, steps, fin, val⟩ := m
  unfold Pl.mSize at hsz
  obtain ⟨r1, r2, r3, r4, r5, r6⟩ := h
  dsimp only at r1 r2 r3 r4 r5 r6 hsz ⊢
  have hs : cl ≤ 1048576 ∧ rl ≤ 1048576 ∧ dl ≤ 1048576 ∧ sl ≤ 1048576 ∧ il ≤ 1048576 ∧ ol ≤ 1048576 := by
    rw [r1.1, r2.1, r3.1, r4.1, r5.1, r6.1] at hsz
    omega
  clear hsz
  obtain ⟨s1, s2, s3, s4, s5, s6⟩ := hs
  have R1 : Hid _ := r1
  have R2 : Hid _ := r2
  have R3 : Hid _ := r3
  have R4 : Hid _ := r4
  have R5 : Hid _ := r5
  have R6 : Hid _ := r6
  clear r1 r2 r3 r4 r5 r6
  go_enter Try.func9, Try.ntmps9
  go_wp2_with fail
  refine calls_at fun U1 hU1 => ?_
  have z1 : U1.heap.size = w.heap.size + 3 := by rw [hU1]; simp
  have bx1 : U1.heap[w.heap.size]? = some (.cells #[.slice ca cl cc, .int .i64 pc, .slice ra rl rc, .slice da dl dc, .slice sa sl sc, .slice ia il ic, .slice oa ol oc, .int .i64 steps, .int .i64 fin, .int .i64 val] 25) := by
    rw [hU1, Below.heap_alloc _ _ _ (by simp; omega), Below.heap_alloc _ _ _ (by simp)]
    exact heap_alloc_new w _
  have ot1 : U1.heap[w.heap.size + 1 + 1]? = some (.cells #[.slice none 0 0, .int .i64 0, .slice none 0 0, .slice none 0 0, .slice none 0 0, .slice none 0 0, .slice none 0 0, .int .i64 0, .int .i64 0, .int .i64 0] 27) := by
    rw [hU1]
    have := heap_alloc_new ((w.alloc (.cells #[.slice ca cl cc, .int .i64 pc, .slice ra rl rc, .slice da dl dc, .slice sa sl sc, .slice ia il ic, .slice oa ol oc, .int .i64 steps, .int .i64 fin, .int .i64 val] 25)).alloc (.cells #[.slice none 0 0, .int .i64 0, .slice none 0 0, .slice none 0 0, .slice none 0 0, .slice none 0 0, .slice none 0 0, .int .i64 0, .int .i64 0, .int .i64 0] 27)) (.cells #[.slice none 0 0, .int .i64 0, .slice none 0 0, .slice none 0 0, .slice none 0 0, .slice none 0 0, .slice none 0 0, .int .i64 0, .int .i64 0, .int .i64 0] 27)
    simpa using this
  have re1 : U1.heap[w.heap.size + 1]? = some (.cells #[.slice none 0 0, .int .i64 0, .slice none 0 0, .slice none 0 0, .slice none 0 0, .slice none 0 0, .slice none 0 0, .int .i64 0, .int .i64 0, .int .i64 0] 27) := by
    rw [hU1, Below.heap_alloc _ _ _ (by simp)]
    have := heap_alloc_new (w.alloc (.cells #[.slice ca cl cc, .int .i64 pc, .slice ra rl rc, .slice da dl dc, .slice sa sl sc, .slice ia il ic, .slice oa ol oc, .int .i64 steps, .int .i64 fin, .int .i64 val] 25)) (.cells #[.slice none 0 0, .int .i64 0, .slice none 0 0, .slice none 0 0, .slice none 0 0, .slice none 0 0, .slice none 0 0, .int .i64 0, .int .i64 0, .int .i64 0] 27)
    simpa using this
  have b1 : Below w.heap.size w U1 := by
    rw [hU1]
    exact (((Below.refl _ _).alloc (Nat.le_refl _) _).alloc (by simp) _).alloc (by simp; omega) _
  have HK1 : Hid (U1.heap.size = w.heap.size + 3 ∧ Below w.heap.size w U1) := ⟨z1, b1⟩
  refine (toIntS_any ca cl cc code U1 (Row.keep R1.out HK1.out.2) s1).mono ?_
  rintro e u1 ⟨rfl, o1, d1⟩
  have zz1 : w.heap.size + 1 + 1 < U1.heap.size := by have := HK1.out.1; omega
  have p1 : u1.heap[w.heap.size]? = some (.cells #[.slice ca cl cc, .int .i64 pc, .slice ra rl rc, .slice da dl dc, .slice sa sl sc, .slice ia il ic, .slice oa ol oc, .int .i64 steps, .int .i64 fin, .int .i64 val] 25) := by rw [d1.block _ (by omega)]; exact bx1
  have q1 : u1.heap[w.heap.size + 1 + 1]? = some (.cells #[.slice none 0 0, .int .i64 0, .slice none 0 0, .slice none 0 0, .slice none 0 0, .slice none 0 0, .slice none 0 0, .int .i64 0, .int .i64 0, .int .i64 0] 27) := by rw [d1.block _ (by omega)]; exact ot1
  have X1 : Hid (u1.heap[w.heap.size + 1]? = some (.cells #[.slice none 0 0, .int .i64 0, .slice none 0 0, .slice none 0 0, .slice none 0 0, .slice none 0 0, .slice none 0 0, .int .i64 0, .int .i64 0, .int .i64 0] 27)) := by
    show u1.heap[w.heap.size + 1]? = _
    rw [d1.block _ (by omega)]; exact re1
  have P1 : Hid _ := p1
  have Q1 : Hid _ := q1
  have kb : ∀ j, u1.cell? ⟨w.heap.size, j, none⟩ = (#[.slice ca cl cc, .int .i64 pc, .slice ra rl rc, .slice da dl dc, .slice sa sl sc, .slice ia il ic, .slice oa ol oc, .int .i64 steps, .int .i64 fin, .int .i64 val] : Array Value)[j]? := fun j => cell_of_row u1 w.heap.size j _ 25 (0, 0) p1
  have ko : ∀ j, u1.cell? ⟨w.heap.size + 1 + 1, j, none⟩ = (#[.slice none 0 0, .int .i64 0, .slice none 0 0, .slice none 0 0, .slice none 0 0, .slice none 0 0, .slice none 0 0, .int .i64 0, .int .i64 0, .int .i64 0] : Array Value)[j]? := fun j => cell_of_row u1 (w.heap.size + 1 + 1) j _ 27 (0, 0) q1
  have kf : ∀ j, u1.frozen? ⟨w.heap.size + 1 + 1, j, none⟩ = false := fun j => frozen_of_row u1 (w.heap.size + 1 + 1) j _ 27 q1
  have O1 : Hid (Own .i64 3 U1.heap.size u1 (some ⟨U1.heap.size, 0, none⟩) cl cl code) := o1
  have D1 : Hid (Below U1.heap.size U1 u1) := d1
  have B1 : Hid (Below w.heap.size w u1) := HK1.out.2.trans (d1.mono (by have := zz1; omega))
  have S1 : Hid (U1.heap.size ≤ u1.heap.size) := d1.size
  clear z1 b1 o1 d1 bx1 ot1 re1 hU1 p1 q1
  go_wp2_with fail
  clear kb ko kf

  refine calls_at fun U2 hU2 => ?_
  have bx2 : U2.heap[w.heap.size]? = some (.cells #[.slice ca cl cc, .int .i64 pc, .slice ra rl rc, .slice da dl dc, .slice sa sl sc, .slice ia il ic, .slice oa ol oc, .int .i64 steps, .int .i64 fin, .int .i64 val] 25) := by
    rw [hU2]
    repeat (first | exact P1.out | rw [heap_setCell_other _ _ _ _ (show w.heap.size ≠ w.heap.size + 1 + 1 by omega)])
  have ot2 : U2.heap[w.heap.size + 1 + 1]? = some (.cells #[.slice (some ⟨U1.heap.size, 0, none⟩) cl cl, .int .i64 pc, .slice none 0 0, .slice none 0 0, .slice none 0 0, .slice none 0 0, .slice none 0 0, .int .i64 0, .int .i64 0, .int .i64 0] 27) := by
    rw [hU2]
    exact row_put (row_put Q1.out 0 (.slice (some ⟨U1.heap.size, 0, none⟩) cl cl) rfl) 1 (.int .i64 pc) rfl
  have re2 : U2.heap[w.heap.size + 1]? = some (.cells #[.slice none 0 0, .int .i64 0, .slice none 0 0, .slice none 0 0, .slice none 0 0, .slice none 0 0, .slice none 0 0, .int .i64 0, .int .i64 0, .int .i64 0] 27) := by
    rw [hU2]
    repeat (first | exact X1.out | rw [heap_setCell_other _ _ _ _ (show w.heap.size + 1 ≠ w.heap.size + 1 + 1 by omega)])
  have HK2 : Hid (U2.heap.size = u1.heap.size ∧ Below w.heap.size w U2) := by
    rw [hU2]
    refine ⟨by simp, ?_⟩
    repeat (first | exact B1.out | refine Below.setCell ?_ (show w.heap.size ≤ w.heap.size + 1 + 1 by omega) _)
  have A1 : Hid (Above (w.heap.size + 1 + 1 + 1) u1 U2) := by
    rw [hU2]
    repeat (first | exact Above.refl _ _ | refine Above.setCell ?_ (show w.heap.size + 1 + 1 < w.heap.size + 1 + 1 + 1 by omega) _)
  refine (toIntS_any ra rl rc regs U2 (Row.keep R2.out HK2.out.2) s2).mono ?_
  rintro e u2 ⟨rfl, o2, d2⟩
  have zz2 : w.heap.size + 1 + 1 < U2.heap.size := by have := HK2.out.1; have := zz1; have := S1.out; omega
  have p2 : u2.heap[w.heap.size]? = some (.cells #[.slice ca cl cc, .int .i64 pc, .slice ra rl rc, .slice da dl dc, .slice sa sl sc, .slice ia il ic, .slice oa ol oc, .int .i64 steps, .int .i64 fin, .int .i64 val] 25) := by rw [d2.block _ (by omega)]; exact bx2
  have q2 : u2.heap[w.heap.size + 1 + 1]? = some (.cells #[.slice (some ⟨U1.heap.size, 0, none⟩) cl cl, .int .i64 pc, .slice none 0 0, .slice none 0 0, .slice none 0 0, .slice none 0 0, .slice none 0 0, .int .i64 0, .int .i64 0, .int .i64 0] 27) := by rw [d2.block _ (by omega)]; exact ot2
  have X2 : Hid (u2.heap[w.heap.size + 1]? = some (.cells #[.slice none 0 0, .int .i64 0, .slice none 0 0, .slice none 0 0, .slice none 0 0, .slice none 0 0, .slice none 0 0, .int .i64 0, .int .i64 0, .int .i64 0] 27)) := by
    show u2.heap[w.heap.size + 1]? = _
    rw [d2.block _ (by omega)]; exact re2
  have P2 : Hid _ := p2
  have Q2 : Hid _ := q2
  have kb : ∀ j, u2.cell? ⟨w.heap.size, j, none⟩ = (#[.slice ca cl cc, .int .i64 pc, .slice ra rl rc, .slice da dl dc, .slice sa sl sc, .slice ia il ic, .slice oa ol oc, .int .i64 steps, .int .i64 fin, .int .i64 val] : Array Value)[j]? := fun j => cell_of_row u2 w.heap.size j _ 25 (0, 0) p2
  have ko : ∀ j, u2.cell? ⟨w.heap.size + 1 + 1, j, none⟩ = (#[.slice (some ⟨U1.heap.size, 0, none⟩) cl cl, .int .i64 pc, .slice none 0 0, .slice none 0 0, .slice none 0 0, .slice none 0 0, .slice none 0 0, .int .i64 0, .int .i64 0, .int .i64 0] : Array Value)[j]? := fun j => cell_of_row u2 (w.heap.size + 1 + 1) j _ 27 (0, 0) q2
  have kf : ∀ j, u2.frozen? ⟨w.heap.size + 1 + 1, j, none⟩ = false := fun j => frozen_of_row u2 (w.heap.size + 1 + 1) j _ 27 q2
  have O2 : Hid (Own .i64 3 U2.heap.size u2 (some ⟨U2.heap.size, 0, none⟩) rl rl regs) := o2
  have D2 : Hid (Below U2.heap.size U2 u2) := d2
  have B2 : Hid (Below w.heap.size w u2) := HK2.out.2.trans (d2.mono (by have := zz2; omega))
  have S2 : Hid (U2.heap.size ≤ u2.heap.size) := d2.size
  clear o2 d2 bx2 ot2 re2 hU2 p2 q2
  go_wp2_with fail
  clear kb ko kf

  refine calls_at fun U3 hU3 => ?_
  have bx3 : U3.heap[w.heap.size]? = some (.cells #[.slice ca cl cc, .int .i64 pc, .slice ra rl rc, .slice da dl dc, .slice sa sl sc, .slice ia il ic, .slice oa ol oc, .int .i64 steps, .int .i64 fin, .int .i64 val] 25) := by
    rw [hU3]
    repeat (first | exact P2.out | rw [heap_setCell_other _ _ _ _ (show w.heap.size ≠ w.heap.size + 1 + 1 by omega)])
  have ot3 : U3.heap[w.heap.size + 1 + 1]? = some (.cells #[.slice (some ⟨U1.heap.size, 0, none⟩) cl cl, .int .i64 pc, .slice (some ⟨U2.heap.size, 0, none⟩) rl rl, .slice none 0 0, .slice none 0 0, .slice none 0 0, .slice none 0 0, .int .i64 0, .int .i64 0, .int .i64 0] 27) := by
    rw [hU3]
    exact row_put Q2.out 2 (.slice (some ⟨U2.heap.size, 0, none⟩) rl rl) rfl
  have re3 : U3.heap[w.heap.size + 1]? = some (.cells #[.slice none 0 0, .int .i64 0, .slice none 0 0, .slice none 0 0, .slice none 0 0, .slice none 0 0, .slice none 0 0, .int .i64 0, .int .i64 0, .int .i64 0] 27) := by
    rw [hU3]
    repeat (first | exact X2.out | rw [heap_setCell_other _ _ _ _ (show w.heap.size + 1 ≠ w.heap.size + 1 + 1 by omega)])
  have HK3 : Hid (U3.heap.size = u2.heap.size ∧ Below w.heap.size w U3) := by
    rw [hU3]
    refine ⟨by simp, ?_⟩
    repeat (first | exact B2.out | refine Below.setCell ?_ (show w.heap.size ≤ w.heap.size + 1 + 1 by omega) _)
  have A2 : Hid (Above (w.heap.size + 1 + 1 + 1) u2 U3) := by
    rw [hU3]
    repeat (first | exact Above.refl _ _ | refine Above.setCell ?_ (show w.heap.size + 1 + 1 < w.heap.size + 1 + 1 + 1 by omega) _)
  refine (toByteS_any da dl dc data U3 (Row.keep R3.out HK3.out.2) s3).mono ?_
  rintro e u3 ⟨rfl, o3, d3⟩
  have zz3 : w.heap.size + 1 + 1 < U3.heap.size := by have := HK3.out.1; have := zz2; have := S2.out; omega
  have p3 : u3.heap[w.heap.size]? = some (.cells #[.slice ca cl cc, .int .i64 pc, .slice ra rl rc, .slice da dl dc, .slice sa sl sc, .slice ia il ic, .slice oa ol oc, .int .i64 steps, .int .i64 fin, .int .i64 val] 25) := by rw [d3.block _ (by omega)]; exact bx3
  have q3 : u3.heap[w.heap.size + 1 + 1]? = some (.cells #[.slice (some ⟨U1.heap.size, 0, none⟩) cl cl, .int .i64 pc, .slice (some ⟨U2.heap.size, 0, none⟩) rl rl, .slice none 0 0, .slice none 0 0, .slice none 0 0, .slice none 0 0, .int .i64 0, .int .i64 0, .int .i64 0] 27) := by rw [d3.block _ (by omega)]; exact ot3
  have X3 : Hid (u3.heap[w.heap.size + 1]? = some (.cells #[.slice none 0 0, .int .i64 0, .slice none 0 0, .slice none 0 0, .slice none 0 0, .slice none 0 0, .slice none 0 0, .int .i64 0, .int .i64 0, .int .i64 0] 27)) := by
    show u3.heap[w.heap.size + 1]? = _
    rw [d3.block _ (by omega)]; exact re3
  have P3 : Hid _ := p3
  have Q3 : Hid _ := q3
  have kb : ∀ j, u3.cell? ⟨w.heap.size, j, none⟩ = (#[.slice ca cl cc, .int .i64 pc, .slice ra rl rc, .slice da dl dc, .slice sa sl sc, .slice ia il ic, .slice oa ol oc, .int .i64 steps, .int .i64 fin, .int .i64 val] : Array Value)[j]? := fun j => cell_of_row u3 w.heap.size j _ 25 (0, 0) p3
  have ko : ∀ j, u3.cell? ⟨w.heap.size + 1 + 1, j, none⟩ = (#[.slice (some ⟨U1.heap.size, 0, none⟩) cl cl, .int .i64 pc, .slice (some ⟨U2.heap.size, 0, none⟩) rl rl, .slice none 0 0, .slice none 0 0, .slice none 0 0, .slice none 0 0, .int .i64 0, .int .i64 0, .int .i64 0] : Array Value)[j]? := fun j => cell_of_row u3 (w.heap.size + 1 + 1) j _ 27 (0, 0) q3
  have kf : ∀ j, u3.frozen? ⟨w.heap.size + 1 + 1, j, none⟩ = false := fun j => frozen_of_row u3 (w.heap.size + 1 + 1) j _ 27 q3
  have O3 : Hid (Own .u8 5 U3.heap.size u3 (some ⟨U3.heap.size, 0, none⟩) dl dl data) := o3
  have D3 : Hid (Below U3.heap.size U3 u3) := d3
  have B3 : Hid (Below w.heap.size w u3) := HK3.out.2.trans (d3.mono (by have := zz3; omega))
  have S3 : Hid (U3.heap.size ≤ u3.heap.size) := d3.size
  clear o3 d3 bx3 ot3 re3 hU3 p3 q3
  go_wp2_with fail
  clear kb ko kf

  refine calls_at fun U4 hU4 => ?_
  have bx4 : U4.heap[w.heap.size]? = some (.cells #[.slice ca cl cc, .int .i64 pc, .slice ra rl rc, .slice da dl dc, .slice sa sl sc, .slice ia il ic, .slice oa ol oc, .int .i64 steps, .int .i64 fin, .int .i64 val] 25) := by
    rw [hU4]
    repeat (first | exact P3.out | rw [heap_setCell_other _ _ _ _ (show w.heap.size ≠ w.heap.size + 1 + 1 by omega)])
  have ot4 : U4.heap[w.heap.size + 1 + 1]? = some (.cells #[.slice (some ⟨U1.heap.size, 0, none⟩) cl cl, .int .i64 pc, .slice (some ⟨U2.heap.size, 0, none⟩) rl rl, .slice (some ⟨U3.heap.size, 0, none⟩) dl dl, .slice none 0 0, .slice none 0 0, .slice none 0 0, .int .i64 0, .int .i64 0, .int .i64 0] 27) := by
    rw [hU4]
    exact row_put Q3.out 3 (.slice (some ⟨U3.heap.size, 0, none⟩) dl dl) rfl
  have re4 : U4.heap[w.heap.size + 1]? = some (.cells #[.slice none 0 0, .int .i64 0, .slice none 0 0, .slice none 0 0, .slice none 0 0, .slice none 0 0, .slice none 0 0, .int .i64 0, .int .i64 0, .int .i64 0] 27) := by
    rw [hU4]
    repeat (first | exact X3.out | rw [heap_setCell_other _ _ _ _ (show w.heap.size + 1 ≠ w.heap.size + 1 + 1 by omega)])
  have HK4 : Hid (U4.heap.size = u3.heap.size ∧ Below w.heap.size w U4) := by
    rw [hU4]
    refine ⟨by simp, ?_⟩
    repeat (first | exact B3.out | refine Below.setCell ?_ (show w.heap.size ≤ w.heap.size + 1 + 1 by omega) _)
  have A3 : Hid (Above (w.heap.size + 1 + 1 + 1) u3 U4) := by
    rw [hU4]
    repeat (first | exact Above.refl _ _ | refine Above.setCell ?_ (show w.heap.size + 1 + 1 < w.heap.size + 1 + 1 + 1 by omega) _)
  refine (toByteS_any sa sl sc stk U4 (Row.keep R4.out HK4.out.2) s4).mono ?_
  rintro e u4 ⟨rfl, o4, d4⟩
  have zz4 : w.heap.size + 1 + 1 < U4.heap.size := by have := HK4.out.1; have := zz3; have := S3.out; omega
  have p4 : u4.heap[w.heap.size]? = some (.cells #[.slice ca cl cc, .int .i64 pc, .slice ra rl rc, .slice da dl dc, .slice sa sl sc, .slice ia il ic, .slice oa ol oc, .int .i64 steps, .int .i64 fin, .int .i64 val] 25) := by rw [d4.block _ (by omega)]; exact bx4
  have q4 : u4.heap[w.heap.size + 1 + 1]? = some (.cells #[.slice (some ⟨U1.heap.size, 0, none⟩) cl cl, .int .i64 pc, .slice (some ⟨U2.heap.size, 0, none⟩) rl rl, .slice (some ⟨U3.heap.size, 0, none⟩) dl dl, .slice none 0 0, .slice none 0 0, .slice none 0 0, .int .i64 0, .int .i64 0, .int .i64 0] 27) := by rw [d4.block _ (by omega)]; exact ot4
  have X4 : Hid (u4.heap[w.heap.size + 1]? = some (.cells #[.slice none 0 0, .int .i64 0, .slice none 0 0, .slice none 0 0, .slice none 0 0, .slice none 0 0, .slice none 0 0, .int .i64 0, .int .i64 0, .int .i64 0] 27)) := by
    show u4.heap[w.heap.size + 1]? = _
    rw [d4.block _ (by omega)]; exact re4
  have P4 : Hid _ := p4
  have Q4 : Hid _ := q4
  have kb : ∀ j, u4.cell? ⟨w.heap.size, j, none⟩ = (#[.slice ca cl cc, .int .i64 pc, .slice ra rl rc, .slice da dl dc, .slice sa sl sc, .slice ia il ic, .slice oa ol oc, .int .i64 steps, .int .i64 fin, .int .i64 val] : Array Value)[j]? := fun j => cell_of_row u4 w.heap.size j _ 25 (0, 0) p4
  have ko : ∀ j, u4.cell? ⟨w.heap.size + 1 + 1, j, none⟩ = (#[.slice (some ⟨U1.heap.size, 0, none⟩) cl cl, .int .i64 pc, .slice (some ⟨U2.heap.size, 0, none⟩) rl rl, .slice (some ⟨U3.heap.size, 0, none⟩) dl dl, .slice none 0 0, .slice none 0 0, .slice none 0 0, .int .i64 0, .int .i64 0, .int .i64 0] : Array Value)[j]? := fun j => cell_of_row u4 (w.heap.size + 1 + 1) j _ 27 (0, 0) q4
  have kf : ∀ j, u4.frozen? ⟨w.heap.size + 1 + 1, j, none⟩ = false := fun j => frozen_of_row u4 (w.heap.size + 1 + 1) j _ 27 q4
  have O4 : Hid (Own .u8 5 U4.heap.size u4 (some ⟨U4.heap.size, 0, none⟩) sl sl stk) := o4
  have D4 : Hid (Below U4.heap.size U4 u4) := d4
  have B4 : Hid (Below w.heap.size w u4) := HK4.out.2.trans (d4.mono (by have := zz4; omega))
  have S4 : Hid (U4.heap.size ≤ u4.heap.size) := d4.size
  clear o4 d4 bx4 ot4 re4 hU4 p4 q4
  go_wp2_with fail
  clear kb ko kf

  refine calls_at fun U5 hU5 => ?_
  have bx5 : U5.heap[w.heap.size]? = some (.cells #[.slice ca cl cc, .int .i64 pc, .slice ra rl rc, .slice da dl dc, .slice sa sl sc, .slice ia il ic, .slice oa ol oc, .int .i64 steps, .int .i64 fin, .int .i64 val] 25) := by
    rw [hU5]
    repeat (first | exact P4.out | rw [heap_setCell_other _ _ _ _ (show w.heap.size ≠ w.heap.size + 1 + 1 by omega)])
  have ot5 : U5.heap[w.heap.size + 1 + 1]? = some (.cells #[.slice (some ⟨U1.heap.size, 0, none⟩) cl cl, .int .i64 pc, .slice (some ⟨U2.heap.size, 0, none⟩) rl rl, .slice (some ⟨U3.heap.size, 0, none⟩) dl dl, .slice (some ⟨U4.heap.size, 0, none⟩) sl sl, .slice none 0 0, .slice none 0 0, .int .i64 0, .int .i64 0, .int .i64 0] 27) := by
    rw [hU5]
    exact row_put Q4.out 4 (.slice (some ⟨U4.heap.size, 0, none⟩) sl sl) rfl
  have re5 : U5.heap[w.heap.size + 1]? = some (.cells #[.slice none 0 0, .int .i64 0, .slice none 0 0, .slice none 0 0, .slice none 0 0, .slice none 0 0, .slice none 0 0, .int .i64 0, .int .i64 0, .int .i64 0] 27) := by
    rw [hU5]
    repeat (first | exact X4.out | rw [heap_setCell_other _ _ _ _ (show w.heap.size + 1 ≠ w.heap.size + 1 + 1 by omega)])
  have HK5 : Hid (U5.heap.size = u4.heap.size ∧ Below w.heap.size w U5) := by
    rw [hU5]
    refine ⟨by simp, ?_⟩
    repeat (first | exact B4.out | refine Below.setCell ?_ (show w.heap.size ≤ w.heap.size + 1 + 1 by omega) _)
  have A4 : Hid (Above (w.heap.size + 1 + 1 + 1) u4 U5) := by
    rw [hU5]
    repeat (first | exact Above.refl _ _ | refine Above.setCell ?_ (show w.heap.size + 1 + 1 < w.heap.size + 1 + 1 + 1 by omega) _)
  refine (toByteS_any ia il ic inp U5 (Row.keep R5.out HK5.out.2) s5).mono ?_
  rintro e u5 ⟨rfl, o5, d5⟩
  have zz5 : w.heap.size + 1 + 1 < U5.heap.size := by have := HK5.out.1; have := zz4; have := S4.out; omega
  have p5 : u5.heap[w.heap.size]? = some (.cells #[.slice ca cl cc, .int .i64 pc, .slice ra rl rc, .slice da dl dc, .slice sa sl sc, .slice ia il ic, .slice oa ol oc, .int .i64 steps, .int .i64 fin, .int .i64 val] 25) := by rw [d5.block _ (by omega)]; exact bx5
  have q5 : u5.heap[w.heap.size + 1 + 1]? = some (.cells #[.slice (some ⟨U1.heap.size, 0, none⟩) cl cl, .int .i64 pc, .slice (some ⟨U2.heap.size, 0, none⟩) rl rl, .slice (some ⟨U3.heap.size, 0, none⟩) dl dl, .slice (some ⟨U4.heap.size, 0, none⟩) sl sl, .slice none 0 0, .slice none 0 0, .int .i64 0, .int .i64 0, .int .i64 0] 27) := by rw [d5.block _ (by omega)]; exact ot5
  have X5 : Hid (u5.heap[w.heap.size + 1]? = some (.cells #[.slice none 0 0, .int .i64 0, .slice none 0 0, .slice none 0 0, .slice none 0 0, .slice none 0 0, .slice none 0 0, .int .i64 0, .int .i64 0, .int .i64 0] 27)) := by
    show u5.heap[w.heap.size + 1]? = _
    rw [d5.block _ (by omega)]; exact re5
  have P5 : Hid _ := p5
  have Q5 : Hid _ := q5
  have kb : ∀ j, u5.cell? ⟨w.heap.size, j, none⟩ = (#[.slice ca cl cc, .int .i64 pc, .slice ra rl rc, .slice da dl dc, .slice sa sl sc, .slice ia il ic, .slice oa ol oc, .int .i64 steps, .int .i64 fin, .int .i64 val] : Array Value)[j]? := fun j => cell_of_row u5 w.heap.size j _ 25 (0, 0) p5
  have ko : ∀ j, u5.cell? ⟨w.heap.size + 1 + 1, j, none⟩ = (#[.slice (some ⟨U1.heap.size, 0, none⟩) cl cl, .int .i64 pc, .slice (some ⟨U2.heap.size, 0, none⟩) rl rl, .slice (some ⟨U3.heap.size, 0, none⟩) dl dl, .slice (some ⟨U4.heap.size, 0, none⟩) sl sl, .slice none 0 0, .slice none 0 0, .int .i64 0, .int .i64 0, .int .i64 0] : Array Value)[j]? := fun j => cell_of_row u5 (w.heap.size + 1 + 1) j _ 27 (0, 0) q5
  have kf : ∀ j, u5.frozen? ⟨w.heap.size + 1 + 1, j, none⟩ = false := fun j => frozen_of_row u5 (w.heap.size + 1 + 1) j _ 27 q5
  have O5 : Hid (Own .u8 5 U5.heap.size u5 (some ⟨U5.heap.size, 0, none⟩) il il inp) := o5
  have D5 : Hid (Below U5.heap.size U5 u5) := d5
  have B5 : Hid (Below w.heap.size w u5) := HK5.out.2.trans (d5.mono (by have := zz5; omega))
  have S5 : Hid (U5.heap.size ≤ u5.heap.size) := d5.size
  clear o5 d5 bx5 ot5 re5 hU5 p5 q5
  go_wp2_with fail
  clear kb ko kf

  refine calls_at fun U6 hU6 => ?_
  have bx6 : U6.heap[w.heap.size]? = some (.cells #[.slice ca cl cc, .int .i64 pc, .slice ra rl rc, .slice da dl dc, .slice sa sl sc, .slice ia il ic, .slice oa ol oc, .int .i64 steps, .int .i64 fin, .int .i64 val] 25) := by
    rw [hU6]
    repeat (first | exact P5.out | rw [heap_setCell_other _ _ _ _ (show w.heap.size ≠ w.heap.size + 1 + 1 by omega)])
  have ot6 : U6.heap[w.heap.size + 1 + 1]? = some (.cells #[.slice (some ⟨U1.heap.size, 0, none⟩) cl cl, .int .i64 pc, .slice (some ⟨U2.heap.size, 0, none⟩) rl rl, .slice (some ⟨U3.heap.size, 0, none⟩) dl dl, .slice (some ⟨U4.heap.size, 0, none⟩) sl sl, .slice (some ⟨U5.heap.size, 0, none⟩) il il, .slice none 0 0, .int .i64 0, .int .i64 0, .int .i64 0] 27) := by
    rw [hU6]
    exact row_put Q5.out 5 (.slice (some ⟨U5.heap.size, 0, none⟩) il il) rfl
  have re6 : U6.heap[w.heap.size + 1]? = some (.cells #[.slice none 0 0, .int .i64 0, .slice none 0 0, .slice none 0 0, .slice none 0 0, .slice none 0 0, .slice none 0 0, .int .i64 0, .int .i64 0, .int .i64 0] 27) := by
    rw [hU6]
    repeat (first | exact X5.out | rw [heap_setCell_other _ _ _ _ (show w.heap.size + 1 ≠ w.heap.size + 1 + 1 by omega)])
  have HK6 : Hid (U6.heap.size = u5.heap.size ∧ Below w.heap.size w U6) := by
    rw [hU6]
    refine ⟨by simp, ?_⟩
    repeat (first | exact B5.out | refine Below.setCell ?_ (show w.heap.size ≤ w.heap.size + 1 + 1 by omega) _)
  have A5 : Hid (Above (w.heap.size + 1 + 1 + 1) u5 U6) := by
    rw [hU6]
    repeat (first | exact Above.refl _ _ | refine Above.setCell ?_ (show w.heap.size + 1 + 1 < w.heap.size + 1 + 1 + 1 by omega) _)
  refine (toByteS_any oa ol oc out U6 (Row.keep R6.out HK6.out.2) s6).mono ?_
  rintro e u6 ⟨rfl, o6, d6⟩
  have zz6 : w.heap.size + 1 + 1 < U6.heap.size := by have := HK6.out.1; have := zz5; have := S5.out; omega
  have p6 : u6.heap[w.heap.size]? = some (.cells #[.slice ca cl cc, .int .i64 pc, .slice ra rl rc, .slice da dl dc, .slice sa sl sc, .slice ia il ic, .slice oa ol oc, .int .i64 steps, .int .i64 fin, .int .i64 val] 25) := by rw [d6.block _ (by omega)]; exact bx6
  have q6 : u6.heap[w.heap.size + 1 + 1]? = some (.cells #[.slice (some ⟨U1.heap.size, 0, none⟩) cl cl, .int .i64 pc, .slice (some ⟨U2.heap.size, 0, none⟩) rl rl, .slice (some ⟨U3.heap.size, 0, none⟩) dl dl, .slice (some ⟨U4.heap.size, 0, none⟩) sl sl, .slice (some ⟨U5.heap.size, 0, none⟩) il il, .slice none 0 0, .int .i64 0, .int .i64 0, .int .i64 0] 27) := by rw [d6.block _ (by omega)]; exact ot6
  have X6 : Hid (u6.heap[w.heap.size + 1]? = some (.cells #[.slice none 0 0, .int .i64 0, .slice none 0 0, .slice none 0 0, .slice none 0 0, .slice none 0 0, .slice none 0 0, .int .i64 0, .int .i64 0, .int .i64 0] 27)) := by
    show u6.heap[w.heap.size + 1]? = _
    rw [d6.block _ (by omega)]; exact re6
  have P6 : Hid _ := p6
  have Q6 : Hid _ := q6
  have kb : ∀ j, u6.cell? ⟨w.heap.size, j, none⟩ = (#[.slice ca cl cc, .int .i64 pc, .slice ra rl rc, .slice da dl dc, .slice sa sl sc, .slice ia il ic, .slice oa ol oc, .int .i64 steps, .int .i64 fin, .int .i64 val] : Array Value)[j]? := fun j => cell_of_row u6 w.heap.size j _ 25 (0, 0) p6
  have ko : ∀ j, u6.cell? ⟨w.heap.size + 1 + 1, j, none⟩ = (#[.slice (some ⟨U1.heap.size, 0, none⟩) cl cl, .int .i64 pc, .slice (some ⟨U2.heap.size, 0, none⟩) rl rl, .slice (some ⟨U3.heap.size, 0, none⟩) dl dl, .slice (some ⟨U4.heap.size, 0, none⟩) sl sl, .slice (some ⟨U5.heap.size, 0, none⟩) il il, .slice none 0 0, .int .i64 0, .int .i64 0, .int .i64 0] : Array Value)[j]? := fun j => cell_of_row u6 (w.heap.size + 1 + 1) j _ 27 (0, 0) q6
  have kf : ∀ j, u6.frozen? ⟨w.heap.size + 1 + 1, j, none⟩ = false := fun j => frozen_of_row u6 (w.heap.size + 1 + 1) j _ 27 q6
  have O6 : Hid (Own .u8 5 U6.heap.size u6 (some ⟨U6.heap.size, 0, none⟩) ol ol out) := o6
  have D6 : Hid (Below U6.heap.size U6 u6) := d6
  have B6 : Hid (Below w.heap.size w u6) := HK6.out.2.trans (d6.mono (by have := zz6; omega))
  have S6 : Hid (U6.heap.size ≤ u6.heap.size) := d6.size
  clear o6 d6 bx6 ot6 re6 hU6 p6 q6
  have hrow : ((((u6.setCell ⟨w.heap.size + 1 + 1, 6, none⟩ (.slice (some ⟨U6.heap.size, 0, none⟩) ol ol)).setCell ⟨w.heap.size + 1 + 1, 7, none⟩ (.int .i64 steps)).setCell ⟨w.heap.size + 1 + 1, 8, none⟩ (.int .i64 fin)).setCell ⟨w.heap.size + 1 + 1, 9, none⟩ (.int .i64 val)).heap[w.heap.size + 1 + 1]? = some (.cells #[.slice (some ⟨U1.heap.size, 0, none⟩) cl cl, .int .i64 pc, .slice (some ⟨U2.heap.size, 0, none⟩) rl rl, .slice (some ⟨U3.heap.size, 0, none⟩) dl dl, .slice (some ⟨U4.heap.size, 0, none⟩) sl sl, .slice (some ⟨U5.heap.size, 0, none⟩) il il, .slice (some ⟨U6.heap.size, 0, none⟩) ol ol, .int .i64 steps, .int .i64 fin, .int .i64 val] 27) := row_put (row_put (row_put (row_put (Q6.out) 6 (.slice (some ⟨U6.heap.size, 0, none⟩) ol ol) rfl) 7 (.int .i64 steps) rfl) 8 (.int .i64 fin) rfl) 9 (.int .i64 val) rfl
  have hres : ((((u6.setCell ⟨w.heap.size + 1 + 1, 6, none⟩ (.slice (some ⟨U6.heap.size, 0, none⟩) ol ol)).setCell ⟨w.heap.size + 1 + 1, 7, none⟩ (.int .i64 steps)).setCell ⟨w.heap.size + 1 + 1, 8, none⟩ (.int .i64 fin)).setCell ⟨w.heap.size + 1 + 1, 9, none⟩ (.int .i64 val)).heap[w.heap.size + 1]? = some (.cells #[.slice none 0 0, .int .i64 0, .slice none 0 0, .slice none 0 0, .slice none 0 0, .slice none 0 0, .slice none 0 0, .int .i64 0, .int .i64 0, .int .i64 0] 27) := by
    repeat (first | exact X6.out | rw [heap_setCell_other _ _ _ _ (show w.heap.size + 1 ≠ w.heap.size + 1 + 1 by omega)])
  have HRES : Hid _ := hres
  have HROW : Hid _ := hrow
  clear hrow hres
  have HAB : Hid (Above (w.heap.size + 1 + 1 + 1) u6 ((((u6.setCell ⟨w.heap.size + 1 + 1, 6, none⟩ (.slice (some ⟨U6.heap.size, 0, none⟩) ol ol)).setCell ⟨w.heap.size + 1 + 1, 7, none⟩ (.int .i64 steps)).setCell ⟨w.heap.size + 1 + 1, 8, none⟩ (.int .i64 fin)).setCell ⟨w.heap.size + 1 + 1, 9, none⟩ (.int .i64 val)) ∧ Below w.heap.size w ((((u6.setCell ⟨w.heap.size + 1 + 1, 6, none⟩ (.slice (some ⟨U6.heap.size, 0, none⟩) ol ol)).setCell ⟨w.heap.size + 1 + 1, 7, none⟩ (.int .i64 steps)).setCell ⟨w.heap.size + 1 + 1, 8, none⟩ (.int .i64 fin)).setCell ⟨w.heap.size + 1 + 1, 9, none⟩ (.int .i64 val))) := by
    refine ⟨?_, ?_⟩
    · repeat (first | exact Above.refl _ _ | refine Above.setCell ?_ (show w.heap.size + 1 + 1 < w.heap.size + 1 + 1 + 1 by omega) _)
    · repeat (first | exact B6.out | refine Below.setCell ?_ (show w.heap.size ≤ w.heap.size + 1 + 1 by omega) _)
  go_wp2_with (refine wpList_load_row rfl 27 _ rfl (w.heap.size + 1 + 1) ?hx 27 #[.slice (some ⟨U1.heap.size, 0, none⟩) cl cl, .int .i64 pc, .slice (some ⟨U2.heap.size, 0, none⟩) rl rl, .slice (some ⟨U3.heap.size, 0, none⟩) dl dl, .slice (some ⟨U4.heap.size, 0, none⟩) sl sl, .slice (some ⟨U5.heap.size, 0, none⟩) il il, .slice (some ⟨U6.heap.size, 0, none⟩) ol ol, .int .i64 steps, .int .i64 fin, .int .i64 val] (0, 0) _ ?hg Try.underlying27 ?hd ?hi ?_; (case hx => rfl); (case hg => exact HROW.out); (case hd => rfl); (case hi => kernel_rfl); refine Hid.out ?_)
  unfold Hid
  clear kb ko kf
  refine wpList_store_row rfl 27 _ _ rfl (w.heap.size + 1) #[.slice (some ⟨U1.heap.size, 0, none⟩) cl cl, .int .i64 pc, .slice (some ⟨U2.heap.size, 0, none⟩) rl rl, .slice (some ⟨U3.heap.size, 0, none⟩) dl dl, .slice (some ⟨U4.heap.size, 0, none⟩) sl sl, .slice (some ⟨U5.heap.size, 0, none⟩) il il, .slice (some ⟨U6.heap.size, 0, none⟩) ol ol, .int .i64 steps, .int .i64 fin, .int .i64 val] ?hx ?hy 27 #[.slice none 0 0, .int .i64 0, .slice none 0 0, .slice none 0 0, .slice none 0 0, .slice none 0 0, .slice none 0 0, .int .i64 0, .int .i64 0, .int .i64 0] ?hg ?hi ?ho ?h1 ?_
  case hx => rfl
  case hy => rfl
  case hg => exact HRES.out
  case hi => kernel_rfl
  case ho => kernel_rfl
  case h1 => kernel_rfl
  go_wp2_with fail
  refine bodyPost_ret (v := .agg #[.slice (some ⟨U1.heap.size, 0, none⟩) cl cl, .int .i64 pc, .slice (some ⟨U2.heap.size, 0, none⟩) rl rl, .slice (some ⟨U3.heap.size, 0, none⟩) dl dl, .slice (some ⟨U4.heap.size, 0, none⟩) sl sl, .slice (some ⟨U5.heap.size, 0, none⟩) il il, .slice (some ⟨U6.heap.size, 0, none⟩) ol ol, .int .i64 steps, .int .i64 fin, .int .i64 val]) ?hres rfl ⟨⟨⟨some ⟨U1.heap.size, 0, none⟩, cl, cl⟩, ⟨some ⟨U2.heap.size, 0, none⟩, rl, rl⟩, ⟨some ⟨U3.heap.size, 0, none⟩, dl, dl⟩, ⟨some ⟨U4.heap.size, 0, none⟩, sl, sl⟩, ⟨some ⟨U5.heap.size, 0, none⟩, il, il⟩, ⟨some ⟨U6.heap.size, 0, none⟩, ol, ol⟩⟩, rfl, ⟨((O1.out.same ((A1.out.trans (Above.of_below D2.out)).trans ((A2.out.trans (Above.of_below D3.out)).trans ((A3.out.trans (Above.of_below D4.out)).trans ((A4.out.trans (Above.of_below D5.out)).trans ((A5.out.trans (Above.of_below D6.out)).trans (HAB.out.1.setRow (show w.heap.size + 1 < w.heap.size + 1 + 1 + 1 from by omega) _)))))) (by have := zz1; omega)).lower (by have := zz1; omega)), ((O2.out.same ((A2.out.trans (Above.of_below D3.out)).trans ((A3.out.trans (Above.of_below D4.out)).trans ((A4.out.trans (Above.of_below D5.out)).trans ((A5.out.trans (Above.of_below D6.out)).trans (HAB.out.1.setRow (show w.heap.size + 1 < w.heap.size + 1 + 1 + 1 from by omega) _))))) (by have := zz2; omega)).lower (by have := zz2; omega)), ((O3.out.same ((A3.out.trans (Above.of_below D4.out)).trans ((A4.out.trans (Above.of_below D5.out)).trans ((A5.out.trans (Above.of_below D6.out)).trans (HAB.out.1.setRow (show w.heap.size + 1 < w.heap.size + 1 + 1 + 1 from by omega) _)))) (by have := zz3; omega)).lower (by have := zz3; omega)), ((O4.out.same ((A4.out.trans (Above.of_below D5.out)).trans ((A5.out.trans (Above.of_below D6.out)).trans (HAB.out.1.setRow (show w.heap.size + 1 < w.heap.size + 1 + 1 + 1 from by omega) _))) (by have := zz4; omega)).lower (by have := zz4; omega)), ((O5.out.same ((A5.out.trans (Above.of_below D6.out)).trans (HAB.out.1.setRow (show w.heap.size + 1 < w.heap.size + 1 + 1 + 1 from by omega) _)) (by have := zz5; omega)).lower (by have := zz5; omega)), ((O6.out.same (HAB.out.1.setRow (show w.heap.size + 1 < w.heap.size + 1 + 1 + 1 from by omega) _) (by have := zz6; omega)).lower (by have := zz6; omega))⟩, ⟨U1.heap.size, u6.heap.size, ⟨U2.heap.size, U3.heap.size, U4.heap.size, U5.heap.size, U6.heap.size, O1.out.span (by have := HK2.out.1; omega), O2.out.span (by have := HK3.out.1; omega), O3.out.span (by have := HK4.out.1; omega), O4.out.span (by have := HK5.out.1; omega), O5.out.span (by have := HK6.out.1; omega), O6.out.span (by omega), (by have := S1.out; have := HK2.out.1; omega), (by have := S2.out; have := HK3.out.1; omega), (by have := S3.out; have := HK4.out.1; omega), (by have := S4.out; have := HK5.out.1; omega), (by have := S5.out; have := HK6.out.1; omega), (by have := S6.out; omega)⟩, by have := zz1; omega, by simp⟩, (below_setRow HAB.out.2 (show w.heap.size ≤ w.heap.size + 1 from by omega) _)⟩
  case hres =>
    refine results_cell_row Try.results9 _ _ (w.heap.size + 1) 27 #[.slice (some ⟨U1.heap.size, 0, none⟩) cl cl, .int .i64 pc, .slice (some ⟨U2.heap.size, 0, none⟩) rl rl, .slice (some ⟨U3.heap.size, 0, none⟩) dl dl, .slice (some ⟨U4.heap.size, 0, none⟩) sl sl, .slice (some ⟨U5.heap.size, 0, none⟩) il il, .slice (some ⟨U6.heap.size, 0, none⟩) ol ol, .int .i64 steps, .int .i64 fin, .int .i64 val] (0, 0) _ ?hp ?hg Try.underlying27 ?hd ?hi
    case hp => rfl
    case hg => exact setRow_heap _ _ _ _ _ _ HRES.out
    case hd => rfl
    case hi => kernel_rfl
/-- what a StoreWord answers for every owned machine (as Stores) -/
def StoresW (f : Nat) (m : Pl.Mac) (kind at_ x : Int) (m' : Pl.Mac) (c : Int) : Prop :=
  ∀ (lo : Nat) (v : MV) (w : World), MOwn lo w v m → Calls Try.prog f #[.agg #[.slice v.code.a v.code.len v.code.cap, .int .i64 m.pc, .slice v.regs.a v.regs.len v.regs.cap, .slice v.data.a v.data.len v.data.cap, .slice v.stk.a v.stk.len v.stk.cap, .slice v.inp.a v.inp.len v.inp.cap, .slice v.out.a v.out.len v.out.cap, .int .i64 m.steps, .int .i64 m.fin, .int .i64 m.val], .int .i64 kind, .int .i64 at_, .int .i64 x] w fun e w' =>
    ∃ v1 : MV, e = .returned (.tuple #[.agg #[.slice v1.code.a v1.code.len v1.code.cap, .int .i64 m.pc, .slice v1.regs.a v1.regs.len v1.regs.cap, .slice v1.data.a v1.data.len v1.data.cap, .slice v1.stk.a v1.stk.len v1.stk.cap, .slice v1.inp.a v1.inp.len v1.inp.cap, .slice v1.out.a v1.out.len v1.out.cap, .int .i64 m.steps, .int .i64 m.fin, .int .i64 m.val], .int .i64 c]) ∧ MOwn w.heap.size w' v1 m' ∧ (∃ t0 t6, MSepAt t0 t6 v1 ∧ w.heap.size ≤ t0 ∧ t6 ≤ w'.heap.size) ∧ Below w.heap.size w w'
set_option maxHeartbeats 16000000 in
theorem fnExactStoreWord_walk0 {lo : Nat} (v : MV) (m : Pl.Mac) (kind at_ x : Int) (w : World) (h : MIs lo w v m)
    (ha : Pl.mSize m ≤ 1048576 → ∃ (m' : Pl.Mac) (c : Int), m'.pc = m.pc ∧ m'.steps = m.steps ∧ m'.fin = m.fin ∧ m'.val = m.val ∧ Pl.mSize m' = Pl.mSize m ∧ StoresW 8 m kind at_ x m' c ∧ StoresW 10 m kind at_ x m' c) :
    Calls Try.prog 3 #[.agg #[.slice v.code.a v.code.len v.code.cap, .int .i64 m.pc, .slice v.regs.a v.regs.len v.regs.cap, .slice v.data.a v.data.len v.data.cap, .slice v.stk.a v.stk.len v.stk.cap, .slice v.inp.a v.inp.len v.inp.cap, .slice v.out.a v.out.len v.out.cap, .int .i64 m.steps, .int .i64 m.fin, .int .i64 m.val], .int .i64 kind, .int .i64 at_, .int .i64 x] w fun e w' => e = .returned (.bool true) ∧ Below w.heap.size w w' := by
  have H : Hid (MIs lo w v m) := h
  have HA : Hid (Pl.mSize m ≤ 1048576 → ∃ (m' : Pl.Mac) (c : Int), m'.pc = m.pc ∧ m'.steps = m.steps ∧ m'.fin = m.fin ∧ m'.val = m.val ∧ Pl.mSize m' = Pl.mSize m ∧ StoresW 8 m kind at_ x m' c ∧ StoresW 10 m kind at_ x m' c) := ha
  clear h ha
  have P0 : Hid ((w.alloc (.cells #[.slice v.code.a v.code.len v.code.cap, .int .i64 m.pc, .slice v.regs.a v.regs.len v.regs.cap, .slice v.data.a v.data.len v.data.cap, .slice v.stk.a v.stk.len v.stk.cap, .slice v.inp.a v.inp.len v.inp.cap, .slice v.out.a v.out.len v.out.cap, .int .i64 m.steps, .int .i64 m.fin, .int .i64 m.val] 25)).heap[w.heap.size]? = some (.cells #[.slice v.code.a v.code.len v.code.cap, .int .i64 m.pc, .slice v.regs.a v.regs.len v.regs.cap, .slice v.data.a v.data.len v.data.cap, .slice v.stk.a v.stk.len v.stk.cap, .slice v.inp.a v.inp.len v.inp.cap, .slice v.out.a v.out.len v.out.cap, .int .i64 m.steps, .int .i64 m.fin, .int .i64 m.val] 25)) := heap_alloc_new w _
  go_enter Try.func3, Try.ntmps3
  go_wp2_with (refine wpList_load_row rfl 25 _ rfl (w.heap.size) ?hx 25 #[.slice v.code.a v.code.len v.code.cap, .int .i64 m.pc, .slice v.regs.a v.regs.len v.regs.cap, .slice v.data.a v.data.len v.data.cap, .slice v.stk.a v.stk.len v.stk.cap, .slice v.inp.a v.inp.len v.inp.cap, .slice v.out.a v.out.len v.out.cap, .int .i64 m.steps, .int .i64 m.fin, .int .i64 m.val] (0, 0) _ ?hg Try.underlying25 ?hd ?hi ?_; (case hx => rfl); (case hg => exact P0.out); (case hd => rfl); (case hi => kernel_rfl))
  refine calls_at fun u0 hu0 => ?_
  have RA0 : Hid (u0.heap[w.heap.size]? = some (.cells #[.slice v.code.a v.code.len v.code.cap, .int .i64 m.pc, .slice v.regs.a v.regs.len v.regs.cap, .slice v.data.a v.data.len v.data.cap, .slice v.stk.a v.stk.len v.stk.cap, .slice v.inp.a v.inp.len v.inp.cap, .slice v.out.a v.out.len v.out.cap, .int .i64 m.steps, .int .i64 m.fin, .int .i64 m.val] 25)) := by show u0.heap[w.heap.size]? = _; rw [hu0]; exact heap_alloc_new w _
  have B0 : Hid (Below w.heap.size w u0) := by show Below w.heap.size w u0; rw [hu0]; exact below_alloc w _
  have ZA0 : Hid (w.heap.size < u0.heap.size) := by show w.heap.size < u0.heap.size; rw [hu0]; simp
  clear hu0 P0
  refine (szMachine_any v m 1048576 u0 (H.out.keep B0.out) (by decide)).mono ?_
  rintro e u1 ⟨r, rfl, hr, d1⟩
  have RA1 : Hid (u1.heap[w.heap.size]? = some (.cells #[.slice v.code.a v.code.len v.code.cap, .int .i64 m.pc, .slice v.regs.a v.regs.len v.regs.cap, .slice v.data.a v.data.len v.data.cap, .slice v.stk.a v.stk.len v.stk.cap, .slice v.inp.a v.inp.len v.inp.cap, .slice v.out.a v.out.len v.out.cap, .int .i64 m.steps, .int .i64 m.fin, .int .i64 m.val] 25)) := (d1.block _ ZA0.out).trans RA0.out
  have ZA1 : Hid (w.heap.size < u1.heap.size) := Nat.lt_of_lt_of_le ZA0.out d1.size
  have B1 : Hid (Below w.heap.size w u1) := B0.out.trans (d1.mono (Nat.le_of_lt ZA0.out))
  clear d1 RA0 ZA0 B0
  by_cases hbig : (1048576 : Int) < (Pl.mSize m : Nat)
  · rw [if_pos hbig] at hr
    clear hbig
    go_wp2
    go_ret
    exact ⟨rfl, B1.out⟩
  rw [if_neg hbig] at hr
  have HS : Hid (Pl.mSize m ≤ 1048576) := by show Pl.mSize m ≤ 1048576; omega
  clear hbig
  obtain ⟨m', c, f1, f2, f3, f4, f5, hsp, him⟩ := HA.out HS.out
  have SP : Hid (StoresW 8 m kind at_ x m' c) := hsp
  have IM : Hid (StoresW 10 m kind at_ x m' c) := him
  have HS' : Hid (Pl.mSize m' ≤ 1048576) := by show Pl.mSize m' ≤ 1048576; rw [f5]; exact HS.out
  have EQ : Hid (∀ (l1 l2 : Nat) (v1 v2 : MV) (u : World), MIs l1 u v1 m' → MIs l2 u v2 m' → Calls Try.prog 11 #[.agg #[.slice v1.code.a v1.code.len v1.code.cap, .int .i64 m.pc, .slice v1.regs.a v1.regs.len v1.regs.cap, .slice v1.data.a v1.data.len v1.data.cap, .slice v1.stk.a v1.stk.len v1.stk.cap, .slice v1.inp.a v1.inp.len v1.inp.cap, .slice v1.out.a v1.out.len v1.out.cap, .int .i64 m.steps, .int .i64 m.fin, .int .i64 m.val], .agg #[.slice v2.code.a v2.code.len v2.code.cap, .int .i64 m.pc, .slice v2.regs.a v2.regs.len v2.regs.cap, .slice v2.data.a v2.data.len v2.data.cap, .slice v2.stk.a v2.stk.len v2.stk.cap, .slice v2.inp.a v2.inp.len v2.inp.cap, .slice v2.out.a v2.out.len v2.out.cap, .int .i64 m.steps, .int .i64 m.fin, .int .i64 m.val]] u fun e w' => e = .returned (.bool true) ∧ Below u.heap.size u w') := fun l1 l2 v1 v2 u q1 q2 => by
    have := eqMachine_same v1 v2 m' u q1 q2
    rw [f1, f2, f3, f4] at this
    exact this
  have MK : Hid (∀ (l t0 t6 : Nat) (v1 : MV) (u : World), MOwn l u v1 m' → MSepAt t0 t6 v1 → t6 ≤ u.heap.size → Calls Try.prog 12 #[.agg #[.slice v1.code.a v1.code.len v1.code.cap, .int .i64 m.pc, .slice v1.regs.a v1.regs.len v1.regs.cap, .slice v1.data.a v1.data.len v1.data.cap, .slice v1.stk.a v1.stk.len v1.stk.cap, .slice v1.inp.a v1.inp.len v1.inp.cap, .slice v1.out.a v1.out.len v1.out.cap, .int .i64 m.steps, .int .i64 m.fin, .int .i64 m.val], .int .i64 1] u fun e w' => e = .returned (.int .i64 (1 + (Pl.mSize m : Int))) ∧ MOwn l w' v1 (marked v1 m' 1) ∧ Outside t0 t6 u w') := fun l t0 t6 v1 u q1 q2 q3 => by
    have := markMachine_any v1 m' 1 u q1 q2 q3 (by decide) HS'.out
    rw [f1, f2, f3, f4, f5] at this
    exact this
  have HD : Hid (∀ (l : Nat) (v1 : MV) (u u' : World), MOwn l u v1 m' → MIs l u' v1 (marked v1 m' 1) → Calls Try.prog 13 #[.agg #[.slice v1.code.a v1.code.len v1.code.cap, .int .i64 m.pc, .slice v1.regs.a v1.regs.len v1.regs.cap, .slice v1.data.a v1.data.len v1.data.cap, .slice v1.stk.a v1.stk.len v1.stk.cap, .slice v1.inp.a v1.inp.len v1.inp.cap, .slice v1.out.a v1.out.len v1.out.cap, .int .i64 m.steps, .int .i64 m.fin, .int .i64 m.val], .int .i64 1] u' fun e w' => e = .returned (.int .i64 (1 + (Pl.mSize m : Int))) ∧ Below u'.heap.size u' w') := fun l v1 u u' q1 q2 => by
    have e0 := q1.1.row.1
    have e1 := q1.2.1.row.1
    have e2 := q1.2.2.1.row.1
    have e3 := q1.2.2.2.1.row.1
    have e4 := q1.2.2.2.2.1.row.1
    have e5 := q1.2.2.2.2.2.row.1
    have hs : Pl.mSize m' = v1.code.len + v1.regs.len + v1.data.len + v1.stk.len + v1.inp.len + v1.out.len := by
      unfold Pl.mSize
      rw [e0, e1, e2, e3, e4, e5]
    have hl := HS'.out
    have := heldMachine_any v1 m' 1 u' q2 (by decide) (by rw [← hs]; exact hl)
    rw [f1, f2, f3, f4] at this
    refine this.mono ?_
    rintro e w' ⟨rfl, hd⟩
    refine ⟨ret_int (by rw [← f5]; omega), hd⟩
  clear hsp him f1 f2 f3 f4 f5 HA
  go_wp2_with (refine wpList_load_row rfl 25 _ rfl (w.heap.size) ?hx 25 #[.slice v.code.a v.code.len v.code.cap, .int .i64 m.pc, .slice v.regs.a v.regs.len v.regs.cap, .slice v.data.a v.data.len v.data.cap, .slice v.stk.a v.stk.len v.stk.cap, .slice v.inp.a v.inp.len v.inp.cap, .slice v.out.a v.out.len v.out.cap, .int .i64 m.steps, .int .i64 m.fin, .int .i64 m.val] (0, 0) _ ?hg Try.underlying25 ?hd ?hi ?_; (case hx => rfl); (case hg => exact RA1.out); (case hd => rfl); (case hi => kernel_rfl))
  refine (toMachine_any v m u1 (H.out.keep B1.out) HS.out).mono ?_
  rintro e u2 ⟨v2, rfl, o2, d2⟩
  have OT2 : Hid (MOwn u1.heap.size u2 v2 m) := o2
  clear o2
  have RA2 : Hid (u2.heap[w.heap.size]? = some (.cells #[.slice v.code.a v.code.len v.code.cap, .int .i64 m.pc, .slice v.regs.a v.regs.len v.regs.cap, .slice v.data.a v.data.len v.data.cap, .slice v.stk.a v.stk.len v.stk.cap, .slice v.inp.a v.inp.len v.inp.cap, .slice v.out.a v.out.len v.out.cap, .int .i64 m.steps, .int .i64 m.fin, .int .i64 m.val] 25)) := (d2.block _ ZA1.out).trans RA1.out
  have ZA2 : Hid (w.heap.size < u2.heap.size) := Nat.lt_of_lt_of_le ZA1.out d2.size
  have B2 : Hid (Below w.heap.size w u2) := B1.out.trans (d2.mono (Nat.le_of_lt ZA1.out))
  clear d2 RA1 ZA1 B1
  go_wp2_with fail
  refine (SP.out _ v2 u2 OT2.out).mono ?_
  rintro e u3 ⟨vw, rfl, ow, _, d3⟩
  have OW3 : Hid (MOwn u2.heap.size u3 vw m') := ow
  clear ow OT2 SP
  have RA3 : Hid (u3.heap[w.heap.size]? = some (.cells #[.slice v.code.a v.code.len v.code.cap, .int .i64 m.pc, .slice v.regs.a v.regs.len v.regs.cap, .slice v.data.a v.data.len v.data.cap, .slice v.stk.a v.stk.len v.stk.cap, .slice v.inp.a v.inp.len v.inp.cap, .slice v.out.a v.out.len v.out.cap, .int .i64 m.steps, .int .i64 m.fin, .int .i64 m.val] 25)) := (d3.block _ ZA2.out).trans RA2.out
  have ZA3 : Hid (w.heap.size < u3.heap.size) := Nat.lt_of_lt_of_le ZA2.out d3.size
  have B3 : Hid (Below w.heap.size w u3) := B2.out.trans (d3.mono (Nat.le_of_lt ZA2.out))
  clear d3 RA2 ZA2 B2
  go_wp2_with (refine wpList_store_row rfl 27 _ _ rfl (u3.heap.size) #[.slice vw.code.a vw.code.len vw.code.cap, .int .i64 m.pc, .slice vw.regs.a vw.regs.len vw.regs.cap, .slice vw.data.a vw.data.len vw.data.cap, .slice vw.stk.a vw.stk.len vw.stk.cap, .slice vw.inp.a vw.inp.len vw.inp.cap, .slice vw.out.a vw.out.len vw.out.cap, .int .i64 m.steps, .int .i64 m.fin, .int .i64 m.val] ?hx ?hy 27 #[.slice none 0 0, .int .i64 0, .slice none 0 0, .slice none 0 0, .slice none 0 0, .slice none 0 0, .slice none 0 0, .int .i64 0, .int .i64 0, .int .i64 0] ?hg ?hi ?ho ?h1 ?_; (case hx => rfl); (case hy => rfl); (case hg => exact heap_alloc_new u3 _); (case hi => kernel_rfl); (case ho => kernel_rfl); (case h1 => kernel_rfl); refine Hid.out ?_)
  unfold Hid
  rw [World.setRow_alloc_new]
  refine wpList_at fun u4 hu4 => ?_
  have d4 : Below u3.heap.size u3 u4 := by rw [hu4]; exact below_alloc u3 _
  have RW4 : Hid (u4.heap[u3.heap.size]? = some (.cells #[.slice vw.code.a vw.code.len vw.code.cap, .int .i64 m.pc, .slice vw.regs.a vw.regs.len vw.regs.cap, .slice vw.data.a vw.data.len vw.data.cap, .slice vw.stk.a vw.stk.len vw.stk.cap, .slice vw.inp.a vw.inp.len vw.inp.cap, .slice vw.out.a vw.out.len vw.out.cap, .int .i64 m.steps, .int .i64 m.fin, .int .i64 m.val] 27)) := by show u4.heap[u3.heap.size]? = _; rw [hu4]; exact heap_alloc_new u3 _
  have ZW4 : Hid (u3.heap.size < u4.heap.size) := by show u3.heap.size < u4.heap.size; rw [hu4]; simp
  clear hu4
  have RA4 : Hid (u4.heap[w.heap.size]? = some (.cells #[.slice v.code.a v.code.len v.code.cap, .int .i64 m.pc, .slice v.regs.a v.regs.len v.regs.cap, .slice v.data.a v.data.len v.data.cap, .slice v.stk.a v.stk.len v.stk.cap, .slice v.inp.a v.inp.len v.inp.cap, .slice v.out.a v.out.len v.out.cap, .int .i64 m.steps, .int .i64 m.fin, .int .i64 m.val] 25)) := (d4.block _ ZA3.out).trans RA3.out
  have ZA4 : Hid (w.heap.size < u4.heap.size) := Nat.lt_of_lt_of_le ZA3.out d4.size
  have OW4 : Hid (MOwn u2.heap.size u4 vw m') := OW3.out.keep d4
  have B4 : Hid (Below w.heap.size w u4) := B3.out.trans (d4.mono (Nat.le_of_lt ZA3.out))
  clear d4 RA3 ZA3 OW3 B3
  obtain ⟨gW, hgW⟩ : ∃ g, g = u3.heap.size := ⟨_, rfl⟩
  rw [← hgW] at RW4 ZW4 ⊢
  have HGW : Hid (gW = u3.heap.size) := hgW
  clear hgW
  go_wp2_with (refine wpList_load_row rfl 25 _ rfl (w.heap.size) ?hx 25 #[.slice v.code.a v.code.len v.code.cap, .int .i64 m.pc, .slice v.regs.a v.regs.len v.regs.cap, .slice v.data.a v.data.len v.data.cap, .slice v.stk.a v.stk.len v.stk.cap, .slice v.inp.a v.inp.len v.inp.cap, .slice v.out.a v.out.len v.out.cap, .int .i64 m.steps, .int .i64 m.fin, .int .i64 m.val] (0, 0) _ ?hg Try.underlying25 ?hd ?hi ?_; (case hx => rfl); (case hg => exact RA4.out); (case hd => rfl); (case hi => kernel_rfl))
  refine (toMachine_spans v m u4 (H.out.keep B4.out) HS.out).mono ?_
  rintro e u5 ⟨vx, rfl, ox, spx, d5⟩
  have OX5 : Hid (MOwn u4.heap.size u5 vx m) := ox
  have SPX : Hid (∃ t0 t6, MSepAt t0 t6 vx ∧ u4.heap.size ≤ t0 ∧ t6 ≤ u5.heap.size) := spx
  have INW : Hid (MIn vw u2.heap.size u4.heap.size ∧ gW < u4.heap.size ∧ w.heap.size < u4.heap.size) := ⟨OW4.out.in, ZW4.out, ZA4.out⟩
  have Z45 : Hid (u4.heap.size ≤ u5.heap.size) := d5.size
  clear ox spx
  have RA5 : Hid (u5.heap[w.heap.size]? = some (.cells #[.slice v.code.a v.code.len v.code.cap, .int .i64 m.pc, .slice v.regs.a v.regs.len v.regs.cap, .slice v.data.a v.data.len v.data.cap, .slice v.stk.a v.stk.len v.stk.cap, .slice v.inp.a v.inp.len v.inp.cap, .slice v.out.a v.out.len v.out.cap, .int .i64 m.steps, .int .i64 m.fin, .int .i64 m.val] 25)) := (d5.block _ ZA4.out).trans RA4.out
  have ZA5 : Hid (w.heap.size < u5.heap.size) := Nat.lt_of_lt_of_le ZA4.out d5.size
  have RW5 : Hid (u5.heap[gW]? = some (.cells #[.slice vw.code.a vw.code.len vw.code.cap, .int .i64 m.pc, .slice vw.regs.a vw.regs.len vw.regs.cap, .slice vw.data.a vw.data.len vw.data.cap, .slice vw.stk.a vw.stk.len vw.stk.cap, .slice vw.inp.a vw.inp.len vw.inp.cap, .slice vw.out.a vw.out.len vw.out.cap, .int .i64 m.steps, .int .i64 m.fin, .int .i64 m.val] 27)) := (d5.block _ ZW4.out).trans RW4.out
  have ZW5 : Hid (gW < u5.heap.size) := Nat.lt_of_lt_of_le ZW4.out d5.size
  have OW5 : Hid (MOwn u2.heap.size u5 vw m') := OW4.out.keep d5
  have B5 : Hid (Below w.heap.size w u5) := B4.out.trans (d5.mono (Nat.le_of_lt ZA4.out))
  clear d5 RA4 ZA4 RW4 ZW4 OW4 B4
  go_wp2_with (refine wpList_store_row rfl 27 _ _ rfl (u5.heap.size) #[.slice vx.code.a vx.code.len vx.code.cap, .int .i64 m.pc, .slice vx.regs.a vx.regs.len vx.regs.cap, .slice vx.data.a vx.data.len vx.data.cap, .slice vx.stk.a vx.stk.len vx.stk.cap, .slice vx.inp.a vx.inp.len vx.inp.cap, .slice vx.out.a vx.out.len vx.out.cap, .int .i64 m.steps, .int .i64 m.fin, .int .i64 m.val] ?hx ?hy 27 #[.slice none 0 0, .int .i64 0, .slice none 0 0, .slice none 0 0, .slice none 0 0, .slice none 0 0, .slice none 0 0, .int .i64 0, .int .i64 0, .int .i64 0] ?hg ?hi ?ho ?h1 ?_; (case hx => rfl); (case hy => rfl); (case hg => exact heap_alloc_new u5 _); (case hi => kernel_rfl); (case ho => kernel_rfl); (case h1 => kernel_rfl); refine Hid.out ?_)
  unfold Hid
  rw [World.setRow_alloc_new]
  refine wpList_at fun u6 hu6 => ?_
  have d6 : Below u5.heap.size u5 u6 := by rw [hu6]; exact below_alloc u5 _
  have RX6 : Hid (u6.heap[u5.heap.size]? = some (.cells #[.slice vx.code.a vx.code.len vx.code.cap, .int .i64 m.pc, .slice vx.regs.a vx.regs.len vx.regs.cap, .slice vx.data.a vx.data.len vx.data.cap, .slice vx.stk.a vx.stk.len vx.stk.cap, .slice vx.inp.a vx.inp.len vx.inp.cap, .slice vx.out.a vx.out.len vx.out.cap, .int .i64 m.steps, .int .i64 m.fin, .int .i64 m.val] 27)) := by show u6.heap[u5.heap.size]? = _; rw [hu6]; exact heap_alloc_new u5 _
  have ZX6 : Hid (u5.heap.size < u6.heap.size) := by show u5.heap.size < u6.heap.size; rw [hu6]; simp
  clear hu6
  have RA6 : Hid (u6.heap[w.heap.size]? = some (.cells #[.slice v.code.a v.code.len v.code.cap, .int .i64 m.pc, .slice v.regs.a v.regs.len v.regs.cap, .slice v.data.a v.data.len v.data.cap, .slice v.stk.a v.stk.len v.stk.cap, .slice v.inp.a v.inp.len v.inp.cap, .slice v.out.a v.out.len v.out.cap, .int .i64 m.steps, .int .i64 m.fin, .int .i64 m.val] 25)) := (d6.block _ ZA5.out).trans RA5.out
  have ZA6 : Hid (w.heap.size < u6.heap.size) := Nat.lt_of_lt_of_le ZA5.out d6.size
  have RW6 : Hid (u6.heap[gW]? = some (.cells #[.slice vw.code.a vw.code.len vw.code.cap, .int .i64 m.pc, .slice vw.regs.a vw.regs.len vw.regs.cap, .slice vw.data.a vw.data.len vw.data.cap, .slice vw.stk.a vw.stk.len vw.stk.cap, .slice vw.inp.a vw.inp.len vw.inp.cap, .slice vw.out.a vw.out.len vw.out.cap, .int .i64 m.steps, .int .i64 m.fin, .int .i64 m.val] 27)) := (d6.block _ ZW5.out).trans RW5.out
  have ZW6 : Hid (gW < u6.heap.size) := Nat.lt_of_lt_of_le ZW5.out d6.size
  have OW6 : Hid (MOwn u2.heap.size u6 vw m') := OW5.out.keep d6
  have OX6 : Hid (MOwn u4.heap.size u6 vx m) := OX5.out.keep d6
  have B6 : Hid (Below w.heap.size w u6) := B5.out.trans (d6.mono (Nat.le_of_lt ZA5.out))
  clear d6 RA5 ZA5 RW5 ZW5 OW5 OX5 B5
  obtain ⟨gX, hgX⟩ : ∃ g, g = u5.heap.size := ⟨_, rfl⟩
  rw [← hgX] at RX6 ZX6 ⊢
  have HGX : Hid (gX = u5.heap.size) := hgX
  clear hgX
  go_wp2_with (refine wpList_load_row rfl 27 _ rfl (gX) ?hx 27 #[.slice vx.code.a vx.code.len vx.code.cap, .int .i64 m.pc, .slice vx.regs.a vx.regs.len vx.regs.cap, .slice vx.data.a vx.data.len vx.data.cap, .slice vx.stk.a vx.stk.len vx.stk.cap, .slice vx.inp.a vx.inp.len vx.inp.cap, .slice vx.out.a vx.out.len vx.out.cap, .int .i64 m.steps, .int .i64 m.fin, .int .i64 m.val] (0, 0) _ ?hg Try.underlying27 ?hd ?hi ?_; (case hx => rfl); (case hg => exact RX6.out); (case hd => rfl); (case hi => kernel_rfl))
  refine (IM.out _ vx u6 OX6.out).mono ?_
  rintro e u7 ⟨vg, rfl, og, spg, d7⟩
  have OG7 : Hid (MOwn u6.heap.size u7 vg m') := og
  have SPG : Hid (∃ t0 t6, MSepAt t0 t6 vg ∧ u6.heap.size ≤ t0 ∧ t6 ≤ u7.heap.size) := spg
  have Z56 : Hid (u4.heap.size ≤ u5.heap.size ∧ u5.heap.size < u6.heap.size) := ⟨Z45.out, by have a := HGX.out; have b := ZX6.out; rw [a] at b; exact b⟩
  clear Z45
  have Z67a : Hid (u6.heap.size ≤ u7.heap.size) := d7.size
  clear og spg
  have RA7 : Hid (u7.heap[w.heap.size]? = some (.cells #[.slice v.code.a v.code.len v.code.cap, .int .i64 m.pc, .slice v.regs.a v.regs.len v.regs.cap, .slice v.data.a v.data.len v.data.cap, .slice v.stk.a v.stk.len v.stk.cap, .slice v.inp.a v.inp.len v.inp.cap, .slice v.out.a v.out.len v.out.cap, .int .i64 m.steps, .int .i64 m.fin, .int .i64 m.val] 25)) := (d7.block _ ZA6.out).trans RA6.out
  have ZA7 : Hid (w.heap.size < u7.heap.size) := Nat.lt_of_lt_of_le ZA6.out d7.size
  have RW7 : Hid (u7.heap[gW]? = some (.cells #[.slice vw.code.a vw.code.len vw.code.cap, .int .i64 m.pc, .slice vw.regs.a vw.regs.len vw.regs.cap, .slice vw.data.a vw.data.len vw.data.cap, .slice vw.stk.a vw.stk.len vw.stk.cap, .slice vw.inp.a vw.inp.len vw.inp.cap, .slice vw.out.a vw.out.len vw.out.cap, .int .i64 m.steps, .int .i64 m.fin, .int .i64 m.val] 27)) := (d7.block _ ZW6.out).trans RW6.out
  have ZW7 : Hid (gW < u7.heap.size) := Nat.lt_of_lt_of_le ZW6.out d7.size
  have RX7 : Hid (u7.heap[gX]? = some (.cells #[.slice vx.code.a vx.code.len vx.code.cap, .int .i64 m.pc, .slice vx.regs.a vx.regs.len vx.regs.cap, .slice vx.data.a vx.data.len vx.data.cap, .slice vx.stk.a vx.stk.len vx.stk.cap, .slice vx.inp.a vx.inp.len vx.inp.cap, .slice vx.out.a vx.out.len vx.out.cap, .int .i64 m.steps, .int .i64 m.fin, .int .i64 m.val] 27)) := (d7.block _ ZX6.out).trans RX6.out
  have ZX7 : Hid (gX < u7.heap.size) := Nat.lt_of_lt_of_le ZX6.out d7.size
  have OW7 : Hid (MOwn u2.heap.size u7 vw m') := OW6.out.keep d7
  have OX7 : Hid (MOwn u4.heap.size u7 vx m) := OX6.out.keep d7
  have B7 : Hid (Below w.heap.size w u7) := B6.out.trans (d7.mono (Nat.le_of_lt ZA6.out))
  clear d7 RA6 ZA6 RW6 ZW6 RX6 ZX6 OW6 OX6 B6
  have ING : Hid (MIn vg u6.heap.size u7.heap.size) := OG7.out.in
  go_wp2_with (refine wpList_store_row rfl 27 _ _ rfl (u7.heap.size) #[.slice vg.code.a vg.code.len vg.code.cap, .int .i64 m.pc, .slice vg.regs.a vg.regs.len vg.regs.cap, .slice vg.data.a vg.data.len vg.data.cap, .slice vg.stk.a vg.stk.len vg.stk.cap, .slice vg.inp.a vg.inp.len vg.inp.cap, .slice vg.out.a vg.out.len vg.out.cap, .int .i64 m.steps, .int .i64 m.fin, .int .i64 m.val] ?hx ?hy 27 #[.slice none 0 0, .int .i64 0, .slice none 0 0, .slice none 0 0, .slice none 0 0, .slice none 0 0, .slice none 0 0, .int .i64 0, .int .i64 0, .int .i64 0] ?hg ?hi ?ho ?h1 ?_; (case hx => rfl); (case hy => rfl); (case hg => exact heap_alloc_new u7 _); (case hi => kernel_rfl); (case ho => kernel_rfl); (case h1 => kernel_rfl); refine Hid.out ?_)
  unfold Hid
  rw [World.setRow_alloc_new]
  refine wpList_at fun u8 hu8 => ?_
  have d8 : Below u7.heap.size u7 u8 := by rw [hu8]; exact below_alloc u7 _
  have RG8 : Hid (u8.heap[u7.heap.size]? = some (.cells #[.slice vg.code.a vg.code.len vg.code.cap, .int .i64 m.pc, .slice vg.regs.a vg.regs.len vg.regs.cap, .slice vg.data.a vg.data.len vg.data.cap, .slice vg.stk.a vg.stk.len vg.stk.cap, .slice vg.inp.a vg.inp.len vg.inp.cap, .slice vg.out.a vg.out.len vg.out.cap, .int .i64 m.steps, .int .i64 m.fin, .int .i64 m.val] 27)) := by show u8.heap[u7.heap.size]? = _; rw [hu8]; exact heap_alloc_new u7 _
  have ZG8 : Hid (u7.heap.size < u8.heap.size) := by show u7.heap.size < u8.heap.size; rw [hu8]; simp
  clear hu8
  have RA8 : Hid (u8.heap[w.heap.size]? = some (.cells #[.slice v.code.a v.code.len v.code.cap, .int .i64 m.pc, .slice v.regs.a v.regs.len v.regs.cap, .slice v.data.a v.data.len v.data.cap, .slice v.stk.a v.stk.len v.stk.cap, .slice v.inp.a v.inp.len v.inp.cap, .slice v.out.a v.out.len v.out.cap, .int .i64 m.steps, .int .i64 m.fin, .int .i64 m.val] 25)) := (d8.block _ ZA7.out).trans RA7.out
  have ZA8 : Hid (w.heap.size < u8.heap.size) := Nat.lt_of_lt_of_le ZA7.out d8.size
  have RW8 : Hid (u8.heap[gW]? = some (.cells #[.slice vw.code.a vw.code.len vw.code.cap, .int .i64 m.pc, .slice vw.regs.a vw.regs.len vw.regs.cap, .slice vw.data.a vw.data.len vw.data.cap, .slice vw.stk.a vw.stk.len vw.stk.cap, .slice vw.inp.a vw.inp.len vw.inp.cap, .slice vw.out.a vw.out.len vw.out.cap, .int .i64 m.steps, .int .i64 m.fin, .int .i64 m.val] 27)) := (d8.block _ ZW7.out).trans RW7.out
  have ZW8 : Hid (gW < u8.heap.size) := Nat.lt_of_lt_of_le ZW7.out d8.size
  have RX8 : Hid (u8.heap[gX]? = some (.cells #[.slice vx.code.a vx.code.len vx.code.cap, .int .i64 m.pc, .slice vx.regs.a vx.regs.len vx.regs.cap, .slice vx.data.a vx.data.len vx.data.cap, .slice vx.stk.a vx.stk.len vx.stk.cap, .slice vx.inp.a vx.inp.len vx.inp.cap, .slice vx.out.a vx.out.len vx.out.cap, .int .i64 m.steps, .int .i64 m.fin, .int .i64 m.val] 27)) := (d8.block _ ZX7.out).trans RX7.out
  have ZX8 : Hid (gX < u8.heap.size) := Nat.lt_of_lt_of_le ZX7.out d8.size
  have OW8 : Hid (MOwn u2.heap.size u8 vw m') := OW7.out.keep d8
  have OX8 : Hid (MOwn u4.heap.size u8 vx m) := OX7.out.keep d8
  have OG8 : Hid (MOwn u6.heap.size u8 vg m') := OG7.out.keep d8
  have B8 : Hid (Below w.heap.size w u8) := B7.out.trans (d8.mono (Nat.le_of_lt ZA7.out))
  clear d8 RA7 ZA7 RW7 ZW7 RX7 ZX7 OW7 OX7 OG7 B7
  obtain ⟨gG, hgG⟩ : ∃ g, g = u7.heap.size := ⟨_, rfl⟩
  rw [← hgG] at RG8 ZG8 ⊢
  have HGG : Hid (gG = u7.heap.size) := hgG
  clear hgG
  have Z67 : Hid (u6.heap.size ≤ gG ∧ u5.heap.size = gX) := ⟨by rw [HGG.out]; exact Z67a.out, HGX.out.symm⟩
  clear Z67a
  go_wp2_with (first | (refine wpList_load_row rfl 27 _ rfl (gG) ?hx 27 #[.slice vg.code.a vg.code.len vg.code.cap, .int .i64 m.pc, .slice vg.regs.a vg.regs.len vg.regs.cap, .slice vg.data.a vg.data.len vg.data.cap, .slice vg.stk.a vg.stk.len vg.stk.cap, .slice vg.inp.a vg.inp.len vg.inp.cap, .slice vg.out.a vg.out.len vg.out.cap, .int .i64 m.steps, .int .i64 m.fin, .int .i64 m.val] (0, 0) _ ?hg Try.underlying27 ?hd ?hi ?_; (case hx => rfl); (case hg => exact RG8.out); (case hd => rfl); (case hi => kernel_rfl)) | (refine wpList_load_row rfl 27 _ rfl (gW) ?hx 27 #[.slice vw.code.a vw.code.len vw.code.cap, .int .i64 m.pc, .slice vw.regs.a vw.regs.len vw.regs.cap, .slice vw.data.a vw.data.len vw.data.cap, .slice vw.stk.a vw.stk.len vw.stk.cap, .slice vw.inp.a vw.inp.len vw.inp.cap, .slice vw.out.a vw.out.len vw.out.cap, .int .i64 m.steps, .int .i64 m.fin, .int .i64 m.val] (0, 0) _ ?hg Try.underlying27 ?hd ?hi ?_; (case hx => rfl); (case hg => exact RW8.out); (case hd => rfl); (case hi => kernel_rfl)))
  refine (EQ.out _ _ vg vw u8 OG8.out.is OW8.out.is).mono ?_
  rintro e u9 ⟨rfl, d9⟩
  have RA9 : Hid (u9.heap[w.heap.size]? = some (.cells #[.slice v.code.a v.code.len v.code.cap, .int .i64 m.pc, .slice v.regs.a v.regs.len v.regs.cap, .slice v.data.a v.data.len v.data.cap, .slice v.stk.a v.stk.len v.stk.cap, .slice v.inp.a v.inp.len v.inp.cap, .slice v.out.a v.out.len v.out.cap, .int .i64 m.steps, .int .i64 m.fin, .int .i64 m.val] 25)) := (d9.block _ ZA8.out).trans RA8.out
  have ZA9 : Hid (w.heap.size < u9.heap.size) := Nat.lt_of_lt_of_le ZA8.out d9.size
  have RW9 : Hid (u9.heap[gW]? = some (.cells #[.slice vw.code.a vw.code.len vw.code.cap, .int .i64 m.pc, .slice vw.regs.a vw.regs.len vw.regs.cap, .slice vw.data.a vw.data.len vw.data.cap, .slice vw.stk.a vw.stk.len vw.stk.cap, .slice vw.inp.a vw.inp.len vw.inp.cap, .slice vw.out.a vw.out.len vw.out.cap, .int .i64 m.steps, .int .i64 m.fin, .int .i64 m.val] 27)) := (d9.block _ ZW8.out).trans RW8.out
  have ZW9 : Hid (gW < u9.heap.size) := Nat.lt_of_lt_of_le ZW8.out d9.size
  have RX9 : Hid (u9.heap[gX]? = some (.cells #[.slice vx.code.a vx.code.len vx.code.cap, .int .i64 m.pc, .slice vx.regs.a vx.regs.len vx.regs.cap, .slice vx.data.a vx.data.len vx.data.cap, .slice vx.stk.a vx.stk.len vx.stk.cap, .slice vx.inp.a vx.inp.len vx.inp.cap, .slice vx.out.a vx.out.len vx.out.cap, .int .i64 m.steps, .int .i64 m.fin, .int .i64 m.val] 27)) := (d9.block _ ZX8.out).trans RX8.out
  have ZX9 : Hid (gX < u9.heap.size) := Nat.lt_of_lt_of_le ZX8.out d9.size
  have RG9 : Hid (u9.heap[gG]? = some (.cells #[.slice vg.code.a vg.code.len vg.code.cap, .int .i64 m.pc, .slice vg.regs.a vg.regs.len vg.regs.cap, .slice vg.data.a vg.data.len vg.data.cap, .slice vg.stk.a vg.stk.len vg.stk.cap, .slice vg.inp.a vg.inp.len vg.inp.cap, .slice vg.out.a vg.out.len vg.out.cap, .int .i64 m.steps, .int .i64 m.fin, .int .i64 m.val] 27)) := (d9.block _ ZG8.out).trans RG8.out
  have ZG9 : Hid (gG < u9.heap.size) := Nat.lt_of_lt_of_le ZG8.out d9.size
  have OW9 : Hid (MOwn u2.heap.size u9 vw m') := OW8.out.keep d9
  have OX9 : Hid (MOwn u4.heap.size u9 vx m) := OX8.out.keep d9
  have OG9 : Hid (MOwn u6.heap.size u9 vg m') := OG8.out.keep d9
  have B9 : Hid (Below w.heap.size w u9) := B8.out.trans (d9.mono (Nat.le_of_lt ZA8.out))
  clear d9 RA8 ZA8 RW8 ZW8 RX8 ZX8 RG8 ZG8 OW8 OX8 OG8 B8
  go_upto_region 10 with fail
  go_cut [57] from 53 to 56 (fun v57 wx => v57 = .bool false ∧ Below u9.heap.size u9 wx)
  case first =>
    have kx : ∀ j, u9.cell? ⟨gX, j, none⟩ = (#[.slice vx.code.a vx.code.len vx.code.cap, .int .i64 m.pc, .slice vx.regs.a vx.regs.len vx.regs.cap, .slice vx.data.a vx.data.len vx.data.cap, .slice vx.stk.a vx.stk.len vx.stk.cap, .slice vx.inp.a vx.inp.len vx.inp.cap, .slice vx.out.a vx.out.len vx.out.cap, .int .i64 m.steps, .int .i64 m.fin, .int .i64 m.val] : Array Value)[j]? := fun j => cell_of_row u9 gX j _ 27 (0, 0) RX9.out
    have kp : ∀ j, u9.cell? ⟨w.heap.size, j, none⟩ = (#[.slice v.code.a v.code.len v.code.cap, .int .i64 m.pc, .slice v.regs.a v.regs.len v.regs.cap, .slice v.data.a v.data.len v.data.cap, .slice v.stk.a v.stk.len v.stk.cap, .slice v.inp.a v.inp.len v.inp.cap, .slice v.out.a v.out.len v.out.cap, .int .i64 m.steps, .int .i64 m.fin, .int .i64 m.val] : Array Value)[j]? := fun j => cell_of_row u9 w.heap.size j _ 25 (0, 0) RA9.out
    go_region_with (first | (go_at_call 9; refine (toMachine_any v m _ (H.out.keep (by repeat (first | exact B9.out | refine Below.drew ?_ | refine below_drewN ?_ _))) HS.out).mono ?_; rintro e y7 ⟨v7, rfl, o7, d7⟩; have kx7 : ∀ j, y7.cell? ⟨gX, j, none⟩ = (#[.slice vx.code.a vx.code.len vx.code.cap, .int .i64 m.pc, .slice vx.regs.a vx.regs.len vx.regs.cap, .slice vx.data.a vx.data.len vx.data.cap, .slice vx.stk.a vx.stk.len vx.stk.cap, .slice vx.inp.a vx.inp.len vx.inp.cap, .slice vx.out.a vx.out.len vx.out.cap, .int .i64 m.steps, .int .i64 m.fin, .int .i64 m.val] : Array Value)[j]? := (fun j => cell_of_row y7 gX j _ 27 (0, 0) ((d7.block _ ZX9.out).trans RX9.out)); have O7 : Hid (MOwn _ y7 v7 m) := o7; have D7 : Hid (Below u9.heap.size u9 y7) := ((Below.refl u9.heap.size u9).drew).trans d7; clear o7 d7) | (go_at_call 11; refine (eqMachine_same vx v7 m _ (OX9.out.is.keep D7.out) O7.out.is).mono ?_; rintro e y8 ⟨rfl, d8⟩; have D8 : Hid (Below y7.heap.size y7 y8) := d8; clear d8))
    all_goals
      go_wp2_with fail
      go_meet
      exact ⟨rfl, D7.out.trans (D8.out.mono D7.out.size)⟩
  case rest =>
  obtain ⟨rfl, d10⟩ := hcut
  obtain ⟨u10, hu10⟩ : ∃ u : World, u = wc := ⟨wc, rfl⟩
  rw [← hu10] at d10 ⊢
  clear hu10
  have RA10 : Hid (u10.heap[w.heap.size]? = some (.cells #[.slice v.code.a v.code.len v.code.cap, .int .i64 m.pc, .slice v.regs.a v.regs.len v.regs.cap, .slice v.data.a v.data.len v.data.cap, .slice v.stk.a v.stk.len v.stk.cap, .slice v.inp.a v.inp.len v.inp.cap, .slice v.out.a v.out.len v.out.cap, .int .i64 m.steps, .int .i64 m.fin, .int .i64 m.val] 25)) := (d10.block _ ZA9.out).trans RA9.out
  have ZA10 : Hid (w.heap.size < u10.heap.size) := Nat.lt_of_lt_of_le ZA9.out d10.size
  have RW10 : Hid (u10.heap[gW]? = some (.cells #[.slice vw.code.a vw.code.len vw.code.cap, .int .i64 m.pc, .slice vw.regs.a vw.regs.len vw.regs.cap, .slice vw.data.a vw.data.len vw.data.cap, .slice vw.stk.a vw.stk.len vw.stk.cap, .slice vw.inp.a vw.inp.len vw.inp.cap, .slice vw.out.a vw.out.len vw.out.cap, .int .i64 m.steps, .int .i64 m.fin, .int .i64 m.val] 27)) := (d10.block _ ZW9.out).trans RW9.out
  have ZW10 : Hid (gW < u10.heap.size) := Nat.lt_of_lt_of_le ZW9.out d10.size
  have RX10 : Hid (u10.heap[gX]? = some (.cells #[.slice vx.code.a vx.code.len vx.code.cap, .int .i64 m.pc, .slice vx.regs.a vx.regs.len vx.regs.cap, .slice vx.data.a vx.data.len vx.data.cap, .slice vx.stk.a vx.stk.len vx.stk.cap, .slice vx.inp.a vx.inp.len vx.inp.cap, .slice vx.out.a vx.out.len vx.out.cap, .int .i64 m.steps, .int .i64 m.fin, .int .i64 m.val] 27)) := (d10.block _ ZX9.out).trans RX9.out
  have ZX10 : Hid (gX < u10.heap.size) := Nat.lt_of_lt_of_le ZX9.out d10.size
  have RG10 : Hid (u10.heap[gG]? = some (.cells #[.slice vg.code.a vg.code.len vg.code.cap, .int .i64 m.pc, .slice vg.regs.a vg.regs.len vg.regs.cap, .slice vg.data.a vg.data.len vg.data.cap, .slice vg.stk.a vg.stk.len vg.stk.cap, .slice vg.inp.a vg.inp.len vg.inp.cap, .slice vg.out.a vg.out.len vg.out.cap, .int .i64 m.steps, .int .i64 m.fin, .int .i64 m.val] 27)) := (d10.block _ ZG9.out).trans RG9.out
  have ZG10 : Hid (gG < u10.heap.size) := Nat.lt_of_lt_of_le ZG9.out d10.size
  have OW10 : Hid (MOwn u2.heap.size u10 vw m') := OW9.out.keep d10
  have OX10 : Hid (MOwn u4.heap.size u10 vx m) := OX9.out.keep d10
  have OG10 : Hid (MOwn u6.heap.size u10 vg m') := OG9.out.keep d10
  have B10 : Hid (Below w.heap.size w u10) := B9.out.trans (d10.mono (Nat.le_of_lt ZA9.out))
  clear d10 RA9 ZA9 RW9 ZW9 RX9 ZX9 RG9 ZG9 OW9 OX9 OG9 B9
  go_wp2_with (refine wpList_load_row rfl 27 _ rfl (gX) ?hx 27 #[.slice vx.code.a vx.code.len vx.code.cap, .int .i64 m.pc, .slice vx.regs.a vx.regs.len vx.regs.cap, .slice vx.data.a vx.data.len vx.data.cap, .slice vx.stk.a vx.stk.len vx.stk.cap, .slice vx.inp.a vx.inp.len vx.inp.cap, .slice vx.out.a vx.out.len vx.out.cap, .int .i64 m.steps, .int .i64 m.fin, .int .i64 m.val] (0, 0) _ ?hg Try.underlying27 ?hd ?hi ?_; (case hx => rfl); (case hg => exact RX10.out); (case hd => rfl); (case hi => kernel_rfl))
  obtain ⟨t0, t6, sx, x0, x6⟩ := SPX.out
  have hle := sx.le
  have hx6 : t6 ≤ u10.heap.size := by have := ZX10.out; have := Z67.out; omega
  refine (markMachine_any vx m 1 u10 OX10.out sx hx6 (by decide) HS.out).mono ?_
  rintro e u11 ⟨rfl, _, t11⟩
  have RA11 : Hid (u11.heap[w.heap.size]? = some (.cells #[.slice v.code.a v.code.len v.code.cap, .int .i64 m.pc, .slice v.regs.a v.regs.len v.regs.cap, .slice v.data.a v.data.len v.data.cap, .slice v.stk.a v.stk.len v.stk.cap, .slice v.inp.a v.inp.len v.inp.cap, .slice v.out.a v.out.len v.out.cap, .int .i64 m.steps, .int .i64 m.fin, .int .i64 m.val] 25)) := (t11.block _ ZA10.out (by have := INW.out; have := Z56.out; have := Z67.out; have := HGW.out; omega)).trans RA10.out
  have ZA11 : Hid (w.heap.size < u11.heap.size) := Nat.lt_of_lt_of_le ZA10.out t11.size
  have RW11 : Hid (u11.heap[gW]? = some (.cells #[.slice vw.code.a vw.code.len vw.code.cap, .int .i64 m.pc, .slice vw.regs.a vw.regs.len vw.regs.cap, .slice vw.data.a vw.data.len vw.data.cap, .slice vw.stk.a vw.stk.len vw.stk.cap, .slice vw.inp.a vw.inp.len vw.inp.cap, .slice vw.out.a vw.out.len vw.out.cap, .int .i64 m.steps, .int .i64 m.fin, .int .i64 m.val] 27)) := (t11.block _ ZW10.out (by have := INW.out; have := Z56.out; have := Z67.out; have := HGW.out; omega)).trans RW10.out
  have ZW11 : Hid (gW < u11.heap.size) := Nat.lt_of_lt_of_le ZW10.out t11.size
  have RX11 : Hid (u11.heap[gX]? = some (.cells #[.slice vx.code.a vx.code.len vx.code.cap, .int .i64 m.pc, .slice vx.regs.a vx.regs.len vx.regs.cap, .slice vx.data.a vx.data.len vx.data.cap, .slice vx.stk.a vx.stk.len vx.stk.cap, .slice vx.inp.a vx.inp.len vx.inp.cap, .slice vx.out.a vx.out.len vx.out.cap, .int .i64 m.steps, .int .i64 m.fin, .int .i64 m.val] 27)) := (t11.block _ ZX10.out (by have := INW.out; have := Z56.out; have := Z67.out; have := HGW.out; omega)).trans RX10.out
  have ZX11 : Hid (gX < u11.heap.size) := Nat.lt_of_lt_of_le ZX10.out t11.size
  have RG11 : Hid (u11.heap[gG]? = some (.cells #[.slice vg.code.a vg.code.len vg.code.cap, .int .i64 m.pc, .slice vg.regs.a vg.regs.len vg.regs.cap, .slice vg.data.a vg.data.len vg.data.cap, .slice vg.stk.a vg.stk.len vg.stk.cap, .slice vg.inp.a vg.inp.len vg.inp.cap, .slice vg.out.a vg.out.len vg.out.cap, .int .i64 m.steps, .int .i64 m.fin, .int .i64 m.val] 27)) := (t11.block _ ZG10.out (by have := INW.out; have := Z56.out; have := Z67.out; have := HGW.out; omega)).trans RG10.out
  have ZG11 : Hid (gG < u11.heap.size) := Nat.lt_of_lt_of_le ZG10.out t11.size
  have OW11 : Hid (MOwn u2.heap.size u11 vw m') := OW10.out.outside INW.out.1 t11 (by have := INW.out; have := Z56.out; have := Z67.out; omega)
  have OG11 : Hid (MOwn u6.heap.size u11 vg m') := OG10.out.outside ING.out t11 (by have := INW.out; have := Z56.out; have := Z67.out; omega)
  have B11 : Hid (Below w.heap.size w u11) := B10.out.trans ((t11.below (by have := INW.out; have := ZG10.out; have := ZX10.out; have := Z56.out; have := Z67.out; have := hle; omega)).mono (by have := INW.out; have := Z56.out; omega))
  clear t11 RA10 ZA10 RW10 ZW10 RX10 ZX10 RG10 ZG10 OW10 OX10 OG10 B10
  obtain ⟨K, hK⟩ : ∃ K : Int, K = 1 + (Pl.mSize m : Int) := ⟨_, rfl⟩
  rw [← hK]
  have hk0 : ¬ K < 0 := by omega
  have hdk : decide (K < 0) = false := by simp [hk0]
  have HK : Hid (K = 1 + (Pl.mSize m : Int)) := hK
  clear hK hx6 x0 x6 sx hle
  have kg : ∀ j, u11.cell? ⟨gG, j, none⟩ = (#[.slice vg.code.a vg.code.len vg.code.cap, .int .i64 m.pc, .slice vg.regs.a vg.regs.len vg.regs.cap, .slice vg.data.a vg.data.len vg.data.cap, .slice vg.stk.a vg.stk.len vg.stk.cap, .slice vg.inp.a vg.inp.len vg.inp.cap, .slice vg.out.a vg.out.len vg.out.cap, .int .i64 m.steps, .int .i64 m.fin, .int .i64 m.val] : Array Value)[j]? := fun j => cell_of_row u11 gG j _ 27 (0, 0) RG11.out
  have kw : ∀ j, u11.cell? ⟨gW, j, none⟩ = (#[.slice vw.code.a vw.code.len vw.code.cap, .int .i64 m.pc, .slice vw.regs.a vw.regs.len vw.regs.cap, .slice vw.data.a vw.data.len vw.data.cap, .slice vw.stk.a vw.stk.len vw.stk.cap, .slice vw.inp.a vw.inp.len vw.inp.cap, .slice vw.out.a vw.out.len vw.out.cap, .int .i64 m.steps, .int .i64 m.fin, .int .i64 m.val] : Array Value)[j]? := fun j => cell_of_row u11 gW j _ 27 (0, 0) RW11.out
  go_wp2_with fail
  clear kg kw hk0 hdk
  refine (EQ.out _ _ vg vw u11 OG11.out.is OW11.out.is).mono ?_
  rintro e u12 ⟨rfl, d12⟩
  have RA12 : Hid (u12.heap[w.heap.size]? = some (.cells #[.slice v.code.a v.code.len v.code.cap, .int .i64 m.pc, .slice v.regs.a v.regs.len v.regs.cap, .slice v.data.a v.data.len v.data.cap, .slice v.stk.a v.stk.len v.stk.cap, .slice v.inp.a v.inp.len v.inp.cap, .slice v.out.a v.out.len v.out.cap, .int .i64 m.steps, .int .i64 m.fin, .int .i64 m.val] 25)) := (d12.block _ ZA11.out).trans RA11.out
  have ZA12 : Hid (w.heap.size < u12.heap.size) := Nat.lt_of_lt_of_le ZA11.out d12.size
  have RW12 : Hid (u12.heap[gW]? = some (.cells #[.slice vw.code.a vw.code.len vw.code.cap, .int .i64 m.pc, .slice vw.regs.a vw.regs.len vw.regs.cap, .slice vw.data.a vw.data.len vw.data.cap, .slice vw.stk.a vw.stk.len vw.stk.cap, .slice vw.inp.a vw.inp.len vw.inp.cap, .slice vw.out.a vw.out.len vw.out.cap, .int .i64 m.steps, .int .i64 m.fin, .int .i64 m.val] 27)) := (d12.block _ ZW11.out).trans RW11.out
  have ZW12 : Hid (gW < u12.heap.size) := Nat.lt_of_lt_of_le ZW11.out d12.size
  have RX12 : Hid (u12.heap[gX]? = some (.cells #[.slice vx.code.a vx.code.len vx.code.cap, .int .i64 m.pc, .slice vx.regs.a vx.regs.len vx.regs.cap, .slice vx.data.a vx.data.len vx.data.cap, .slice vx.stk.a vx.stk.len vx.stk.cap, .slice vx.inp.a vx.inp.len vx.inp.cap, .slice vx.out.a vx.out.len vx.out.cap, .int .i64 m.steps, .int .i64 m.fin, .int .i64 m.val] 27)) := (d12.block _ ZX11.out).trans RX11.out
  have ZX12 : Hid (gX < u12.heap.size) := Nat.lt_of_lt_of_le ZX11.out d12.size
  have RG12 : Hid (u12.heap[gG]? = some (.cells #[.slice vg.code.a vg.code.len vg.code.cap, .int .i64 m.pc, .slice vg.regs.a vg.regs.len vg.regs.cap, .slice vg.data.a vg.data.len vg.data.cap, .slice vg.stk.a vg.stk.len vg.stk.cap, .slice vg.inp.a vg.inp.len vg.inp.cap, .slice vg.out.a vg.out.len vg.out.cap, .int .i64 m.steps, .int .i64 m.fin, .int .i64 m.val] 27)) := (d12.block _ ZG11.out).trans RG11.out
  have ZG12 : Hid (gG < u12.heap.size) := Nat.lt_of_lt_of_le ZG11.out d12.size
  have OW12 : Hid (MOwn u2.heap.size u12 vw m') := OW11.out.keep d12
  have OG12 : Hid (MOwn u6.heap.size u12 vg m') := OG11.out.keep d12
  have B12 : Hid (Below w.heap.size w u12) := B11.out.trans (d12.mono (Nat.le_of_lt ZA11.out))
  clear d12 RA11 ZA11 RW11 ZW11 RX11 ZX11 RG11 ZG11 OW11 OG11 B11
  go_wp2_with (refine wpList_load_row rfl 27 _ rfl (gG) ?hx 27 #[.slice vg.code.a vg.code.len vg.code.cap, .int .i64 m.pc, .slice vg.regs.a vg.regs.len vg.regs.cap, .slice vg.data.a vg.data.len vg.data.cap, .slice vg.stk.a vg.stk.len vg.stk.cap, .slice vg.inp.a vg.inp.len vg.inp.cap, .slice vg.out.a vg.out.len vg.out.cap, .int .i64 m.steps, .int .i64 m.fin, .int .i64 m.val] (0, 0) _ ?hg Try.underlying27 ?hd ?hi ?_; (case hx => rfl); (case hg => exact RG12.out); (case hd => rfl); (case hi => kernel_rfl))
  obtain ⟨q0, q6, sg, y0, y6⟩ := SPG.out
  have hle := sg.le
  have hy6 : q6 ≤ u12.heap.size := by have := ZG12.out; have := HGG.out; omega
  refine (MK.out _ q0 q6 vg u12 OG12.out sg hy6).mono ?_
  rintro e u13 ⟨rfl, og, t13⟩
  have HGG' := HGG.out
  have OM13 : Hid (MOwn u6.heap.size u13 vg (marked vg m' 1)) := og
  have OK12 : Hid (MOwn u6.heap.size u12 vg m') := OG12.out
  have RA13 : Hid (u13.heap[w.heap.size]? = some (.cells #[.slice v.code.a v.code.len v.code.cap, .int .i64 m.pc, .slice v.regs.a v.regs.len v.regs.cap, .slice v.data.a v.data.len v.data.cap, .slice v.stk.a v.stk.len v.stk.cap, .slice v.inp.a v.inp.len v.inp.cap, .slice v.out.a v.out.len v.out.cap, .int .i64 m.steps, .int .i64 m.fin, .int .i64 m.val] 25)) := (t13.block _ ZA12.out (by have := INW.out; have := Z56.out; have := Z67.out; have := HGW.out; omega)).trans RA12.out
  have ZA13 : Hid (w.heap.size < u13.heap.size) := Nat.lt_of_lt_of_le ZA12.out t13.size
  have RW13 : Hid (u13.heap[gW]? = some (.cells #[.slice vw.code.a vw.code.len vw.code.cap, .int .i64 m.pc, .slice vw.regs.a vw.regs.len vw.regs.cap, .slice vw.data.a vw.data.len vw.data.cap, .slice vw.stk.a vw.stk.len vw.stk.cap, .slice vw.inp.a vw.inp.len vw.inp.cap, .slice vw.out.a vw.out.len vw.out.cap, .int .i64 m.steps, .int .i64 m.fin, .int .i64 m.val] 27)) := (t13.block _ ZW12.out (by have := INW.out; have := Z56.out; have := Z67.out; have := HGW.out; omega)).trans RW12.out
  have ZW13 : Hid (gW < u13.heap.size) := Nat.lt_of_lt_of_le ZW12.out t13.size
  have RX13 : Hid (u13.heap[gX]? = some (.cells #[.slice vx.code.a vx.code.len vx.code.cap, .int .i64 m.pc, .slice vx.regs.a vx.regs.len vx.regs.cap, .slice vx.data.a vx.data.len vx.data.cap, .slice vx.stk.a vx.stk.len vx.stk.cap, .slice vx.inp.a vx.inp.len vx.inp.cap, .slice vx.out.a vx.out.len vx.out.cap, .int .i64 m.steps, .int .i64 m.fin, .int .i64 m.val] 27)) := (t13.block _ ZX12.out (by have := INW.out; have := Z56.out; have := Z67.out; have := HGW.out; omega)).trans RX12.out
  have ZX13 : Hid (gX < u13.heap.size) := Nat.lt_of_lt_of_le ZX12.out t13.size
  have RG13 : Hid (u13.heap[gG]? = some (.cells #[.slice vg.code.a vg.code.len vg.code.cap, .int .i64 m.pc, .slice vg.regs.a vg.regs.len vg.regs.cap, .slice vg.data.a vg.data.len vg.data.cap, .slice vg.stk.a vg.stk.len vg.stk.cap, .slice vg.inp.a vg.inp.len vg.inp.cap, .slice vg.out.a vg.out.len vg.out.cap, .int .i64 m.steps, .int .i64 m.fin, .int .i64 m.val] 27)) := (t13.block _ ZG12.out (by have := INW.out; have := Z56.out; have := Z67.out; have := HGW.out; omega)).trans RG12.out
  have ZG13 : Hid (gG < u13.heap.size) := Nat.lt_of_lt_of_le ZG12.out t13.size
  have OW13 : Hid (MOwn u2.heap.size u13 vw m') := OW12.out.outside INW.out.1 t13 (by have := INW.out; have := Z56.out; have := Z67.out; omega)
  have B13 : Hid (Below w.heap.size w u13) := B12.out.trans ((t13.below (by have := INW.out; have := ZG12.out; have := ZX12.out; have := Z56.out; have := Z67.out; have := hle; omega)).mono (by have := INW.out; have := Z56.out; omega))
  clear t13 RA12 ZA12 RW12 ZW12 RX12 ZX12 RG12 ZG12 OW12 OG12 B12
  rw [← HK.out]
  clear hy6 y0 y6 sg hle HGG' og
  go_wp2_with (refine wpList_load_row rfl 27 _ rfl (gG) ?hx 27 #[.slice vg.code.a vg.code.len vg.code.cap, .int .i64 m.pc, .slice vg.regs.a vg.regs.len vg.regs.cap, .slice vg.data.a vg.data.len vg.data.cap, .slice vg.stk.a vg.stk.len vg.stk.cap, .slice vg.inp.a vg.inp.len vg.inp.cap, .slice vg.out.a vg.out.len vg.out.cap, .int .i64 m.steps, .int .i64 m.fin, .int .i64 m.val] (0, 0) _ ?hg Try.underlying27 ?hd ?hi ?_; (case hx => rfl); (case hg => exact RG13.out); (case hd => rfl); (case hi => kernel_rfl))
  refine (HD.out _ vg u12 u13 OK12.out OM13.out.is).mono ?_
  rintro e u14 ⟨rfl, d14⟩
  rw [← HK.out]
  clear OK12 OM13
  have RA14 : Hid (u14.heap[w.heap.size]? = some (.cells #[.slice v.code.a v.code.len v.code.cap, .int .i64 m.pc, .slice v.regs.a v.regs.len v.regs.cap, .slice v.data.a v.data.len v.data.cap, .slice v.stk.a v.stk.len v.stk.cap, .slice v.inp.a v.inp.len v.inp.cap, .slice v.out.a v.out.len v.out.cap, .int .i64 m.steps, .int .i64 m.fin, .int .i64 m.val] 25)) := (d14.block _ ZA13.out).trans RA13.out
  have ZA14 : Hid (w.heap.size < u14.heap.size) := Nat.lt_of_lt_of_le ZA13.out d14.size
  have RW14 : Hid (u14.heap[gW]? = some (.cells #[.slice vw.code.a vw.code.len vw.code.cap, .int .i64 m.pc, .slice vw.regs.a vw.regs.len vw.regs.cap, .slice vw.data.a vw.data.len vw.data.cap, .slice vw.stk.a vw.stk.len vw.stk.cap, .slice vw.inp.a vw.inp.len vw.inp.cap, .slice vw.out.a vw.out.len vw.out.cap, .int .i64 m.steps, .int .i64 m.fin, .int .i64 m.val] 27)) := (d14.block _ ZW13.out).trans RW13.out
  have ZW14 : Hid (gW < u14.heap.size) := Nat.lt_of_lt_of_le ZW13.out d14.size
  have RX14 : Hid (u14.heap[gX]? = some (.cells #[.slice vx.code.a vx.code.len vx.code.cap, .int .i64 m.pc, .slice vx.regs.a vx.regs.len vx.regs.cap, .slice vx.data.a vx.data.len vx.data.cap, .slice vx.stk.a vx.stk.len vx.stk.cap, .slice vx.inp.a vx.inp.len vx.inp.cap, .slice vx.out.a vx.out.len vx.out.cap, .int .i64 m.steps, .int .i64 m.fin, .int .i64 m.val] 27)) := (d14.block _ ZX13.out).trans RX13.out
  have ZX14 : Hid (gX < u14.heap.size) := Nat.lt_of_lt_of_le ZX13.out d14.size
  have RG14 : Hid (u14.heap[gG]? = some (.cells #[.slice vg.code.a vg.code.len vg.code.cap, .int .i64 m.pc, .slice vg.regs.a vg.regs.len vg.regs.cap, .slice vg.data.a vg.data.len vg.data.cap, .slice vg.stk.a vg.stk.len vg.stk.cap, .slice vg.inp.a vg.inp.len vg.inp.cap, .slice vg.out.a vg.out.len vg.out.cap, .int .i64 m.steps, .int .i64 m.fin, .int .i64 m.val] 27)) := (d14.block _ ZG13.out).trans RG13.out
  have ZG14 : Hid (gG < u14.heap.size) := Nat.lt_of_lt_of_le ZG13.out d14.size
  have OW14 : Hid (MOwn u2.heap.size u14 vw m') := OW13.out.keep d14
  have B14 : Hid (Below w.heap.size w u14) := B13.out.trans (d14.mono (Nat.le_of_lt ZA13.out))
  clear d14 RA13 ZA13 RW13 ZW13 RX13 ZX13 RG13 ZG13 OW13 B13
  have hk0 : ¬ K < 0 := by have := HK.out; omega
  go_wp2_with (refine wpList_load_row rfl 25 _ rfl (w.heap.size) ?hx 25 #[.slice v.code.a v.code.len v.code.cap, .int .i64 m.pc, .slice v.regs.a v.regs.len v.regs.cap, .slice v.data.a v.data.len v.data.cap, .slice v.stk.a v.stk.len v.stk.cap, .slice v.inp.a v.inp.len v.inp.cap, .slice v.out.a v.out.len v.out.cap, .int .i64 m.steps, .int .i64 m.fin, .int .i64 m.val] (0, 0) _ ?hg Try.underlying25 ?hd ?hi ?_; (case hx => rfl); (case hg => exact RA14.out); (case hd => rfl); (case hi => kernel_rfl))
  refine (toMachine_any v m u14 (H.out.keep B14.out) HS.out).mono ?_
  rintro e u15 ⟨v15, rfl, o15, d15⟩
  have OT15 : Hid (MOwn u14.heap.size u15 v15 m) := o15
  clear o15
  have RA15 : Hid (u15.heap[w.heap.size]? = some (.cells #[.slice v.code.a v.code.len v.code.cap, .int .i64 m.pc, .slice v.regs.a v.regs.len v.regs.cap, .slice v.data.a v.data.len v.data.cap, .slice v.stk.a v.stk.len v.stk.cap, .slice v.inp.a v.inp.len v.inp.cap, .slice v.out.a v.out.len v.out.cap, .int .i64 m.steps, .int .i64 m.fin, .int .i64 m.val] 25)) := (d15.block _ ZA14.out).trans RA14.out
  have ZA15 : Hid (w.heap.size < u15.heap.size) := Nat.lt_of_lt_of_le ZA14.out d15.size
  have RW15 : Hid (u15.heap[gW]? = some (.cells #[.slice vw.code.a vw.code.len vw.code.cap, .int .i64 m.pc, .slice vw.regs.a vw.regs.len vw.regs.cap, .slice vw.data.a vw.data.len vw.data.cap, .slice vw.stk.a vw.stk.len vw.stk.cap, .slice vw.inp.a vw.inp.len vw.inp.cap, .slice vw.out.a vw.out.len vw.out.cap, .int .i64 m.steps, .int .i64 m.fin, .int .i64 m.val] 27)) := (d15.block _ ZW14.out).trans RW14.out
  have ZW15 : Hid (gW < u15.heap.size) := Nat.lt_of_lt_of_le ZW14.out d15.size
  have RX15 : Hid (u15.heap[gX]? = some (.cells #[.slice vx.code.a vx.code.len vx.code.cap, .int .i64 m.pc, .slice vx.regs.a vx.regs.len vx.regs.cap, .slice vx.data.a vx.data.len vx.data.cap, .slice vx.stk.a vx.stk.len vx.stk.cap, .slice vx.inp.a vx.inp.len vx.inp.cap, .slice vx.out.a vx.out.len vx.out.cap, .int .i64 m.steps, .int .i64 m.fin, .int .i64 m.val] 27)) := (d15.block _ ZX14.out).trans RX14.out
  have ZX15 : Hid (gX < u15.heap.size) := Nat.lt_of_lt_of_le ZX14.out d15.size
  have RG15 : Hid (u15.heap[gG]? = some (.cells #[.slice vg.code.a vg.code.len vg.code.cap, .int .i64 m.pc, .slice vg.regs.a vg.regs.len vg.regs.cap, .slice vg.data.a vg.data.len vg.data.cap, .slice vg.stk.a vg.stk.len vg.stk.cap, .slice vg.inp.a vg.inp.len vg.inp.cap, .slice vg.out.a vg.out.len vg.out.cap, .int .i64 m.steps, .int .i64 m.fin, .int .i64 m.val] 27)) := (d15.block _ ZG14.out).trans RG14.out
  have ZG15 : Hid (gG < u15.heap.size) := Nat.lt_of_lt_of_le ZG14.out d15.size
  have OW15 : Hid (MOwn u2.heap.size u15 vw m') := OW14.out.keep d15
  have B15 : Hid (Below w.heap.size w u15) := B14.out.trans (d15.mono (Nat.le_of_lt ZA14.out))
  clear d15 RA14 ZA14 RW14 ZW14 RX14 ZX14 RG14 ZG14 OW14 B14
  go_wp2_with fail
  refine (IM.out _ v15 u15 OT15.out).mono ?_
  rintro e u16 ⟨vh, rfl, oh, _, d16⟩
  have OH16 : Hid (MOwn u15.heap.size u16 vh m') := oh
  clear oh OT15
  have RA16 : Hid (u16.heap[w.heap.size]? = some (.cells #[.slice v.code.a v.code.len v.code.cap, .int .i64 m.pc, .slice v.regs.a v.regs.len v.regs.cap, .slice v.data.a v.data.len v.data.cap, .slice v.stk.a v.stk.len v.stk.cap, .slice v.inp.a v.inp.len v.inp.cap, .slice v.out.a v.out.len v.out.cap, .int .i64 m.steps, .int .i64 m.fin, .int .i64 m.val] 25)) := (d16.block _ ZA15.out).trans RA15.out
  have ZA16 : Hid (w.heap.size < u16.heap.size) := Nat.lt_of_lt_of_le ZA15.out d16.size
  have RW16 : Hid (u16.heap[gW]? = some (.cells #[.slice vw.code.a vw.code.len vw.code.cap, .int .i64 m.pc, .slice vw.regs.a vw.regs.len vw.regs.cap, .slice vw.data.a vw.data.len vw.data.cap, .slice vw.stk.a vw.stk.len vw.stk.cap, .slice vw.inp.a vw.inp.len vw.inp.cap, .slice vw.out.a vw.out.len vw.out.cap, .int .i64 m.steps, .int .i64 m.fin, .int .i64 m.val] 27)) := (d16.block _ ZW15.out).trans RW15.out
  have ZW16 : Hid (gW < u16.heap.size) := Nat.lt_of_lt_of_le ZW15.out d16.size
  have RX16 : Hid (u16.heap[gX]? = some (.cells #[.slice vx.code.a vx.code.len vx.code.cap, .int .i64 m.pc, .slice vx.regs.a vx.regs.len vx.regs.cap, .slice vx.data.a vx.data.len vx.data.cap, .slice vx.stk.a vx.stk.len vx.stk.cap, .slice vx.inp.a vx.inp.len vx.inp.cap, .slice vx.out.a vx.out.len vx.out.cap, .int .i64 m.steps, .int .i64 m.fin, .int .i64 m.val] 27)) := (d16.block _ ZX15.out).trans RX15.out
  have ZX16 : Hid (gX < u16.heap.size) := Nat.lt_of_lt_of_le ZX15.out d16.size
  have RG16 : Hid (u16.heap[gG]? = some (.cells #[.slice vg.code.a vg.code.len vg.code.cap, .int .i64 m.pc, .slice vg.regs.a vg.regs.len vg.regs.cap, .slice vg.data.a vg.data.len vg.data.cap, .slice vg.stk.a vg.stk.len vg.stk.cap, .slice vg.inp.a vg.inp.len vg.inp.cap, .slice vg.out.a vg.out.len vg.out.cap, .int .i64 m.steps, .int .i64 m.fin, .int .i64 m.val] 27)) := (d16.block _ ZG15.out).trans RG15.out
  have ZG16 : Hid (gG < u16.heap.size) := Nat.lt_of_lt_of_le ZG15.out d16.size
  have OW16 : Hid (MOwn u2.heap.size u16 vw m') := OW15.out.keep d16
  have B16 : Hid (Below w.heap.size w u16) := B15.out.trans (d16.mono (Nat.le_of_lt ZA15.out))
  clear d16 RA15 ZA15 RW15 ZW15 RX15 ZX15 RG15 ZG15 OW15 B15
  go_wp2_with (refine wpList_store_row rfl 27 _ _ rfl (u16.heap.size) #[.slice vh.code.a vh.code.len vh.code.cap, .int .i64 m.pc, .slice vh.regs.a vh.regs.len vh.regs.cap, .slice vh.data.a vh.data.len vh.data.cap, .slice vh.stk.a vh.stk.len vh.stk.cap, .slice vh.inp.a vh.inp.len vh.inp.cap, .slice vh.out.a vh.out.len vh.out.cap, .int .i64 m.steps, .int .i64 m.fin, .int .i64 m.val] ?hx ?hy 27 #[.slice none 0 0, .int .i64 0, .slice none 0 0, .slice none 0 0, .slice none 0 0, .slice none 0 0, .slice none 0 0, .int .i64 0, .int .i64 0, .int .i64 0] ?hg ?hi ?ho ?h1 ?_; (case hx => rfl); (case hy => rfl); (case hg => exact heap_alloc_new u16 _); (case hi => kernel_rfl); (case ho => kernel_rfl); (case h1 => kernel_rfl); refine Hid.out ?_)
  unfold Hid
  rw [World.setRow_alloc_new]
  refine wpList_at fun u17 hu17 => ?_
  have d17 : Below u16.heap.size u16 u17 := by rw [hu17]; exact below_alloc u16 _
  have RH17 : Hid (u17.heap[u16.heap.size]? = some (.cells #[.slice vh.code.a vh.code.len vh.code.cap, .int .i64 m.pc, .slice vh.regs.a vh.regs.len vh.regs.cap, .slice vh.data.a vh.data.len vh.data.cap, .slice vh.stk.a vh.stk.len vh.stk.cap, .slice vh.inp.a vh.inp.len vh.inp.cap, .slice vh.out.a vh.out.len vh.out.cap, .int .i64 m.steps, .int .i64 m.fin, .int .i64 m.val] 27)) := by show u17.heap[u16.heap.size]? = _; rw [hu17]; exact heap_alloc_new u16 _
  have ZH17 : Hid (u16.heap.size < u17.heap.size) := by show u16.heap.size < u17.heap.size; rw [hu17]; simp
  clear hu17
  have RA17 : Hid (u17.heap[w.heap.size]? = some (.cells #[.slice v.code.a v.code.len v.code.cap, .int .i64 m.pc, .slice v.regs.a v.regs.len v.regs.cap, .slice v.data.a v.data.len v.data.cap, .slice v.stk.a v.stk.len v.stk.cap, .slice v.inp.a v.inp.len v.inp.cap, .slice v.out.a v.out.len v.out.cap, .int .i64 m.steps, .int .i64 m.fin, .int .i64 m.val] 25)) := (d17.block _ ZA16.out).trans RA16.out
  have ZA17 : Hid (w.heap.size < u17.heap.size) := Nat.lt_of_lt_of_le ZA16.out d17.size
  have RW17 : Hid (u17.heap[gW]? = some (.cells #[.slice vw.code.a vw.code.len vw.code.cap, .int .i64 m.pc, .slice vw.regs.a vw.regs.len vw.regs.cap, .slice vw.data.a vw.data.len vw.data.cap, .slice vw.stk.a vw.stk.len vw.stk.cap, .slice vw.inp.a vw.inp.len vw.inp.cap, .slice vw.out.a vw.out.len vw.out.cap, .int .i64 m.steps, .int .i64 m.fin, .int .i64 m.val] 27)) := (d17.block _ ZW16.out).trans RW16.out
  have ZW17 : Hid (gW < u17.heap.size) := Nat.lt_of_lt_of_le ZW16.out d17.size
  have RX17 : Hid (u17.heap[gX]? = some (.cells #[.slice vx.code.a vx.code.len vx.code.cap, .int .i64 m.pc, .slice vx.regs.a vx.regs.len vx.regs.cap, .slice vx.data.a vx.data.len vx.data.cap, .slice vx.stk.a vx.stk.len vx.stk.cap, .slice vx.inp.a vx.inp.len vx.inp.cap, .slice vx.out.a vx.out.len vx.out.cap, .int .i64 m.steps, .int .i64 m.fin, .int .i64 m.val] 27)) := (d17.block _ ZX16.out).trans RX16.out
  have ZX17 : Hid (gX < u17.heap.size) := Nat.lt_of_lt_of_le ZX16.out d17.size
  have RG17 : Hid (u17.heap[gG]? = some (.cells #[.slice vg.code.a vg.code.len vg.code.cap, .int .i64 m.pc, .slice vg.regs.a vg.regs.len vg.regs.cap, .slice vg.data.a vg.data.len vg.data.cap, .slice vg.stk.a vg.stk.len vg.stk.cap, .slice vg.inp.a vg.inp.len vg.inp.cap, .slice vg.out.a vg.out.len vg.out.cap, .int .i64 m.steps, .int .i64 m.fin, .int .i64 m.val] 27)) := (d17.block _ ZG16.out).trans RG16.out
  have ZG17 : Hid (gG < u17.heap.size) := Nat.lt_of_lt_of_le ZG16.out d17.size
  have OW17 : Hid (MOwn u2.heap.size u17 vw m') := OW16.out.keep d17
  have OH17 : Hid (MOwn u15.heap.size u17 vh m') := OH16.out.keep d17
  have B17 : Hid (Below w.heap.size w u17) := B16.out.trans (d17.mono (Nat.le_of_lt ZA16.out))
  clear d17 RA16 ZA16 RW16 ZW16 RX16 ZX16 RG16 ZG16 OW16 OH16 B16
  obtain ⟨gH, hgH⟩ : ∃ g, g = u16.heap.size := ⟨_, rfl⟩
  rw [← hgH] at RH17 ZH17 ⊢
  have HGH : Hid (gH = u16.heap.size) := hgH
  clear hgH
  go_wp2_with (first | (refine wpList_load_row rfl 27 _ rfl (gH) ?hx 27 #[.slice vh.code.a vh.code.len vh.code.cap, .int .i64 m.pc, .slice vh.regs.a vh.regs.len vh.regs.cap, .slice vh.data.a vh.data.len vh.data.cap, .slice vh.stk.a vh.stk.len vh.stk.cap, .slice vh.inp.a vh.inp.len vh.inp.cap, .slice vh.out.a vh.out.len vh.out.cap, .int .i64 m.steps, .int .i64 m.fin, .int .i64 m.val] (0, 0) _ ?hg Try.underlying27 ?hd ?hi ?_; (case hx => rfl); (case hg => exact RH17.out); (case hd => rfl); (case hi => kernel_rfl)) | (refine wpList_load_row rfl 27 _ rfl (gW) ?hx 27 #[.slice vw.code.a vw.code.len vw.code.cap, .int .i64 m.pc, .slice vw.regs.a vw.regs.len vw.regs.cap, .slice vw.data.a vw.data.len vw.data.cap, .slice vw.stk.a vw.stk.len vw.stk.cap, .slice vw.inp.a vw.inp.len vw.inp.cap, .slice vw.out.a vw.out.len vw.out.cap, .int .i64 m.steps, .int .i64 m.fin, .int .i64 m.val] (0, 0) _ ?hg Try.underlying27 ?hd ?hi ?_; (case hx => rfl); (case hg => exact RW17.out); (case hd => rfl); (case hi => kernel_rfl)))
  refine (EQ.out _ _ vh vw u17 OH17.out.is OW17.out.is).mono ?_
  rintro e u18 ⟨rfl, d18⟩
  have RA18 : Hid (u18.heap[w.heap.size]? = some (.cells #[.slice v.code.a v.code.len v.code.cap, .int .i64 m.pc, .slice v.regs.a v.regs.len v.regs.cap, .slice v.data.a v.data.len v.data.cap, .slice v.stk.a v.stk.len v.stk.cap, .slice v.inp.a v.inp.len v.inp.cap, .slice v.out.a v.out.len v.out.cap, .int .i64 m.steps, .int .i64 m.fin, .int .i64 m.val] 25)) := (d18.block _ ZA17.out).trans RA17.out
  have ZA18 : Hid (w.heap.size < u18.heap.size) := Nat.lt_of_lt_of_le ZA17.out d18.size
  have RW18 : Hid (u18.heap[gW]? = some (.cells #[.slice vw.code.a vw.code.len vw.code.cap, .int .i64 m.pc, .slice vw.regs.a vw.regs.len vw.regs.cap, .slice vw.data.a vw.data.len vw.data.cap, .slice vw.stk.a vw.stk.len vw.stk.cap, .slice vw.inp.a vw.inp.len vw.inp.cap, .slice vw.out.a vw.out.len vw.out.cap, .int .i64 m.steps, .int .i64 m.fin, .int .i64 m.val] 27)) := (d18.block _ ZW17.out).trans RW17.out
  have ZW18 : Hid (gW < u18.heap.size) := Nat.lt_of_lt_of_le ZW17.out d18.size
  have RX18 : Hid (u18.heap[gX]? = some (.cells #[.slice vx.code.a vx.code.len vx.code.cap, .int .i64 m.pc, .slice vx.regs.a vx.regs.len vx.regs.cap, .slice vx.data.a vx.data.len vx.data.cap, .slice vx.stk.a vx.stk.len vx.stk.cap, .slice vx.inp.a vx.inp.len vx.inp.cap, .slice vx.out.a vx.out.len vx.out.cap, .int .i64 m.steps, .int .i64 m.fin, .int .i64 m.val] 27)) := (d18.block _ ZX17.out).trans RX17.out
  have ZX18 : Hid (gX < u18.heap.size) := Nat.lt_of_lt_of_le ZX17.out d18.size
  have RG18 : Hid (u18.heap[gG]? = some (.cells #[.slice vg.code.a vg.code.len vg.code.cap, .int .i64 m.pc, .slice vg.regs.a vg.regs.len vg.regs.cap, .slice vg.data.a vg.data.len vg.data.cap, .slice vg.stk.a vg.stk.len vg.stk.cap, .slice vg.inp.a vg.inp.len vg.inp.cap, .slice vg.out.a vg.out.len vg.out.cap, .int .i64 m.steps, .int .i64 m.fin, .int .i64 m.val] 27)) := (d18.block _ ZG17.out).trans RG17.out
  have ZG18 : Hid (gG < u18.heap.size) := Nat.lt_of_lt_of_le ZG17.out d18.size
  have RH18 : Hid (u18.heap[gH]? = some (.cells #[.slice vh.code.a vh.code.len vh.code.cap, .int .i64 m.pc, .slice vh.regs.a vh.regs.len vh.regs.cap, .slice vh.data.a vh.data.len vh.data.cap, .slice vh.stk.a vh.stk.len vh.stk.cap, .slice vh.inp.a vh.inp.len vh.inp.cap, .slice vh.out.a vh.out.len vh.out.cap, .int .i64 m.steps, .int .i64 m.fin, .int .i64 m.val] 27)) := (d18.block _ ZH17.out).trans RH17.out
  have ZH18 : Hid (gH < u18.heap.size) := Nat.lt_of_lt_of_le ZH17.out d18.size
  have OW18 : Hid (MOwn u2.heap.size u18 vw m') := OW17.out.keep d18
  have OH18 : Hid (MOwn u15.heap.size u18 vh m') := OH17.out.keep d18
  have B18 : Hid (Below w.heap.size w u18) := B17.out.trans (d18.mono (Nat.le_of_lt ZA17.out))
  clear d18 RA17 ZA17 RW17 ZW17 RX17 ZX17 RG17 ZG17 RH17 ZH17 OW17 OH17 B17
  go_wp2
  go_ret
  exact ⟨rfl, B18.out⟩
end Go.Proofs.Ytomhmjhcbencmaa.W
