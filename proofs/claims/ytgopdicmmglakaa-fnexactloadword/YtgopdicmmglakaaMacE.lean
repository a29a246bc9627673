import Derived.Test.YtgopdicmmglakaaMacM
set_option linter.unusedVariables false
namespace Go.Proofs.Ytgopdicmmglakaa.Pl
def mSize (m : Mac) : Nat := m.code.length + m.regs.length + m.data.length + m.stk.length + m.inp.length + m.out.length
end Go.Proofs.Ytgopdicmmglakaa.Pl
namespace Go.Proofs.Ytgopdicmmglakaa.W
open Go.RowKit
/-- a machine that the call itself made: each of its slices owned -/
def MOwn (lo : Nat) (w : World) (v : MV) (m : Pl.Mac) : Prop :=
  Own .i64 3 lo w v.code.a v.code.len v.code.cap m.code ∧ Own .i64 3 lo w v.regs.a v.regs.len v.regs.cap m.regs ∧ Own .u8 5 lo w v.data.a v.data.len v.data.cap m.data ∧
  Own .u8 5 lo w v.stk.a v.stk.len v.stk.cap m.stk ∧ Own .u8 5 lo w v.inp.a v.inp.len v.inp.cap m.inp ∧ Own .u8 5 lo w v.out.a v.out.len v.out.cap m.out
def IOwn (lo : Nat) (w : World) (v : IV) (m : Pl.Img) : Prop := Own .i64 3 lo w v.code.a v.code.len v.code.cap m.code ∧ Own .u8 5 lo w v.data.a v.data.len v.data.cap m.data
theorem IOwn.is {lo : Nat} {w : World} {v : IV} {m : Pl.Img} (h : IOwn lo w v m) : IIs lo w v m := ⟨h.1.row, h.2.row⟩
theorem IOwn.keep {lo : Nat} {w w' : World} {v : IV} {m : Pl.Img} (h : IOwn lo w v m) (hb : Below w.heap.size w w') : IOwn lo w' v m := ⟨h.1.keep hb, h.2.keep hb⟩
theorem MOwn.is {lo : Nat} {w : World} {v : MV} {m : Pl.Mac} (h : MOwn lo w v m) : MIs lo w v m := ⟨h.1.row, h.2.1.row, h.2.2.1.row, h.2.2.2.1.row, h.2.2.2.2.1.row, h.2.2.2.2.2.row⟩
theorem MOwn.keep {lo : Nat} {w w' : World} {v : MV} {m : Pl.Mac} (h : MOwn lo w v m) (hb : Below w.heap.size w w') : MOwn lo w' v m :=
  ⟨h.1.keep hb, h.2.1.keep hb, h.2.2.1.keep hb, h.2.2.2.1.keep hb, h.2.2.2.2.1.keep hb, h.2.2.2.2.2.keep hb⟩
set_option maxHeartbeats 2000000 in
/-- what is left of a bound behind one slice after another: below 0 when the sum is greater -/
theorem szMachine_any {lo : Nat} (v : MV) (m : Pl.Mac) (left : Int) (w : World) (h : MIs lo w v m) (h0 : 0 ≤ left ∧ left ≤ 1048576) :
    Calls Try.prog 7 #[.agg #[.slice v.code.a v.code.len v.code.cap, .int .i64 m.pc, .slice v.regs.a v.regs.len v.regs.cap, .slice v.data.a v.data.len v.data.cap, .slice v.stk.a v.stk.len v.stk.cap, .slice v.inp.a v.inp.len v.inp.cap, .slice v.out.a v.out.len v.out.cap, .int .i64 m.steps, .int .i64 m.fin, .int .i64 m.val], .int .i64 left] w fun e w' => ∃ r : Int, e = .returned (.int .i64 r) ∧ (if left < Pl.mSize m then r < 0 else 0 ≤ r) ∧ Below w.heap.size w w' := by
  obtain ⟨⟨ca, cl, cc⟩, ⟨ra, rl, rc⟩, ⟨da, dl, dc⟩, ⟨sa, sl, sc⟩, ⟨ia, il, ic⟩, ⟨oa, ol, oc⟩⟩ := v
  obtain ⟨code, pc, regs, data, stk, inp, out, steps, fin, val⟩ := m
  obtain ⟨r1, r2, r3, r4, r5, r6⟩ := h
  dsimp only at r1 r2 r3 r4 r5 r6 ⊢
  have l1 := r1.small
  have l2 := r2.small
  have l3 := r3.small
  have l4 := r4.small
  have l5 := r5.small
  have l6 := r6.small
  have hsum : Pl.mSize ⟨code, pc, regs, data, stk, inp, out, steps, fin, val⟩ = cl + rl + dl + sl + il + ol := by
    unfold Pl.mSize
    dsimp only
    rw [r1.1, r2.1, r3.1, r4.1, r5.1, r6.1]
  rw [hsum]
  clear hsum r1 r2 r3 r4 r5 r6
  by_cases c1 : (cl : Int) ≤ left
  rotate_left
  · go_enter Try.func7, Try.ntmps7
    go_wp2_with (first | (go_at_call 22; refine (szIntS_yes _ _ _ _ (by omega) (by omega) (by omega) _).mono ?_; rintro e w' ⟨rfl, rfl⟩) | (go_at_call 22; refine (szIntS_no _ _ _ _ (by omega) (by omega) (by omega) _).mono ?_; rintro e w' ⟨rfl, rfl⟩) | (go_at_call 23; refine (szByteS_yes _ _ _ _ (by omega) (by omega) (by omega) _).mono ?_; rintro e w' ⟨rfl, rfl⟩) | (go_at_call 23; refine (szByteS_no _ _ _ _ (by omega) (by omega) (by omega) _).mono ?_; rintro e w' ⟨rfl, rfl⟩))
    go_ret
    exact ⟨-1, rfl, by decide, below_alloc _ _⟩
  by_cases c2 : (cl : Int) + (rl : Int) ≤ left
  rotate_left
  · go_enter Try.func7, Try.ntmps7
    go_wp2_with (first | (go_at_call 22; refine (szIntS_yes _ _ _ _ (by omega) (by omega) (by omega) _).mono ?_; rintro e w' ⟨rfl, rfl⟩) | (go_at_call 22; refine (szIntS_no _ _ _ _ (by omega) (by omega) (by omega) _).mono ?_; rintro e w' ⟨rfl, rfl⟩) | (go_at_call 23; refine (szByteS_yes _ _ _ _ (by omega) (by omega) (by omega) _).mono ?_; rintro e w' ⟨rfl, rfl⟩) | (go_at_call 23; refine (szByteS_no _ _ _ _ (by omega) (by omega) (by omega) _).mono ?_; rintro e w' ⟨rfl, rfl⟩))
    go_ret
    exact ⟨-1, rfl, by decide, below_alloc _ _⟩
  by_cases c3 : (cl : Int) + (rl : Int) + (dl : Int) ≤ left
  rotate_left
  · go_enter Try.func7, Try.ntmps7
    go_wp2_with (first | (go_at_call 22; refine (szIntS_yes _ _ _ _ (by omega) (by omega) (by omega) _).mono ?_; rintro e w' ⟨rfl, rfl⟩) | (go_at_call 22; refine (szIntS_no _ _ _ _ (by omega) (by omega) (by omega) _).mono ?_; rintro e w' ⟨rfl, rfl⟩) | (go_at_call 23; refine (szByteS_yes _ _ _ _ (by omega) (by omega) (by omega) _).mono ?_; rintro e w' ⟨rfl, rfl⟩) | (go_at_call 23; refine (szByteS_no _ _ _ _ (by omega) (by omega) (by omega) _).mono ?_; rintro e w' ⟨rfl, rfl⟩))
    go_ret
    exact ⟨-1, rfl, by decide, below_alloc _ _⟩
  by_cases c4 : (cl : Int) + (rl : Int) + (dl : Int) + (sl : Int) ≤ left
  rotate_left
  · go_enter Try.func7, Try.ntmps7
    go_wp2_with (first | (go_at_call 22; refine (szIntS_yes _ _ _ _ (by omega) (by omega) (by omega) _).mono ?_; rintro e w' ⟨rfl, rfl⟩) | (go_at_call 22; refine (szIntS_no _ _ _ _ (by omega) (by omega) (by omega) _).mono ?_; rintro e w' ⟨rfl, rfl⟩) | (go_at_call 23; refine (szByteS_yes _ _ _ _ (by omega) (by omega) (by omega) _).mono ?_; rintro e w' ⟨rfl, rfl⟩) | (go_at_call 23; refine (szByteS_no _ _ _ _ (by omega) (by omega) (by omega) _).mono ?_; rintro e w' ⟨rfl, rfl⟩))
    go_ret
    exact ⟨-1, rfl, by decide, below_alloc _ _⟩
  by_cases c5 : (cl : Int) + (rl : Int) + (dl : Int) + (sl : Int) + (il : Int) ≤ left
  rotate_left
  · go_enter Try.func7, Try.ntmps7
    go_wp2_with (first | (go_at_call 22; refine (szIntS_yes _ _ _ _ (by omega) (by omega) (by omega) _).mono ?_; rintro e w' ⟨rfl, rfl⟩) | (go_at_call 22; refine (szIntS_no _ _ _ _ (by omega) (by omega) (by omega) _).mono ?_; rintro e w' ⟨rfl, rfl⟩) | (go_at_call 23; refine (szByteS_yes _ _ _ _ (by omega) (by omega) (by omega) _).mono ?_; rintro e w' ⟨rfl, rfl⟩) | (go_at_call 23; refine (szByteS_no _ _ _ _ (by omega) (by omega) (by omega) _).mono ?_; rintro e w' ⟨rfl, rfl⟩))
    go_ret
    exact ⟨-1, rfl, by decide, below_alloc _ _⟩
  by_cases c6 : (cl : Int) + (rl : Int) + (dl : Int) + (sl : Int) + (il : Int) + (ol : Int) ≤ left
  rotate_left
  · go_enter Try.func7, Try.ntmps7
    go_wp2_with (first | (go_at_call 22; refine (szIntS_yes _ _ _ _ (by omega) (by omega) (by omega) _).mono ?_; rintro e w' ⟨rfl, rfl⟩) | (go_at_call 22; refine (szIntS_no _ _ _ _ (by omega) (by omega) (by omega) _).mono ?_; rintro e w' ⟨rfl, rfl⟩) | (go_at_call 23; refine (szByteS_yes _ _ _ _ (by omega) (by omega) (by omega) _).mono ?_; rintro e w' ⟨rfl, rfl⟩) | (go_at_call 23; refine (szByteS_no _ _ _ _ (by omega) (by omega) (by omega) _).mono ?_; rintro e w' ⟨rfl, rfl⟩))
    go_ret
    exact ⟨-1, rfl, by decide, below_alloc _ _⟩
  · go_enter Try.func7, Try.ntmps7
    go_wp2_with (first | (go_at_call 22; refine (szIntS_yes _ _ _ _ (by omega) (by omega) (by omega) _).mono ?_; rintro e w' ⟨rfl, rfl⟩) | (go_at_call 22; refine (szIntS_no _ _ _ _ (by omega) (by omega) (by omega) _).mono ?_; rintro e w' ⟨rfl, rfl⟩) | (go_at_call 23; refine (szByteS_yes _ _ _ _ (by omega) (by omega) (by omega) _).mono ?_; rintro e w' ⟨rfl, rfl⟩) | (go_at_call 23; refine (szByteS_no _ _ _ _ (by omega) (by omega) (by omega) _).mono ?_; rintro e w' ⟨rfl, rfl⟩))
    go_ret
    exact ⟨_, rfl, by omega, below_alloc _ _⟩
theorem below_setRow {B : Nat} {a b : World} (h : Below B a b) {g : Nat} (hp : B ≤ g) (cs : Array Value) : Below B a (b.setRow g cs) :=
  ⟨h.os, h.tape, h.output, by simpa using h.size, fun k hk => (setRow_other b g k cs (by omega)).trans (h.block k hk)⟩
theorem row_put {u : World} {g : Nat} {cs cs' : Array Value} {t : TypeId} (q : u.heap[g]? = some (.cells cs t)) (j : Nat) (x : Value) (e : cs.setIfInBounds j x = cs') : (u.setCell ⟨g, j, none⟩ x).heap[g]? = some (.cells cs' t) := by
  rw [← e]; exact heap_setCell_same u g j cs t x q
theorem calls_at {P : Program} {f : Nat} {args : Array Value} {W : World} {Q : Ending → World → Prop} (h : ∀ U, U = W → Calls P f args U Q) : Calls P f args W Q := h W rfl
set_option maxHeartbeats 2000000 in
theorem toMachine_any {lo : Nat} (v : MV) (m : Pl.Mac) (w : World) (h : MIs lo w v m) (hsz : Pl.mSize m ≤ 1048576) :
    Calls Try.prog 9 #[.agg #[.slice v.code.a v.code.len v.code.cap, .int .i64 m.pc, .slice v.regs.a v.regs.len v.regs.cap, .slice v.data.a v.data.len v.data.cap, .slice v.stk.a v.stk.len v.stk.cap, .slice v.inp.a v.inp.len v.inp.cap, .slice v.out.a v.out.len v.out.cap, .int .i64 m.steps, .int .i64 m.fin, .int .i64 m.val]] w fun e w' => ∃ v' : MV, e = .returned (.agg #[.slice v'.code.a v'.code.len v'.code.cap, .int .i64 m.pc, .slice v'.regs.a v'.regs.len v'.regs.cap, .slice v'.data.a v'.data.len v'.data.cap, .slice v'.stk.a v'.stk.len v'.stk.cap, .slice v'.inp.a v'.inp.len v'.inp.cap, .slice v'.out.a v'.out.len v'.out.cap, .int .i64 m.steps, .int .i64 m.fin, .int .i64 m.val]) ∧ MOwn w.heap.size w' v' m ∧ Below w.heap.size w w' := by
  obtain ⟨⟨ca, cl, cc⟩, ⟨ra, rl, rc⟩, ⟨da, dl, dc⟩, ⟨sa, sl, sc⟩, ⟨ia, il, ic⟩, ⟨oa, ol, oc⟩⟩ := v
  obtain ⟨code, pc, regs, data, stk, inp, out, steps, fin, val⟩ := m
  unfold Pl.mSize at hsz
  obtain ⟨r1, r2, r3, r4, r5, r6⟩ := h
  dsimp only at r1 r2 r3 r4 r5 r6 hsz ⊢
  have hs : cl ≤ 1048576 ∧ rl ≤ 1048576 ∧ dl ≤ 1048576 ∧ sl ≤ 1048576 ∧ il ≤ 1048576 ∧ ol ≤ 1048576 := by
    rw [r1.1, r2.1, r3.1, r4.1, r5.1, r6.1] at hsz
    omega
  clear hsz
  obtain ⟨s1, s2, s3, s4, s5, s6⟩ := hs
  have R1 : Hid _ := r1
  have R2 : Hid _ := r2
  have R3 : Hid _ := r3
  have R4 : Hid _ := r4
  have R5 : Hid _ := r5
  have R6 : Hid _ := r6
  clear r1 r2 r3 r4 r5 r6
  go_enter Try.func9, Try.ntmps9
  go_wp2_with fail
  refine calls_at fun U1 hU1 => ?_
  have z1 : U1.heap.size = w.heap.size + 3 := by rw [hU1]; simp
  have bx1 : U1.heap[w.heap.size]? = some (.cells #[.slice ca cl cc, .int .i64 pc, .slice ra rl rc, .slice da dl dc, .slice sa sl sc, .slice ia il ic, .slice oa ol oc, .int .i64 steps, .int .i64 fin, .int .i64 val] 25) := by
    rw [hU1, Below.heap_alloc _ _ _ (by simp; omega), Below.heap_alloc _ _ _ (by simp)]
    exact heap_alloc_new w _
  have ot1 : U1.heap[w.heap.size + 1 + 1]? = some (.cells #[.slice none 0 0, .int .i64 0, .slice none 0 0, .slice none 0 0, .slice none 0 0, .slice none 0 0, .slice none 0 0, .int .i64 0, .int .i64 0, .int .i64 0] 28) := by
    rw [hU1]
    have := heap_alloc_new ((w.alloc (.cells #[.slice ca cl cc, .int .i64 pc, .slice ra rl rc, .slice da dl dc, .slice sa sl sc, .slice ia il ic, .slice oa ol oc, .int .i64 steps, .int .i64 fin, .int .i64 val] 25)).alloc (.cells #[.slice none 0 0, .int .i64 0, .slice none 0 0, .slice none 0 0, .slice none 0 0, .slice none 0 0, .slice none 0 0, .int .i64 0, .int .i64 0, .int .i64 0] 28)) (.cells #[.slice none 0 0, .int .i64 0, .slice none 0 0, .slice none 0 0, .slice none 0 0, .slice none 0 0, .slice none 0 0, .int .i64 0, .int .i64 0, .int .i64 0] 28)
    simpa using this
  have re1 : U1.heap[w.heap.size + 1]? = some (.cells #[.slice none 0 0, .int .i64 0, .slice none 0 0, .slice none 0 0, .slice none 0 0, .slice none 0 0, .slice none 0 0, .int .i64 0, .int .i64 0, .int .i64 0] 28) := by
    rw [hU1, Below.heap_alloc _ _ _ (by simp)]
    have := heap_alloc_new (w.alloc (.cells #[.slice ca cl cc, .int .i64 pc, .slice ra rl rc, .slice da dl dc, .slice sa sl sc, .slice ia il ic, .slice oa ol oc, .int .i64 steps, .int .i64 fin, .int .i64 val] 25)) (.cells #[.slice none 0 0, .int .i64 0, .slice none 0 0, .slice none 0 0, .slice none 0 0, .slice none 0 0, .slice none 0 0, .int .i64 0, .int .i64 0, .int .i64 0] 28)
    simpa using this
  have b1 : Below w.heap.size w U1 := by
    rw [hU1]
    exact (((Below.refl _ _).alloc (Nat.le_refl _) _).alloc (by simp) _).alloc (by simp; omega) _
  have HK1 : Hid (U1.heap.size = w.heap.size + 3 ∧ Below w.heap.size w U1) := ⟨z1, b1⟩
  refine (toIntS_any ca cl cc code U1 (Row.keep R1.out HK1.out.2) s1).mono ?_
  rintro e u1 ⟨rfl, o1, d1⟩
  have zz1 : w.heap.size + 1 + 1 < U1.heap.size := by have := HK1.out.1; omega
  have p1 : u1.heap[w.heap.size]? = some (.cells #[.slice ca cl cc, .int .i64 pc, .slice ra rl rc, .slice da dl dc, .slice sa sl sc, .slice ia il ic, .slice oa ol oc, .int .i64 steps, .int .i64 fin, .int .i64 val] 25) := by rw [d1.block _ (by omega)]; exact bx1
  have q1 : u1.heap[w.heap.size + 1 + 1]? = some (.cells #[.slice none 0 0, .int .i64 0, .slice none 0 0, .slice none 0 0, .slice none 0 0, .slice none 0 0, .slice none 0 0, .int .i64 0, .int .i64 0, .int .i64 0] 28) := by rw [d1.block _ (by omega)]; exact ot1
  have X1 : Hid (u1.heap[w.heap.size + 1]? = some (.cells #[.slice none 0 0, .int .i64 0, .slice none 0 0, .slice none 0 0, .slice none 0 0, .slice none 0 0, .slice none 0 0, .int .i64 0, .int .i64 0, .int .i64 0] 28)) := by
    show u1.heap[w.heap.size + 1]? = _
    rw [d1.block _ (by omega)]; exact re1
  have P1 : Hid _ := p1
  have Q1 : Hid _ := q1
  have kb : ∀ j, u1.cell? ⟨w.heap.size, j, none⟩ = (#[.slice ca cl cc, .int .i64 pc, .slice ra rl rc, .slice da dl dc, .slice sa sl sc, .slice ia il ic, .slice oa ol oc, .int .i64 steps, .int .i64 fin, .int .i64 val] : Array Value)[j]? := fun j => cell_of_row u1 w.heap.size j _ 25 (0, 0) p1
  have ko : ∀ j, u1.cell? ⟨w.heap.size + 1 + 1, j, none⟩ = (#[.slice none 0 0, .int .i64 0, .slice none 0 0, .slice none 0 0, .slice none 0 0, .slice none 0 0, .slice none 0 0, .int .i64 0, .int .i64 0, .int .i64 0] : Array Value)[j]? := fun j => cell_of_row u1 (w.heap.size + 1 + 1) j _ 28 (0, 0) q1
  have kf : ∀ j, u1.frozen? ⟨w.heap.size + 1 + 1, j, none⟩ = false := fun j => frozen_of_row u1 (w.heap.size + 1 + 1) j _ 28 q1
  have O1 : Hid (Own .i64 3 U1.heap.size u1 (some ⟨U1.heap.size, 0, none⟩) cl cl code) := o1
  have D1 : Hid (Below U1.heap.size U1 u1) := d1
  have B1 : Hid (Below w.heap.size w u1) := HK1.out.2.trans (d1.mono (by have := zz1; omega))
  have S1 : Hid (U1.heap.size ≤ u1.heap.size) := d1.size
  clear z1 b1 o1 d1 bx1 ot1 re1 hU1 p1 q1
  go_wp2_with fail
  clear kb ko kf

  refine calls_at fun U2 hU2 => ?_
  have bx2 : U2.heap[w.heap.size]? = some (.cells #[.slice ca cl cc, .int .i64 pc, .slice ra rl rc, .slice da dl dc, .slice sa sl sc, .slice ia il ic, .slice oa ol oc, .int .i64 steps, .int .i64 fin, .int .i64 val] 25) := by
    rw [hU2]
    repeat (first | exact P1.out | rw [heap_setCell_other _ _ _ _ (show w.heap.size ≠ w.heap.size + 1 + 1 by omega)])
  have ot2 : U2.heap[w.heap.size + 1 + 1]? = some (.cells #[.slice (some ⟨U1.heap.size, 0, none⟩) cl cl, .int .i64 pc, .slice none 0 0, .slice none 0 0, .slice none 0 0, .slice none 0 0, .slice none 0 0, .int .i64 0, .int .i64 0, .int .i64 0] 28) := by
    rw [hU2]
    exact row_put (row_put Q1.out 0 (.slice (some ⟨U1.heap.size, 0, none⟩) cl cl) rfl) 1 (.int .i64 pc) rfl
  have re2 : U2.heap[w.heap.size + 1]? = some (.cells #[.slice none 0 0, .int .i64 0, .slice none 0 0, .slice none 0 0, .slice none 0 0, .slice none 0 0, .slice none 0 0, .int .i64 0, .int .i64 0, .int .i64 0] 28) := by
    rw [hU2]
    repeat (first | exact X1.out | rw [heap_setCell_other _ _ _ _ (show w.heap.size + 1 ≠ w.heap.size + 1 + 1 by omega)])
  have HK2 : Hid (U2.heap.size = u1.heap.size ∧ Below w.heap.size w U2) := by
    rw [hU2]
    refine ⟨by simp, ?_⟩
    repeat (first | exact B1.out | refine Below.setCell ?_ (show w.heap.size ≤ w.heap.size + 1 + 1 by omega) _)
  have A1 : Hid (Above (w.heap.size + 1 + 1 + 1) u1 U2) := by
    rw [hU2]
    repeat (first | exact Above.refl _ _ | refine Above.setCell ?_ (show w.heap.size + 1 + 1 < w.heap.size + 1 + 1 + 1 by omega) _)
  refine (toIntS_any ra rl rc regs U2 (Row.keep R2.out HK2.out.2) s2).mono ?_
  rintro e u2 ⟨rfl, o2, d2⟩
  have zz2 : w.heap.size + 1 + 1 < U2.heap.size := by have := HK2.out.1; have := zz1; have := S1.out; omega
  have p2 : u2.heap[w.heap.size]? = some (.cells #[.slice ca cl cc, .int .i64 pc, .slice ra rl rc, .slice da dl dc, .slice sa sl sc, .slice ia il ic, .slice oa ol oc, .int .i64 steps, .int .i64 fin, .int .i64 val] 25) := by rw [d2.block _ (by omega)]; exact bx2
  have q2 : u2.heap[w.heap.size + 1 + 1]? = some (.cells #[.slice (some ⟨U1.heap.size, 0, none⟩) cl cl, .int .i64 pc, .slice none 0 0, .slice none 0 0, .slice none 0 0, .slice none 0 0, .slice none 0 0, .int .i64 0, .int .i64 0, .int .i64 0] 28) := by rw [d2.block _ (by omega)]; exact ot2
  have X2 : Hid (u2.heap[w.heap.size + 1]? = some (.cells #[.slice none 0 0, .int .i64 0, .slice none 0 0, .slice none 0 0, .slice none 0 0, .slice none 0 0, .slice none 0 0, .int .i64 0, .int .i64 0, .int .i64 0] 28)) := by
    show u2.heap[w.heap.size + 1]? = _
    rw [d2.block _ (by omega)]; exact re2
  have P2 : Hid _ := p2
  have Q2 : Hid _ := q2
  have kb : ∀ j, u2.cell? ⟨w.heap.size, j, none⟩ = (#[.slice ca cl cc, .int .i64 pc, .slice ra rl rc, .slice da dl dc, .slice sa sl sc, .slice ia il ic, .slice oa ol oc, .int .i64 steps, .int .i64 fin, .int .i64 val] : Array Value)[j]? := fun j => cell_of_row u2 w.heap.size j _ 25 (0, 0) p2
  have ko : ∀ j, u2.cell? ⟨w.heap.size + 1 + 1, j, none⟩ = (#[.slice (some ⟨U1.heap.size, 0, none⟩) cl cl, .int .i64 pc, .slice none 0 0, .slice none 0 0, .slice none 0 0, .slice none 0 0, .slice none 0 0, .int .i64 0, .int .i64 0, .int .i64 0] : Array Value)[j]? := fun j => cell_of_row u2 (w.heap.size + 1 + 1) j _ 28 (0, 0) q2
  have kf : ∀ j, u2.frozen? ⟨w.heap.size + 1 + 1, j, none⟩ = false := fun j => frozen_of_row u2 (w.heap.size + 1 + 1) j _ 28 q2
  have O2 : Hid (Own .i64 3 U2.heap.size u2 (some ⟨U2.heap.size, 0, none⟩) rl rl regs) := o2
  have D2 : Hid (Below U2.heap.size U2 u2) := d2
  have B2 : Hid (Below w.heap.size w u2) := HK2.out.2.trans (d2.mono (by have := zz2; omega))
  have S2 : Hid (U2.heap.size ≤ u2.heap.size) := d2.size
  clear o2 d2 bx2 ot2 re2 hU2 p2 q2
  go_wp2_with fail
  clear kb ko kf

  refine calls_at fun U3 hU3 => ?_
  have bx3 : U3.heap[w.heap.size]? = some (.cells #[.slice ca cl cc, .int .i64 pc, .slice ra rl rc, .slice da dl dc, .slice sa sl sc, .slice ia il ic, .slice oa ol oc, .int .i64 steps, .int .i64 fin, .int .i64 val] 25) := by
    rw [hU3]
    repeat (first | exact P2.out | rw [heap_setCell_other _ _ _ _ (show w.heap.size ≠ w.heap.size + 1 + 1 by omega)])
  have ot3 : U3.heap[w.heap.size + 1 + 1]? = some (.cells #[.slice (some ⟨U1.heap.size, 0, none⟩) cl cl, .int .i64 pc, .slice (some ⟨U2.heap.size, 0, none⟩) rl rl, .slice none 0 0, .slice none 0 0, .slice none 0 0, .slice none 0 0, .int .i64 0, .int .i64 0, .int .i64 0] 28) := by
    rw [hU3]
    exact row_put Q2.out 2 (.slice (some ⟨U2.heap.size, 0, none⟩) rl rl) rfl
  have re3 : U3.heap[w.heap.size + 1]? = some (.cells #[.slice none 0 0, .int .i64 0, .slice none 0 0, .slice none 0 0, .slice none 0 0, .slice none 0 0, .slice none 0 0, .int .i64 0, .int .i64 0, .int .i64 0] 28) := by
    rw [hU3]
    repeat (first | exact X2.out | rw [heap_setCell_other _ _ _ _ (show w.heap.size + 1 ≠ w.heap.size + 1 + 1 by omega)])
  have HK3 : Hid (U3.heap.size = u2.heap.size ∧ Below w.heap.size w U3) := by
    rw [hU3]
    refine ⟨by simp, ?_⟩
    repeat (first | exact B2.out | refine Below.setCell ?_ (show w.heap.size ≤ w.heap.size + 1 + 1 by omega) _)
  have A2 : Hid (Above (w.heap.size + 1 + 1 + 1) u2 U3) := by
    rw [hU3]
    repeat (first | exact Above.refl _ _ | refine Above.setCell ?_ (show w.heap.size + 1 + 1 < w.heap.size + 1 + 1 + 1 by omega) _)
  refine (toByteS_any da dl dc data U3 (Row.keep R3.out HK3.out.2) s3).mono ?_
  rintro e u3 ⟨rfl, o3, d3⟩
  have zz3 : w.heap.size + 1 + 1 < U3.heap.size := by have := HK3.out.1; have := zz2; have := S2.out; omega
  have p3 : u3.heap[w.heap.size]? = some (.cells #[.slice ca cl cc, .int .i64 pc, .slice ra rl rc, .slice da dl dc, .slice sa sl sc, .slice ia il ic, .slice oa ol oc, .int .i64 steps, .int .i64 fin, .int .i64 val] 25) := by rw [d3.block _ (by omega)]; exact bx3
  have q3 : u3.heap[w.heap.size + 1 + 1]? = some (.cells #[.slice (some ⟨U1.heap.size, 0, none⟩) cl cl, .int .i64 pc, .slice (some ⟨U2.heap.size, 0, none⟩) rl rl, .slice none 0 0, .slice none 0 0, .slice none 0 0, .slice none 0 0, .int .i64 0, .int .i64 0, .int .i64 0] 28) := by rw [d3.block _ (by omega)]; exact ot3
  have X3 : Hid (u3.heap[w.heap.size + 1]? = some (.cells #[.slice none 0 0, .int .i64 0, .slice none 0 0, .slice none 0 0, .slice none 0 0, .slice none 0 0, .slice none 0 0, .int .i64 0, .int .i64 0, .int .i64 0] 28)) := by
    show u3.heap[w.heap.size + 1]? = _
    rw [d3.block _ (by omega)]; exact re3
  have P3 : Hid _ := p3
  have Q3 : Hid _ := q3
  have kb : ∀ j, u3.cell? ⟨w.heap.size, j, none⟩ = (#[.slice ca cl cc, .int .i64 pc, .slice ra rl rc, .slice da dl dc, .slice sa sl sc, .slice ia il ic, .slice oa ol oc, .int .i64 steps, .int .i64 fin, .int .i64 val] : Array Value)[j]? := fun j => cell_of_row u3 w.heap.size j _ 25 (0, 0) p3
  have ko : ∀ j, u3.cell? ⟨w.heap.size + 1 + 1, j, none⟩ = (#[.slice (some ⟨U1.heap.size, 0, none⟩) cl cl, .int .i64 pc, .slice (some ⟨U2.heap.size, 0, none⟩) rl rl, .slice none 0 0, .slice none 0 0, .slice none 0 0, .slice none 0 0, .int .i64 0, .int .i64 0, .int .i64 0] : Array Value)[j]? := fun j => cell_of_row u3 (w.heap.size + 1 + 1) j _ 28 (0, 0) q3
  have kf : ∀ j, u3.frozen? ⟨w.heap.size + 1 + 1, j, none⟩ = false := fun j => frozen_of_row u3 (w.heap.size + 1 + 1) j _ 28 q3
  have O3 : Hid (Own .u8 5 U3.heap.size u3 (some ⟨U3.heap.size, 0, none⟩) dl dl data) := o3
  have D3 : Hid (Below U3.heap.size U3 u3) := d3
  have B3 : Hid (Below w.heap.size w u3) := HK3.out.2.trans (d3.mono (by have := zz3; omega))
  have S3 : Hid (U3.heap.size ≤ u3.heap.size) := d3.size
  clear o3 d3 bx3 ot3 re3 hU3 p3 q3
  go_wp2_with fail
  clear kb ko kf

  refine calls_at fun U4 hU4 => ?_
  have bx4 : U4.heap[w.heap.size]? = some (.cells #[.slice ca cl cc, .int .i64 pc, .slice ra rl rc, .slice da dl dc, .slice sa sl sc, .slice ia il ic, .slice oa ol oc, .int .i64 steps, .int .i64 fin, .int .i64 val] 25) := by
    rw [hU4]
    repeat (first | exact P3.out | rw [heap_setCell_other _ _ _ _ (show w.heap.size ≠ w.heap.size + 1 + 1 by omega)])
  have ot4 : U4.heap[w.heap.size + 1 + 1]? = some (.cells #[.slice (some ⟨U1.heap.size, 0, none⟩) cl cl, .int .i64 pc, .slice (some ⟨U2.heap.size, 0, none⟩) rl rl, .slice (some ⟨U3.heap.size, 0, none⟩) dl dl, .slice none 0 0, .slice none 0 0, .slice none 0 0, .int .i64 0, .int .i64 0, .int .i64 0] 28) := by
    rw [hU4]
    exact row_put Q3.out 3 (.slice (some ⟨U3.heap.size, 0, none⟩) dl dl) rfl
  have re4 : U4.heap[w.heap.size + 1]? = some (.cells #[.slice none 0 0, .int .i64 0, .slice none 0 0, .slice none 0 0, .slice none 0 0, .slice none 0 0, .slice none 0 0, .int .i64 0, .int .i64 0, .int .i64 0] 28) := by
    rw [hU4]
    repeat (first | exact X3.out | rw [heap_setCell_other _ _ _ _ (show w.heap.size + 1 ≠ w.heap.size + 1 + 1 by omega)])
  have HK4 : Hid (U4.heap.size = u3.heap.size ∧ Below w.heap.size w U4) := by
    rw [hU4]
    refine ⟨by simp, ?_⟩
    repeat (first | exact B3.out | refine Below.setCell ?_ (show w.heap.size ≤ w.heap.size + 1 + 1 by omega) _)
  have A3 : Hid (Above (w.heap.size + 1 + 1 + 1) u3 U4) := by
    rw [hU4]
    repeat (first | exact Above.refl _ _ | refine Above.setCell ?_ (show w.heap.size + 1 + 1 < w.heap.size + 1 + 1 + 1 by omega) _)
  refine (toByteS_any sa sl sc stk U4 (Row.keep R4.out HK4.out.2) s4).mono ?_
  rintro e u4 ⟨rfl, o4, d4⟩
  have zz4 : w.heap.size + 1 + 1 < U4.heap.size := by have := HK4.out.1; have := zz3; have := S3.out; omega
  have p4 : u4.heap[w.heap.size]? = some (.cells #[.slice ca cl cc, .int .i64 pc, .slice ra rl rc, .slice da dl dc, .slice sa sl sc, .slice ia il ic, .slice oa ol oc, .int .i64 steps, .int .i64 fin, .int .i64 val] 25) := by rw [d4.block _ (by omega)]; exact bx4
  have q4 : u4.heap[w.heap.size + 1 + 1]? = some (.cells #[.slice (some ⟨U1.heap.size, 0, none⟩) cl cl, .int .i64 pc, .slice (some ⟨U2.heap.size, 0, none⟩) rl rl, .slice (some ⟨U3.heap.size, 0, none⟩) dl dl, .slice none 0 0, .slice none 0 0, .slice none 0 0, .int .i64 0, .int .i64 0, .int .i64 0] 28) := by rw [d4.block _ (by omega)]; exact ot4
  have X4 : Hid (u4.heap[w.heap.size + 1]? = some (.cells #[.slice none 0 0, .int .i64 0, .slice none 0 0, .slice none 0 0, .slice none 0 0, .slice none 0 0, .slice none 0 0, .int .i64 0, .int .i64 0, .int .i64 0] 28)) := by
    show u4.heap[w.heap.size + 1]? = _
    rw [d4.block _ (by omega)]; exact re4
  have P4 : Hid _ := p4
  have Q4 : Hid _ := q4
  have kb : ∀ j, u4.cell? ⟨w.heap.size, j, none⟩ = (#[.slice ca cl cc, .int .i64 pc, .slice ra rl rc, .slice da dl dc, .slice sa sl sc, .slice ia il ic, .slice oa ol oc, .int .i64 steps, .int .i64 fin, .int .i64 val] : Array Value)[j]? := fun j => cell_of_row u4 w.heap.size j _ 25 (0, 0) p4
  have ko : ∀ j, u4.cell? ⟨w.heap.size + 1 + 1, j, none⟩ = (#[.slice (some ⟨U1.heap.size, 0, none⟩) cl cl, .int .i64 pc, .slice (some ⟨U2.heap.size, 0, none⟩) rl rl, .slice (some ⟨U3.heap.size, 0, none⟩) dl dl, .slice none 0 0, .slice none 0 0, .slice none 0 0, .int .i64 0, .int .i64 0, .int .i64 0] : Array Value)[j]? := fun j => cell_of_row u4 (w.heap.size + 1 + 1) j _ 28 (0, 0) q4
  have kf : ∀ j, u4.frozen? ⟨w.heap.size + 1 + 1, j, none⟩ = false := fun j => frozen_of_row u4 (w.heap.size + 1 + 1) j _ 28 q4
  have O4 : Hid (Own .u8 5 U4.heap.size u4 (some ⟨U4.heap.size, 0, none⟩) sl sl stk) := o4
  have D4 : Hid (Below U4.heap.size U4 u4) := d4
  have B4 : Hid (Below w.heap.size w u4) := HK4.out.2.trans (d4.mono (by have := zz4; omega))
  have S4 : Hid (U4.heap.size ≤ u4.heap.size) := d4.size
  clear o4 d4 bx4 ot4 re4 hU4 p4 q4
  go_wp2_with fail
  clear kb ko kf

  refine calls_at fun U5 hU5 => ?_
  have bx5 : U5.heap[w.heap.size]? = some (.cells #[.slice ca cl cc, .int .i64 pc, .slice ra rl rc, .slice da dl dc, .slice sa sl sc, .slice ia il ic, .slice oa ol oc, .int .i64 steps, .int .i64 fin, .int .i64 val] 25) := by
    rw [hU5]
    repeat (first | exact P4.out | rw [heap_setCell_other _ _ _ _ (show w.heap.size ≠ w.heap.size + 1 + 1 by omega)])
  have ot5 : U5.heap[w.heap.size + 1 + 1]? = some (.cells #[.slice (some ⟨U1.heap.size, 0, none⟩) cl cl, .int .i64 pc, .slice (some ⟨U2.heap.size, 0, none⟩) rl rl, .slice (some ⟨U3.heap.size, 0, none⟩) dl dl, .slice (some ⟨U4.heap.size, 0, none⟩) sl sl, .slice none 0 0, .slice none 0 0, .int .i64 0, .int .i64 0, .int .i64 0] 28) := by
    rw [hU5]
    exact row_put Q4.out 4 (.slice (some ⟨U4.heap.size, 0, none⟩) sl sl) rfl
  have re5 : U5.heap[w.heap.size + 1]? = some (.cells #[.slice none 0 0, .int .i64 0, .slice none 0 0, .slice none 0 0, .slice none 0 0, .slice none 0 0, .slice none 0 0, .int .i64 0, .int .i64 0, .int .i64 0] 28) := by
    rw [hU5]
    repeat (first | exact X4.out | rw [heap_setCell_other _ _ _ _ (show w.heap.size + 1 ≠ w.heap.size + 1 + 1 by omega)])
  have HK5 : Hid (U5.heap.size = u4.heap.size ∧ Below w.heap.size w U5) := by
    rw [hU5]
    refine ⟨by simp, ?_⟩
    repeat (first | exact B4.out | refine Below.setCell ?_ (show w.heap.size ≤ w.heap.size + 1 + 1 by omega) _)
  have A4 : Hid (Above (w.heap.size + 1 + 1 + 1) u4 U5) := by
    rw [hU5]
    repeat (first | exact Above.refl _ _ | refine Above.setCell ?_ (show w.heap.size + 1 + 1 < w.heap.size + 1 + 1 + 1 by omega) _)
  refine (toByteS_any ia il ic inp U5 (Row.keep R5.out HK5.out.2) s5).mono ?_
  rintro e u5 ⟨rfl, o5, d5⟩
  have zz5 : w.heap.size + 1 + 1 < U5.heap.size := by have := HK5.out.1; have := zz4; have := S4.out; omega
  have p5 : u5.heap[w.heap.size]? = some (.cells #[.slice ca cl cc, .int .i64 pc, .slice ra rl rc, .slice da dl dc, .slice sa sl sc, .slice ia il ic, .slice oa ol oc, .int .i64 steps, .int .i64 fin, .int .i64 val] 25) := by rw [d5.block _ (by omega)]; exact bx5
  have q5 : u5.heap[w.heap.size + 1 + 1]? = some (.cells #[.slice (some ⟨U1.heap.size, 0, none⟩) cl cl, .int .i64 pc, .slice (some ⟨U2.heap.size, 0, none⟩) rl rl, .slice (some ⟨U3.heap.size, 0, none⟩) dl dl, .slice (some ⟨U4.heap.size, 0, none⟩) sl sl, .slice none 0 0, .slice none 0 0, .int .i64 0, .int .i64 0, .int .i64 0] 28) := by rw [d5.block _ (by omega)]; exact ot5
  have X5 : Hid (u5.heap[w.heap.size + 1]? = some (.cells #[.slice none 0 0, .int .i64 0, .slice none 0 0, .slice none 0 0, .slice none 0 0, .slice none 0 0, .slice none 0 0, .int .i64 0, .int .i64 0, .int .i64 0] 28)) := by
    show u5.heap[w.heap.size + 1]? = _
    rw [d5.block _ (by omega)]; exact re5
  have P5 : Hid _ := p5
  have Q5 : Hid _ := q5
  have kb : ∀ j, u5.cell? ⟨w.heap.size, j, none⟩ = (#[.slice ca cl cc, .int .i64 pc, .slice ra rl rc, .slice da dl dc, .slice sa sl sc, .slice ia il ic, .slice oa ol oc, .int .i64 steps, .int .i64 fin, .int .i64 val] : Array Value)[j]? := fun j => cell_of_row u5 w.heap.size j _ 25 (0, 0) p5
  have ko : ∀ j, u5.cell? ⟨w.heap.size + 1 + 1, j, none⟩ = (#[.slice (some ⟨U1.heap.size, 0, none⟩) cl cl, .int .i64 pc, .slice (some ⟨U2.heap.size, 0, none⟩) rl rl, .slice (some ⟨U3.heap.size, 0, none⟩) dl dl, .slice (some ⟨U4.heap.size, 0, none⟩) sl sl, .slice none 0 0, .slice none 0 0, .int .i64 0, .int .i64 0, .int .i64 0] : Array Value)[j]? := fun j => cell_of_row u5 (w.heap.size + 1 + 1) j _ 28 (0, 0) q5
  have kf : ∀ j, u5.frozen? ⟨w.heap.size + 1 + 1, j, none⟩ = false := fun j => frozen_of_row u5 (w.heap.size + 1 + 1) j _ 28 q5
  have O5 : Hid (Own .u8 5 U5.heap.size u5 (some ⟨U5.heap.size, 0, none⟩) il il inp) := o5
  have D5 : Hid (Below U5.heap.size U5 u5) := d5
  have B5 : Hid (Below w.heap.size w u5) := HK5.out.2.trans (d5.mono (by have := zz5; omega))
  have S5 : Hid (U5.heap.size ≤ u5.heap.size) := d5.size
  clear o5 d5 bx5 ot5 re5 hU5 p5 q5
  go_wp2_with fail
  clear kb ko kf

  refine calls_at fun U6 hU6 => ?_
  have bx6 : U6.heap[w.heap.size]? = some (.cells #[.slice ca cl cc, .int .i64 pc, .slice ra rl rc, .slice da dl dc, .slice sa sl sc, .slice ia il ic, .slice oa ol oc, .int .i64 steps, .int .i64 fin, .int .i64 val] 25) := by
    rw [hU6]
    repeat (first | exact P5.out | rw [heap_setCell_other _ _ _ _ (show w.heap.size ≠ w.heap.size + 1 + 1 by omega)])
  have ot6 : U6.heap[w.heap.size + 1 + 1]? = some (.cells #[.slice (some ⟨U1.heap.size, 0, none⟩) cl cl, .int .i64 pc, .slice (some ⟨U2.heap.size, 0, none⟩) rl rl, .slice (some ⟨U3.heap.size, 0, none⟩) dl dl, .slice (some ⟨U4.heap.size, 0, none⟩) sl sl, .slice (some ⟨U5.heap.size, 0, none⟩) il il, .slice none 0 0, .int .i64 0, .int .i64 0, .int .i64 0] 28) := by
    rw [hU6]
    exact row_put Q5.out 5 (.slice (some ⟨U5.heap.size, 0, none⟩) il il) rfl
  have re6 : U6.heap[w.heap.size + 1]? = some (.cells #[.slice none 0 0, .int .i64 0, .slice none 0 0, .slice none 0 0, .slice none 0 0, .slice none 0 0, .slice none 0 0, .int .i64 0, .int .i64 0, .int .i64 0] 28) := by
    rw [hU6]
    repeat (first | exact X5.out | rw [heap_setCell_other _ _ _ _ (show w.heap.size + 1 ≠ w.heap.size + 1 + 1 by omega)])
  have HK6 : Hid (U6.heap.size = u5.heap.size ∧ Below w.heap.size w U6) := by
    rw [hU6]
    refine ⟨by simp, ?_⟩
    repeat (first | exact B5.out | refine Below.setCell ?_ (show w.heap.size ≤ w.heap.size + 1 + 1 by omega) _)
  have A5 : Hid (Above (w.heap.size + 1 + 1 + 1) u5 U6) := by
    rw [hU6]
    repeat (first | exact Above.refl _ _ | refine Above.setCell ?_ (show w.heap.size + 1 + 1 < w.heap.size + 1 + 1 + 1 by omega) _)
  refine (toByteS_any oa ol oc out U6 (Row.keep R6.out HK6.out.2) s6).mono ?_
  rintro e u6 ⟨rfl, o6, d6⟩
  have zz6 : w.heap.size + 1 + 1 < U6.heap.size := by have := HK6.out.1; have := zz5; have := S5.out; omega
  have p6 : u6.heap[w.heap.size]? = some (.cells #[.slice ca cl cc, .int .i64 pc, .slice ra rl rc, .slice da dl dc, .slice sa sl sc, .slice ia il ic, .slice oa ol oc, .int .i64 steps, .int .i64 fin, .int .i64 val] 25) := by rw [d6.block _ (by omega)]; exact bx6
  have q6 : u6.heap[w.heap.size + 1 + 1]? = some (.cells #[.slice (some ⟨U1.heap.size, 0, none⟩) cl cl, .int .i64 pc, .slice (some ⟨U2.heap.size, 0, none⟩) rl rl, .slice (some ⟨U3.heap.size, 0, none⟩) dl dl, .slice (some ⟨U4.heap.size, 0, none⟩) sl sl, .slice (some ⟨U5.heap.size, 0, none⟩) il il, .slice none 0 0, .int .i64 0, .int .i64 0, .int .i64 0] 28) := by rw [d6.block _ (by omega)]; exact ot6
  have X6 : Hid (u6.heap[w.heap.size + 1]? = some (.cells #[.slice none 0 0, .int .i64 0, .slice none 0 0, .slice none 0 0, .slice none 0 0, .slice none 0 0, .slice none 0 0, .int .i64 0, .int .i64 0, .int .i64 0] 28)) := by
    show u6.heap[w.heap.size + 1]? = _
    rw [d6.block _ (by omega)]; exact re6
  have P6 : Hid _ := p6
  have Q6 : Hid _ := q6
  have kb : ∀ j, u6.cell? ⟨w.heap.size, j, none⟩ = (#[.slice ca cl cc, .int .i64 pc, .slice ra rl rc, .slice da dl dc, .slice sa sl sc, .slice ia il ic, .slice oa ol oc, .int .i64 steps, .int .i64 fin, .int .i64 val] : Array Value)[j]? := fun j => cell_of_row u6 w.heap.size j _ 25 (0, 0) p6
  have ko : ∀ j, u6.cell? ⟨w.heap.size + 1 + 1, j, none⟩ = (#[.slice (some ⟨U1.heap.size, 0, none⟩) cl cl, .int .i64 pc, .slice (some ⟨U2.heap.size, 0, none⟩) rl rl, .slice (some ⟨U3.heap.size, 0, none⟩) dl dl, .slice (some ⟨U4.heap.size, 0, none⟩) sl sl, .slice (some ⟨U5.heap.size, 0, none⟩) il il, .slice none 0 0, .int .i64 0, .int .i64 0, .int .i64 0] : Array Value)[j]? := fun j => cell_of_row u6 (w.heap.size + 1 + 1) j _ 28 (0, 0) q6
  have kf : ∀ j, u6.frozen? ⟨w.heap.size + 1 + 1, j, none⟩ = false := fun j => frozen_of_row u6 (w.heap.size + 1 + 1) j _ 28 q6
  have O6 : Hid (Own .u8 5 U6.heap.size u6 (some ⟨U6.heap.size, 0, none⟩) ol ol out) := o6
  have D6 : Hid (Below U6.heap.size U6 u6) := d6
  have B6 : Hid (Below w.heap.size w u6) := HK6.out.2.trans (d6.mono (by have := zz6; omega))
  have S6 : Hid (U6.heap.size ≤ u6.heap.size) := d6.size
  clear o6 d6 bx6 ot6 re6 hU6 p6 q6
  have hrow : ((((u6.setCell ⟨w.heap.size + 1 + 1, 6, none⟩ (.slice (some ⟨U6.heap.size, 0, none⟩) ol ol)).setCell ⟨w.heap.size + 1 + 1, 7, none⟩ (.int .i64 steps)).setCell ⟨w.heap.size + 1 + 1, 8, none⟩ (.int .i64 fin)).setCell ⟨w.heap.size + 1 + 1, 9, none⟩ (.int .i64 val)).heap[w.heap.size + 1 + 1]? = some (.cells #[.slice (some ⟨U1.heap.size, 0, none⟩) cl cl, .int .i64 pc, .slice (some ⟨U2.heap.size, 0, none⟩) rl rl, .slice (some ⟨U3.heap.size, 0, none⟩) dl dl, .slice (some ⟨U4.heap.size, 0, none⟩) sl sl, .slice (some ⟨U5.heap.size, 0, none⟩) il il, .slice (some ⟨U6.heap.size, 0, none⟩) ol ol, .int .i64 steps, .int .i64 fin, .int .i64 val] 28) := row_put (row_put (row_put (row_put (Q6.out) 6 (.slice (some ⟨U6.heap.size, 0, none⟩) ol ol) rfl) 7 (.int .i64 steps) rfl) 8 (.int .i64 fin) rfl) 9 (.int .i64 val) rfl
  have hres : ((((u6.setCell ⟨w.heap.size + 1 + 1, 6, none⟩ (.slice (some ⟨U6.heap.size, 0, none⟩) ol ol)).setCell ⟨w.heap.size + 1 + 1, 7, none⟩ (.int .i64 steps)).setCell ⟨w.heap.size + 1 + 1, 8, none⟩ (.int .i64 fin)).setCell ⟨w.heap.size + 1 + 1, 9, none⟩ (.int .i64 val)).heap[w.heap.size + 1]? = some (.cells #[.slice none 0 0, .int .i64 0, .slice none 0 0, .slice none 0 0, .slice none 0 0, .slice none 0 0, .slice none 0 0, .int .i64 0, .int .i64 0, .int .i64 0] 28) := by
    repeat (first | exact X6.out | rw [heap_setCell_other _ _ _ _ (show w.heap.size + 1 ≠ w.heap.size + 1 + 1 by omega)])
  have HRES : Hid _ := hres
  have HROW : Hid _ := hrow
  clear hrow hres
  have HAB : Hid (Above (w.heap.size + 1 + 1 + 1) u6 ((((u6.setCell ⟨w.heap.size + 1 + 1, 6, none⟩ (.slice (some ⟨U6.heap.size, 0, none⟩) ol ol)).setCell ⟨w.heap.size + 1 + 1, 7, none⟩ (.int .i64 steps)).setCell ⟨w.heap.size + 1 + 1, 8, none⟩ (.int .i64 fin)).setCell ⟨w.heap.size + 1 + 1, 9, none⟩ (.int .i64 val)) ∧ Below w.heap.size w ((((u6.setCell ⟨w.heap.size + 1 + 1, 6, none⟩ (.slice (some ⟨U6.heap.size, 0, none⟩) ol ol)).setCell ⟨w.heap.size + 1 + 1, 7, none⟩ (.int .i64 steps)).setCell ⟨w.heap.size + 1 + 1, 8, none⟩ (.int .i64 fin)).setCell ⟨w.heap.size + 1 + 1, 9, none⟩ (.int .i64 val))) := by
    refine ⟨?_, ?_⟩
    · repeat (first | exact Above.refl _ _ | refine Above.setCell ?_ (show w.heap.size + 1 + 1 < w.heap.size + 1 + 1 + 1 by omega) _)
    · repeat (first | exact B6.out | refine Below.setCell ?_ (show w.heap.size ≤ w.heap.size + 1 + 1 by omega) _)
  go_wp2_with (refine wpList_load_row rfl 28 _ rfl (w.heap.size + 1 + 1) ?hx 28 #[.slice (some ⟨U1.heap.size, 0, none⟩) cl cl, .int .i64 pc, .slice (some ⟨U2.heap.size, 0, none⟩) rl rl, .slice (some ⟨U3.heap.size, 0, none⟩) dl dl, .slice (some ⟨U4.heap.size, 0, none⟩) sl sl, .slice (some ⟨U5.heap.size, 0, none⟩) il il, .slice (some ⟨U6.heap.size, 0, none⟩) ol ol, .int .i64 steps, .int .i64 fin, .int .i64 val] (0, 0) _ ?hg Try.underlying28 ?hd ?hi ?_; (case hx => rfl); (case hg => exact HROW.out); (case hd => rfl); (case hi => kernel_rfl); refine Hid.out ?_)
  unfold Hid
  clear kb ko kf
  refine wpList_store_row rfl 28 _ _ rfl (w.heap.size + 1) #[.slice (some ⟨U1.heap.size, 0, none⟩) cl cl, .int .i64 pc, .slice (some ⟨U2.heap.size, 0, none⟩) rl rl, .slice (some ⟨U3.heap.size, 0, none⟩) dl dl, .slice (some ⟨U4.heap.size, 0, none⟩) sl sl, .slice (some ⟨U5.heap.size, 0, none⟩) il il, .slice (some ⟨U6.heap.size, 0, none⟩) ol ol, .int .i64 steps, .int .i64 fin, .int .i64 val] ?hx ?hy 28 #[.slice none 0 0, .int .i64 0, .slice none 0 0, .slice none 0 0, .slice none 0 0, .slice none 0 0, .slice none 0 0, .int .i64 0, .int .i64 0, .int .i64 0] ?hg ?hi ?ho ?h1 ?_
  case hx => rfl
  case hy => rfl
  case hg => exact HRES.out
  case hi => kernel_rfl
  case ho => kernel_rfl
  case h1 => kernel_rfl
  go_wp2_with fail
  refine bodyPost_ret (v := .agg #[.slice (some ⟨U1.heap.size, 0, none⟩) cl cl, .int .i64 pc, .slice (some ⟨U2.heap.size, 0, none⟩) rl rl, .slice (some ⟨U3.heap.size, 0, none⟩) dl dl, .slice (some ⟨U4.heap.size, 0, none⟩) sl sl, .slice (some ⟨U5.heap.size, 0, none⟩) il il, .slice (some ⟨U6.heap.size, 0, none⟩) ol ol, .int .i64 steps, .int .i64 fin, .int .i64 val]) ?hres rfl ⟨⟨⟨some ⟨U1.heap.size, 0, none⟩, cl, cl⟩, ⟨some ⟨U2.heap.size, 0, none⟩, rl, rl⟩, ⟨some ⟨U3.heap.size, 0, none⟩, dl, dl⟩, ⟨some ⟨U4.heap.size, 0, none⟩, sl, sl⟩, ⟨some ⟨U5.heap.size, 0, none⟩, il, il⟩, ⟨some ⟨U6.heap.size, 0, none⟩, ol, ol⟩⟩, rfl, ⟨((O1.out.same ((A1.out.trans (Above.of_below D2.out)).trans ((A2.out.trans (Above.of_below D3.out)).trans ((A3.out.trans (Above.of_below D4.out)).trans ((A4.out.trans (Above.of_below D5.out)).trans ((A5.out.trans (Above.of_below D6.out)).trans (HAB.out.1.setRow (show w.heap.size + 1 < w.heap.size + 1 + 1 + 1 from by omega) _)))))) (by have := zz1; omega)).lower (by have := zz1; omega)), ((O2.out.same ((A2.out.trans (Above.of_below D3.out)).trans ((A3.out.trans (Above.of_below D4.out)).trans ((A4.out.trans (Above.of_below D5.out)).trans ((A5.out.trans (Above.of_below D6.out)).trans (HAB.out.1.setRow (show w.heap.size + 1 < w.heap.size + 1 + 1 + 1 from by omega) _))))) (by have := zz2; omega)).lower (by have := zz2; omega)), ((O3.out.same ((A3.out.trans (Above.of_below D4.out)).trans ((A4.out.trans (Above.of_below D5.out)).trans ((A5.out.trans (Above.of_below D6.out)).trans (HAB.out.1.setRow (show w.heap.size + 1 < w.heap.size + 1 + 1 + 1 from by omega) _)))) (by have := zz3; omega)).lower (by have := zz3; omega)), ((O4.out.same ((A4.out.trans (Above.of_below D5.out)).trans ((A5.out.trans (Above.of_below D6.out)).trans (HAB.out.1.setRow (show w.heap.size + 1 < w.heap.size + 1 + 1 + 1 from by omega) _))) (by have := zz4; omega)).lower (by have := zz4; omega)), ((O5.out.same ((A5.out.trans (Above.of_below D6.out)).trans (HAB.out.1.setRow (show w.heap.size + 1 < w.heap.size + 1 + 1 + 1 from by omega) _)) (by have := zz5; omega)).lower (by have := zz5; omega)), ((O6.out.same (HAB.out.1.setRow (show w.heap.size + 1 < w.heap.size + 1 + 1 + 1 from by omega) _) (by have := zz6; omega)).lower (by have := zz6; omega))⟩, (below_setRow HAB.out.2 (show w.heap.size ≤ w.heap.size + 1 from by omega) _)⟩
  case hres =>
    refine results_cell_row Try.results9 _ _ (w.heap.size + 1) 28 #[.slice (some ⟨U1.heap.size, 0, none⟩) cl cl, .int .i64 pc, .slice (some ⟨U2.heap.size, 0, none⟩) rl rl, .slice (some ⟨U3.heap.size, 0, none⟩) dl dl, .slice (some ⟨U4.heap.size, 0, none⟩) sl sl, .slice (some ⟨U5.heap.size, 0, none⟩) il il, .slice (some ⟨U6.heap.size, 0, none⟩) ol ol, .int .i64 steps, .int .i64 fin, .int .i64 val] (0, 0) _ ?hp ?hg Try.underlying28 ?hd ?hi
    case hp => rfl
    case hg => exact setRow_heap _ _ _ _ _ _ HRES.out
    case hd => rfl
    case hi => kernel_rfl
set_option maxHeartbeats 2000000 in
theorem toImage_any {lo : Nat} (v : IV) (m : Pl.Img) (w : World) (h : IIs lo w v m) (hsz : m.code.length + m.data.length ≤ 1048576) :
    Calls Try.prog 14 #[.agg #[.slice v.code.a v.code.len v.code.cap, .slice v.data.a v.data.len v.data.cap, .int .i64 m.entry, .int .i64 m.size]] w fun e w' => ∃ v' : IV, e = .returned (.agg #[.slice v'.code.a v'.code.len v'.code.cap, .slice v'.data.a v'.data.len v'.data.cap, .int .i64 m.entry, .int .i64 m.size]) ∧ IOwn w.heap.size w' v' m ∧ Below w.heap.size w w' := by
  obtain ⟨⟨ca, cl, cc⟩, ⟨da, dl, dc⟩⟩ := v
  obtain ⟨code, data, entry, size⟩ := m
  obtain ⟨r1, r3⟩ := h
  dsimp only at r1 r3 hsz ⊢
  have hs : cl ≤ 1048576 ∧ dl ≤ 1048576 := by
    rw [r1.1, r3.1] at hsz
    omega
  clear hsz
  obtain ⟨s1, s3⟩ := hs
  have R1 : Hid _ := r1
  have R3 : Hid _ := r3
  clear r1 r3
  go_enter Try.func14, Try.ntmps14
  go_wp2_with fail
  refine calls_at fun U1 hU1 => ?_
  have z1 : U1.heap.size = w.heap.size + 3 := by rw [hU1]; simp
  have bx1 : U1.heap[w.heap.size]? = some (.cells #[.slice ca cl cc, .slice da dl dc, .int .i64 entry, .int .i64 size] 33) := by
    rw [hU1, Below.heap_alloc _ _ _ (by simp; omega), Below.heap_alloc _ _ _ (by simp)]
    exact heap_alloc_new w _
  have ot1 : U1.heap[w.heap.size + 1 + 1]? = some (.cells #[.slice none 0 0, .slice none 0 0, .int .i64 0, .int .i64 0] 36) := by
    rw [hU1]
    have := heap_alloc_new ((w.alloc (.cells #[.slice ca cl cc, .slice da dl dc, .int .i64 entry, .int .i64 size] 33)).alloc (.cells #[.slice none 0 0, .slice none 0 0, .int .i64 0, .int .i64 0] 36)) (.cells #[.slice none 0 0, .slice none 0 0, .int .i64 0, .int .i64 0] 36)
    simpa using this
  have re1 : U1.heap[w.heap.size + 1]? = some (.cells #[.slice none 0 0, .slice none 0 0, .int .i64 0, .int .i64 0] 36) := by
    rw [hU1, Below.heap_alloc _ _ _ (by simp)]
    have := heap_alloc_new (w.alloc (.cells #[.slice ca cl cc, .slice da dl dc, .int .i64 entry, .int .i64 size] 33)) (.cells #[.slice none 0 0, .slice none 0 0, .int .i64 0, .int .i64 0] 36)
    simpa using this
  have b1 : Below w.heap.size w U1 := by
    rw [hU1]
    exact (((Below.refl _ _).alloc (Nat.le_refl _) _).alloc (by simp) _).alloc (by simp; omega) _
  have HK1 : Hid (U1.heap.size = w.heap.size + 3 ∧ Below w.heap.size w U1) := ⟨z1, b1⟩
  refine (toIntS_any ca cl cc code U1 (Row.keep R1.out HK1.out.2) s1).mono ?_
  rintro e u1 ⟨rfl, o1, d1⟩
  have zz1 : w.heap.size + 1 + 1 < U1.heap.size := by have := HK1.out.1; omega
  have p1 : u1.heap[w.heap.size]? = some (.cells #[.slice ca cl cc, .slice da dl dc, .int .i64 entry, .int .i64 size] 33) := by rw [d1.block _ (by omega)]; exact bx1
  have q1 : u1.heap[w.heap.size + 1 + 1]? = some (.cells #[.slice none 0 0, .slice none 0 0, .int .i64 0, .int .i64 0] 36) := by rw [d1.block _ (by omega)]; exact ot1
  have X1 : Hid (u1.heap[w.heap.size + 1]? = some (.cells #[.slice none 0 0, .slice none 0 0, .int .i64 0, .int .i64 0] 36)) := by
    show u1.heap[w.heap.size + 1]? = _
    rw [d1.block _ (by omega)]; exact re1
  have P1 : Hid _ := p1
  have Q1 : Hid _ := q1
  have kb : ∀ j, u1.cell? ⟨w.heap.size, j, none⟩ = (#[.slice ca cl cc, .slice da dl dc, .int .i64 entry, .int .i64 size] : Array Value)[j]? := fun j => cell_of_row u1 w.heap.size j _ 33 (0, 0) p1
  have ko : ∀ j, u1.cell? ⟨w.heap.size + 1 + 1, j, none⟩ = (#[.slice none 0 0, .slice none 0 0, .int .i64 0, .int .i64 0] : Array Value)[j]? := fun j => cell_of_row u1 (w.heap.size + 1 + 1) j _ 36 (0, 0) q1
  have kf : ∀ j, u1.frozen? ⟨w.heap.size + 1 + 1, j, none⟩ = false := fun j => frozen_of_row u1 (w.heap.size + 1 + 1) j _ 36 q1
  have O1 : Hid (Own .i64 3 U1.heap.size u1 (some ⟨U1.heap.size, 0, none⟩) cl cl code) := o1
  have D1 : Hid (Below U1.heap.size U1 u1) := d1
  have B1 : Hid (Below w.heap.size w u1) := HK1.out.2.trans (d1.mono (by have := zz1; omega))
  have S1 : Hid (U1.heap.size ≤ u1.heap.size) := d1.size
  clear z1 b1 o1 d1 bx1 ot1 re1 hU1 p1 q1
  go_wp2_with fail
  clear kb ko kf

  refine calls_at fun U2 hU2 => ?_
  have bx2 : U2.heap[w.heap.size]? = some (.cells #[.slice ca cl cc, .slice da dl dc, .int .i64 entry, .int .i64 size] 33) := by
    rw [hU2]
    repeat (first | exact P1.out | rw [heap_setCell_other _ _ _ _ (show w.heap.size ≠ w.heap.size + 1 + 1 by omega)])
  have ot2 : U2.heap[w.heap.size + 1 + 1]? = some (.cells #[.slice (some ⟨U1.heap.size, 0, none⟩) cl cl, .slice none 0 0, .int .i64 0, .int .i64 0] 36) := by
    rw [hU2]
    exact row_put Q1.out 0 (.slice (some ⟨U1.heap.size, 0, none⟩) cl cl) rfl
  have re2 : U2.heap[w.heap.size + 1]? = some (.cells #[.slice none 0 0, .slice none 0 0, .int .i64 0, .int .i64 0] 36) := by
    rw [hU2]
    repeat (first | exact X1.out | rw [heap_setCell_other _ _ _ _ (show w.heap.size + 1 ≠ w.heap.size + 1 + 1 by omega)])
  have HK2 : Hid (U2.heap.size = u1.heap.size ∧ Below w.heap.size w U2) := by
    rw [hU2]
    refine ⟨by simp, ?_⟩
    repeat (first | exact B1.out | refine Below.setCell ?_ (show w.heap.size ≤ w.heap.size + 1 + 1 by omega) _)
  have A1 : Hid (Above (w.heap.size + 1 + 1 + 1) u1 U2) := by
    rw [hU2]
    repeat (first | exact Above.refl _ _ | refine Above.setCell ?_ (show w.heap.size + 1 + 1 < w.heap.size + 1 + 1 + 1 by omega) _)
  refine (toByteS_any da dl dc data U2 (Row.keep R3.out HK2.out.2) s3).mono ?_
  rintro e u2 ⟨rfl, o2, d2⟩
  have zz2 : w.heap.size + 1 + 1 < U2.heap.size := by have := HK2.out.1; have := zz1; have := S1.out; omega
  have p2 : u2.heap[w.heap.size]? = some (.cells #[.slice ca cl cc, .slice da dl dc, .int .i64 entry, .int .i64 size] 33) := by rw [d2.block _ (by omega)]; exact bx2
  have q2 : u2.heap[w.heap.size + 1 + 1]? = some (.cells #[.slice (some ⟨U1.heap.size, 0, none⟩) cl cl, .slice none 0 0, .int .i64 0, .int .i64 0] 36) := by rw [d2.block _ (by omega)]; exact ot2
  have X2 : Hid (u2.heap[w.heap.size + 1]? = some (.cells #[.slice none 0 0, .slice none 0 0, .int .i64 0, .int .i64 0] 36)) := by
    show u2.heap[w.heap.size + 1]? = _
    rw [d2.block _ (by omega)]; exact re2
  have P2 : Hid _ := p2
  have Q2 : Hid _ := q2
  have kb : ∀ j, u2.cell? ⟨w.heap.size, j, none⟩ = (#[.slice ca cl cc, .slice da dl dc, .int .i64 entry, .int .i64 size] : Array Value)[j]? := fun j => cell_of_row u2 w.heap.size j _ 33 (0, 0) p2
  have ko : ∀ j, u2.cell? ⟨w.heap.size + 1 + 1, j, none⟩ = (#[.slice (some ⟨U1.heap.size, 0, none⟩) cl cl, .slice none 0 0, .int .i64 0, .int .i64 0] : Array Value)[j]? := fun j => cell_of_row u2 (w.heap.size + 1 + 1) j _ 36 (0, 0) q2
  have kf : ∀ j, u2.frozen? ⟨w.heap.size + 1 + 1, j, none⟩ = false := fun j => frozen_of_row u2 (w.heap.size + 1 + 1) j _ 36 q2
  have O2 : Hid (Own .u8 5 U2.heap.size u2 (some ⟨U2.heap.size, 0, none⟩) dl dl data) := o2
  have D2 : Hid (Below U2.heap.size U2 u2) := d2
  have B2 : Hid (Below w.heap.size w u2) := HK2.out.2.trans (d2.mono (by have := zz2; omega))
  have S2 : Hid (U2.heap.size ≤ u2.heap.size) := d2.size
  clear o2 d2 bx2 ot2 re2 hU2 p2 q2
  have hrow : (((u2.setCell ⟨w.heap.size + 1 + 1, 1, none⟩ (.slice (some ⟨U2.heap.size, 0, none⟩) dl dl)).setCell ⟨w.heap.size + 1 + 1, 2, none⟩ (.int .i64 entry)).setCell ⟨w.heap.size + 1 + 1, 3, none⟩ (.int .i64 size)).heap[w.heap.size + 1 + 1]? = some (.cells #[.slice (some ⟨U1.heap.size, 0, none⟩) cl cl, .slice (some ⟨U2.heap.size, 0, none⟩) dl dl, .int .i64 entry, .int .i64 size] 36) := row_put (row_put (row_put (Q2.out) 1 (.slice (some ⟨U2.heap.size, 0, none⟩) dl dl) rfl) 2 (.int .i64 entry) rfl) 3 (.int .i64 size) rfl
  have hres : (((u2.setCell ⟨w.heap.size + 1 + 1, 1, none⟩ (.slice (some ⟨U2.heap.size, 0, none⟩) dl dl)).setCell ⟨w.heap.size + 1 + 1, 2, none⟩ (.int .i64 entry)).setCell ⟨w.heap.size + 1 + 1, 3, none⟩ (.int .i64 size)).heap[w.heap.size + 1]? = some (.cells #[.slice none 0 0, .slice none 0 0, .int .i64 0, .int .i64 0] 36) := by
    repeat (first | exact X2.out | rw [heap_setCell_other _ _ _ _ (show w.heap.size + 1 ≠ w.heap.size + 1 + 1 by omega)])
  have HRES : Hid _ := hres
  have HROW : Hid _ := hrow
  clear hrow hres
  have HAB : Hid (Above (w.heap.size + 1 + 1 + 1) u2 (((u2.setCell ⟨w.heap.size + 1 + 1, 1, none⟩ (.slice (some ⟨U2.heap.size, 0, none⟩) dl dl)).setCell ⟨w.heap.size + 1 + 1, 2, none⟩ (.int .i64 entry)).setCell ⟨w.heap.size + 1 + 1, 3, none⟩ (.int .i64 size)) ∧ Below w.heap.size w (((u2.setCell ⟨w.heap.size + 1 + 1, 1, none⟩ (.slice (some ⟨U2.heap.size, 0, none⟩) dl dl)).setCell ⟨w.heap.size + 1 + 1, 2, none⟩ (.int .i64 entry)).setCell ⟨w.heap.size + 1 + 1, 3, none⟩ (.int .i64 size))) := by
    refine ⟨?_, ?_⟩
    · repeat (first | exact Above.refl _ _ | refine Above.setCell ?_ (show w.heap.size + 1 + 1 < w.heap.size + 1 + 1 + 1 by omega) _)
    · repeat (first | exact B2.out | refine Below.setCell ?_ (show w.heap.size ≤ w.heap.size + 1 + 1 by omega) _)
  go_wp2_with (refine wpList_load_row rfl 36 _ rfl (w.heap.size + 1 + 1) ?hx 36 #[.slice (some ⟨U1.heap.size, 0, none⟩) cl cl, .slice (some ⟨U2.heap.size, 0, none⟩) dl dl, .int .i64 entry, .int .i64 size] (0, 0) _ ?hg Try.underlying36 ?hd ?hi ?_; (case hx => rfl); (case hg => exact HROW.out); (case hd => rfl); (case hi => kernel_rfl); refine Hid.out ?_)
  unfold Hid
  clear kb ko kf
  refine wpList_store_row rfl 36 _ _ rfl (w.heap.size + 1) #[.slice (some ⟨U1.heap.size, 0, none⟩) cl cl, .slice (some ⟨U2.heap.size, 0, none⟩) dl dl, .int .i64 entry, .int .i64 size] ?hx ?hy 36 #[.slice none 0 0, .slice none 0 0, .int .i64 0, .int .i64 0] ?hg ?hi ?ho ?h1 ?_
  case hx => rfl
  case hy => rfl
  case hg => exact HRES.out
  case hi => kernel_rfl
  case ho => kernel_rfl
  case h1 => kernel_rfl
  go_wp2_with fail
  refine bodyPost_ret (v := .agg #[.slice (some ⟨U1.heap.size, 0, none⟩) cl cl, .slice (some ⟨U2.heap.size, 0, none⟩) dl dl, .int .i64 entry, .int .i64 size]) ?hres rfl ⟨⟨⟨some ⟨U1.heap.size, 0, none⟩, cl, cl⟩, ⟨some ⟨U2.heap.size, 0, none⟩, dl, dl⟩⟩, rfl, ⟨((O1.out.same ((A1.out.trans (Above.of_below D2.out)).trans (HAB.out.1.setRow (show w.heap.size + 1 < w.heap.size + 1 + 1 + 1 from by omega) _)) (by have := zz1; omega)).lower (by have := zz1; omega)), ((O2.out.same (HAB.out.1.setRow (show w.heap.size + 1 < w.heap.size + 1 + 1 + 1 from by omega) _) (by have := zz2; omega)).lower (by have := zz2; omega))⟩, (below_setRow HAB.out.2 (show w.heap.size ≤ w.heap.size + 1 from by omega) _)⟩
  case hres =>
    refine results_cell_row Try.results14 _ _ (w.heap.size + 1) 36 #[.slice (some ⟨U1.heap.size, 0, none⟩) cl cl, .slice (some ⟨U2.heap.size, 0, none⟩) dl dl, .int .i64 entry, .int .i64 size] (0, 0) _ ?hp ?hg Try.underlying36 ?hd ?hi
    case hp => rfl
    case hg => exact setRow_heap _ _ _ _ _ _ HRES.out
    case hd => rfl
    case hi => kernel_rfl
end Go.Proofs.Ytgopdicmmglakaa.W
