import Derived.Test.YtjdfffdeljgenaaGreatDoorP07
import Derived.Deep.RegionWith
import Derived.Deep.Cut
import Derived.Deep.DeepCutAuto
import Derived.Deep.CutRange
set_option linter.unusedVariables false
set_option linter.unusedSimpArgs false
namespace Go.Proofs.YtjdfffdeljgenaaGreatDoor.W
open Go.RowKit
set_option maxHeartbeats 16000000 in
theorem fnExactStepMachine_walk0 {lo : Nat} (v : MV) (m mm : Pl.Mac)  (w : World) (h : MIs lo w v m) (hss : Pl.mSize m ≤ 1048576 → Pl.mSize mm ≤ 1048576 ∧ (∀ (lo : Nat) (v : MV) (w : World), MIs lo w v m → Calls Tryz.prog 12 #[.agg #[.slice v.code.a v.code.len v.code.cap, .int .i64 m.pc, .slice v.regs.a v.regs.len v.regs.cap, .slice v.data.a v.data.len v.data.cap, .slice v.stk.a v.stk.len v.stk.cap, .slice v.inp.a v.inp.len v.inp.cap, .slice v.out.a v.out.len v.out.cap, .int .i64 m.steps, .int .i64 m.fin, .int .i64 m.val]] w fun e w' => ∃ v1 : MV, e = .returned (.agg #[.slice v1.code.a v1.code.len v1.code.cap, .int .i64 mm.pc, .slice v1.regs.a v1.regs.len v1.regs.cap, .slice v1.data.a v1.data.len v1.data.cap, .slice v1.stk.a v1.stk.len v1.stk.cap, .slice v1.inp.a v1.inp.len v1.inp.cap, .slice v1.out.a v1.out.len v1.out.cap, .int .i64 mm.steps, .int .i64 mm.fin, .int .i64 mm.val]) ∧ MOwn w.heap.size w' v1 mm ∧ Below w.heap.size w w') ∧ (∀ (lo : Nat) (v : MV) (u : World), MOwn lo u v m → Below w.heap.size w u → Calls Tryz.prog 13 #[.agg #[.slice v.code.a v.code.len v.code.cap, .int .i64 m.pc, .slice v.regs.a v.regs.len v.regs.cap, .slice v.data.a v.data.len v.data.cap, .slice v.stk.a v.stk.len v.stk.cap, .slice v.inp.a v.inp.len v.inp.cap, .slice v.out.a v.out.len v.out.cap, .int .i64 m.steps, .int .i64 m.fin, .int .i64 m.val]] u fun e w' => ∃ v1 : MV, e = .returned (.agg #[.slice v1.code.a v1.code.len v1.code.cap, .int .i64 mm.pc, .slice v1.regs.a v1.regs.len v1.regs.cap, .slice v1.data.a v1.data.len v1.data.cap, .slice v1.stk.a v1.stk.len v1.stk.cap, .slice v1.inp.a v1.inp.len v1.inp.cap, .slice v1.out.a v1.out.len v1.out.cap, .int .i64 mm.steps, .int .i64 mm.fin, .int .i64 mm.val]) ∧ WrM u.heap.size w' v1 mm ∧ (∃ t0 t6, MApart t0 t6 v1 ∧ u.heap.size ≤ t0 ∧ t6 ≤ w'.heap.size) ∧ Below u.heap.size u w')) :
    Calls Tryz.prog 6 #[.agg #[.slice v.code.a v.code.len v.code.cap, .int .i64 m.pc, .slice v.regs.a v.regs.len v.regs.cap, .slice v.data.a v.data.len v.data.cap, .slice v.stk.a v.stk.len v.stk.cap, .slice v.inp.a v.inp.len v.inp.cap, .slice v.out.a v.out.len v.out.cap, .int .i64 m.steps, .int .i64 m.fin, .int .i64 m.val]] w fun e w' => e = .returned (.bool true) ∧ Below w.heap.size w w' := by
  have H : Hid (MIs lo w v m) := h
  have HA : Hid (Pl.mSize m ≤ 1048576 → Pl.mSize mm ≤ 1048576 ∧ (∀ (lo : Nat) (v : MV) (w : World), MIs lo w v m → Calls Tryz.prog 12 #[.agg #[.slice v.code.a v.code.len v.code.cap, .int .i64 m.pc, .slice v.regs.a v.regs.len v.regs.cap, .slice v.data.a v.data.len v.data.cap, .slice v.stk.a v.stk.len v.stk.cap, .slice v.inp.a v.inp.len v.inp.cap, .slice v.out.a v.out.len v.out.cap, .int .i64 m.steps, .int .i64 m.fin, .int .i64 m.val]] w fun e w' => ∃ v1 : MV, e = .returned (.agg #[.slice v1.code.a v1.code.len v1.code.cap, .int .i64 mm.pc, .slice v1.regs.a v1.regs.len v1.regs.cap, .slice v1.data.a v1.data.len v1.data.cap, .slice v1.stk.a v1.stk.len v1.stk.cap, .slice v1.inp.a v1.inp.len v1.inp.cap, .slice v1.out.a v1.out.len v1.out.cap, .int .i64 mm.steps, .int .i64 mm.fin, .int .i64 mm.val]) ∧ MOwn w.heap.size w' v1 mm ∧ Below w.heap.size w w') ∧ (∀ (lo : Nat) (v : MV) (u : World), MOwn lo u v m → Below w.heap.size w u → Calls Tryz.prog 13 #[.agg #[.slice v.code.a v.code.len v.code.cap, .int .i64 m.pc, .slice v.regs.a v.regs.len v.regs.cap, .slice v.data.a v.data.len v.data.cap, .slice v.stk.a v.stk.len v.stk.cap, .slice v.inp.a v.inp.len v.inp.cap, .slice v.out.a v.out.len v.out.cap, .int .i64 m.steps, .int .i64 m.fin, .int .i64 m.val]] u fun e w' => ∃ v1 : MV, e = .returned (.agg #[.slice v1.code.a v1.code.len v1.code.cap, .int .i64 mm.pc, .slice v1.regs.a v1.regs.len v1.regs.cap, .slice v1.data.a v1.data.len v1.data.cap, .slice v1.stk.a v1.stk.len v1.stk.cap, .slice v1.inp.a v1.inp.len v1.inp.cap, .slice v1.out.a v1.out.len v1.out.cap, .int .i64 mm.steps, .int .i64 mm.fin, .int .i64 mm.val]) ∧ WrM u.heap.size w' v1 mm ∧ (∃ t0 t6, MApart t0 t6 v1 ∧ u.heap.size ≤ t0 ∧ t6 ≤ w'.heap.size) ∧ Below u.heap.size u w')) := hss
  clear h hss
  have P0 : Hid ((w.alloc (.cells #[.slice v.code.a v.code.len v.code.cap, .int .i64 m.pc, .slice v.regs.a v.regs.len v.regs.cap, .slice v.data.a v.data.len v.data.cap, .slice v.stk.a v.stk.len v.stk.cap, .slice v.inp.a v.inp.len v.inp.cap, .slice v.out.a v.out.len v.out.cap, .int .i64 m.steps, .int .i64 m.fin, .int .i64 m.val] 36)).heap[w.heap.size]? = some (.cells #[.slice v.code.a v.code.len v.code.cap, .int .i64 m.pc, .slice v.regs.a v.regs.len v.regs.cap, .slice v.data.a v.data.len v.data.cap, .slice v.stk.a v.stk.len v.stk.cap, .slice v.inp.a v.inp.len v.inp.cap, .slice v.out.a v.out.len v.out.cap, .int .i64 m.steps, .int .i64 m.fin, .int .i64 m.val] 36)) := heap_alloc_new w _
  go_enter Tryz.func6, Tryz.ntmps6
  go_wp2_with (refine wpList_load_row rfl 36 _ rfl (w.heap.size) ?hx 36 #[.slice v.code.a v.code.len v.code.cap, .int .i64 m.pc, .slice v.regs.a v.regs.len v.regs.cap, .slice v.data.a v.data.len v.data.cap, .slice v.stk.a v.stk.len v.stk.cap, .slice v.inp.a v.inp.len v.inp.cap, .slice v.out.a v.out.len v.out.cap, .int .i64 m.steps, .int .i64 m.fin, .int .i64 m.val] (0, 0) _ ?hg Tryz.underlying36 ?hd ?hi ?_; (case hx => rfl); (case hg => exact P0.out); (case hd => rfl); (case hi => kernel_rfl))
  refine calls_at fun u0 hu0 => ?_
  have RA0 : Hid (u0.heap[w.heap.size]? = some (.cells #[.slice v.code.a v.code.len v.code.cap, .int .i64 m.pc, .slice v.regs.a v.regs.len v.regs.cap, .slice v.data.a v.data.len v.data.cap, .slice v.stk.a v.stk.len v.stk.cap, .slice v.inp.a v.inp.len v.inp.cap, .slice v.out.a v.out.len v.out.cap, .int .i64 m.steps, .int .i64 m.fin, .int .i64 m.val] 36)) := by show u0.heap[w.heap.size]? = _; rw [hu0]; exact heap_alloc_new w _
  have B0 : Hid (Below w.heap.size w u0) := by show Below w.heap.size w u0; rw [hu0]; exact below_alloc w _
  have ZA0 : Hid (w.heap.size < u0.heap.size) := by show w.heap.size < u0.heap.size; rw [hu0]; simp
  clear hu0 P0
  refine (szMachine_any v m 1048576 u0 (H.out.keep B0.out) (by decide)).mono ?_
  rintro e u1 ⟨r, rfl, hr, d1⟩
  have RA1 : Hid (u1.heap[w.heap.size]? = some (.cells #[.slice v.code.a v.code.len v.code.cap, .int .i64 m.pc, .slice v.regs.a v.regs.len v.regs.cap, .slice v.data.a v.data.len v.data.cap, .slice v.stk.a v.stk.len v.stk.cap, .slice v.inp.a v.inp.len v.inp.cap, .slice v.out.a v.out.len v.out.cap, .int .i64 m.steps, .int .i64 m.fin, .int .i64 m.val] 36)) := (d1.block _ ZA0.out).trans RA0.out
  have ZA1 : Hid (w.heap.size < u1.heap.size) := Nat.lt_of_lt_of_le ZA0.out d1.size
  have B1 : Hid (Below w.heap.size w u1) := B0.out.trans (d1.mono (Nat.le_of_lt ZA0.out))
  clear d1 RA0 ZA0 B0
  by_cases hbig : (1048576 : Int) < (Pl.mSize m : Nat)
  · rw [if_pos hbig] at hr
    clear hbig
    go_wp2
    go_ret
    exact ⟨rfl, B1.out⟩
  rw [if_neg hbig] at hr
  have HS : Hid (Pl.mSize m ≤ 1048576) := by show Pl.mSize m ≤ 1048576; omega
  clear hbig
  obtain ⟨hs2, hsp, him⟩ := HA.out HS.out
  have SP : Hid (∀ (lo : Nat) (v : MV) (w : World), MIs lo w v m → Calls Tryz.prog 12 #[.agg #[.slice v.code.a v.code.len v.code.cap, .int .i64 m.pc, .slice v.regs.a v.regs.len v.regs.cap, .slice v.data.a v.data.len v.data.cap, .slice v.stk.a v.stk.len v.stk.cap, .slice v.inp.a v.inp.len v.inp.cap, .slice v.out.a v.out.len v.out.cap, .int .i64 m.steps, .int .i64 m.fin, .int .i64 m.val]] w fun e w' => ∃ v1 : MV, e = .returned (.agg #[.slice v1.code.a v1.code.len v1.code.cap, .int .i64 mm.pc, .slice v1.regs.a v1.regs.len v1.regs.cap, .slice v1.data.a v1.data.len v1.data.cap, .slice v1.stk.a v1.stk.len v1.stk.cap, .slice v1.inp.a v1.inp.len v1.inp.cap, .slice v1.out.a v1.out.len v1.out.cap, .int .i64 mm.steps, .int .i64 mm.fin, .int .i64 mm.val]) ∧ MOwn w.heap.size w' v1 mm ∧ Below w.heap.size w w') := hsp
  have IM : Hid (∀ (lo : Nat) (v : MV) (u : World), MOwn lo u v m → Below w.heap.size w u → Calls Tryz.prog 13 #[.agg #[.slice v.code.a v.code.len v.code.cap, .int .i64 m.pc, .slice v.regs.a v.regs.len v.regs.cap, .slice v.data.a v.data.len v.data.cap, .slice v.stk.a v.stk.len v.stk.cap, .slice v.inp.a v.inp.len v.inp.cap, .slice v.out.a v.out.len v.out.cap, .int .i64 m.steps, .int .i64 m.fin, .int .i64 m.val]] u fun e w' => ∃ v1 : MV, e = .returned (.agg #[.slice v1.code.a v1.code.len v1.code.cap, .int .i64 mm.pc, .slice v1.regs.a v1.regs.len v1.regs.cap, .slice v1.data.a v1.data.len v1.data.cap, .slice v1.stk.a v1.stk.len v1.stk.cap, .slice v1.inp.a v1.inp.len v1.inp.cap, .slice v1.out.a v1.out.len v1.out.cap, .int .i64 mm.steps, .int .i64 mm.fin, .int .i64 mm.val]) ∧ WrM u.heap.size w' v1 mm ∧ (∃ t0 t6, MApart t0 t6 v1 ∧ u.heap.size ≤ t0 ∧ t6 ≤ w'.heap.size) ∧ Below u.heap.size u w') := him
  have HS' : Hid (Pl.mSize mm ≤ 1048576) := hs2
  have EQ : Hid (∀ (l1 l2 : Nat) (v1 v2 : MV) (u : World), MIs l1 u v1 mm → MIs l2 u v2 mm → Calls Tryz.prog 19 #[.agg #[.slice v1.code.a v1.code.len v1.code.cap, .int .i64 mm.pc, .slice v1.regs.a v1.regs.len v1.regs.cap, .slice v1.data.a v1.data.len v1.data.cap, .slice v1.stk.a v1.stk.len v1.stk.cap, .slice v1.inp.a v1.inp.len v1.inp.cap, .slice v1.out.a v1.out.len v1.out.cap, .int .i64 mm.steps, .int .i64 mm.fin, .int .i64 mm.val], .agg #[.slice v2.code.a v2.code.len v2.code.cap, .int .i64 mm.pc, .slice v2.regs.a v2.regs.len v2.regs.cap, .slice v2.data.a v2.data.len v2.data.cap, .slice v2.stk.a v2.stk.len v2.stk.cap, .slice v2.inp.a v2.inp.len v2.inp.cap, .slice v2.out.a v2.out.len v2.out.cap, .int .i64 mm.steps, .int .i64 mm.fin, .int .i64 mm.val]] u fun e w' => e = .returned (.bool true) ∧ Below u.heap.size u w') := fun l1 l2 v1 v2 u q1 q2 => eqMachine_same v1 v2 mm u q1 q2
  have MK : Hid (∀ (l t0 t6 : Nat) (v1 : MV) (u : World), WrM l u v1 mm → MApart t0 t6 v1 → t6 ≤ u.heap.size → Calls Tryz.prog 20 #[.agg #[.slice v1.code.a v1.code.len v1.code.cap, .int .i64 mm.pc, .slice v1.regs.a v1.regs.len v1.regs.cap, .slice v1.data.a v1.data.len v1.data.cap, .slice v1.stk.a v1.stk.len v1.stk.cap, .slice v1.inp.a v1.inp.len v1.inp.cap, .slice v1.out.a v1.out.len v1.out.cap, .int .i64 mm.steps, .int .i64 mm.fin, .int .i64 mm.val], .int .i64 1] u fun e w' => e = .returned (.int .i64 (1 + (Pl.mSize mm : Int))) ∧ WrM l w' v1 (marked v1 mm 1) ∧ Outside t0 t6 u w') := fun l t0 t6 v1 u q1 q2 q3 => markMachine_wr v1 mm 1 u q1 q2 q3 (by decide) HS'.out
  have HD : Hid (∀ (l : Nat) (v1 : MV) (u u' : World), WrM l u v1 mm → MIs l u' v1 (marked v1 mm 1) → Calls Tryz.prog 21 #[.agg #[.slice v1.code.a v1.code.len v1.code.cap, .int .i64 mm.pc, .slice v1.regs.a v1.regs.len v1.regs.cap, .slice v1.data.a v1.data.len v1.data.cap, .slice v1.stk.a v1.stk.len v1.stk.cap, .slice v1.inp.a v1.inp.len v1.inp.cap, .slice v1.out.a v1.out.len v1.out.cap, .int .i64 mm.steps, .int .i64 mm.fin, .int .i64 mm.val], .int .i64 1] u' fun e w' => e = .returned (.int .i64 (1 + (Pl.mSize mm : Int))) ∧ Below u'.heap.size u' w') := fun l v1 u u' q1 q2 => by
    have e0 := q1.1.row.1
    have e1 := q1.2.1.row.1
    have e2 := q1.2.2.1.row.1
    have e3 := q1.2.2.2.1.row.1
    have e4 := q1.2.2.2.2.1.row.1
    have e5 := q1.2.2.2.2.2.row.1
    have hs : Pl.mSize mm = v1.code.len + v1.regs.len + v1.data.len + v1.stk.len + v1.inp.len + v1.out.len := by
      unfold Pl.mSize
      rw [e0, e1, e2, e3, e4, e5]
    have hl := HS'.out
    have := heldMachine_any v1 mm 1 u' q2 (by decide) (by rw [← hs]; exact hl)
    refine this.mono ?_
    rintro e w' ⟨rfl, hd⟩
    refine ⟨ret_int (by omega), hd⟩
  clear hsp him HA hs2
  go_wp2_with (refine wpList_load_row rfl 36 _ rfl (w.heap.size) ?hx 36 #[.slice v.code.a v.code.len v.code.cap, .int .i64 m.pc, .slice v.regs.a v.regs.len v.regs.cap, .slice v.data.a v.data.len v.data.cap, .slice v.stk.a v.stk.len v.stk.cap, .slice v.inp.a v.inp.len v.inp.cap, .slice v.out.a v.out.len v.out.cap, .int .i64 m.steps, .int .i64 m.fin, .int .i64 m.val] (0, 0) _ ?hg Tryz.underlying36 ?hd ?hi ?_; (case hx => rfl); (case hg => exact RA1.out); (case hd => rfl); (case hi => kernel_rfl))
  refine (toMachine_any v m u1 (H.out.keep B1.out) HS.out).mono ?_
  rintro e u2 ⟨v2, rfl, o2, d2⟩
  have OT2 : Hid (MOwn u1.heap.size u2 v2 m) := o2
  clear o2
  have RA2 : Hid (u2.heap[w.heap.size]? = some (.cells #[.slice v.code.a v.code.len v.code.cap, .int .i64 m.pc, .slice v.regs.a v.regs.len v.regs.cap, .slice v.data.a v.data.len v.data.cap, .slice v.stk.a v.stk.len v.stk.cap, .slice v.inp.a v.inp.len v.inp.cap, .slice v.out.a v.out.len v.out.cap, .int .i64 m.steps, .int .i64 m.fin, .int .i64 m.val] 36)) := (d2.block _ ZA1.out).trans RA1.out
  have ZA2 : Hid (w.heap.size < u2.heap.size) := Nat.lt_of_lt_of_le ZA1.out d2.size
  have B2 : Hid (Below w.heap.size w u2) := B1.out.trans (d2.mono (Nat.le_of_lt ZA1.out))
  clear d2 RA1 ZA1 B1
  go_wp2_with fail
  refine (SP.out _ v2 u2 OT2.out.is).mono ?_
  rintro e u3 ⟨vw, rfl, ow, d3⟩
  have OW3 : Hid (MOwn u2.heap.size u3 vw mm) := ow
  clear ow OT2 SP
  have RA3 : Hid (u3.heap[w.heap.size]? = some (.cells #[.slice v.code.a v.code.len v.code.cap, .int .i64 m.pc, .slice v.regs.a v.regs.len v.regs.cap, .slice v.data.a v.data.len v.data.cap, .slice v.stk.a v.stk.len v.stk.cap, .slice v.inp.a v.inp.len v.inp.cap, .slice v.out.a v.out.len v.out.cap, .int .i64 m.steps, .int .i64 m.fin, .int .i64 m.val] 36)) := (d3.block _ ZA2.out).trans RA2.out
  have ZA3 : Hid (w.heap.size < u3.heap.size) := Nat.lt_of_lt_of_le ZA2.out d3.size
  have B3 : Hid (Below w.heap.size w u3) := B2.out.trans (d3.mono (Nat.le_of_lt ZA2.out))
  clear d3 RA2 ZA2 B2
  go_wp2_with (refine wpList_store_row rfl 25 _ _ rfl (u3.heap.size) #[.slice vw.code.a vw.code.len vw.code.cap, .int .i64 mm.pc, .slice vw.regs.a vw.regs.len vw.regs.cap, .slice vw.data.a vw.data.len vw.data.cap, .slice vw.stk.a vw.stk.len vw.stk.cap, .slice vw.inp.a vw.inp.len vw.inp.cap, .slice vw.out.a vw.out.len vw.out.cap, .int .i64 mm.steps, .int .i64 mm.fin, .int .i64 mm.val] ?hx ?hy 25 #[.slice none 0 0, .int .i64 0, .slice none 0 0, .slice none 0 0, .slice none 0 0, .slice none 0 0, .slice none 0 0, .int .i64 0, .int .i64 0, .int .i64 0] ?hg ?hi ?ho ?h1 ?_; (case hx => rfl); (case hy => rfl); (case hg => exact heap_alloc_new u3 _); (case hi => kernel_rfl); (case ho => kernel_rfl); (case h1 => kernel_rfl); refine Hid.out ?_)
  unfold Hid
  rw [World.setRow_alloc_new]
  refine wpList_at fun u4 hu4 => ?_
  have d4 : Below u3.heap.size u3 u4 := by rw [hu4]; exact below_alloc u3 _
  have RW4 : Hid (u4.heap[u3.heap.size]? = some (.cells #[.slice vw.code.a vw.code.len vw.code.cap, .int .i64 mm.pc, .slice vw.regs.a vw.regs.len vw.regs.cap, .slice vw.data.a vw.data.len vw.data.cap, .slice vw.stk.a vw.stk.len vw.stk.cap, .slice vw.inp.a vw.inp.len vw.inp.cap, .slice vw.out.a vw.out.len vw.out.cap, .int .i64 mm.steps, .int .i64 mm.fin, .int .i64 mm.val] 25)) := by show u4.heap[u3.heap.size]? = _; rw [hu4]; exact heap_alloc_new u3 _
  have ZW4 : Hid (u3.heap.size < u4.heap.size) := by show u3.heap.size < u4.heap.size; rw [hu4]; simp
  clear hu4
  have RA4 : Hid (u4.heap[w.heap.size]? = some (.cells #[.slice v.code.a v.code.len v.code.cap, .int .i64 m.pc, .slice v.regs.a v.regs.len v.regs.cap, .slice v.data.a v.data.len v.data.cap, .slice v.stk.a v.stk.len v.stk.cap, .slice v.inp.a v.inp.len v.inp.cap, .slice v.out.a v.out.len v.out.cap, .int .i64 m.steps, .int .i64 m.fin, .int .i64 m.val] 36)) := (d4.block _ ZA3.out).trans RA3.out
  have ZA4 : Hid (w.heap.size < u4.heap.size) := Nat.lt_of_lt_of_le ZA3.out d4.size
  have OW4 : Hid (MOwn u2.heap.size u4 vw mm) := OW3.out.keep d4
  have B4 : Hid (Below w.heap.size w u4) := B3.out.trans (d4.mono (Nat.le_of_lt ZA3.out))
  clear d4 RA3 ZA3 OW3 B3
  obtain ⟨gW, hgW⟩ : ∃ g, g = u3.heap.size := ⟨_, rfl⟩
  rw [← hgW] at RW4 ZW4 ⊢
  have HGW : Hid (gW = u3.heap.size) := hgW
  clear hgW
  go_wp2_with (refine wpList_load_row rfl 36 _ rfl (w.heap.size) ?hx 36 #[.slice v.code.a v.code.len v.code.cap, .int .i64 m.pc, .slice v.regs.a v.regs.len v.regs.cap, .slice v.data.a v.data.len v.data.cap, .slice v.stk.a v.stk.len v.stk.cap, .slice v.inp.a v.inp.len v.inp.cap, .slice v.out.a v.out.len v.out.cap, .int .i64 m.steps, .int .i64 m.fin, .int .i64 m.val] (0, 0) _ ?hg Tryz.underlying36 ?hd ?hi ?_; (case hx => rfl); (case hg => exact RA4.out); (case hd => rfl); (case hi => kernel_rfl))
  refine (toMachine_spans v m u4 (H.out.keep B4.out) HS.out).mono ?_
  rintro e u5 ⟨vx, rfl, ox, spx, d5⟩
  have OX5 : Hid (MOwn u4.heap.size u5 vx m) := ox
  have SPX : Hid (∃ t0 t6, MSepAt t0 t6 vx ∧ u4.heap.size ≤ t0 ∧ t6 ≤ u5.heap.size) := spx
  have INW : Hid (MIn vw u2.heap.size u4.heap.size ∧ gW < u4.heap.size ∧ w.heap.size < u4.heap.size) := ⟨OW4.out.in, ZW4.out, ZA4.out⟩
  have Z45 : Hid (u4.heap.size ≤ u5.heap.size) := d5.size
  clear ox spx
  have RA5 : Hid (u5.heap[w.heap.size]? = some (.cells #[.slice v.code.a v.code.len v.code.cap, .int .i64 m.pc, .slice v.regs.a v.regs.len v.regs.cap, .slice v.data.a v.data.len v.data.cap, .slice v.stk.a v.stk.len v.stk.cap, .slice v.inp.a v.inp.len v.inp.cap, .slice v.out.a v.out.len v.out.cap, .int .i64 m.steps, .int .i64 m.fin, .int .i64 m.val] 36)) := (d5.block _ ZA4.out).trans RA4.out
  have ZA5 : Hid (w.heap.size < u5.heap.size) := Nat.lt_of_lt_of_le ZA4.out d5.size
  have RW5 : Hid (u5.heap[gW]? = some (.cells #[.slice vw.code.a vw.code.len vw.code.cap, .int .i64 mm.pc, .slice vw.regs.a vw.regs.len vw.regs.cap, .slice vw.data.a vw.data.len vw.data.cap, .slice vw.stk.a vw.stk.len vw.stk.cap, .slice vw.inp.a vw.inp.len vw.inp.cap, .slice vw.out.a vw.out.len vw.out.cap, .int .i64 mm.steps, .int .i64 mm.fin, .int .i64 mm.val] 25)) := (d5.block _ ZW4.out).trans RW4.out
  have ZW5 : Hid (gW < u5.heap.size) := Nat.lt_of_lt_of_le ZW4.out d5.size
  have OW5 : Hid (MOwn u2.heap.size u5 vw mm) := OW4.out.keep d5
  have B5 : Hid (Below w.heap.size w u5) := B4.out.trans (d5.mono (Nat.le_of_lt ZA4.out))
  clear d5 RA4 ZA4 RW4 ZW4 OW4 B4
  go_wp2_with (refine wpList_store_row rfl 25 _ _ rfl (u5.heap.size) #[.slice vx.code.a vx.code.len vx.code.cap, .int .i64 m.pc, .slice vx.regs.a vx.regs.len vx.regs.cap, .slice vx.data.a vx.data.len vx.data.cap, .slice vx.stk.a vx.stk.len vx.stk.cap, .slice vx.inp.a vx.inp.len vx.inp.cap, .slice vx.out.a vx.out.len vx.out.cap, .int .i64 m.steps, .int .i64 m.fin, .int .i64 m.val] ?hx ?hy 25 #[.slice none 0 0, .int .i64 0, .slice none 0 0, .slice none 0 0, .slice none 0 0, .slice none 0 0, .slice none 0 0, .int .i64 0, .int .i64 0, .int .i64 0] ?hg ?hi ?ho ?h1 ?_; (case hx => rfl); (case hy => rfl); (case hg => exact heap_alloc_new u5 _); (case hi => kernel_rfl); (case ho => kernel_rfl); (case h1 => kernel_rfl); refine Hid.out ?_)
  unfold Hid
  rw [World.setRow_alloc_new]
  refine wpList_at fun u6 hu6 => ?_
  have d6 : Below u5.heap.size u5 u6 := by rw [hu6]; exact below_alloc u5 _
  have RX6 : Hid (u6.heap[u5.heap.size]? = some (.cells #[.slice vx.code.a vx.code.len vx.code.cap, .int .i64 m.pc, .slice vx.regs.a vx.regs.len vx.regs.cap, .slice vx.data.a vx.data.len vx.data.cap, .slice vx.stk.a vx.stk.len vx.stk.cap, .slice vx.inp.a vx.inp.len vx.inp.cap, .slice vx.out.a vx.out.len vx.out.cap, .int .i64 m.steps, .int .i64 m.fin, .int .i64 m.val] 25)) := by show u6.heap[u5.heap.size]? = _; rw [hu6]; exact heap_alloc_new u5 _
  have ZX6 : Hid (u5.heap.size < u6.heap.size) := by show u5.heap.size < u6.heap.size; rw [hu6]; simp
  clear hu6
  have RA6 : Hid (u6.heap[w.heap.size]? = some (.cells #[.slice v.code.a v.code.len v.code.cap, .int .i64 m.pc, .slice v.regs.a v.regs.len v.regs.cap, .slice v.data.a v.data.len v.data.cap, .slice v.stk.a v.stk.len v.stk.cap, .slice v.inp.a v.inp.len v.inp.cap, .slice v.out.a v.out.len v.out.cap, .int .i64 m.steps, .int .i64 m.fin, .int .i64 m.val] 36)) := (d6.block _ ZA5.out).trans RA5.out
  have ZA6 : Hid (w.heap.size < u6.heap.size) := Nat.lt_of_lt_of_le ZA5.out d6.size
  have RW6 : Hid (u6.heap[gW]? = some (.cells #[.slice vw.code.a vw.code.len vw.code.cap, .int .i64 mm.pc, .slice vw.regs.a vw.regs.len vw.regs.cap, .slice vw.data.a vw.data.len vw.data.cap, .slice vw.stk.a vw.stk.len vw.stk.cap, .slice vw.inp.a vw.inp.len vw.inp.cap, .slice vw.out.a vw.out.len vw.out.cap, .int .i64 mm.steps, .int .i64 mm.fin, .int .i64 mm.val] 25)) := (d6.block _ ZW5.out).trans RW5.out
  have ZW6 : Hid (gW < u6.heap.size) := Nat.lt_of_lt_of_le ZW5.out d6.size
  have OW6 : Hid (MOwn u2.heap.size u6 vw mm) := OW5.out.keep d6
  have OX6 : Hid (MOwn u4.heap.size u6 vx m) := OX5.out.keep d6
  have B6 : Hid (Below w.heap.size w u6) := B5.out.trans (d6.mono (Nat.le_of_lt ZA5.out))
  clear d6 RA5 ZA5 RW5 ZW5 OW5 OX5 B5
  obtain ⟨gX, hgX⟩ : ∃ g, g = u5.heap.size := ⟨_, rfl⟩
  rw [← hgX] at RX6 ZX6 ⊢
  have HGX : Hid (gX = u5.heap.size) := hgX
  clear hgX
  go_wp2_with (refine wpList_load_row rfl 25 _ rfl (gX) ?hx 25 #[.slice vx.code.a vx.code.len vx.code.cap, .int .i64 m.pc, .slice vx.regs.a vx.regs.len vx.regs.cap, .slice vx.data.a vx.data.len vx.data.cap, .slice vx.stk.a vx.stk.len vx.stk.cap, .slice vx.inp.a vx.inp.len vx.inp.cap, .slice vx.out.a vx.out.len vx.out.cap, .int .i64 m.steps, .int .i64 m.fin, .int .i64 m.val] (0, 0) _ ?hg Tryz.underlying25 ?hd ?hi ?_; (case hx => rfl); (case hg => exact RX6.out); (case hd => rfl); (case hi => kernel_rfl))
  refine (IM.out _ vx u6 OX6.out B6.out).mono ?_
  rintro e u7 ⟨vg, rfl, og, spg, d7⟩
  have OG7 : Hid (WrM u6.heap.size u7 vg mm) := og
  have SPG : Hid (∃ t0 t6, MApart t0 t6 vg ∧ u6.heap.size ≤ t0 ∧ t6 ≤ u7.heap.size) := spg
  have Z56 : Hid (u4.heap.size ≤ u5.heap.size ∧ u5.heap.size < u6.heap.size) := ⟨Z45.out, by have a := HGX.out; have b := ZX6.out; rw [a] at b; exact b⟩
  clear Z45
  have Z67a : Hid (u6.heap.size ≤ u7.heap.size) := d7.size
  clear og spg
  have RA7 : Hid (u7.heap[w.heap.size]? = some (.cells #[.slice v.code.a v.code.len v.code.cap, .int .i64 m.pc, .slice v.regs.a v.regs.len v.regs.cap, .slice v.data.a v.data.len v.data.cap, .slice v.stk.a v.stk.len v.stk.cap, .slice v.inp.a v.inp.len v.inp.cap, .slice v.out.a v.out.len v.out.cap, .int .i64 m.steps, .int .i64 m.fin, .int .i64 m.val] 36)) := (d7.block _ ZA6.out).trans RA6.out
  have ZA7 : Hid (w.heap.size < u7.heap.size) := Nat.lt_of_lt_of_le ZA6.out d7.size
  have RW7 : Hid (u7.heap[gW]? = some (.cells #[.slice vw.code.a vw.code.len vw.code.cap, .int .i64 mm.pc, .slice vw.regs.a vw.regs.len vw.regs.cap, .slice vw.data.a vw.data.len vw.data.cap, .slice vw.stk.a vw.stk.len vw.stk.cap, .slice vw.inp.a vw.inp.len vw.inp.cap, .slice vw.out.a vw.out.len vw.out.cap, .int .i64 mm.steps, .int .i64 mm.fin, .int .i64 mm.val] 25)) := (d7.block _ ZW6.out).trans RW6.out
  have ZW7 : Hid (gW < u7.heap.size) := Nat.lt_of_lt_of_le ZW6.out d7.size
  have RX7 : Hid (u7.heap[gX]? = some (.cells #[.slice vx.code.a vx.code.len vx.code.cap, .int .i64 m.pc, .slice vx.regs.a vx.regs.len vx.regs.cap, .slice vx.data.a vx.data.len vx.data.cap, .slice vx.stk.a vx.stk.len vx.stk.cap, .slice vx.inp.a vx.inp.len vx.inp.cap, .slice vx.out.a vx.out.len vx.out.cap, .int .i64 m.steps, .int .i64 m.fin, .int .i64 m.val] 25)) := (d7.block _ ZX6.out).trans RX6.out
  have ZX7 : Hid (gX < u7.heap.size) := Nat.lt_of_lt_of_le ZX6.out d7.size
  have OW7 : Hid (MOwn u2.heap.size u7 vw mm) := OW6.out.keep d7
  have OX7 : Hid (MOwn u4.heap.size u7 vx m) := OX6.out.keep d7
  have B7 : Hid (Below w.heap.size w u7) := B6.out.trans (d7.mono (Nat.le_of_lt ZA6.out))
  clear d7 RA6 ZA6 RW6 ZW6 RX6 ZX6 OW6 OX6 B6
  go_wp2_with (refine wpList_store_row rfl 25 _ _ rfl (u7.heap.size) #[.slice vg.code.a vg.code.len vg.code.cap, .int .i64 mm.pc, .slice vg.regs.a vg.regs.len vg.regs.cap, .slice vg.data.a vg.data.len vg.data.cap, .slice vg.stk.a vg.stk.len vg.stk.cap, .slice vg.inp.a vg.inp.len vg.inp.cap, .slice vg.out.a vg.out.len vg.out.cap, .int .i64 mm.steps, .int .i64 mm.fin, .int .i64 mm.val] ?hx ?hy 25 #[.slice none 0 0, .int .i64 0, .slice none 0 0, .slice none 0 0, .slice none 0 0, .slice none 0 0, .slice none 0 0, .int .i64 0, .int .i64 0, .int .i64 0] ?hg ?hi ?ho ?h1 ?_; (case hx => rfl); (case hy => rfl); (case hg => exact heap_alloc_new u7 _); (case hi => kernel_rfl); (case ho => kernel_rfl); (case h1 => kernel_rfl); refine Hid.out ?_)
  unfold Hid
  rw [World.setRow_alloc_new]
  refine wpList_at fun u8 hu8 => ?_
  have d8 : Below u7.heap.size u7 u8 := by rw [hu8]; exact below_alloc u7 _
  have RG8 : Hid (u8.heap[u7.heap.size]? = some (.cells #[.slice vg.code.a vg.code.len vg.code.cap, .int .i64 mm.pc, .slice vg.regs.a vg.regs.len vg.regs.cap, .slice vg.data.a vg.data.len vg.data.cap, .slice vg.stk.a vg.stk.len vg.stk.cap, .slice vg.inp.a vg.inp.len vg.inp.cap, .slice vg.out.a vg.out.len vg.out.cap, .int .i64 mm.steps, .int .i64 mm.fin, .int .i64 mm.val] 25)) := by show u8.heap[u7.heap.size]? = _; rw [hu8]; exact heap_alloc_new u7 _
  have ZG8 : Hid (u7.heap.size < u8.heap.size) := by show u7.heap.size < u8.heap.size; rw [hu8]; simp
  clear hu8
  have RA8 : Hid (u8.heap[w.heap.size]? = some (.cells #[.slice v.code.a v.code.len v.code.cap, .int .i64 m.pc, .slice v.regs.a v.regs.len v.regs.cap, .slice v.data.a v.data.len v.data.cap, .slice v.stk.a v.stk.len v.stk.cap, .slice v.inp.a v.inp.len v.inp.cap, .slice v.out.a v.out.len v.out.cap, .int .i64 m.steps, .int .i64 m.fin, .int .i64 m.val] 36)) := (d8.block _ ZA7.out).trans RA7.out
  have ZA8 : Hid (w.heap.size < u8.heap.size) := Nat.lt_of_lt_of_le ZA7.out d8.size
  have RW8 : Hid (u8.heap[gW]? = some (.cells #[.slice vw.code.a vw.code.len vw.code.cap, .int .i64 mm.pc, .slice vw.regs.a vw.regs.len vw.regs.cap, .slice vw.data.a vw.data.len vw.data.cap, .slice vw.stk.a vw.stk.len vw.stk.cap, .slice vw.inp.a vw.inp.len vw.inp.cap, .slice vw.out.a vw.out.len vw.out.cap, .int .i64 mm.steps, .int .i64 mm.fin, .int .i64 mm.val] 25)) := (d8.block _ ZW7.out).trans RW7.out
  have ZW8 : Hid (gW < u8.heap.size) := Nat.lt_of_lt_of_le ZW7.out d8.size
  have RX8 : Hid (u8.heap[gX]? = some (.cells #[.slice vx.code.a vx.code.len vx.code.cap, .int .i64 m.pc, .slice vx.regs.a vx.regs.len vx.regs.cap, .slice vx.data.a vx.data.len vx.data.cap, .slice vx.stk.a vx.stk.len vx.stk.cap, .slice vx.inp.a vx.inp.len vx.inp.cap, .slice vx.out.a vx.out.len vx.out.cap, .int .i64 m.steps, .int .i64 m.fin, .int .i64 m.val] 25)) := (d8.block _ ZX7.out).trans RX7.out
  have ZX8 : Hid (gX < u8.heap.size) := Nat.lt_of_lt_of_le ZX7.out d8.size
  have OW8 : Hid (MOwn u2.heap.size u8 vw mm) := OW7.out.keep d8
  have OX8 : Hid (MOwn u4.heap.size u8 vx m) := OX7.out.keep d8
  have OG8 : Hid (WrM u6.heap.size u8 vg mm) := OG7.out.keep d8
  have B8 : Hid (Below w.heap.size w u8) := B7.out.trans (d8.mono (Nat.le_of_lt ZA7.out))
  clear d8 RA7 ZA7 RW7 ZW7 RX7 ZX7 OW7 OX7 OG7 B7
  obtain ⟨gG, hgG⟩ : ∃ g, g = u7.heap.size := ⟨_, rfl⟩
  rw [← hgG] at RG8 ZG8 ⊢
  have HGG : Hid (gG = u7.heap.size) := hgG
  clear hgG
  have Z67 : Hid (u6.heap.size ≤ gG ∧ u5.heap.size = gX) := ⟨by rw [HGG.out]; exact Z67a.out, HGX.out.symm⟩
  clear Z67a
  go_wp2_with (first | (refine wpList_load_row rfl 25 _ rfl (gG) ?hx 25 #[.slice vg.code.a vg.code.len vg.code.cap, .int .i64 mm.pc, .slice vg.regs.a vg.regs.len vg.regs.cap, .slice vg.data.a vg.data.len vg.data.cap, .slice vg.stk.a vg.stk.len vg.stk.cap, .slice vg.inp.a vg.inp.len vg.inp.cap, .slice vg.out.a vg.out.len vg.out.cap, .int .i64 mm.steps, .int .i64 mm.fin, .int .i64 mm.val] (0, 0) _ ?hg Tryz.underlying25 ?hd ?hi ?_; (case hx => rfl); (case hg => exact RG8.out); (case hd => rfl); (case hi => kernel_rfl)) | (refine wpList_load_row rfl 25 _ rfl (gW) ?hx 25 #[.slice vw.code.a vw.code.len vw.code.cap, .int .i64 mm.pc, .slice vw.regs.a vw.regs.len vw.regs.cap, .slice vw.data.a vw.data.len vw.data.cap, .slice vw.stk.a vw.stk.len vw.stk.cap, .slice vw.inp.a vw.inp.len vw.inp.cap, .slice vw.out.a vw.out.len vw.out.cap, .int .i64 mm.steps, .int .i64 mm.fin, .int .i64 mm.val] (0, 0) _ ?hg Tryz.underlying25 ?hd ?hi ?_; (case hx => rfl); (case hg => exact RW8.out); (case hd => rfl); (case hi => kernel_rfl)))
  refine (EQ.out _ _ vg vw u8 OG8.out.is OW8.out.is).mono ?_
  rintro e u9 ⟨rfl, d9⟩
  have RA9 : Hid (u9.heap[w.heap.size]? = some (.cells #[.slice v.code.a v.code.len v.code.cap, .int .i64 m.pc, .slice v.regs.a v.regs.len v.regs.cap, .slice v.data.a v.data.len v.data.cap, .slice v.stk.a v.stk.len v.stk.cap, .slice v.inp.a v.inp.len v.inp.cap, .slice v.out.a v.out.len v.out.cap, .int .i64 m.steps, .int .i64 m.fin, .int .i64 m.val] 36)) := (d9.block _ ZA8.out).trans RA8.out
  have ZA9 : Hid (w.heap.size < u9.heap.size) := Nat.lt_of_lt_of_le ZA8.out d9.size
  have RW9 : Hid (u9.heap[gW]? = some (.cells #[.slice vw.code.a vw.code.len vw.code.cap, .int .i64 mm.pc, .slice vw.regs.a vw.regs.len vw.regs.cap, .slice vw.data.a vw.data.len vw.data.cap, .slice vw.stk.a vw.stk.len vw.stk.cap, .slice vw.inp.a vw.inp.len vw.inp.cap, .slice vw.out.a vw.out.len vw.out.cap, .int .i64 mm.steps, .int .i64 mm.fin, .int .i64 mm.val] 25)) := (d9.block _ ZW8.out).trans RW8.out
  have ZW9 : Hid (gW < u9.heap.size) := Nat.lt_of_lt_of_le ZW8.out d9.size
  have RX9 : Hid (u9.heap[gX]? = some (.cells #[.slice vx.code.a vx.code.len vx.code.cap, .int .i64 m.pc, .slice vx.regs.a vx.regs.len vx.regs.cap, .slice vx.data.a vx.data.len vx.data.cap, .slice vx.stk.a vx.stk.len vx.stk.cap, .slice vx.inp.a vx.inp.len vx.inp.cap, .slice vx.out.a vx.out.len vx.out.cap, .int .i64 m.steps, .int .i64 m.fin, .int .i64 m.val] 25)) := (d9.block _ ZX8.out).trans RX8.out
  have ZX9 : Hid (gX < u9.heap.size) := Nat.lt_of_lt_of_le ZX8.out d9.size
  have RG9 : Hid (u9.heap[gG]? = some (.cells #[.slice vg.code.a vg.code.len vg.code.cap, .int .i64 mm.pc, .slice vg.regs.a vg.regs.len vg.regs.cap, .slice vg.data.a vg.data.len vg.data.cap, .slice vg.stk.a vg.stk.len vg.stk.cap, .slice vg.inp.a vg.inp.len vg.inp.cap, .slice vg.out.a vg.out.len vg.out.cap, .int .i64 mm.steps, .int .i64 mm.fin, .int .i64 mm.val] 25)) := (d9.block _ ZG8.out).trans RG8.out
  have ZG9 : Hid (gG < u9.heap.size) := Nat.lt_of_lt_of_le ZG8.out d9.size
  have OW9 : Hid (MOwn u2.heap.size u9 vw mm) := OW8.out.keep d9
  have OX9 : Hid (MOwn u4.heap.size u9 vx m) := OX8.out.keep d9
  have OG9 : Hid (WrM u6.heap.size u9 vg mm) := OG8.out.keep d9
  have B9 : Hid (Below w.heap.size w u9) := B8.out.trans (d9.mono (Nat.le_of_lt ZA8.out))
  clear d9 RA8 ZA8 RW8 ZW8 RX8 ZX8 RG8 ZG8 OW8 OX8 OG8 B8
  go_upto_region 10 with fail
  go_cut [31] from 27 to 30 (fun vc wx => vc = .bool false ∧ Below u9.heap.size u9 wx)
  case first =>
    have kx : ∀ j, u9.cell? ⟨gX, j, none⟩ = (#[.slice vx.code.a vx.code.len vx.code.cap, .int .i64 m.pc, .slice vx.regs.a vx.regs.len vx.regs.cap, .slice vx.data.a vx.data.len vx.data.cap, .slice vx.stk.a vx.stk.len vx.stk.cap, .slice vx.inp.a vx.inp.len vx.inp.cap, .slice vx.out.a vx.out.len vx.out.cap, .int .i64 m.steps, .int .i64 m.fin, .int .i64 m.val] : Array Value)[j]? := fun j => cell_of_row u9 gX j _ 25 (0, 0) RX9.out
    have kp : ∀ j, u9.cell? ⟨w.heap.size, j, none⟩ = (#[.slice v.code.a v.code.len v.code.cap, .int .i64 m.pc, .slice v.regs.a v.regs.len v.regs.cap, .slice v.data.a v.data.len v.data.cap, .slice v.stk.a v.stk.len v.stk.cap, .slice v.inp.a v.inp.len v.inp.cap, .slice v.out.a v.out.len v.out.cap, .int .i64 m.steps, .int .i64 m.fin, .int .i64 m.val] : Array Value)[j]? := fun j => cell_of_row u9 w.heap.size j _ 36 (0, 0) RA9.out
    go_region_with (first | (go_at_call 18; refine (toMachine_any v m _ (H.out.keep (by repeat (first | exact B9.out | refine Below.drew ?_ | refine below_drewN ?_ _))) HS.out).mono ?_; rintro e y7 ⟨v7, rfl, o7, d7⟩; have kx7 : ∀ j, y7.cell? ⟨gX, j, none⟩ = (#[.slice vx.code.a vx.code.len vx.code.cap, .int .i64 m.pc, .slice vx.regs.a vx.regs.len vx.regs.cap, .slice vx.data.a vx.data.len vx.data.cap, .slice vx.stk.a vx.stk.len vx.stk.cap, .slice vx.inp.a vx.inp.len vx.inp.cap, .slice vx.out.a vx.out.len vx.out.cap, .int .i64 m.steps, .int .i64 m.fin, .int .i64 m.val] : Array Value)[j]? := (fun j => cell_of_row y7 gX j _ 25 (0, 0) ((d7.block _ ZX9.out).trans RX9.out)); have O7 : Hid (MOwn _ y7 v7 m) := o7; have D7 : Hid (Below u9.heap.size u9 y7) := ((Below.refl u9.heap.size u9).drew).trans d7; clear o7 d7) | (go_at_call 19; refine (eqMachine_same vx v7 m _ (OX9.out.is.keep D7.out) O7.out.is).mono ?_; rintro e y8 ⟨rfl, d8⟩; have D8 : Hid (Below y7.heap.size y7 y8) := d8; clear d8))
    all_goals
      go_wp2_with fail
      go_meet
      exact ⟨rfl, D7.out.trans (D8.out.mono D7.out.size)⟩
  case rest =>
  obtain ⟨rfl, d10⟩ := hcut
  obtain ⟨u10, hu10⟩ : ∃ u : World, u = wc := ⟨wc, rfl⟩
  rw [← hu10] at d10 ⊢
  clear hu10
  have RA10 : Hid (u10.heap[w.heap.size]? = some (.cells #[.slice v.code.a v.code.len v.code.cap, .int .i64 m.pc, .slice v.regs.a v.regs.len v.regs.cap, .slice v.data.a v.data.len v.data.cap, .slice v.stk.a v.stk.len v.stk.cap, .slice v.inp.a v.inp.len v.inp.cap, .slice v.out.a v.out.len v.out.cap, .int .i64 m.steps, .int .i64 m.fin, .int .i64 m.val] 36)) := (d10.block _ ZA9.out).trans RA9.out
  have ZA10 : Hid (w.heap.size < u10.heap.size) := Nat.lt_of_lt_of_le ZA9.out d10.size
  have RW10 : Hid (u10.heap[gW]? = some (.cells #[.slice vw.code.a vw.code.len vw.code.cap, .int .i64 mm.pc, .slice vw.regs.a vw.regs.len vw.regs.cap, .slice vw.data.a vw.data.len vw.data.cap, .slice vw.stk.a vw.stk.len vw.stk.cap, .slice vw.inp.a vw.inp.len vw.inp.cap, .slice vw.out.a vw.out.len vw.out.cap, .int .i64 mm.steps, .int .i64 mm.fin, .int .i64 mm.val] 25)) := (d10.block _ ZW9.out).trans RW9.out
  have ZW10 : Hid (gW < u10.heap.size) := Nat.lt_of_lt_of_le ZW9.out d10.size
  have RX10 : Hid (u10.heap[gX]? = some (.cells #[.slice vx.code.a vx.code.len vx.code.cap, .int .i64 m.pc, .slice vx.regs.a vx.regs.len vx.regs.cap, .slice vx.data.a vx.data.len vx.data.cap, .slice vx.stk.a vx.stk.len vx.stk.cap, .slice vx.inp.a vx.inp.len vx.inp.cap, .slice vx.out.a vx.out.len vx.out.cap, .int .i64 m.steps, .int .i64 m.fin, .int .i64 m.val] 25)) := (d10.block _ ZX9.out).trans RX9.out
  have ZX10 : Hid (gX < u10.heap.size) := Nat.lt_of_lt_of_le ZX9.out d10.size
  have RG10 : Hid (u10.heap[gG]? = some (.cells #[.slice vg.code.a vg.code.len vg.code.cap, .int .i64 mm.pc, .slice vg.regs.a vg.regs.len vg.regs.cap, .slice vg.data.a vg.data.len vg.data.cap, .slice vg.stk.a vg.stk.len vg.stk.cap, .slice vg.inp.a vg.inp.len vg.inp.cap, .slice vg.out.a vg.out.len vg.out.cap, .int .i64 mm.steps, .int .i64 mm.fin, .int .i64 mm.val] 25)) := (d10.block _ ZG9.out).trans RG9.out
  have ZG10 : Hid (gG < u10.heap.size) := Nat.lt_of_lt_of_le ZG9.out d10.size
  have OW10 : Hid (MOwn u2.heap.size u10 vw mm) := OW9.out.keep d10
  have OX10 : Hid (MOwn u4.heap.size u10 vx m) := OX9.out.keep d10
  have OG10 : Hid (WrM u6.heap.size u10 vg mm) := OG9.out.keep d10
  have B10 : Hid (Below w.heap.size w u10) := B9.out.trans (d10.mono (Nat.le_of_lt ZA9.out))
  clear d10 RA9 ZA9 RW9 ZW9 RX9 ZX9 RG9 ZG9 OW9 OX9 OG9 B9
  go_wp2_with (refine wpList_load_row rfl 25 _ rfl (gX) ?hx 25 #[.slice vx.code.a vx.code.len vx.code.cap, .int .i64 m.pc, .slice vx.regs.a vx.regs.len vx.regs.cap, .slice vx.data.a vx.data.len vx.data.cap, .slice vx.stk.a vx.stk.len vx.stk.cap, .slice vx.inp.a vx.inp.len vx.inp.cap, .slice vx.out.a vx.out.len vx.out.cap, .int .i64 m.steps, .int .i64 m.fin, .int .i64 m.val] (0, 0) _ ?hg Tryz.underlying25 ?hd ?hi ?_; (case hx => rfl); (case hg => exact RX10.out); (case hd => rfl); (case hi => kernel_rfl))
  obtain ⟨t0, t6, sx, x0, x6⟩ := SPX.out
  obtain ⟨q0, q6, sg, y0, y6⟩ := SPG.out
  have hle := sx.le
  have hx6 : t6 ≤ u10.heap.size := by have := ZX10.out; have := Z67.out; omega
  have hy10 : q6 ≤ u10.heap.size := by have := ZG10.out; have := HGG.out; omega
  have ING : Hid (MApart q0 q6 vg) := sg
  refine (markMachine_any vx m 1 u10 OX10.out sx hx6 (by decide) HS.out).mono ?_
  rintro e u11 ⟨rfl, _, t11⟩
  have RA11 : Hid (u11.heap[w.heap.size]? = some (.cells #[.slice v.code.a v.code.len v.code.cap, .int .i64 m.pc, .slice v.regs.a v.regs.len v.regs.cap, .slice v.data.a v.data.len v.data.cap, .slice v.stk.a v.stk.len v.stk.cap, .slice v.inp.a v.inp.len v.inp.cap, .slice v.out.a v.out.len v.out.cap, .int .i64 m.steps, .int .i64 m.fin, .int .i64 m.val] 36)) := (t11.block _ ZA10.out (by have := INW.out; have := Z56.out; have := Z67.out; have := HGW.out; have := HGG.out; omega)).trans RA10.out
  have ZA11 : Hid (w.heap.size < u11.heap.size) := Nat.lt_of_lt_of_le ZA10.out t11.size
  have RW11 : Hid (u11.heap[gW]? = some (.cells #[.slice vw.code.a vw.code.len vw.code.cap, .int .i64 mm.pc, .slice vw.regs.a vw.regs.len vw.regs.cap, .slice vw.data.a vw.data.len vw.data.cap, .slice vw.stk.a vw.stk.len vw.stk.cap, .slice vw.inp.a vw.inp.len vw.inp.cap, .slice vw.out.a vw.out.len vw.out.cap, .int .i64 mm.steps, .int .i64 mm.fin, .int .i64 mm.val] 25)) := (t11.block _ ZW10.out (by have := INW.out; have := Z56.out; have := Z67.out; have := HGW.out; have := HGG.out; omega)).trans RW10.out
  have ZW11 : Hid (gW < u11.heap.size) := Nat.lt_of_lt_of_le ZW10.out t11.size
  have RX11 : Hid (u11.heap[gX]? = some (.cells #[.slice vx.code.a vx.code.len vx.code.cap, .int .i64 m.pc, .slice vx.regs.a vx.regs.len vx.regs.cap, .slice vx.data.a vx.data.len vx.data.cap, .slice vx.stk.a vx.stk.len vx.stk.cap, .slice vx.inp.a vx.inp.len vx.inp.cap, .slice vx.out.a vx.out.len vx.out.cap, .int .i64 m.steps, .int .i64 m.fin, .int .i64 m.val] 25)) := (t11.block _ ZX10.out (by have := INW.out; have := Z56.out; have := Z67.out; have := HGW.out; have := HGG.out; omega)).trans RX10.out
  have ZX11 : Hid (gX < u11.heap.size) := Nat.lt_of_lt_of_le ZX10.out t11.size
  have RG11 : Hid (u11.heap[gG]? = some (.cells #[.slice vg.code.a vg.code.len vg.code.cap, .int .i64 mm.pc, .slice vg.regs.a vg.regs.len vg.regs.cap, .slice vg.data.a vg.data.len vg.data.cap, .slice vg.stk.a vg.stk.len vg.stk.cap, .slice vg.inp.a vg.inp.len vg.inp.cap, .slice vg.out.a vg.out.len vg.out.cap, .int .i64 mm.steps, .int .i64 mm.fin, .int .i64 mm.val] 25)) := (t11.block _ ZG10.out (by have := INW.out; have := Z56.out; have := Z67.out; have := HGW.out; have := HGG.out; omega)).trans RG10.out
  have ZG11 : Hid (gG < u11.heap.size) := Nat.lt_of_lt_of_le ZG10.out t11.size
  have OW11 : Hid (MOwn u2.heap.size u11 vw mm) := OW10.out.outside INW.out.1 t11 (by have := INW.out; have := Z56.out; have := Z67.out; omega)
  have OG11 : Hid (WrM u6.heap.size u11 vg mm) := OG10.out.outside ING.out t11 (by have := INW.out; have := Z56.out; have := Z67.out; omega) hy10
  have B11 : Hid (Below w.heap.size w u11) := B10.out.trans ((t11.below (by have := INW.out; have := ZG10.out; have := ZX10.out; have := Z56.out; have := Z67.out; have := HGG.out; omega)).mono (by have := INW.out; have := Z56.out; omega))
  clear t11 RA10 ZA10 RW10 ZW10 RX10 ZX10 RG10 ZG10 OW10 OX10 OG10 B10
  obtain ⟨K, hK⟩ : ∃ K : Int, K = 1 + (Pl.mSize m : Int) := ⟨_, rfl⟩
  rw [← hK]
  have hk0 : ¬ K < 0 := by omega
  have hdk : decide (K < 0) = false := by simp [hk0]
  clear hK hx6 x0 x6 sx hle hy10
  have kg : ∀ j, u11.cell? ⟨gG, j, none⟩ = (#[.slice vg.code.a vg.code.len vg.code.cap, .int .i64 mm.pc, .slice vg.regs.a vg.regs.len vg.regs.cap, .slice vg.data.a vg.data.len vg.data.cap, .slice vg.stk.a vg.stk.len vg.stk.cap, .slice vg.inp.a vg.inp.len vg.inp.cap, .slice vg.out.a vg.out.len vg.out.cap, .int .i64 mm.steps, .int .i64 mm.fin, .int .i64 mm.val] : Array Value)[j]? := fun j => cell_of_row u11 gG j _ 25 (0, 0) RG11.out
  have kw : ∀ j, u11.cell? ⟨gW, j, none⟩ = (#[.slice vw.code.a vw.code.len vw.code.cap, .int .i64 mm.pc, .slice vw.regs.a vw.regs.len vw.regs.cap, .slice vw.data.a vw.data.len vw.data.cap, .slice vw.stk.a vw.stk.len vw.stk.cap, .slice vw.inp.a vw.inp.len vw.inp.cap, .slice vw.out.a vw.out.len vw.out.cap, .int .i64 mm.steps, .int .i64 mm.fin, .int .i64 mm.val] : Array Value)[j]? := fun j => cell_of_row u11 gW j _ 25 (0, 0) RW11.out
  have YY : Hid (u6.heap.size ≤ q0 ∧ q6 ≤ u7.heap.size) := ⟨y0, y6⟩
  clear y0 y6 sg
  go_wp2_with fail
  clear kg kw hk0 hdk
  refine (EQ.out _ _ vg vw u11 OG11.out.is OW11.out.is).mono ?_
  rintro e u12 ⟨rfl, d12⟩
  have RA12 : Hid (u12.heap[w.heap.size]? = some (.cells #[.slice v.code.a v.code.len v.code.cap, .int .i64 m.pc, .slice v.regs.a v.regs.len v.regs.cap, .slice v.data.a v.data.len v.data.cap, .slice v.stk.a v.stk.len v.stk.cap, .slice v.inp.a v.inp.len v.inp.cap, .slice v.out.a v.out.len v.out.cap, .int .i64 m.steps, .int .i64 m.fin, .int .i64 m.val] 36)) := (d12.block _ ZA11.out).trans RA11.out
  have ZA12 : Hid (w.heap.size < u12.heap.size) := Nat.lt_of_lt_of_le ZA11.out d12.size
  have RW12 : Hid (u12.heap[gW]? = some (.cells #[.slice vw.code.a vw.code.len vw.code.cap, .int .i64 mm.pc, .slice vw.regs.a vw.regs.len vw.regs.cap, .slice vw.data.a vw.data.len vw.data.cap, .slice vw.stk.a vw.stk.len vw.stk.cap, .slice vw.inp.a vw.inp.len vw.inp.cap, .slice vw.out.a vw.out.len vw.out.cap, .int .i64 mm.steps, .int .i64 mm.fin, .int .i64 mm.val] 25)) := (d12.block _ ZW11.out).trans RW11.out
  have ZW12 : Hid (gW < u12.heap.size) := Nat.lt_of_lt_of_le ZW11.out d12.size
  have RX12 : Hid (u12.heap[gX]? = some (.cells #[.slice vx.code.a vx.code.len vx.code.cap, .int .i64 m.pc, .slice vx.regs.a vx.regs.len vx.regs.cap, .slice vx.data.a vx.data.len vx.data.cap, .slice vx.stk.a vx.stk.len vx.stk.cap, .slice vx.inp.a vx.inp.len vx.inp.cap, .slice vx.out.a vx.out.len vx.out.cap, .int .i64 m.steps, .int .i64 m.fin, .int .i64 m.val] 25)) := (d12.block _ ZX11.out).trans RX11.out
  have ZX12 : Hid (gX < u12.heap.size) := Nat.lt_of_lt_of_le ZX11.out d12.size
  have RG12 : Hid (u12.heap[gG]? = some (.cells #[.slice vg.code.a vg.code.len vg.code.cap, .int .i64 mm.pc, .slice vg.regs.a vg.regs.len vg.regs.cap, .slice vg.data.a vg.data.len vg.data.cap, .slice vg.stk.a vg.stk.len vg.stk.cap, .slice vg.inp.a vg.inp.len vg.inp.cap, .slice vg.out.a vg.out.len vg.out.cap, .int .i64 mm.steps, .int .i64 mm.fin, .int .i64 mm.val] 25)) := (d12.block _ ZG11.out).trans RG11.out
  have ZG12 : Hid (gG < u12.heap.size) := Nat.lt_of_lt_of_le ZG11.out d12.size
  have OW12 : Hid (MOwn u2.heap.size u12 vw mm) := OW11.out.keep d12
  have OG12 : Hid (WrM u6.heap.size u12 vg mm) := OG11.out.keep d12
  have B12 : Hid (Below w.heap.size w u12) := B11.out.trans (d12.mono (Nat.le_of_lt ZA11.out))
  clear d12 RA11 ZA11 RW11 ZW11 RX11 ZX11 RG11 ZG11 OW11 OG11 B11
  go_wp2_with (refine wpList_load_row rfl 25 _ rfl (gG) ?hx 25 #[.slice vg.code.a vg.code.len vg.code.cap, .int .i64 mm.pc, .slice vg.regs.a vg.regs.len vg.regs.cap, .slice vg.data.a vg.data.len vg.data.cap, .slice vg.stk.a vg.stk.len vg.stk.cap, .slice vg.inp.a vg.inp.len vg.inp.cap, .slice vg.out.a vg.out.len vg.out.cap, .int .i64 mm.steps, .int .i64 mm.fin, .int .i64 mm.val] (0, 0) _ ?hg Tryz.underlying25 ?hd ?hi ?_; (case hx => rfl); (case hg => exact RG12.out); (case hd => rfl); (case hi => kernel_rfl))
  have hy6 : q6 ≤ u12.heap.size := by have := ZG12.out; have := HGG.out; have := YY.out; omega
  refine (MK.out _ q0 q6 vg u12 OG12.out ING.out hy6).mono ?_
  rintro e u13 ⟨rfl, og, t13⟩
  have y0 := YY.out.1
  have y6 := YY.out.2
  have OM13 : Hid (WrM u6.heap.size u13 vg (marked vg mm 1)) := og
  have OK12 : Hid (WrM u6.heap.size u12 vg mm) := OG12.out
  have hqq : q0 ≤ u12.heap.size ∨ u12.heap.size < q0 := by omega
  obtain ⟨q0', hq0'⟩ : ∃ q, q = min q0 u7.heap.size := ⟨_, rfl⟩
  have hq1 : u6.heap.size ≤ q0' ∧ q0' ≤ q0 ∧ q0' ≤ u12.heap.size := by have := ZG12.out; have := HGG.out; have := Z67.out; omega
  replace t13 : Outside q0' q6 u12 u13 := ⟨t13.os, t13.tape, t13.output, t13.size, fun b h1 h2 => t13.block b h1 (by omega)⟩
  have RA13 : Hid (u13.heap[w.heap.size]? = some (.cells #[.slice v.code.a v.code.len v.code.cap, .int .i64 m.pc, .slice v.regs.a v.regs.len v.regs.cap, .slice v.data.a v.data.len v.data.cap, .slice v.stk.a v.stk.len v.stk.cap, .slice v.inp.a v.inp.len v.inp.cap, .slice v.out.a v.out.len v.out.cap, .int .i64 m.steps, .int .i64 m.fin, .int .i64 m.val] 36)) := (t13.block _ ZA12.out (by have := INW.out; have := Z56.out; have := Z67.out; have := HGW.out; have := HGG.out; omega)).trans RA12.out
  have ZA13 : Hid (w.heap.size < u13.heap.size) := Nat.lt_of_lt_of_le ZA12.out t13.size
  have RW13 : Hid (u13.heap[gW]? = some (.cells #[.slice vw.code.a vw.code.len vw.code.cap, .int .i64 mm.pc, .slice vw.regs.a vw.regs.len vw.regs.cap, .slice vw.data.a vw.data.len vw.data.cap, .slice vw.stk.a vw.stk.len vw.stk.cap, .slice vw.inp.a vw.inp.len vw.inp.cap, .slice vw.out.a vw.out.len vw.out.cap, .int .i64 mm.steps, .int .i64 mm.fin, .int .i64 mm.val] 25)) := (t13.block _ ZW12.out (by have := INW.out; have := Z56.out; have := Z67.out; have := HGW.out; have := HGG.out; omega)).trans RW12.out
  have ZW13 : Hid (gW < u13.heap.size) := Nat.lt_of_lt_of_le ZW12.out t13.size
  have RX13 : Hid (u13.heap[gX]? = some (.cells #[.slice vx.code.a vx.code.len vx.code.cap, .int .i64 m.pc, .slice vx.regs.a vx.regs.len vx.regs.cap, .slice vx.data.a vx.data.len vx.data.cap, .slice vx.stk.a vx.stk.len vx.stk.cap, .slice vx.inp.a vx.inp.len vx.inp.cap, .slice vx.out.a vx.out.len vx.out.cap, .int .i64 m.steps, .int .i64 m.fin, .int .i64 m.val] 25)) := (t13.block _ ZX12.out (by have := INW.out; have := Z56.out; have := Z67.out; have := HGW.out; have := HGG.out; omega)).trans RX12.out
  have ZX13 : Hid (gX < u13.heap.size) := Nat.lt_of_lt_of_le ZX12.out t13.size
  have RG13 : Hid (u13.heap[gG]? = some (.cells #[.slice vg.code.a vg.code.len vg.code.cap, .int .i64 mm.pc, .slice vg.regs.a vg.regs.len vg.regs.cap, .slice vg.data.a vg.data.len vg.data.cap, .slice vg.stk.a vg.stk.len vg.stk.cap, .slice vg.inp.a vg.inp.len vg.inp.cap, .slice vg.out.a vg.out.len vg.out.cap, .int .i64 mm.steps, .int .i64 mm.fin, .int .i64 mm.val] 25)) := (t13.block _ ZG12.out (by have := INW.out; have := Z56.out; have := Z67.out; have := HGW.out; have := HGG.out; omega)).trans RG12.out
  have ZG13 : Hid (gG < u13.heap.size) := Nat.lt_of_lt_of_le ZG12.out t13.size
  have OW13 : Hid (MOwn u2.heap.size u13 vw mm) := OW12.out.outside INW.out.1 t13 (by have := INW.out; have := Z56.out; have := Z67.out; omega)
  have B13 : Hid (Below w.heap.size w u13) := B12.out.trans ((t13.below (by have := hq1; have := INW.out; have := ZG12.out; have := ZX12.out; have := Z56.out; have := Z67.out; have := HGG.out; omega)).mono (by have := INW.out; have := Z56.out; omega))
  clear t13 RA12 ZA12 RW12 ZW12 RX12 ZX12 RG12 ZG12 OW12 OG12 B12
  obtain ⟨K2, hK2⟩ : ∃ K : Int, K = 1 + (Pl.mSize mm : Int) := ⟨_, rfl⟩
  rw [← hK2]
  have HK2 : Hid (K2 = 1 + (Pl.mSize mm : Int)) := hK2
  clear hy6 y0 y6 og hqq hq1 hq0' hK2
  go_wp2_with (refine wpList_load_row rfl 25 _ rfl (gG) ?hx 25 #[.slice vg.code.a vg.code.len vg.code.cap, .int .i64 mm.pc, .slice vg.regs.a vg.regs.len vg.regs.cap, .slice vg.data.a vg.data.len vg.data.cap, .slice vg.stk.a vg.stk.len vg.stk.cap, .slice vg.inp.a vg.inp.len vg.inp.cap, .slice vg.out.a vg.out.len vg.out.cap, .int .i64 mm.steps, .int .i64 mm.fin, .int .i64 mm.val] (0, 0) _ ?hg Tryz.underlying25 ?hd ?hi ?_; (case hx => rfl); (case hg => exact RG13.out); (case hd => rfl); (case hi => kernel_rfl))
  refine (HD.out _ vg u12 u13 OK12.out OM13.out.is).mono ?_
  rintro e u14 ⟨rfl, d14⟩
  rw [← HK2.out]
  clear OK12 OM13
  have RA14 : Hid (u14.heap[w.heap.size]? = some (.cells #[.slice v.code.a v.code.len v.code.cap, .int .i64 m.pc, .slice v.regs.a v.regs.len v.regs.cap, .slice v.data.a v.data.len v.data.cap, .slice v.stk.a v.stk.len v.stk.cap, .slice v.inp.a v.inp.len v.inp.cap, .slice v.out.a v.out.len v.out.cap, .int .i64 m.steps, .int .i64 m.fin, .int .i64 m.val] 36)) := (d14.block _ ZA13.out).trans RA13.out
  have ZA14 : Hid (w.heap.size < u14.heap.size) := Nat.lt_of_lt_of_le ZA13.out d14.size
  have RW14 : Hid (u14.heap[gW]? = some (.cells #[.slice vw.code.a vw.code.len vw.code.cap, .int .i64 mm.pc, .slice vw.regs.a vw.regs.len vw.regs.cap, .slice vw.data.a vw.data.len vw.data.cap, .slice vw.stk.a vw.stk.len vw.stk.cap, .slice vw.inp.a vw.inp.len vw.inp.cap, .slice vw.out.a vw.out.len vw.out.cap, .int .i64 mm.steps, .int .i64 mm.fin, .int .i64 mm.val] 25)) := (d14.block _ ZW13.out).trans RW13.out
  have ZW14 : Hid (gW < u14.heap.size) := Nat.lt_of_lt_of_le ZW13.out d14.size
  have RX14 : Hid (u14.heap[gX]? = some (.cells #[.slice vx.code.a vx.code.len vx.code.cap, .int .i64 m.pc, .slice vx.regs.a vx.regs.len vx.regs.cap, .slice vx.data.a vx.data.len vx.data.cap, .slice vx.stk.a vx.stk.len vx.stk.cap, .slice vx.inp.a vx.inp.len vx.inp.cap, .slice vx.out.a vx.out.len vx.out.cap, .int .i64 m.steps, .int .i64 m.fin, .int .i64 m.val] 25)) := (d14.block _ ZX13.out).trans RX13.out
  have ZX14 : Hid (gX < u14.heap.size) := Nat.lt_of_lt_of_le ZX13.out d14.size
  have RG14 : Hid (u14.heap[gG]? = some (.cells #[.slice vg.code.a vg.code.len vg.code.cap, .int .i64 mm.pc, .slice vg.regs.a vg.regs.len vg.regs.cap, .slice vg.data.a vg.data.len vg.data.cap, .slice vg.stk.a vg.stk.len vg.stk.cap, .slice vg.inp.a vg.inp.len vg.inp.cap, .slice vg.out.a vg.out.len vg.out.cap, .int .i64 mm.steps, .int .i64 mm.fin, .int .i64 mm.val] 25)) := (d14.block _ ZG13.out).trans RG13.out
  have ZG14 : Hid (gG < u14.heap.size) := Nat.lt_of_lt_of_le ZG13.out d14.size
  have OW14 : Hid (MOwn u2.heap.size u14 vw mm) := OW13.out.keep d14
  have B14 : Hid (Below w.heap.size w u14) := B13.out.trans (d14.mono (Nat.le_of_lt ZA13.out))
  clear d14 RA13 ZA13 RW13 ZW13 RX13 ZX13 RG13 ZG13 OW13 B13
  have hk0 : ¬ K2 < 0 := by have := HK2.out; omega
  go_wp2_with (refine wpList_load_row rfl 36 _ rfl (w.heap.size) ?hx 36 #[.slice v.code.a v.code.len v.code.cap, .int .i64 m.pc, .slice v.regs.a v.regs.len v.regs.cap, .slice v.data.a v.data.len v.data.cap, .slice v.stk.a v.stk.len v.stk.cap, .slice v.inp.a v.inp.len v.inp.cap, .slice v.out.a v.out.len v.out.cap, .int .i64 m.steps, .int .i64 m.fin, .int .i64 m.val] (0, 0) _ ?hg Tryz.underlying36 ?hd ?hi ?_; (case hx => rfl); (case hg => exact RA14.out); (case hd => rfl); (case hi => kernel_rfl))
  refine (toMachine_any v m u14 (H.out.keep B14.out) HS.out).mono ?_
  rintro e u15 ⟨v15, rfl, o15, d15⟩
  have OT15 : Hid (MOwn u14.heap.size u15 v15 m) := o15
  clear o15
  have RA15 : Hid (u15.heap[w.heap.size]? = some (.cells #[.slice v.code.a v.code.len v.code.cap, .int .i64 m.pc, .slice v.regs.a v.regs.len v.regs.cap, .slice v.data.a v.data.len v.data.cap, .slice v.stk.a v.stk.len v.stk.cap, .slice v.inp.a v.inp.len v.inp.cap, .slice v.out.a v.out.len v.out.cap, .int .i64 m.steps, .int .i64 m.fin, .int .i64 m.val] 36)) := (d15.block _ ZA14.out).trans RA14.out
  have ZA15 : Hid (w.heap.size < u15.heap.size) := Nat.lt_of_lt_of_le ZA14.out d15.size
  have RW15 : Hid (u15.heap[gW]? = some (.cells #[.slice vw.code.a vw.code.len vw.code.cap, .int .i64 mm.pc, .slice vw.regs.a vw.regs.len vw.regs.cap, .slice vw.data.a vw.data.len vw.data.cap, .slice vw.stk.a vw.stk.len vw.stk.cap, .slice vw.inp.a vw.inp.len vw.inp.cap, .slice vw.out.a vw.out.len vw.out.cap, .int .i64 mm.steps, .int .i64 mm.fin, .int .i64 mm.val] 25)) := (d15.block _ ZW14.out).trans RW14.out
  have ZW15 : Hid (gW < u15.heap.size) := Nat.lt_of_lt_of_le ZW14.out d15.size
  have RX15 : Hid (u15.heap[gX]? = some (.cells #[.slice vx.code.a vx.code.len vx.code.cap, .int .i64 m.pc, .slice vx.regs.a vx.regs.len vx.regs.cap, .slice vx.data.a vx.data.len vx.data.cap, .slice vx.stk.a vx.stk.len vx.stk.cap, .slice vx.inp.a vx.inp.len vx.inp.cap, .slice vx.out.a vx.out.len vx.out.cap, .int .i64 m.steps, .int .i64 m.fin, .int .i64 m.val] 25)) := (d15.block _ ZX14.out).trans RX14.out
  have ZX15 : Hid (gX < u15.heap.size) := Nat.lt_of_lt_of_le ZX14.out d15.size
  have RG15 : Hid (u15.heap[gG]? = some (.cells #[.slice vg.code.a vg.code.len vg.code.cap, .int .i64 mm.pc, .slice vg.regs.a vg.regs.len vg.regs.cap, .slice vg.data.a vg.data.len vg.data.cap, .slice vg.stk.a vg.stk.len vg.stk.cap, .slice vg.inp.a vg.inp.len vg.inp.cap, .slice vg.out.a vg.out.len vg.out.cap, .int .i64 mm.steps, .int .i64 mm.fin, .int .i64 mm.val] 25)) := (d15.block _ ZG14.out).trans RG14.out
  have ZG15 : Hid (gG < u15.heap.size) := Nat.lt_of_lt_of_le ZG14.out d15.size
  have OW15 : Hid (MOwn u2.heap.size u15 vw mm) := OW14.out.keep d15
  have B15 : Hid (Below w.heap.size w u15) := B14.out.trans (d15.mono (Nat.le_of_lt ZA14.out))
  clear d15 RA14 ZA14 RW14 ZW14 RX14 ZX14 RG14 ZG14 OW14 B14
  go_wp2_with fail
  refine (IM.out _ v15 u15 OT15.out B15.out).mono ?_
  rintro e u16 ⟨vh, rfl, oh, _, d16⟩
  have OH16 : Hid (WrM u15.heap.size u16 vh mm) := oh
  clear oh OT15
  have RA16 : Hid (u16.heap[w.heap.size]? = some (.cells #[.slice v.code.a v.code.len v.code.cap, .int .i64 m.pc, .slice v.regs.a v.regs.len v.regs.cap, .slice v.data.a v.data.len v.data.cap, .slice v.stk.a v.stk.len v.stk.cap, .slice v.inp.a v.inp.len v.inp.cap, .slice v.out.a v.out.len v.out.cap, .int .i64 m.steps, .int .i64 m.fin, .int .i64 m.val] 36)) := (d16.block _ ZA15.out).trans RA15.out
  have ZA16 : Hid (w.heap.size < u16.heap.size) := Nat.lt_of_lt_of_le ZA15.out d16.size
  have RW16 : Hid (u16.heap[gW]? = some (.cells #[.slice vw.code.a vw.code.len vw.code.cap, .int .i64 mm.pc, .slice vw.regs.a vw.regs.len vw.regs.cap, .slice vw.data.a vw.data.len vw.data.cap, .slice vw.stk.a vw.stk.len vw.stk.cap, .slice vw.inp.a vw.inp.len vw.inp.cap, .slice vw.out.a vw.out.len vw.out.cap, .int .i64 mm.steps, .int .i64 mm.fin, .int .i64 mm.val] 25)) := (d16.block _ ZW15.out).trans RW15.out
  have ZW16 : Hid (gW < u16.heap.size) := Nat.lt_of_lt_of_le ZW15.out d16.size
  have RX16 : Hid (u16.heap[gX]? = some (.cells #[.slice vx.code.a vx.code.len vx.code.cap, .int .i64 m.pc, .slice vx.regs.a vx.regs.len vx.regs.cap, .slice vx.data.a vx.data.len vx.data.cap, .slice vx.stk.a vx.stk.len vx.stk.cap, .slice vx.inp.a vx.inp.len vx.inp.cap, .slice vx.out.a vx.out.len vx.out.cap, .int .i64 m.steps, .int .i64 m.fin, .int .i64 m.val] 25)) := (d16.block _ ZX15.out).trans RX15.out
  have ZX16 : Hid (gX < u16.heap.size) := Nat.lt_of_lt_of_le ZX15.out d16.size
  have RG16 : Hid (u16.heap[gG]? = some (.cells #[.slice vg.code.a vg.code.len vg.code.cap, .int .i64 mm.pc, .slice vg.regs.a vg.regs.len vg.regs.cap, .slice vg.data.a vg.data.len vg.data.cap, .slice vg.stk.a vg.stk.len vg.stk.cap, .slice vg.inp.a vg.inp.len vg.inp.cap, .slice vg.out.a vg.out.len vg.out.cap, .int .i64 mm.steps, .int .i64 mm.fin, .int .i64 mm.val] 25)) := (d16.block _ ZG15.out).trans RG15.out
  have ZG16 : Hid (gG < u16.heap.size) := Nat.lt_of_lt_of_le ZG15.out d16.size
  have OW16 : Hid (MOwn u2.heap.size u16 vw mm) := OW15.out.keep d16
  have B16 : Hid (Below w.heap.size w u16) := B15.out.trans (d16.mono (Nat.le_of_lt ZA15.out))
  clear d16 RA15 ZA15 RW15 ZW15 RX15 ZX15 RG15 ZG15 OW15 B15
  go_wp2_with (refine wpList_store_row rfl 25 _ _ rfl (u16.heap.size) #[.slice vh.code.a vh.code.len vh.code.cap, .int .i64 mm.pc, .slice vh.regs.a vh.regs.len vh.regs.cap, .slice vh.data.a vh.data.len vh.data.cap, .slice vh.stk.a vh.stk.len vh.stk.cap, .slice vh.inp.a vh.inp.len vh.inp.cap, .slice vh.out.a vh.out.len vh.out.cap, .int .i64 mm.steps, .int .i64 mm.fin, .int .i64 mm.val] ?hx ?hy 25 #[.slice none 0 0, .int .i64 0, .slice none 0 0, .slice none 0 0, .slice none 0 0, .slice none 0 0, .slice none 0 0, .int .i64 0, .int .i64 0, .int .i64 0] ?hg ?hi ?ho ?h1 ?_; (case hx => rfl); (case hy => rfl); (case hg => exact heap_alloc_new u16 _); (case hi => kernel_rfl); (case ho => kernel_rfl); (case h1 => kernel_rfl); refine Hid.out ?_)
  unfold Hid
  rw [World.setRow_alloc_new]
  refine wpList_at fun u17 hu17 => ?_
  have d17 : Below u16.heap.size u16 u17 := by rw [hu17]; exact below_alloc u16 _
  have RH17 : Hid (u17.heap[u16.heap.size]? = some (.cells #[.slice vh.code.a vh.code.len vh.code.cap, .int .i64 mm.pc, .slice vh.regs.a vh.regs.len vh.regs.cap, .slice vh.data.a vh.data.len vh.data.cap, .slice vh.stk.a vh.stk.len vh.stk.cap, .slice vh.inp.a vh.inp.len vh.inp.cap, .slice vh.out.a vh.out.len vh.out.cap, .int .i64 mm.steps, .int .i64 mm.fin, .int .i64 mm.val] 25)) := by show u17.heap[u16.heap.size]? = _; rw [hu17]; exact heap_alloc_new u16 _
  have ZH17 : Hid (u16.heap.size < u17.heap.size) := by show u16.heap.size < u17.heap.size; rw [hu17]; simp
  clear hu17
  have RA17 : Hid (u17.heap[w.heap.size]? = some (.cells #[.slice v.code.a v.code.len v.code.cap, .int .i64 m.pc, .slice v.regs.a v.regs.len v.regs.cap, .slice v.data.a v.data.len v.data.cap, .slice v.stk.a v.stk.len v.stk.cap, .slice v.inp.a v.inp.len v.inp.cap, .slice v.out.a v.out.len v.out.cap, .int .i64 m.steps, .int .i64 m.fin, .int .i64 m.val] 36)) := (d17.block _ ZA16.out).trans RA16.out
  have ZA17 : Hid (w.heap.size < u17.heap.size) := Nat.lt_of_lt_of_le ZA16.out d17.size
  have RW17 : Hid (u17.heap[gW]? = some (.cells #[.slice vw.code.a vw.code.len vw.code.cap, .int .i64 mm.pc, .slice vw.regs.a vw.regs.len vw.regs.cap, .slice vw.data.a vw.data.len vw.data.cap, .slice vw.stk.a vw.stk.len vw.stk.cap, .slice vw.inp.a vw.inp.len vw.inp.cap, .slice vw.out.a vw.out.len vw.out.cap, .int .i64 mm.steps, .int .i64 mm.fin, .int .i64 mm.val] 25)) := (d17.block _ ZW16.out).trans RW16.out
  have ZW17 : Hid (gW < u17.heap.size) := Nat.lt_of_lt_of_le ZW16.out d17.size
  have RX17 : Hid (u17.heap[gX]? = some (.cells #[.slice vx.code.a vx.code.len vx.code.cap, .int .i64 m.pc, .slice vx.regs.a vx.regs.len vx.regs.cap, .slice vx.data.a vx.data.len vx.data.cap, .slice vx.stk.a vx.stk.len vx.stk.cap, .slice vx.inp.a vx.inp.len vx.inp.cap, .slice vx.out.a vx.out.len vx.out.cap, .int .i64 m.steps, .int .i64 m.fin, .int .i64 m.val] 25)) := (d17.block _ ZX16.out).trans RX16.out
  have ZX17 : Hid (gX < u17.heap.size) := Nat.lt_of_lt_of_le ZX16.out d17.size
  have RG17 : Hid (u17.heap[gG]? = some (.cells #[.slice vg.code.a vg.code.len vg.code.cap, .int .i64 mm.pc, .slice vg.regs.a vg.regs.len vg.regs.cap, .slice vg.data.a vg.data.len vg.data.cap, .slice vg.stk.a vg.stk.len vg.stk.cap, .slice vg.inp.a vg.inp.len vg.inp.cap, .slice vg.out.a vg.out.len vg.out.cap, .int .i64 mm.steps, .int .i64 mm.fin, .int .i64 mm.val] 25)) := (d17.block _ ZG16.out).trans RG16.out
  have ZG17 : Hid (gG < u17.heap.size) := Nat.lt_of_lt_of_le ZG16.out d17.size
  have OW17 : Hid (MOwn u2.heap.size u17 vw mm) := OW16.out.keep d17
  have OH17 : Hid (WrM u15.heap.size u17 vh mm) := OH16.out.keep d17
  have B17 : Hid (Below w.heap.size w u17) := B16.out.trans (d17.mono (Nat.le_of_lt ZA16.out))
  clear d17 RA16 ZA16 RW16 ZW16 RX16 ZX16 RG16 ZG16 OW16 OH16 B16
  obtain ⟨gH, hgH⟩ : ∃ g, g = u16.heap.size := ⟨_, rfl⟩
  rw [← hgH] at RH17 ZH17 ⊢
  have HGH : Hid (gH = u16.heap.size) := hgH
  clear hgH
  go_wp2_with (first | (refine wpList_load_row rfl 25 _ rfl (gH) ?hx 25 #[.slice vh.code.a vh.code.len vh.code.cap, .int .i64 mm.pc, .slice vh.regs.a vh.regs.len vh.regs.cap, .slice vh.data.a vh.data.len vh.data.cap, .slice vh.stk.a vh.stk.len vh.stk.cap, .slice vh.inp.a vh.inp.len vh.inp.cap, .slice vh.out.a vh.out.len vh.out.cap, .int .i64 mm.steps, .int .i64 mm.fin, .int .i64 mm.val] (0, 0) _ ?hg Tryz.underlying25 ?hd ?hi ?_; (case hx => rfl); (case hg => exact RH17.out); (case hd => rfl); (case hi => kernel_rfl)) | (refine wpList_load_row rfl 25 _ rfl (gW) ?hx 25 #[.slice vw.code.a vw.code.len vw.code.cap, .int .i64 mm.pc, .slice vw.regs.a vw.regs.len vw.regs.cap, .slice vw.data.a vw.data.len vw.data.cap, .slice vw.stk.a vw.stk.len vw.stk.cap, .slice vw.inp.a vw.inp.len vw.inp.cap, .slice vw.out.a vw.out.len vw.out.cap, .int .i64 mm.steps, .int .i64 mm.fin, .int .i64 mm.val] (0, 0) _ ?hg Tryz.underlying25 ?hd ?hi ?_; (case hx => rfl); (case hg => exact RW17.out); (case hd => rfl); (case hi => kernel_rfl)))
  refine (EQ.out _ _ vh vw u17 OH17.out.is OW17.out.is).mono ?_
  rintro e u18 ⟨rfl, d18⟩
  have RA18 : Hid (u18.heap[w.heap.size]? = some (.cells #[.slice v.code.a v.code.len v.code.cap, .int .i64 m.pc, .slice v.regs.a v.regs.len v.regs.cap, .slice v.data.a v.data.len v.data.cap, .slice v.stk.a v.stk.len v.stk.cap, .slice v.inp.a v.inp.len v.inp.cap, .slice v.out.a v.out.len v.out.cap, .int .i64 m.steps, .int .i64 m.fin, .int .i64 m.val] 36)) := (d18.block _ ZA17.out).trans RA17.out
  have ZA18 : Hid (w.heap.size < u18.heap.size) := Nat.lt_of_lt_of_le ZA17.out d18.size
  have RW18 : Hid (u18.heap[gW]? = some (.cells #[.slice vw.code.a vw.code.len vw.code.cap, .int .i64 mm.pc, .slice vw.regs.a vw.regs.len vw.regs.cap, .slice vw.data.a vw.data.len vw.data.cap, .slice vw.stk.a vw.stk.len vw.stk.cap, .slice vw.inp.a vw.inp.len vw.inp.cap, .slice vw.out.a vw.out.len vw.out.cap, .int .i64 mm.steps, .int .i64 mm.fin, .int .i64 mm.val] 25)) := (d18.block _ ZW17.out).trans RW17.out
  have ZW18 : Hid (gW < u18.heap.size) := Nat.lt_of_lt_of_le ZW17.out d18.size
  have RX18 : Hid (u18.heap[gX]? = some (.cells #[.slice vx.code.a vx.code.len vx.code.cap, .int .i64 m.pc, .slice vx.regs.a vx.regs.len vx.regs.cap, .slice vx.data.a vx.data.len vx.data.cap, .slice vx.stk.a vx.stk.len vx.stk.cap, .slice vx.inp.a vx.inp.len vx.inp.cap, .slice vx.out.a vx.out.len vx.out.cap, .int .i64 m.steps, .int .i64 m.fin, .int .i64 m.val] 25)) := (d18.block _ ZX17.out).trans RX17.out
  have ZX18 : Hid (gX < u18.heap.size) := Nat.lt_of_lt_of_le ZX17.out d18.size
  have RG18 : Hid (u18.heap[gG]? = some (.cells #[.slice vg.code.a vg.code.len vg.code.cap, .int .i64 mm.pc, .slice vg.regs.a vg.regs.len vg.regs.cap, .slice vg.data.a vg.data.len vg.data.cap, .slice vg.stk.a vg.stk.len vg.stk.cap, .slice vg.inp.a vg.inp.len vg.inp.cap, .slice vg.out.a vg.out.len vg.out.cap, .int .i64 mm.steps, .int .i64 mm.fin, .int .i64 mm.val] 25)) := (d18.block _ ZG17.out).trans RG17.out
  have ZG18 : Hid (gG < u18.heap.size) := Nat.lt_of_lt_of_le ZG17.out d18.size
  have RH18 : Hid (u18.heap[gH]? = some (.cells #[.slice vh.code.a vh.code.len vh.code.cap, .int .i64 mm.pc, .slice vh.regs.a vh.regs.len vh.regs.cap, .slice vh.data.a vh.data.len vh.data.cap, .slice vh.stk.a vh.stk.len vh.stk.cap, .slice vh.inp.a vh.inp.len vh.inp.cap, .slice vh.out.a vh.out.len vh.out.cap, .int .i64 mm.steps, .int .i64 mm.fin, .int .i64 mm.val] 25)) := (d18.block _ ZH17.out).trans RH17.out
  have ZH18 : Hid (gH < u18.heap.size) := Nat.lt_of_lt_of_le ZH17.out d18.size
  have OW18 : Hid (MOwn u2.heap.size u18 vw mm) := OW17.out.keep d18
  have OH18 : Hid (WrM u15.heap.size u18 vh mm) := OH17.out.keep d18
  have B18 : Hid (Below w.heap.size w u18) := B17.out.trans (d18.mono (Nat.le_of_lt ZA17.out))
  clear d18 RA17 ZA17 RW17 ZW17 RX17 ZX17 RG17 ZG17 RH17 ZH17 OW17 OH17 B17
  go_wp2
  go_ret
  exact ⟨rfl, B18.out⟩
end Go.Proofs.YtjdfffdeljgenaaGreatDoor.W
