import Derived.Test.YtgopdicmmglakaaMacD
import Derived.Test.YtgopdicmmglakaaLwG
set_option linter.unusedVariables false
namespace Go.Proofs.Ytgopdicmmglakaa.W
open Go.RowKit
set_option maxHeartbeats 4000000 in
theorem fnExactLoadWord_walk {lo : Nat} (v : MV) (m : Pl.Mac) (kind at_ : Int) (w : World) (h : MIs lo w v m) (hb : -9223372036854775808 ≤ at_ ∧ at_ ≤ 9223372036854775807) :
    Calls Try.prog 6 #[.agg #[.slice v.code.a v.code.len v.code.cap, .int .i64 m.pc, .slice v.regs.a v.regs.len v.regs.cap, .slice v.data.a v.data.len v.data.cap, .slice v.stk.a v.stk.len v.stk.cap, .slice v.inp.a v.inp.len v.inp.cap, .slice v.out.a v.out.len v.out.cap, .int .i64 m.steps, .int .i64 m.fin, .int .i64 m.val], .int .i64 kind, .int .i64 at_] w fun e w' => e = .returned (.bool true) ∧ Below w.heap.size w w' := by
  obtain ⟨a, b, hsp, him⟩ := loads_agree m kind at_ hb
  have HSp : Hid (∀ (lo : Nat) (v : MV) (w : World), MIs lo w v m → Calls Try.prog 20 #[.agg #[.slice v.code.a v.code.len v.code.cap, .int .i64 m.pc, .slice v.regs.a v.regs.len v.regs.cap, .slice v.data.a v.data.len v.data.cap, .slice v.stk.a v.stk.len v.stk.cap, .slice v.inp.a v.inp.len v.inp.cap, .slice v.out.a v.out.len v.out.cap, .int .i64 m.steps, .int .i64 m.fin, .int .i64 m.val], .int .i64 kind, .int .i64 at_] w fun e w' => e = .returned (.tuple #[.int .i64 a, .int .i64 b]) ∧ Below w.heap.size w w') := hsp
  have HIm : Hid (∀ (lo : Nat) (v : MV) (w : World), MIs lo w v m → Calls Try.prog 21 #[.agg #[.slice v.code.a v.code.len v.code.cap, .int .i64 m.pc, .slice v.regs.a v.regs.len v.regs.cap, .slice v.data.a v.data.len v.data.cap, .slice v.stk.a v.stk.len v.stk.cap, .slice v.inp.a v.inp.len v.inp.cap, .slice v.out.a v.out.len v.out.cap, .int .i64 m.steps, .int .i64 m.fin, .int .i64 m.val], .int .i64 kind, .int .i64 at_] w fun e w' => e = .returned (.tuple #[.int .i64 a, .int .i64 b]) ∧ Below w.heap.size w w') := him
  clear hsp him hb
  have H : Hid (MIs lo w v m) := h
  clear h
  have P0 : Hid ((w.alloc (.cells #[.slice v.code.a v.code.len v.code.cap, .int .i64 m.pc, .slice v.regs.a v.regs.len v.regs.cap, .slice v.data.a v.data.len v.data.cap, .slice v.stk.a v.stk.len v.stk.cap, .slice v.inp.a v.inp.len v.inp.cap, .slice v.out.a v.out.len v.out.cap, .int .i64 m.steps, .int .i64 m.fin, .int .i64 m.val] 25)).heap[w.heap.size]? = some (.cells #[.slice v.code.a v.code.len v.code.cap, .int .i64 m.pc, .slice v.regs.a v.regs.len v.regs.cap, .slice v.data.a v.data.len v.data.cap, .slice v.stk.a v.stk.len v.stk.cap, .slice v.inp.a v.inp.len v.inp.cap, .slice v.out.a v.out.len v.out.cap, .int .i64 m.steps, .int .i64 m.fin, .int .i64 m.val] 25)) := heap_alloc_new w _
  have B0 : Hid (Below w.heap.size w (w.alloc (.cells #[.slice v.code.a v.code.len v.code.cap, .int .i64 m.pc, .slice v.regs.a v.regs.len v.regs.cap, .slice v.data.a v.data.len v.data.cap, .slice v.stk.a v.stk.len v.stk.cap, .slice v.inp.a v.inp.len v.inp.cap, .slice v.out.a v.out.len v.out.cap, .int .i64 m.steps, .int .i64 m.fin, .int .i64 m.val] 25))) := below_alloc w _
  go_enter Try.func6, Try.ntmps6
  go_wp2_with (refine wpList_load_row rfl 25 _ rfl (w.heap.size) ?hx 25 #[.slice v.code.a v.code.len v.code.cap, .int .i64 m.pc, .slice v.regs.a v.regs.len v.regs.cap, .slice v.data.a v.data.len v.data.cap, .slice v.stk.a v.stk.len v.stk.cap, .slice v.inp.a v.inp.len v.inp.cap, .slice v.out.a v.out.len v.out.cap, .int .i64 m.steps, .int .i64 m.fin, .int .i64 m.val] (0, 0) _ ?hg Try.underlying25 ?hd ?hi ?_; (case hx => rfl); (case hg => exact P0.out); (case hd => rfl); (case hi => kernel_rfl))
  refine calls_at fun u0 hu0 => ?_
  rw [← hu0] at P0 B0
  have Z0 : Hid (w.heap.size < u0.heap.size) := by show w.heap.size < u0.heap.size; rw [hu0]; simp
  clear hu0
  refine (szMachine_any v m 1048576 u0 (H.out.keep B0.out) (by decide)).mono ?_
  rintro e u1 ⟨r, rfl, hr, d1⟩
  have P1 : Hid (u1.heap[w.heap.size]? = some (.cells #[.slice v.code.a v.code.len v.code.cap, .int .i64 m.pc, .slice v.regs.a v.regs.len v.regs.cap, .slice v.data.a v.data.len v.data.cap, .slice v.stk.a v.stk.len v.stk.cap, .slice v.inp.a v.inp.len v.inp.cap, .slice v.out.a v.out.len v.out.cap, .int .i64 m.steps, .int .i64 m.fin, .int .i64 m.val] 25)) := (d1.block _ (by have := Z0.out; omega)).trans P0.out
  have B1 : Hid (Below w.heap.size w u1) := B0.out.trans (d1.mono (by have := Z0.out; omega))
  have Z1 : Hid (w.heap.size < u1.heap.size) := Nat.lt_of_lt_of_le Z0.out d1.size
  clear d1 P0 Z0
  by_cases hbig : (1048576 : Int) < (Pl.mSize m : Nat)
  · rw [if_pos hbig] at hr
    have HB : Hid (Below w.heap.size w u1) := B1.out
    clear hbig
    go_wp2
    go_ret
    exact ⟨rfl, HB.out⟩
  rw [if_neg hbig] at hr
  have HS : Hid (Pl.mSize m ≤ 1048576) := by show Pl.mSize m ≤ 1048576; omega
  clear hbig
  go_wp2_with (refine wpList_load_row rfl 25 _ rfl (w.heap.size) ?hx 25 #[.slice v.code.a v.code.len v.code.cap, .int .i64 m.pc, .slice v.regs.a v.regs.len v.regs.cap, .slice v.data.a v.data.len v.data.cap, .slice v.stk.a v.stk.len v.stk.cap, .slice v.inp.a v.inp.len v.inp.cap, .slice v.out.a v.out.len v.out.cap, .int .i64 m.steps, .int .i64 m.fin, .int .i64 m.val] (0, 0) _ ?hg Try.underlying25 ?hd ?hi ?_; (case hx => rfl); (case hg => exact P1.out); (case hd => rfl); (case hi => kernel_rfl))
  refine (toMachine_any v m u1 (H.out.keep B1.out) HS.out).mono ?_
  rintro e u2 ⟨v2, rfl, o2, d2⟩
  have P2 : Hid (u2.heap[w.heap.size]? = some (.cells #[.slice v.code.a v.code.len v.code.cap, .int .i64 m.pc, .slice v.regs.a v.regs.len v.regs.cap, .slice v.data.a v.data.len v.data.cap, .slice v.stk.a v.stk.len v.stk.cap, .slice v.inp.a v.inp.len v.inp.cap, .slice v.out.a v.out.len v.out.cap, .int .i64 m.steps, .int .i64 m.fin, .int .i64 m.val] 25)) := (d2.block _ (by have := Z1.out; omega)).trans P1.out
  have B2 : Hid (Below w.heap.size w u2) := B1.out.trans (d2.mono (by have := Z1.out; omega))
  have Z2 : Hid (w.heap.size < u2.heap.size) := Nat.lt_of_lt_of_le Z1.out d2.size
  clear d2 P1 Z1
  have O2 : Hid (MOwn _ u2 v2 m) := o2
  clear o2
  go_wp2_with fail
  refine (HSp.out _ v2 u2 O2.out.is).mono ?_
  rintro e u3 ⟨rfl, d3⟩
  have P3 : Hid (u3.heap[w.heap.size]? = some (.cells #[.slice v.code.a v.code.len v.code.cap, .int .i64 m.pc, .slice v.regs.a v.regs.len v.regs.cap, .slice v.data.a v.data.len v.data.cap, .slice v.stk.a v.stk.len v.stk.cap, .slice v.inp.a v.inp.len v.inp.cap, .slice v.out.a v.out.len v.out.cap, .int .i64 m.steps, .int .i64 m.fin, .int .i64 m.val] 25)) := (d3.block _ (by have := Z2.out; omega)).trans P2.out
  have B3 : Hid (Below w.heap.size w u3) := B2.out.trans (d3.mono (by have := Z2.out; omega))
  have Z3 : Hid (w.heap.size < u3.heap.size) := Nat.lt_of_lt_of_le Z2.out d3.size
  clear d3 P2 Z2 O2
  go_wp2_with (refine wpList_load_row rfl 25 _ rfl (w.heap.size) ?hx 25 #[.slice v.code.a v.code.len v.code.cap, .int .i64 m.pc, .slice v.regs.a v.regs.len v.regs.cap, .slice v.data.a v.data.len v.data.cap, .slice v.stk.a v.stk.len v.stk.cap, .slice v.inp.a v.inp.len v.inp.cap, .slice v.out.a v.out.len v.out.cap, .int .i64 m.steps, .int .i64 m.fin, .int .i64 m.val] (0, 0) _ ?hg Try.underlying25 ?hd ?hi ?_; (case hx => rfl); (case hg => exact P3.out); (case hd => rfl); (case hi => kernel_rfl))
  refine (toMachine_any v m u3 (H.out.keep B3.out) HS.out).mono ?_
  rintro e u4 ⟨v4, rfl, o4, d4⟩
  have P4 : Hid (u4.heap[w.heap.size]? = some (.cells #[.slice v.code.a v.code.len v.code.cap, .int .i64 m.pc, .slice v.regs.a v.regs.len v.regs.cap, .slice v.data.a v.data.len v.data.cap, .slice v.stk.a v.stk.len v.stk.cap, .slice v.inp.a v.inp.len v.inp.cap, .slice v.out.a v.out.len v.out.cap, .int .i64 m.steps, .int .i64 m.fin, .int .i64 m.val] 25)) := (d4.block _ (by have := Z3.out; omega)).trans P3.out
  have B4 : Hid (Below w.heap.size w u4) := B3.out.trans (d4.mono (by have := Z3.out; omega))
  have Z4 : Hid (w.heap.size < u4.heap.size) := Nat.lt_of_lt_of_le Z3.out d4.size
  have O4 : Hid (MOwn _ u4 v4 m) := o4
  clear d4 P3 Z3 o4
  go_wp2_with (refine wpList_store_row rfl 28 _ _ rfl u4.heap.size #[.slice v4.code.a v4.code.len v4.code.cap, .int .i64 m.pc, .slice v4.regs.a v4.regs.len v4.regs.cap, .slice v4.data.a v4.data.len v4.data.cap, .slice v4.stk.a v4.stk.len v4.stk.cap, .slice v4.inp.a v4.inp.len v4.inp.cap, .slice v4.out.a v4.out.len v4.out.cap, .int .i64 m.steps, .int .i64 m.fin, .int .i64 m.val] ?hx ?hy 28 #[.slice none 0 0, .int .i64 0, .slice none 0 0, .slice none 0 0, .slice none 0 0, .slice none 0 0, .slice none 0 0, .int .i64 0, .int .i64 0, .int .i64 0] ?hg ?hi ?ho ?h1 ?_; (case hx => rfl); (case hy => rfl); (case hg => exact heap_alloc_new u4 _); (case hi => kernel_rfl); (case ho => kernel_rfl); (case h1 => kernel_rfl); refine Hid.out ?_)
  unfold Hid
  rw [World.setRow_alloc_new]
  refine wpList_at fun u5 hu5 => ?_
  have d5 : Below u4.heap.size u4 u5 := by rw [hu5]; exact below_alloc u4 _
  have X5 : Hid (u5.heap[u4.heap.size]? = some (.cells #[.slice v4.code.a v4.code.len v4.code.cap, .int .i64 m.pc, .slice v4.regs.a v4.regs.len v4.regs.cap, .slice v4.data.a v4.data.len v4.data.cap, .slice v4.stk.a v4.stk.len v4.stk.cap, .slice v4.inp.a v4.inp.len v4.inp.cap, .slice v4.out.a v4.out.len v4.out.cap, .int .i64 m.steps, .int .i64 m.fin, .int .i64 m.val] 28)) := by show u5.heap[u4.heap.size]? = _; rw [hu5]; exact heap_alloc_new u4 _
  have Y5 : Hid (u4.heap.size < u5.heap.size) := by show u4.heap.size < u5.heap.size; rw [hu5]; simp
  have P5 : Hid (u5.heap[w.heap.size]? = some (.cells #[.slice v.code.a v.code.len v.code.cap, .int .i64 m.pc, .slice v.regs.a v.regs.len v.regs.cap, .slice v.data.a v.data.len v.data.cap, .slice v.stk.a v.stk.len v.stk.cap, .slice v.inp.a v.inp.len v.inp.cap, .slice v.out.a v.out.len v.out.cap, .int .i64 m.steps, .int .i64 m.fin, .int .i64 m.val] 25)) := (d5.block _ (by have := Z4.out; omega)).trans P4.out
  have B5 : Hid (Below w.heap.size w u5) := B4.out.trans (d5.mono (by have := Z4.out; omega))
  have Z5 : Hid (w.heap.size < u5.heap.size) := Nat.lt_of_lt_of_le Z4.out d5.size
  have O5 : Hid (MOwn _ u5 v4 m) := O4.out.keep d5
  clear d5 hu5 P4 Z4 O4
  go_wp2_with (refine wpList_load_row rfl 28 _ rfl (u4.heap.size) ?hx 28 #[.slice v4.code.a v4.code.len v4.code.cap, .int .i64 m.pc, .slice v4.regs.a v4.regs.len v4.regs.cap, .slice v4.data.a v4.data.len v4.data.cap, .slice v4.stk.a v4.stk.len v4.stk.cap, .slice v4.inp.a v4.inp.len v4.inp.cap, .slice v4.out.a v4.out.len v4.out.cap, .int .i64 m.steps, .int .i64 m.fin, .int .i64 m.val] (0, 0) _ ?hg Try.underlying28 ?hd ?hi ?_; (case hx => rfl); (case hg => exact X5.out); (case hd => rfl); (case hi => kernel_rfl))
  refine (HIm.out _ v4 u5 O5.out.is).mono ?_
  rintro e u6 ⟨rfl, d6⟩
  have P6 : Hid (u6.heap[w.heap.size]? = some (.cells #[.slice v.code.a v.code.len v.code.cap, .int .i64 m.pc, .slice v.regs.a v.regs.len v.regs.cap, .slice v.data.a v.data.len v.data.cap, .slice v.stk.a v.stk.len v.stk.cap, .slice v.inp.a v.inp.len v.inp.cap, .slice v.out.a v.out.len v.out.cap, .int .i64 m.steps, .int .i64 m.fin, .int .i64 m.val] 25)) := (d6.block _ (by have := Z5.out; omega)).trans P5.out
  have B6 : Hid (Below w.heap.size w u6) := B5.out.trans (d6.mono (by have := Z5.out; omega))
  have Z6 : Hid (w.heap.size < u6.heap.size) := Nat.lt_of_lt_of_le Z5.out d6.size
  have O6 : Hid (MOwn _ u6 v4 m) := O5.out.keep d6
  have X6 : Hid (u6.heap[u4.heap.size]? = some (.cells #[.slice v4.code.a v4.code.len v4.code.cap, .int .i64 m.pc, .slice v4.regs.a v4.regs.len v4.regs.cap, .slice v4.data.a v4.data.len v4.data.cap, .slice v4.stk.a v4.stk.len v4.stk.cap, .slice v4.inp.a v4.inp.len v4.inp.cap, .slice v4.out.a v4.out.len v4.out.cap, .int .i64 m.steps, .int .i64 m.fin, .int .i64 m.val] 28)) := (d6.block _ Y5.out).trans X5.out
  have Y6 : Hid (u4.heap.size < u6.heap.size) := Nat.lt_of_lt_of_le Y5.out d6.size
  clear d6 P5 Z5 O5 X5 Y5
  go_wp2_with fail
  have kx : ∀ j, u6.cell? ⟨u4.heap.size, j, none⟩ = (#[.slice v4.code.a v4.code.len v4.code.cap, .int .i64 m.pc, .slice v4.regs.a v4.regs.len v4.regs.cap, .slice v4.data.a v4.data.len v4.data.cap, .slice v4.stk.a v4.stk.len v4.stk.cap, .slice v4.inp.a v4.inp.len v4.inp.cap, .slice v4.out.a v4.out.len v4.out.cap, .int .i64 m.steps, .int .i64 m.fin, .int .i64 m.val] : Array Value)[j]? := fun j => cell_of_row u6 u4.heap.size j _ 28 (0, 0) X6.out
  have kp : ∀ j, u6.cell? ⟨w.heap.size, j, none⟩ = (#[.slice v.code.a v.code.len v.code.cap, .int .i64 m.pc, .slice v.regs.a v.regs.len v.regs.cap, .slice v.data.a v.data.len v.data.cap, .slice v.stk.a v.stk.len v.stk.cap, .slice v.inp.a v.inp.len v.inp.cap, .slice v.out.a v.out.len v.out.cap, .int .i64 m.steps, .int .i64 m.fin, .int .i64 m.val] : Array Value)[j]? := fun j => cell_of_row u6 w.heap.size j _ 25 (0, 0) P6.out
  go_region_with (first | (go_at_call 9; refine (toMachine_any v m _ (H.out.keep (by repeat (first | exact B6.out | refine Below.drew ?_ | refine below_drewN ?_ _))) HS.out).mono ?_; rintro e u7 ⟨v7, rfl, o7, d7⟩; have kx7 : ∀ j, u7.cell? ⟨u4.heap.size, j, none⟩ = (#[.slice v4.code.a v4.code.len v4.code.cap, .int .i64 m.pc, .slice v4.regs.a v4.regs.len v4.regs.cap, .slice v4.data.a v4.data.len v4.data.cap, .slice v4.stk.a v4.stk.len v4.stk.cap, .slice v4.inp.a v4.inp.len v4.inp.cap, .slice v4.out.a v4.out.len v4.out.cap, .int .i64 m.steps, .int .i64 m.fin, .int .i64 m.val] : Array Value)[j]? := (fun j => cell_of_row u7 u4.heap.size j _ 28 (0, 0) ((d7.block _ Y6.out).trans X6.out)); have O7 : Hid (MOwn _ u7 v7 m) := o7; have D7 : Hid (Below u6.heap.size u6 u7) := ((Below.refl u6.heap.size u6).drew).trans d7; clear o7 d7) | (go_at_call 11; refine (eqMachine_same v4 v7 m _ (O6.out.is.keep D7.out) O7.out.is).mono ?_; rintro e u8 ⟨rfl, d8⟩; have D8 : Hid (Below u7.heap.size u7 u8) := d8; clear d8))
  all_goals
    go_wp2
    go_ret
    exact ⟨rfl, B6.out.trans ((D7.out.mono (by have := Z6.out; omega)).trans (D8.out.mono (by have := Z6.out; have := D7.out.size; omega)))⟩
end Go.Proofs.Ytgopdicmmglakaa.W
