import Derived.Test.YtfcfnbncgadomaaQ30
import Derived.Test.YtfcfnbncgadomaaQ16
set_option linter.unusedVariables false
namespace Go.Proofs.Ytfcfnbncgadomaa.W
open Go.RowKit
set_option maxHeartbeats 8000000 in
theorem specStore_no {lo : Nat} (v : MV) (m : Pl.Mac) (kind at_ x : Int) (w : World) (h : MOwn lo w v m) (hsz : Pl.mSize m ≤ 1048576) (hok : Pl.mOk m = false) (hk : Pl.ks kind = Pl.ks kind) :
    Calls Try.prog 6 #[.agg #[.slice v.code.a v.code.len v.code.cap, .int .i64 m.pc, .slice v.regs.a v.regs.len v.regs.cap, .slice v.data.a v.data.len v.data.cap, .slice v.stk.a v.stk.len v.stk.cap, .slice v.inp.a v.inp.len v.inp.cap, .slice v.out.a v.out.len v.out.cap, .int .i64 m.steps, .int .i64 m.fin, .int .i64 m.val], .int .i64 kind, .int .i64 at_, .int .i64 x] w fun e w' => ∃ v1 : MV, e = .returned (.tuple #[.agg #[.slice v1.code.a v1.code.len v1.code.cap, .int .i64 m.pc, .slice v1.regs.a v1.regs.len v1.regs.cap, .slice v1.data.a v1.data.len v1.data.cap, .slice v1.stk.a v1.stk.len v1.stk.cap, .slice v1.inp.a v1.inp.len v1.inp.cap, .slice v1.out.a v1.out.len v1.out.cap, .int .i64 m.steps, .int .i64 m.fin, .int .i64 m.val], .int .i64 4]) ∧ MOwn w.heap.size w' v1 m ∧ (∃ t0 t6, MSepAt t0 t6 v1 ∧ w.heap.size ≤ t0 ∧ t6 ≤ w'.heap.size) ∧ Below w.heap.size w w' := by
  have HH : Hid (MOwn lo w v m) := h
  clear h
  have P0 : Hid (((w.alloc (.cells #[.slice v.code.a v.code.len v.code.cap, .int .i64 m.pc, .slice v.regs.a v.regs.len v.regs.cap, .slice v.data.a v.data.len v.data.cap, .slice v.stk.a v.stk.len v.stk.cap, .slice v.inp.a v.inp.len v.inp.cap, .slice v.out.a v.out.len v.out.cap, .int .i64 m.steps, .int .i64 m.fin, .int .i64 m.val] 25)).alloc (.cells #[.slice none 0 0, .int .i64 0, .slice none 0 0, .slice none 0 0, .slice none 0 0, .slice none 0 0, .slice none 0 0, .int .i64 0, .int .i64 0, .int .i64 0] 25)).heap[w.heap.size]? = some (.cells #[.slice v.code.a v.code.len v.code.cap, .int .i64 m.pc, .slice v.regs.a v.regs.len v.regs.cap, .slice v.data.a v.data.len v.data.cap, .slice v.stk.a v.stk.len v.stk.cap, .slice v.inp.a v.inp.len v.inp.cap, .slice v.out.a v.out.len v.out.cap, .int .i64 m.steps, .int .i64 m.fin, .int .i64 m.val] 25)) := (Below.heap_alloc _ _ _ (by simp)).trans (heap_alloc_new w _)
  go_enter Try.func6, Try.ntmps6
  go_wp2_with (refine wpList_load_row rfl 25 _ rfl (w.heap.size) ?hx 25 #[.slice v.code.a v.code.len v.code.cap, .int .i64 m.pc, .slice v.regs.a v.regs.len v.regs.cap, .slice v.data.a v.data.len v.data.cap, .slice v.stk.a v.stk.len v.stk.cap, .slice v.inp.a v.inp.len v.inp.cap, .slice v.out.a v.out.len v.out.cap, .int .i64 m.steps, .int .i64 m.fin, .int .i64 m.val] (0, 0) _ ?hg Try.underlying25 ?hd ?hi ?_; (case hx => rfl); (case hg => exact P0.out); (case hd => rfl); (case hi => kernel_rfl))
  refine calls_at fun u0 hu0 => ?_
  have E0 : Hid (u0.heap[w.heap.size + 1]? = some (.cells #[.slice none 0 0, .int .i64 0, .slice none 0 0, .slice none 0 0, .slice none 0 0, .slice none 0 0, .slice none 0 0, .int .i64 0, .int .i64 0, .int .i64 0] 25)) := by
    show u0.heap[w.heap.size + 1]? = _
    rw [hu0]
    have := heap_alloc_new (w.alloc (.cells #[.slice v.code.a v.code.len v.code.cap, .int .i64 m.pc, .slice v.regs.a v.regs.len v.regs.cap, .slice v.data.a v.data.len v.data.cap, .slice v.stk.a v.stk.len v.stk.cap, .slice v.inp.a v.inp.len v.inp.cap, .slice v.out.a v.out.len v.out.cap, .int .i64 m.steps, .int .i64 m.fin, .int .i64 m.val] 25)) (.cells #[.slice none 0 0, .int .i64 0, .slice none 0 0, .slice none 0 0, .slice none 0 0, .slice none 0 0, .slice none 0 0, .int .i64 0, .int .i64 0, .int .i64 0] 25)
    simpa using this
  have B0 : Hid (Below w.heap.size w u0) := by show Below w.heap.size w u0; rw [hu0]; exact ((Below.refl _ _).alloc (Nat.le_refl _) _).alloc (by simp) _
  have Z0 : Hid (u0.heap.size = w.heap.size + 2) := by show u0.heap.size = w.heap.size + 2; rw [hu0]; simp
  rw [← hu0] at P0
  clear hu0
  refine (l3Copy_any v m u0 (HH.out.keep B0.out) hsz).mono ?_
  rintro e u1 ⟨v1, rfl, o1, sp1, d1⟩
  have O1 : Hid (MOwn u0.heap.size u1 v1 m) := o1
  have SP : Hid (MSep v1) := sp1
  have P1 : Hid (u1.heap[w.heap.size]? = some (.cells #[.slice v.code.a v.code.len v.code.cap, .int .i64 m.pc, .slice v.regs.a v.regs.len v.regs.cap, .slice v.data.a v.data.len v.data.cap, .slice v.stk.a v.stk.len v.stk.cap, .slice v.inp.a v.inp.len v.inp.cap, .slice v.out.a v.out.len v.out.cap, .int .i64 m.steps, .int .i64 m.fin, .int .i64 m.val] 25)) := (d1.block _ (by have := Z0.out; omega)).trans P0.out
  have E1 : Hid (u1.heap[w.heap.size + 1]? = some (.cells #[.slice none 0 0, .int .i64 0, .slice none 0 0, .slice none 0 0, .slice none 0 0, .slice none 0 0, .slice none 0 0, .int .i64 0, .int .i64 0, .int .i64 0] 25)) := (d1.block _ (by have := Z0.out; omega)).trans E0.out
  have B1 : Hid (Below w.heap.size w u1) := B0.out.trans (d1.mono (by have := Z0.out; omega))
  have Z1 : Hid (w.heap.size + 2 ≤ u1.heap.size ∧ u0.heap.size = w.heap.size + 2) := ⟨by have := Z0.out; have := d1.size; omega, Z0.out⟩
  clear o1 sp1 d1 P0 E0 B0 Z0
  go_wp2_with (refine wpList_store_row rfl 25 _ _ rfl (u1.heap.size) #[.slice v1.code.a v1.code.len v1.code.cap, .int .i64 m.pc, .slice v1.regs.a v1.regs.len v1.regs.cap, .slice v1.data.a v1.data.len v1.data.cap, .slice v1.stk.a v1.stk.len v1.stk.cap, .slice v1.inp.a v1.inp.len v1.inp.cap, .slice v1.out.a v1.out.len v1.out.cap, .int .i64 m.steps, .int .i64 m.fin, .int .i64 m.val] ?hx ?hy 25 #[.slice none 0 0, .int .i64 0, .slice none 0 0, .slice none 0 0, .slice none 0 0, .slice none 0 0, .slice none 0 0, .int .i64 0, .int .i64 0, .int .i64 0] ?hg ?hi ?ho ?h1 ?_; (case hx => rfl); (case hy => rfl); (case hg => exact heap_alloc_new u1 _); (case hi => kernel_rfl); (case ho => kernel_rfl); (case h1 => kernel_rfl); refine Hid.out ?_)
  unfold Hid
  rw [World.setRow_alloc_new]
  refine wpList_at fun u2 hu2 => ?_
  have d2 : Below u1.heap.size u1 u2 := by rw [hu2]; exact below_alloc u1 _
  have G2 : Hid (u2.heap[u1.heap.size]? = some (.cells #[.slice v1.code.a v1.code.len v1.code.cap, .int .i64 m.pc, .slice v1.regs.a v1.regs.len v1.regs.cap, .slice v1.data.a v1.data.len v1.data.cap, .slice v1.stk.a v1.stk.len v1.stk.cap, .slice v1.inp.a v1.inp.len v1.inp.cap, .slice v1.out.a v1.out.len v1.out.cap, .int .i64 m.steps, .int .i64 m.fin, .int .i64 m.val] 25) ∧ u1.heap.size < u2.heap.size) := by show u2.heap[u1.heap.size]? = _ ∧ u1.heap.size < u2.heap.size; rw [hu2]; exact ⟨heap_alloc_new u1 _, by simp⟩
  have P2 : Hid (u2.heap[w.heap.size]? = some (.cells #[.slice v.code.a v.code.len v.code.cap, .int .i64 m.pc, .slice v.regs.a v.regs.len v.regs.cap, .slice v.data.a v.data.len v.data.cap, .slice v.stk.a v.stk.len v.stk.cap, .slice v.inp.a v.inp.len v.inp.cap, .slice v.out.a v.out.len v.out.cap, .int .i64 m.steps, .int .i64 m.fin, .int .i64 m.val] 25)) := (d2.block _ (by have := Z1.out; omega)).trans P1.out
  have E2 : Hid (u2.heap[w.heap.size + 1]? = some (.cells #[.slice none 0 0, .int .i64 0, .slice none 0 0, .slice none 0 0, .slice none 0 0, .slice none 0 0, .slice none 0 0, .int .i64 0, .int .i64 0, .int .i64 0] 25)) := (d2.block _ (by have := Z1.out; omega)).trans E1.out
  have B2 : Hid (Below w.heap.size w u2) := B1.out.trans (d2.mono (by have := Z1.out; omega))
  have O2 : Hid (MOwn u0.heap.size u2 v1 m) := O1.out.keep d2
  have SB : Hid (∀ s : SV, ∀ (k : IntKind) (e : TypeId) (zs : List Int), Own k e u0.heap.size u1 s.a s.len s.cap zs → Span s u0.heap.size u1.heap.size) := fun s k e zs ho => ho.span (Nat.le_refl _)
  clear hu2 d2 P1 E1 B1
  obtain ⟨g, hg⟩ : ∃ g, g = u1.heap.size := ⟨_, rfl⟩
  rw [← hg] at G2 Z1 SB ⊢
  clear hg
  go_wp2_with (refine wpList_load_row rfl 25 _ rfl (w.heap.size) ?hx 25 #[.slice v.code.a v.code.len v.code.cap, .int .i64 m.pc, .slice v.regs.a v.regs.len v.regs.cap, .slice v.data.a v.data.len v.data.cap, .slice v.stk.a v.stk.len v.stk.cap, .slice v.inp.a v.inp.len v.inp.cap, .slice v.out.a v.out.len v.out.cap, .int .i64 m.steps, .int .i64 m.fin, .int .i64 m.val] (0, 0) _ ?hg Try.underlying25 ?hd ?hi ?_; (case hx => rfl); (case hg => exact P2.out); (case hd => rfl); (case hi => kernel_rfl))
  refine (specMachineOk_any v m u2 (HH.out.is.keep B2.out)).mono ?_
  rintro e u3 ⟨rfl, d3⟩
  rw [hok]
  have G3 : Hid (u3.heap[g]? = some (.cells #[.slice v1.code.a v1.code.len v1.code.cap, .int .i64 m.pc, .slice v1.regs.a v1.regs.len v1.regs.cap, .slice v1.data.a v1.data.len v1.data.cap, .slice v1.stk.a v1.stk.len v1.stk.cap, .slice v1.inp.a v1.inp.len v1.inp.cap, .slice v1.out.a v1.out.len v1.out.cap, .int .i64 m.steps, .int .i64 m.fin, .int .i64 m.val] 25) ∧ g < u3.heap.size) := ⟨(d3.block _ G2.out.2).trans G2.out.1, Nat.lt_of_lt_of_le G2.out.2 d3.size⟩
  have E3 : Hid (u3.heap[w.heap.size + 1]? = some (.cells #[.slice none 0 0, .int .i64 0, .slice none 0 0, .slice none 0 0, .slice none 0 0, .slice none 0 0, .slice none 0 0, .int .i64 0, .int .i64 0, .int .i64 0] 25)) := (d3.block _ (by have := Z1.out; have := G2.out.2; omega)).trans E2.out
  have B3 : Hid (Below w.heap.size w u3) := B2.out.trans (d3.mono (by have := Z1.out; have := G2.out.2; omega))
  have O3 : Hid (MOwn u0.heap.size u3 v1 m) := O2.out.keep d3
  clear d3 P2 E2 B2 O2 G2
  have EE : Hid (u3.heap[w.heap.size + 1]? = some (.cells #[.slice none 0 0, .int .i64 0, .slice none 0 0, .slice none 0 0, .slice none 0 0, .slice none 0 0, .slice none 0 0, .int .i64 0, .int .i64 0, .int .i64 0] 25)) := E3.out
  go_wp2_with (first | (go_at_call 24; refine (specKindSize_any _ _).mono ?_; rintro e w' ⟨rfl, hw'⟩; rw [hw', hk]; clear hw') | (refine wpList_load_row rfl 25 _ rfl (g) ?hx 25 #[.slice v1.code.a v1.code.len v1.code.cap, .int .i64 m.pc, .slice v1.regs.a v1.regs.len v1.regs.cap, .slice v1.data.a v1.data.len v1.data.cap, .slice v1.stk.a v1.stk.len v1.stk.cap, .slice v1.inp.a v1.inp.len v1.inp.cap, .slice v1.out.a v1.out.len v1.out.cap, .int .i64 m.steps, .int .i64 m.fin, .int .i64 m.val] (0, 0) _ ?hg Try.underlying25 ?hd ?hi ?_; (case hx => rfl); (case hg => exact G3.out.1); (case hd => rfl); (case hi => kernel_rfl)) | (refine wpList_store_row rfl 25 _ _ rfl (w.heap.size + 1) #[.slice v1.code.a v1.code.len v1.code.cap, .int .i64 m.pc, .slice v1.regs.a v1.regs.len v1.regs.cap, .slice v1.data.a v1.data.len v1.data.cap, .slice v1.stk.a v1.stk.len v1.stk.cap, .slice v1.inp.a v1.inp.len v1.inp.cap, .slice v1.out.a v1.out.len v1.out.cap, .int .i64 m.steps, .int .i64 m.fin, .int .i64 m.val] ?hx ?hy 25 #[.slice none 0 0, .int .i64 0, .slice none 0 0, .slice none 0 0, .slice none 0 0, .slice none 0 0, .slice none 0 0, .int .i64 0, .int .i64 0, .int .i64 0] ?hg ?hi ?ho ?h1 ?_; (case hx => rfl); (case hy => rfl); (case hg => exact EE.out); (case hi => kernel_rfl); (case ho => kernel_rfl); (case h1 => kernel_rfl); refine Hid.out ?_))
  unfold Hid
  go_wp2_with fail
  have OF : MOwn u0.heap.size (u3.setRow (w.heap.size + 1) #[.slice v1.code.a v1.code.len v1.code.cap, .int .i64 m.pc, .slice v1.regs.a v1.regs.len v1.regs.cap, .slice v1.data.a v1.data.len v1.data.cap, .slice v1.stk.a v1.stk.len v1.stk.cap, .slice v1.inp.a v1.inp.len v1.inp.cap, .slice v1.out.a v1.out.len v1.out.cap, .int .i64 m.steps, .int .i64 m.fin, .int .i64 m.val]) v1 m := O3.out.same ((Above.refl u0.heap.size u3).setRow (show w.heap.size + 1 < u0.heap.size by have := Z1.out; omega) _) (Nat.le_refl _)
  have OL : MOwn w.heap.size (u3.setRow (w.heap.size + 1) #[.slice v1.code.a v1.code.len v1.code.cap, .int .i64 m.pc, .slice v1.regs.a v1.regs.len v1.regs.cap, .slice v1.data.a v1.data.len v1.data.cap, .slice v1.stk.a v1.stk.len v1.stk.cap, .slice v1.inp.a v1.inp.len v1.inp.cap, .slice v1.out.a v1.out.len v1.out.cap, .int .i64 m.steps, .int .i64 m.fin, .int .i64 m.val]) v1 m := OF.lower (by have := Z1.out; omega)
  refine bodyPost_ret (v := .tuple #[.agg #[.slice v1.code.a v1.code.len v1.code.cap, .int .i64 m.pc, .slice v1.regs.a v1.regs.len v1.regs.cap, .slice v1.data.a v1.data.len v1.data.cap, .slice v1.stk.a v1.stk.len v1.stk.cap, .slice v1.inp.a v1.inp.len v1.inp.cap, .slice v1.out.a v1.out.len v1.out.cap, .int .i64 m.steps, .int .i64 m.fin, .int .i64 m.val], .int .i64 4]) ?_ rfl ⟨v1, rfl, OL, (SP.out.bounds OL (by have := Z1.out; have := G3.out.2; simp; omega)), below_setRow B3.out (show w.heap.size ≤ w.heap.size + 1 by omega) _⟩
  refine results_cell_tmp3 Try.results6 _ _ (w.heap.size + 1) 25 #[.slice v1.code.a v1.code.len v1.code.cap, .int .i64 m.pc, .slice v1.regs.a v1.regs.len v1.regs.cap, .slice v1.data.a v1.data.len v1.data.cap, .slice v1.stk.a v1.stk.len v1.stk.cap, .slice v1.inp.a v1.inp.len v1.inp.cap, .slice v1.out.a v1.out.len v1.out.cap, .int .i64 m.steps, .int .i64 m.fin, .int .i64 m.val] (0, 0) _ (.int .i64 4) ?hp ?hq ?hg Try.underlying25 ?hd ?hi
  case hp => rfl
  case hq => rfl
  case hg => exact setRow_heap _ _ _ _ _ _ EE.out
  case hd => rfl
  case hi => kernel_rfl
set_option maxHeartbeats 8000000 in
theorem specStore_kind {lo : Nat} (v : MV) (m : Pl.Mac) (kind at_ x : Int) (w : World) (h : MOwn lo w v m) (hsz : Pl.mSize m ≤ 1048576) (hok : Pl.mOk m = true) (hk : Pl.ks kind = 0) :
    Calls Try.prog 6 #[.agg #[.slice v.code.a v.code.len v.code.cap, .int .i64 m.pc, .slice v.regs.a v.regs.len v.regs.cap, .slice v.data.a v.data.len v.data.cap, .slice v.stk.a v.stk.len v.stk.cap, .slice v.inp.a v.inp.len v.inp.cap, .slice v.out.a v.out.len v.out.cap, .int .i64 m.steps, .int .i64 m.fin, .int .i64 m.val], .int .i64 kind, .int .i64 at_, .int .i64 x] w fun e w' => ∃ v1 : MV, e = .returned (.tuple #[.agg #[.slice v1.code.a v1.code.len v1.code.cap, .int .i64 m.pc, .slice v1.regs.a v1.regs.len v1.regs.cap, .slice v1.data.a v1.data.len v1.data.cap, .slice v1.stk.a v1.stk.len v1.stk.cap, .slice v1.inp.a v1.inp.len v1.inp.cap, .slice v1.out.a v1.out.len v1.out.cap, .int .i64 m.steps, .int .i64 m.fin, .int .i64 m.val], .int .i64 4]) ∧ MOwn w.heap.size w' v1 m ∧ (∃ t0 t6, MSepAt t0 t6 v1 ∧ w.heap.size ≤ t0 ∧ t6 ≤ w'.heap.size) ∧ Below w.heap.size w w' := by
  have HH : Hid (MOwn lo w v m) := h
  clear h
  have P0 : Hid (((w.alloc (.cells #[.slice v.code.a v.code.len v.code.cap, .int .i64 m.pc, .slice v.regs.a v.regs.len v.regs.cap, .slice v.data.a v.data.len v.data.cap, .slice v.stk.a v.stk.len v.stk.cap, .slice v.inp.a v.inp.len v.inp.cap, .slice v.out.a v.out.len v.out.cap, .int .i64 m.steps, .int .i64 m.fin, .int .i64 m.val] 25)).alloc (.cells #[.slice none 0 0, .int .i64 0, .slice none 0 0, .slice none 0 0, .slice none 0 0, .slice none 0 0, .slice none 0 0, .int .i64 0, .int .i64 0, .int .i64 0] 25)).heap[w.heap.size]? = some (.cells #[.slice v.code.a v.code.len v.code.cap, .int .i64 m.pc, .slice v.regs.a v.regs.len v.regs.cap, .slice v.data.a v.data.len v.data.cap, .slice v.stk.a v.stk.len v.stk.cap, .slice v.inp.a v.inp.len v.inp.cap, .slice v.out.a v.out.len v.out.cap, .int .i64 m.steps, .int .i64 m.fin, .int .i64 m.val] 25)) := (Below.heap_alloc _ _ _ (by simp)).trans (heap_alloc_new w _)
  go_enter Try.func6, Try.ntmps6
  go_wp2_with (refine wpList_load_row rfl 25 _ rfl (w.heap.size) ?hx 25 #[.slice v.code.a v.code.len v.code.cap, .int .i64 m.pc, .slice v.regs.a v.regs.len v.regs.cap, .slice v.data.a v.data.len v.data.cap, .slice v.stk.a v.stk.len v.stk.cap, .slice v.inp.a v.inp.len v.inp.cap, .slice v.out.a v.out.len v.out.cap, .int .i64 m.steps, .int .i64 m.fin, .int .i64 m.val] (0, 0) _ ?hg Try.underlying25 ?hd ?hi ?_; (case hx => rfl); (case hg => exact P0.out); (case hd => rfl); (case hi => kernel_rfl))
  refine calls_at fun u0 hu0 => ?_
  have E0 : Hid (u0.heap[w.heap.size + 1]? = some (.cells #[.slice none 0 0, .int .i64 0, .slice none 0 0, .slice none 0 0, .slice none 0 0, .slice none 0 0, .slice none 0 0, .int .i64 0, .int .i64 0, .int .i64 0] 25)) := by
    show u0.heap[w.heap.size + 1]? = _
    rw [hu0]
    have := heap_alloc_new (w.alloc (.cells #[.slice v.code.a v.code.len v.code.cap, .int .i64 m.pc, .slice v.regs.a v.regs.len v.regs.cap, .slice v.data.a v.data.len v.data.cap, .slice v.stk.a v.stk.len v.stk.cap, .slice v.inp.a v.inp.len v.inp.cap, .slice v.out.a v.out.len v.out.cap, .int .i64 m.steps, .int .i64 m.fin, .int .i64 m.val] 25)) (.cells #[.slice none 0 0, .int .i64 0, .slice none 0 0, .slice none 0 0, .slice none 0 0, .slice none 0 0, .slice none 0 0, .int .i64 0, .int .i64 0, .int .i64 0] 25)
    simpa using this
  have B0 : Hid (Below w.heap.size w u0) := by show Below w.heap.size w u0; rw [hu0]; exact ((Below.refl _ _).alloc (Nat.le_refl _) _).alloc (by simp) _
  have Z0 : Hid (u0.heap.size = w.heap.size + 2) := by show u0.heap.size = w.heap.size + 2; rw [hu0]; simp
  rw [← hu0] at P0
  clear hu0
  refine (l3Copy_any v m u0 (HH.out.keep B0.out) hsz).mono ?_
  rintro e u1 ⟨v1, rfl, o1, sp1, d1⟩
  have O1 : Hid (MOwn u0.heap.size u1 v1 m) := o1
  have SP : Hid (MSep v1) := sp1
  have P1 : Hid (u1.heap[w.heap.size]? = some (.cells #[.slice v.code.a v.code.len v.code.cap, .int .i64 m.pc, .slice v.regs.a v.regs.len v.regs.cap, .slice v.data.a v.data.len v.data.cap, .slice v.stk.a v.stk.len v.stk.cap, .slice v.inp.a v.inp.len v.inp.cap, .slice v.out.a v.out.len v.out.cap, .int .i64 m.steps, .int .i64 m.fin, .int .i64 m.val] 25)) := (d1.block _ (by have := Z0.out; omega)).trans P0.out
  have E1 : Hid (u1.heap[w.heap.size + 1]? = some (.cells #[.slice none 0 0, .int .i64 0, .slice none 0 0, .slice none 0 0, .slice none 0 0, .slice none 0 0, .slice none 0 0, .int .i64 0, .int .i64 0, .int .i64 0] 25)) := (d1.block _ (by have := Z0.out; omega)).trans E0.out
  have B1 : Hid (Below w.heap.size w u1) := B0.out.trans (d1.mono (by have := Z0.out; omega))
  have Z1 : Hid (w.heap.size + 2 ≤ u1.heap.size ∧ u0.heap.size = w.heap.size + 2) := ⟨by have := Z0.out; have := d1.size; omega, Z0.out⟩
  clear o1 sp1 d1 P0 E0 B0 Z0
  go_wp2_with (refine wpList_store_row rfl 25 _ _ rfl (u1.heap.size) #[.slice v1.code.a v1.code.len v1.code.cap, .int .i64 m.pc, .slice v1.regs.a v1.regs.len v1.regs.cap, .slice v1.data.a v1.data.len v1.data.cap, .slice v1.stk.a v1.stk.len v1.stk.cap, .slice v1.inp.a v1.inp.len v1.inp.cap, .slice v1.out.a v1.out.len v1.out.cap, .int .i64 m.steps, .int .i64 m.fin, .int .i64 m.val] ?hx ?hy 25 #[.slice none 0 0, .int .i64 0, .slice none 0 0, .slice none 0 0, .slice none 0 0, .slice none 0 0, .slice none 0 0, .int .i64 0, .int .i64 0, .int .i64 0] ?hg ?hi ?ho ?h1 ?_; (case hx => rfl); (case hy => rfl); (case hg => exact heap_alloc_new u1 _); (case hi => kernel_rfl); (case ho => kernel_rfl); (case h1 => kernel_rfl); refine Hid.out ?_)
  unfold Hid
  rw [World.setRow_alloc_new]
  refine wpList_at fun u2 hu2 => ?_
  have d2 : Below u1.heap.size u1 u2 := by rw [hu2]; exact below_alloc u1 _
  have G2 : Hid (u2.heap[u1.heap.size]? = some (.cells #[.slice v1.code.a v1.code.len v1.code.cap, .int .i64 m.pc, .slice v1.regs.a v1.regs.len v1.regs.cap, .slice v1.data.a v1.data.len v1.data.cap, .slice v1.stk.a v1.stk.len v1.stk.cap, .slice v1.inp.a v1.inp.len v1.inp.cap, .slice v1.out.a v1.out.len v1.out.cap, .int .i64 m.steps, .int .i64 m.fin, .int .i64 m.val] 25) ∧ u1.heap.size < u2.heap.size) := by show u2.heap[u1.heap.size]? = _ ∧ u1.heap.size < u2.heap.size; rw [hu2]; exact ⟨heap_alloc_new u1 _, by simp⟩
  have P2 : Hid (u2.heap[w.heap.size]? = some (.cells #[.slice v.code.a v.code.len v.code.cap, .int .i64 m.pc, .slice v.regs.a v.regs.len v.regs.cap, .slice v.data.a v.data.len v.data.cap, .slice v.stk.a v.stk.len v.stk.cap, .slice v.inp.a v.inp.len v.inp.cap, .slice v.out.a v.out.len v.out.cap, .int .i64 m.steps, .int .i64 m.fin, .int .i64 m.val] 25)) := (d2.block _ (by have := Z1.out; omega)).trans P1.out
  have E2 : Hid (u2.heap[w.heap.size + 1]? = some (.cells #[.slice none 0 0, .int .i64 0, .slice none 0 0, .slice none 0 0, .slice none 0 0, .slice none 0 0, .slice none 0 0, .int .i64 0, .int .i64 0, .int .i64 0] 25)) := (d2.block _ (by have := Z1.out; omega)).trans E1.out
  have B2 : Hid (Below w.heap.size w u2) := B1.out.trans (d2.mono (by have := Z1.out; omega))
  have O2 : Hid (MOwn u0.heap.size u2 v1 m) := O1.out.keep d2
  have SB : Hid (∀ s : SV, ∀ (k : IntKind) (e : TypeId) (zs : List Int), Own k e u0.heap.size u1 s.a s.len s.cap zs → Span s u0.heap.size u1.heap.size) := fun s k e zs ho => ho.span (Nat.le_refl _)
  clear hu2 d2 P1 E1 B1
  obtain ⟨g, hg⟩ : ∃ g, g = u1.heap.size := ⟨_, rfl⟩
  rw [← hg] at G2 Z1 SB ⊢
  clear hg
  go_wp2_with (refine wpList_load_row rfl 25 _ rfl (w.heap.size) ?hx 25 #[.slice v.code.a v.code.len v.code.cap, .int .i64 m.pc, .slice v.regs.a v.regs.len v.regs.cap, .slice v.data.a v.data.len v.data.cap, .slice v.stk.a v.stk.len v.stk.cap, .slice v.inp.a v.inp.len v.inp.cap, .slice v.out.a v.out.len v.out.cap, .int .i64 m.steps, .int .i64 m.fin, .int .i64 m.val] (0, 0) _ ?hg Try.underlying25 ?hd ?hi ?_; (case hx => rfl); (case hg => exact P2.out); (case hd => rfl); (case hi => kernel_rfl))
  refine (specMachineOk_any v m u2 (HH.out.is.keep B2.out)).mono ?_
  rintro e u3 ⟨rfl, d3⟩
  rw [hok]
  have G3 : Hid (u3.heap[g]? = some (.cells #[.slice v1.code.a v1.code.len v1.code.cap, .int .i64 m.pc, .slice v1.regs.a v1.regs.len v1.regs.cap, .slice v1.data.a v1.data.len v1.data.cap, .slice v1.stk.a v1.stk.len v1.stk.cap, .slice v1.inp.a v1.inp.len v1.inp.cap, .slice v1.out.a v1.out.len v1.out.cap, .int .i64 m.steps, .int .i64 m.fin, .int .i64 m.val] 25) ∧ g < u3.heap.size) := ⟨(d3.block _ G2.out.2).trans G2.out.1, Nat.lt_of_lt_of_le G2.out.2 d3.size⟩
  have E3 : Hid (u3.heap[w.heap.size + 1]? = some (.cells #[.slice none 0 0, .int .i64 0, .slice none 0 0, .slice none 0 0, .slice none 0 0, .slice none 0 0, .slice none 0 0, .int .i64 0, .int .i64 0, .int .i64 0] 25)) := (d3.block _ (by have := Z1.out; have := G2.out.2; omega)).trans E2.out
  have B3 : Hid (Below w.heap.size w u3) := B2.out.trans (d3.mono (by have := Z1.out; have := G2.out.2; omega))
  have O3 : Hid (MOwn u0.heap.size u3 v1 m) := O2.out.keep d3
  clear d3 P2 E2 B2 O2 G2
  have EE : Hid (u3.heap[w.heap.size + 1]? = some (.cells #[.slice none 0 0, .int .i64 0, .slice none 0 0, .slice none 0 0, .slice none 0 0, .slice none 0 0, .slice none 0 0, .int .i64 0, .int .i64 0, .int .i64 0] 25)) := E3.out
  go_wp2_with (first | (go_at_call 24; refine (specKindSize_any _ _).mono ?_; rintro e w' ⟨rfl, hw'⟩; rw [hw', hk]; clear hw') | (refine wpList_load_row rfl 25 _ rfl (g) ?hx 25 #[.slice v1.code.a v1.code.len v1.code.cap, .int .i64 m.pc, .slice v1.regs.a v1.regs.len v1.regs.cap, .slice v1.data.a v1.data.len v1.data.cap, .slice v1.stk.a v1.stk.len v1.stk.cap, .slice v1.inp.a v1.inp.len v1.inp.cap, .slice v1.out.a v1.out.len v1.out.cap, .int .i64 m.steps, .int .i64 m.fin, .int .i64 m.val] (0, 0) _ ?hg Try.underlying25 ?hd ?hi ?_; (case hx => rfl); (case hg => exact G3.out.1); (case hd => rfl); (case hi => kernel_rfl)) | (refine wpList_store_row rfl 25 _ _ rfl (w.heap.size + 1) #[.slice v1.code.a v1.code.len v1.code.cap, .int .i64 m.pc, .slice v1.regs.a v1.regs.len v1.regs.cap, .slice v1.data.a v1.data.len v1.data.cap, .slice v1.stk.a v1.stk.len v1.stk.cap, .slice v1.inp.a v1.inp.len v1.inp.cap, .slice v1.out.a v1.out.len v1.out.cap, .int .i64 m.steps, .int .i64 m.fin, .int .i64 m.val] ?hx ?hy 25 #[.slice none 0 0, .int .i64 0, .slice none 0 0, .slice none 0 0, .slice none 0 0, .slice none 0 0, .slice none 0 0, .int .i64 0, .int .i64 0, .int .i64 0] ?hg ?hi ?ho ?h1 ?_; (case hx => rfl); (case hy => rfl); (case hg => exact EE.out); (case hi => kernel_rfl); (case ho => kernel_rfl); (case h1 => kernel_rfl); refine Hid.out ?_))
  unfold Hid
  go_wp2_with fail
  have OF : MOwn u0.heap.size (u3.setRow (w.heap.size + 1) #[.slice v1.code.a v1.code.len v1.code.cap, .int .i64 m.pc, .slice v1.regs.a v1.regs.len v1.regs.cap, .slice v1.data.a v1.data.len v1.data.cap, .slice v1.stk.a v1.stk.len v1.stk.cap, .slice v1.inp.a v1.inp.len v1.inp.cap, .slice v1.out.a v1.out.len v1.out.cap, .int .i64 m.steps, .int .i64 m.fin, .int .i64 m.val]) v1 m := O3.out.same ((Above.refl u0.heap.size u3).setRow (show w.heap.size + 1 < u0.heap.size by have := Z1.out; omega) _) (Nat.le_refl _)
  have OL : MOwn w.heap.size (u3.setRow (w.heap.size + 1) #[.slice v1.code.a v1.code.len v1.code.cap, .int .i64 m.pc, .slice v1.regs.a v1.regs.len v1.regs.cap, .slice v1.data.a v1.data.len v1.data.cap, .slice v1.stk.a v1.stk.len v1.stk.cap, .slice v1.inp.a v1.inp.len v1.inp.cap, .slice v1.out.a v1.out.len v1.out.cap, .int .i64 m.steps, .int .i64 m.fin, .int .i64 m.val]) v1 m := OF.lower (by have := Z1.out; omega)
  refine bodyPost_ret (v := .tuple #[.agg #[.slice v1.code.a v1.code.len v1.code.cap, .int .i64 m.pc, .slice v1.regs.a v1.regs.len v1.regs.cap, .slice v1.data.a v1.data.len v1.data.cap, .slice v1.stk.a v1.stk.len v1.stk.cap, .slice v1.inp.a v1.inp.len v1.inp.cap, .slice v1.out.a v1.out.len v1.out.cap, .int .i64 m.steps, .int .i64 m.fin, .int .i64 m.val], .int .i64 4]) ?_ rfl ⟨v1, rfl, OL, (SP.out.bounds OL (by have := Z1.out; have := G3.out.2; simp; omega)), below_setRow B3.out (show w.heap.size ≤ w.heap.size + 1 by omega) _⟩
  refine results_cell_tmp3 Try.results6 _ _ (w.heap.size + 1) 25 #[.slice v1.code.a v1.code.len v1.code.cap, .int .i64 m.pc, .slice v1.regs.a v1.regs.len v1.regs.cap, .slice v1.data.a v1.data.len v1.data.cap, .slice v1.stk.a v1.stk.len v1.stk.cap, .slice v1.inp.a v1.inp.len v1.inp.cap, .slice v1.out.a v1.out.len v1.out.cap, .int .i64 m.steps, .int .i64 m.fin, .int .i64 m.val] (0, 0) _ (.int .i64 4) ?hp ?hq ?hg Try.underlying25 ?hd ?hi
  case hp => rfl
  case hq => rfl
  case hg => exact setRow_heap _ _ _ _ _ _ EE.out
  case hd => rfl
  case hi => kernel_rfl
set_option maxHeartbeats 8000000 in
theorem specStore_same {lo : Nat} (v : MV) (m : Pl.Mac) (kind at_ x : Int) (w : World) (h : MOwn lo w v m) (hsz : Pl.mSize m ≤ 1048576) (hok : Pl.mOk m = true) (size : Nat) (hs : 1 ≤ size ∧ size ≤ 4) (hk : Pl.ks kind = size) (code : Int) (HF : ∀ (v1 : MV) (g : Nat) (W : World), W.heap[g]? = some (.cells #[.slice v1.code.a v1.code.len v1.code.cap, .int .i64 m.pc, .slice v1.regs.a v1.regs.len v1.regs.cap, .slice v1.data.a v1.data.len v1.data.cap, .slice v1.stk.a v1.stk.len v1.stk.cap, .slice v1.inp.a v1.inp.len v1.inp.cap, .slice v1.out.a v1.out.len v1.out.cap, .int .i64 m.steps, .int .i64 m.fin, .int .i64 m.val] 25) → v1.data.len = m.data.length → v1.stk.len = m.stk.length → Calls Try.prog 25 #[.pointer (some ⟨g, 0, none⟩), .int .i64 kind, .int .i64 at_, .int .i64 x] W fun e w' => e = .returned (.int .i64 code) ∧ w' = W) :
    Calls Try.prog 6 #[.agg #[.slice v.code.a v.code.len v.code.cap, .int .i64 m.pc, .slice v.regs.a v.regs.len v.regs.cap, .slice v.data.a v.data.len v.data.cap, .slice v.stk.a v.stk.len v.stk.cap, .slice v.inp.a v.inp.len v.inp.cap, .slice v.out.a v.out.len v.out.cap, .int .i64 m.steps, .int .i64 m.fin, .int .i64 m.val], .int .i64 kind, .int .i64 at_, .int .i64 x] w fun e w' => ∃ v1 : MV, e = .returned (.tuple #[.agg #[.slice v1.code.a v1.code.len v1.code.cap, .int .i64 m.pc, .slice v1.regs.a v1.regs.len v1.regs.cap, .slice v1.data.a v1.data.len v1.data.cap, .slice v1.stk.a v1.stk.len v1.stk.cap, .slice v1.inp.a v1.inp.len v1.inp.cap, .slice v1.out.a v1.out.len v1.out.cap, .int .i64 m.steps, .int .i64 m.fin, .int .i64 m.val], .int .i64 code]) ∧ MOwn w.heap.size w' v1 m ∧ (∃ t0 t6, MSepAt t0 t6 v1 ∧ w.heap.size ≤ t0 ∧ t6 ≤ w'.heap.size) ∧ Below w.heap.size w w' := by
  have HH : Hid (MOwn lo w v m) := h
  have HFF : Hid _ := HF
  clear HF
  clear h
  have P0 : Hid (((w.alloc (.cells #[.slice v.code.a v.code.len v.code.cap, .int .i64 m.pc, .slice v.regs.a v.regs.len v.regs.cap, .slice v.data.a v.data.len v.data.cap, .slice v.stk.a v.stk.len v.stk.cap, .slice v.inp.a v.inp.len v.inp.cap, .slice v.out.a v.out.len v.out.cap, .int .i64 m.steps, .int .i64 m.fin, .int .i64 m.val] 25)).alloc (.cells #[.slice none 0 0, .int .i64 0, .slice none 0 0, .slice none 0 0, .slice none 0 0, .slice none 0 0, .slice none 0 0, .int .i64 0, .int .i64 0, .int .i64 0] 25)).heap[w.heap.size]? = some (.cells #[.slice v.code.a v.code.len v.code.cap, .int .i64 m.pc, .slice v.regs.a v.regs.len v.regs.cap, .slice v.data.a v.data.len v.data.cap, .slice v.stk.a v.stk.len v.stk.cap, .slice v.inp.a v.inp.len v.inp.cap, .slice v.out.a v.out.len v.out.cap, .int .i64 m.steps, .int .i64 m.fin, .int .i64 m.val] 25)) := (Below.heap_alloc _ _ _ (by simp)).trans (heap_alloc_new w _)
  go_enter Try.func6, Try.ntmps6
  go_wp2_with (refine wpList_load_row rfl 25 _ rfl (w.heap.size) ?hx 25 #[.slice v.code.a v.code.len v.code.cap, .int .i64 m.pc, .slice v.regs.a v.regs.len v.regs.cap, .slice v.data.a v.data.len v.data.cap, .slice v.stk.a v.stk.len v.stk.cap, .slice v.inp.a v.inp.len v.inp.cap, .slice v.out.a v.out.len v.out.cap, .int .i64 m.steps, .int .i64 m.fin, .int .i64 m.val] (0, 0) _ ?hg Try.underlying25 ?hd ?hi ?_; (case hx => rfl); (case hg => exact P0.out); (case hd => rfl); (case hi => kernel_rfl))
  refine calls_at fun u0 hu0 => ?_
  have E0 : Hid (u0.heap[w.heap.size + 1]? = some (.cells #[.slice none 0 0, .int .i64 0, .slice none 0 0, .slice none 0 0, .slice none 0 0, .slice none 0 0, .slice none 0 0, .int .i64 0, .int .i64 0, .int .i64 0] 25)) := by
    show u0.heap[w.heap.size + 1]? = _
    rw [hu0]
    have := heap_alloc_new (w.alloc (.cells #[.slice v.code.a v.code.len v.code.cap, .int .i64 m.pc, .slice v.regs.a v.regs.len v.regs.cap, .slice v.data.a v.data.len v.data.cap, .slice v.stk.a v.stk.len v.stk.cap, .slice v.inp.a v.inp.len v.inp.cap, .slice v.out.a v.out.len v.out.cap, .int .i64 m.steps, .int .i64 m.fin, .int .i64 m.val] 25)) (.cells #[.slice none 0 0, .int .i64 0, .slice none 0 0, .slice none 0 0, .slice none 0 0, .slice none 0 0, .slice none 0 0, .int .i64 0, .int .i64 0, .int .i64 0] 25)
    simpa using this
  have B0 : Hid (Below w.heap.size w u0) := by show Below w.heap.size w u0; rw [hu0]; exact ((Below.refl _ _).alloc (Nat.le_refl _) _).alloc (by simp) _
  have Z0 : Hid (u0.heap.size = w.heap.size + 2) := by show u0.heap.size = w.heap.size + 2; rw [hu0]; simp
  rw [← hu0] at P0
  clear hu0
  refine (l3Copy_any v m u0 (HH.out.keep B0.out) hsz).mono ?_
  rintro e u1 ⟨v1, rfl, o1, sp1, d1⟩
  have O1 : Hid (MOwn u0.heap.size u1 v1 m) := o1
  have SP : Hid (MSep v1) := sp1
  have P1 : Hid (u1.heap[w.heap.size]? = some (.cells #[.slice v.code.a v.code.len v.code.cap, .int .i64 m.pc, .slice v.regs.a v.regs.len v.regs.cap, .slice v.data.a v.data.len v.data.cap, .slice v.stk.a v.stk.len v.stk.cap, .slice v.inp.a v.inp.len v.inp.cap, .slice v.out.a v.out.len v.out.cap, .int .i64 m.steps, .int .i64 m.fin, .int .i64 m.val] 25)) := (d1.block _ (by have := Z0.out; omega)).trans P0.out
  have E1 : Hid (u1.heap[w.heap.size + 1]? = some (.cells #[.slice none 0 0, .int .i64 0, .slice none 0 0, .slice none 0 0, .slice none 0 0, .slice none 0 0, .slice none 0 0, .int .i64 0, .int .i64 0, .int .i64 0] 25)) := (d1.block _ (by have := Z0.out; omega)).trans E0.out
  have B1 : Hid (Below w.heap.size w u1) := B0.out.trans (d1.mono (by have := Z0.out; omega))
  have Z1 : Hid (w.heap.size + 2 ≤ u1.heap.size ∧ u0.heap.size = w.heap.size + 2) := ⟨by have := Z0.out; have := d1.size; omega, Z0.out⟩
  clear o1 sp1 d1 P0 E0 B0 Z0
  go_wp2_with (refine wpList_store_row rfl 25 _ _ rfl (u1.heap.size) #[.slice v1.code.a v1.code.len v1.code.cap, .int .i64 m.pc, .slice v1.regs.a v1.regs.len v1.regs.cap, .slice v1.data.a v1.data.len v1.data.cap, .slice v1.stk.a v1.stk.len v1.stk.cap, .slice v1.inp.a v1.inp.len v1.inp.cap, .slice v1.out.a v1.out.len v1.out.cap, .int .i64 m.steps, .int .i64 m.fin, .int .i64 m.val] ?hx ?hy 25 #[.slice none 0 0, .int .i64 0, .slice none 0 0, .slice none 0 0, .slice none 0 0, .slice none 0 0, .slice none 0 0, .int .i64 0, .int .i64 0, .int .i64 0] ?hg ?hi ?ho ?h1 ?_; (case hx => rfl); (case hy => rfl); (case hg => exact heap_alloc_new u1 _); (case hi => kernel_rfl); (case ho => kernel_rfl); (case h1 => kernel_rfl); refine Hid.out ?_)
  unfold Hid
  rw [World.setRow_alloc_new]
  refine wpList_at fun u2 hu2 => ?_
  have d2 : Below u1.heap.size u1 u2 := by rw [hu2]; exact below_alloc u1 _
  have G2 : Hid (u2.heap[u1.heap.size]? = some (.cells #[.slice v1.code.a v1.code.len v1.code.cap, .int .i64 m.pc, .slice v1.regs.a v1.regs.len v1.regs.cap, .slice v1.data.a v1.data.len v1.data.cap, .slice v1.stk.a v1.stk.len v1.stk.cap, .slice v1.inp.a v1.inp.len v1.inp.cap, .slice v1.out.a v1.out.len v1.out.cap, .int .i64 m.steps, .int .i64 m.fin, .int .i64 m.val] 25) ∧ u1.heap.size < u2.heap.size) := by show u2.heap[u1.heap.size]? = _ ∧ u1.heap.size < u2.heap.size; rw [hu2]; exact ⟨heap_alloc_new u1 _, by simp⟩
  have P2 : Hid (u2.heap[w.heap.size]? = some (.cells #[.slice v.code.a v.code.len v.code.cap, .int .i64 m.pc, .slice v.regs.a v.regs.len v.regs.cap, .slice v.data.a v.data.len v.data.cap, .slice v.stk.a v.stk.len v.stk.cap, .slice v.inp.a v.inp.len v.inp.cap, .slice v.out.a v.out.len v.out.cap, .int .i64 m.steps, .int .i64 m.fin, .int .i64 m.val] 25)) := (d2.block _ (by have := Z1.out; omega)).trans P1.out
  have E2 : Hid (u2.heap[w.heap.size + 1]? = some (.cells #[.slice none 0 0, .int .i64 0, .slice none 0 0, .slice none 0 0, .slice none 0 0, .slice none 0 0, .slice none 0 0, .int .i64 0, .int .i64 0, .int .i64 0] 25)) := (d2.block _ (by have := Z1.out; omega)).trans E1.out
  have B2 : Hid (Below w.heap.size w u2) := B1.out.trans (d2.mono (by have := Z1.out; omega))
  have O2 : Hid (MOwn u0.heap.size u2 v1 m) := O1.out.keep d2
  have SB : Hid (∀ s : SV, ∀ (k : IntKind) (e : TypeId) (zs : List Int), Own k e u0.heap.size u1 s.a s.len s.cap zs → Span s u0.heap.size u1.heap.size) := fun s k e zs ho => ho.span (Nat.le_refl _)
  clear hu2 d2 P1 E1 B1
  obtain ⟨g, hg⟩ : ∃ g, g = u1.heap.size := ⟨_, rfl⟩
  rw [← hg] at G2 Z1 SB ⊢
  clear hg
  go_wp2_with (refine wpList_load_row rfl 25 _ rfl (w.heap.size) ?hx 25 #[.slice v.code.a v.code.len v.code.cap, .int .i64 m.pc, .slice v.regs.a v.regs.len v.regs.cap, .slice v.data.a v.data.len v.data.cap, .slice v.stk.a v.stk.len v.stk.cap, .slice v.inp.a v.inp.len v.inp.cap, .slice v.out.a v.out.len v.out.cap, .int .i64 m.steps, .int .i64 m.fin, .int .i64 m.val] (0, 0) _ ?hg Try.underlying25 ?hd ?hi ?_; (case hx => rfl); (case hg => exact P2.out); (case hd => rfl); (case hi => kernel_rfl))
  refine (specMachineOk_any v m u2 (HH.out.is.keep B2.out)).mono ?_
  rintro e u3 ⟨rfl, d3⟩
  rw [hok]
  have G3 : Hid (u3.heap[g]? = some (.cells #[.slice v1.code.a v1.code.len v1.code.cap, .int .i64 m.pc, .slice v1.regs.a v1.regs.len v1.regs.cap, .slice v1.data.a v1.data.len v1.data.cap, .slice v1.stk.a v1.stk.len v1.stk.cap, .slice v1.inp.a v1.inp.len v1.inp.cap, .slice v1.out.a v1.out.len v1.out.cap, .int .i64 m.steps, .int .i64 m.fin, .int .i64 m.val] 25) ∧ g < u3.heap.size) := ⟨(d3.block _ G2.out.2).trans G2.out.1, Nat.lt_of_lt_of_le G2.out.2 d3.size⟩
  have E3 : Hid (u3.heap[w.heap.size + 1]? = some (.cells #[.slice none 0 0, .int .i64 0, .slice none 0 0, .slice none 0 0, .slice none 0 0, .slice none 0 0, .slice none 0 0, .int .i64 0, .int .i64 0, .int .i64 0] 25)) := (d3.block _ (by have := Z1.out; have := G2.out.2; omega)).trans E2.out
  have B3 : Hid (Below w.heap.size w u3) := B2.out.trans (d3.mono (by have := Z1.out; have := G2.out.2; omega))
  have O3 : Hid (MOwn u0.heap.size u3 v1 m) := O2.out.keep d3
  clear d3 P2 E2 B2 O2 G2
  have hs0 : ((size : Int) == 0) = false := by simp; omega
  go_wp2_with (first | (go_at_call 24; refine (specKindSize_any _ _).mono ?_; rintro e w' ⟨rfl, hw'⟩; rw [hw', hk]; clear hw'))
  refine (HFF.out v1 g u3 G3.out.1 O3.out.2.2.1.row.1.symm O3.out.2.2.2.1.row.1.symm).mono ?_
  rintro e w' ⟨rfl, hw'⟩
  rw [hw']
  clear hw' HFF
  have EE : Hid (u3.heap[w.heap.size + 1]? = some (.cells #[.slice none 0 0, .int .i64 0, .slice none 0 0, .slice none 0 0, .slice none 0 0, .slice none 0 0, .slice none 0 0, .int .i64 0, .int .i64 0, .int .i64 0] 25)) := E3.out
  go_wp2_with (first | (go_at_call 24; refine (specKindSize_any _ _).mono ?_; rintro e w' ⟨rfl, hw'⟩; rw [hw', hk]; clear hw') | (refine wpList_load_row rfl 25 _ rfl (g) ?hx 25 #[.slice v1.code.a v1.code.len v1.code.cap, .int .i64 m.pc, .slice v1.regs.a v1.regs.len v1.regs.cap, .slice v1.data.a v1.data.len v1.data.cap, .slice v1.stk.a v1.stk.len v1.stk.cap, .slice v1.inp.a v1.inp.len v1.inp.cap, .slice v1.out.a v1.out.len v1.out.cap, .int .i64 m.steps, .int .i64 m.fin, .int .i64 m.val] (0, 0) _ ?hg Try.underlying25 ?hd ?hi ?_; (case hx => rfl); (case hg => exact G3.out.1); (case hd => rfl); (case hi => kernel_rfl)) | (refine wpList_store_row rfl 25 _ _ rfl (w.heap.size + 1) #[.slice v1.code.a v1.code.len v1.code.cap, .int .i64 m.pc, .slice v1.regs.a v1.regs.len v1.regs.cap, .slice v1.data.a v1.data.len v1.data.cap, .slice v1.stk.a v1.stk.len v1.stk.cap, .slice v1.inp.a v1.inp.len v1.inp.cap, .slice v1.out.a v1.out.len v1.out.cap, .int .i64 m.steps, .int .i64 m.fin, .int .i64 m.val] ?hx ?hy 25 #[.slice none 0 0, .int .i64 0, .slice none 0 0, .slice none 0 0, .slice none 0 0, .slice none 0 0, .slice none 0 0, .int .i64 0, .int .i64 0, .int .i64 0] ?hg ?hi ?ho ?h1 ?_; (case hx => rfl); (case hy => rfl); (case hg => exact EE.out); (case hi => kernel_rfl); (case ho => kernel_rfl); (case h1 => kernel_rfl); refine Hid.out ?_))
  unfold Hid
  go_wp2_with fail
  have OF : MOwn u0.heap.size (u3.setRow (w.heap.size + 1) #[.slice v1.code.a v1.code.len v1.code.cap, .int .i64 m.pc, .slice v1.regs.a v1.regs.len v1.regs.cap, .slice v1.data.a v1.data.len v1.data.cap, .slice v1.stk.a v1.stk.len v1.stk.cap, .slice v1.inp.a v1.inp.len v1.inp.cap, .slice v1.out.a v1.out.len v1.out.cap, .int .i64 m.steps, .int .i64 m.fin, .int .i64 m.val]) v1 m := O3.out.same ((Above.refl u0.heap.size u3).setRow (show w.heap.size + 1 < u0.heap.size by have := Z1.out; omega) _) (Nat.le_refl _)
  have OL : MOwn w.heap.size (u3.setRow (w.heap.size + 1) #[.slice v1.code.a v1.code.len v1.code.cap, .int .i64 m.pc, .slice v1.regs.a v1.regs.len v1.regs.cap, .slice v1.data.a v1.data.len v1.data.cap, .slice v1.stk.a v1.stk.len v1.stk.cap, .slice v1.inp.a v1.inp.len v1.inp.cap, .slice v1.out.a v1.out.len v1.out.cap, .int .i64 m.steps, .int .i64 m.fin, .int .i64 m.val]) v1 m := OF.lower (by have := Z1.out; omega)
  refine bodyPost_ret (v := .tuple #[.agg #[.slice v1.code.a v1.code.len v1.code.cap, .int .i64 m.pc, .slice v1.regs.a v1.regs.len v1.regs.cap, .slice v1.data.a v1.data.len v1.data.cap, .slice v1.stk.a v1.stk.len v1.stk.cap, .slice v1.inp.a v1.inp.len v1.inp.cap, .slice v1.out.a v1.out.len v1.out.cap, .int .i64 m.steps, .int .i64 m.fin, .int .i64 m.val], .int .i64 code]) ?_ rfl ⟨v1, rfl, OL, (SP.out.bounds OL (by have := Z1.out; have := G3.out.2; simp; omega)), below_setRow B3.out (show w.heap.size ≤ w.heap.size + 1 by omega) _⟩
  refine results_cell_tmp3 Try.results6 _ _ (w.heap.size + 1) 25 #[.slice v1.code.a v1.code.len v1.code.cap, .int .i64 m.pc, .slice v1.regs.a v1.regs.len v1.regs.cap, .slice v1.data.a v1.data.len v1.data.cap, .slice v1.stk.a v1.stk.len v1.stk.cap, .slice v1.inp.a v1.inp.len v1.inp.cap, .slice v1.out.a v1.out.len v1.out.cap, .int .i64 m.steps, .int .i64 m.fin, .int .i64 m.val] (0, 0) _ (.int .i64 code) ?hp ?hq ?hg Try.underlying25 ?hd ?hi
  case hp => rfl
  case hq => rfl
  case hg => exact setRow_heap _ _ _ _ _ _ EE.out
  case hd => rfl
  case hi => kernel_rfl
set_option maxHeartbeats 8000000 in
theorem specStore_data {lo : Nat} (v : MV) (m : Pl.Mac) (kind at_ x : Int) (w : World) (h : MOwn lo w v m) (hsz : Pl.mSize m ≤ 1048576) (hok : Pl.mOk m = true) (p size : Nat) (hs : 1 ≤ size ∧ size ≤ 4) (hk : Pl.ks kind = size) (ha : (at_.tmod (size : Int) != 0) = false) (hb : -9223372036854775808 ≤ at_ ∧ at_ ≤ 9223372036854775807) (hld : m.data.length ≤ 65536 ∧ m.stk.length ≤ 65536) (hp : at_ = 1048576 + p) (hp2 : p + size ≤ m.data.length) :
    Calls Try.prog 6 #[.agg #[.slice v.code.a v.code.len v.code.cap, .int .i64 m.pc, .slice v.regs.a v.regs.len v.regs.cap, .slice v.data.a v.data.len v.data.cap, .slice v.stk.a v.stk.len v.stk.cap, .slice v.inp.a v.inp.len v.inp.cap, .slice v.out.a v.out.len v.out.cap, .int .i64 m.steps, .int .i64 m.fin, .int .i64 m.val], .int .i64 kind, .int .i64 at_, .int .i64 x] w fun e w' => ∃ v1 : MV, e = .returned (.tuple #[.agg #[.slice v1.code.a v1.code.len v1.code.cap, .int .i64 m.pc, .slice v1.regs.a v1.regs.len v1.regs.cap, .slice v1.data.a v1.data.len v1.data.cap, .slice v1.stk.a v1.stk.len v1.stk.cap, .slice v1.inp.a v1.inp.len v1.inp.cap, .slice v1.out.a v1.out.len v1.out.cap, .int .i64 m.steps, .int .i64 m.fin, .int .i64 m.val], .int .i64 0]) ∧ MOwn w.heap.size w' v1 { m with data := Pl.stk_ m.data p x size } ∧ (∃ t0 t6, MSepAt t0 t6 v1 ∧ w.heap.size ≤ t0 ∧ t6 ≤ w'.heap.size) ∧ Below w.heap.size w w' := by
  have HH : Hid (MOwn lo w v m) := h
  have HP : Hid (at_ = 1048576 + p) := hp
  clear hp
  clear h
  have P0 : Hid (((w.alloc (.cells #[.slice v.code.a v.code.len v.code.cap, .int .i64 m.pc, .slice v.regs.a v.regs.len v.regs.cap, .slice v.data.a v.data.len v.data.cap, .slice v.stk.a v.stk.len v.stk.cap, .slice v.inp.a v.inp.len v.inp.cap, .slice v.out.a v.out.len v.out.cap, .int .i64 m.steps, .int .i64 m.fin, .int .i64 m.val] 25)).alloc (.cells #[.slice none 0 0, .int .i64 0, .slice none 0 0, .slice none 0 0, .slice none 0 0, .slice none 0 0, .slice none 0 0, .int .i64 0, .int .i64 0, .int .i64 0] 25)).heap[w.heap.size]? = some (.cells #[.slice v.code.a v.code.len v.code.cap, .int .i64 m.pc, .slice v.regs.a v.regs.len v.regs.cap, .slice v.data.a v.data.len v.data.cap, .slice v.stk.a v.stk.len v.stk.cap, .slice v.inp.a v.inp.len v.inp.cap, .slice v.out.a v.out.len v.out.cap, .int .i64 m.steps, .int .i64 m.fin, .int .i64 m.val] 25)) := (Below.heap_alloc _ _ _ (by simp)).trans (heap_alloc_new w _)
  go_enter Try.func6, Try.ntmps6
  go_wp2_with (refine wpList_load_row rfl 25 _ rfl (w.heap.size) ?hx 25 #[.slice v.code.a v.code.len v.code.cap, .int .i64 m.pc, .slice v.regs.a v.regs.len v.regs.cap, .slice v.data.a v.data.len v.data.cap, .slice v.stk.a v.stk.len v.stk.cap, .slice v.inp.a v.inp.len v.inp.cap, .slice v.out.a v.out.len v.out.cap, .int .i64 m.steps, .int .i64 m.fin, .int .i64 m.val] (0, 0) _ ?hg Try.underlying25 ?hd ?hi ?_; (case hx => rfl); (case hg => exact P0.out); (case hd => rfl); (case hi => kernel_rfl))
  refine calls_at fun u0 hu0 => ?_
  have E0 : Hid (u0.heap[w.heap.size + 1]? = some (.cells #[.slice none 0 0, .int .i64 0, .slice none 0 0, .slice none 0 0, .slice none 0 0, .slice none 0 0, .slice none 0 0, .int .i64 0, .int .i64 0, .int .i64 0] 25)) := by
    show u0.heap[w.heap.size + 1]? = _
    rw [hu0]
    have := heap_alloc_new (w.alloc (.cells #[.slice v.code.a v.code.len v.code.cap, .int .i64 m.pc, .slice v.regs.a v.regs.len v.regs.cap, .slice v.data.a v.data.len v.data.cap, .slice v.stk.a v.stk.len v.stk.cap, .slice v.inp.a v.inp.len v.inp.cap, .slice v.out.a v.out.len v.out.cap, .int .i64 m.steps, .int .i64 m.fin, .int .i64 m.val] 25)) (.cells #[.slice none 0 0, .int .i64 0, .slice none 0 0, .slice none 0 0, .slice none 0 0, .slice none 0 0, .slice none 0 0, .int .i64 0, .int .i64 0, .int .i64 0] 25)
    simpa using this
  have B0 : Hid (Below w.heap.size w u0) := by show Below w.heap.size w u0; rw [hu0]; exact ((Below.refl _ _).alloc (Nat.le_refl _) _).alloc (by simp) _
  have Z0 : Hid (u0.heap.size = w.heap.size + 2) := by show u0.heap.size = w.heap.size + 2; rw [hu0]; simp
  rw [← hu0] at P0
  clear hu0
  refine (l3Copy_any v m u0 (HH.out.keep B0.out) hsz).mono ?_
  rintro e u1 ⟨v1, rfl, o1, sp1, d1⟩
  have O1 : Hid (MOwn u0.heap.size u1 v1 m) := o1
  have SP : Hid (MSep v1) := sp1
  have P1 : Hid (u1.heap[w.heap.size]? = some (.cells #[.slice v.code.a v.code.len v.code.cap, .int .i64 m.pc, .slice v.regs.a v.regs.len v.regs.cap, .slice v.data.a v.data.len v.data.cap, .slice v.stk.a v.stk.len v.stk.cap, .slice v.inp.a v.inp.len v.inp.cap, .slice v.out.a v.out.len v.out.cap, .int .i64 m.steps, .int .i64 m.fin, .int .i64 m.val] 25)) := (d1.block _ (by have := Z0.out; omega)).trans P0.out
  have E1 : Hid (u1.heap[w.heap.size + 1]? = some (.cells #[.slice none 0 0, .int .i64 0, .slice none 0 0, .slice none 0 0, .slice none 0 0, .slice none 0 0, .slice none 0 0, .int .i64 0, .int .i64 0, .int .i64 0] 25)) := (d1.block _ (by have := Z0.out; omega)).trans E0.out
  have B1 : Hid (Below w.heap.size w u1) := B0.out.trans (d1.mono (by have := Z0.out; omega))
  have Z1 : Hid (w.heap.size + 2 ≤ u1.heap.size ∧ u0.heap.size = w.heap.size + 2) := ⟨by have := Z0.out; have := d1.size; omega, Z0.out⟩
  clear o1 sp1 d1 P0 E0 B0 Z0
  go_wp2_with (refine wpList_store_row rfl 25 _ _ rfl (u1.heap.size) #[.slice v1.code.a v1.code.len v1.code.cap, .int .i64 m.pc, .slice v1.regs.a v1.regs.len v1.regs.cap, .slice v1.data.a v1.data.len v1.data.cap, .slice v1.stk.a v1.stk.len v1.stk.cap, .slice v1.inp.a v1.inp.len v1.inp.cap, .slice v1.out.a v1.out.len v1.out.cap, .int .i64 m.steps, .int .i64 m.fin, .int .i64 m.val] ?hx ?hy 25 #[.slice none 0 0, .int .i64 0, .slice none 0 0, .slice none 0 0, .slice none 0 0, .slice none 0 0, .slice none 0 0, .int .i64 0, .int .i64 0, .int .i64 0] ?hg ?hi ?ho ?h1 ?_; (case hx => rfl); (case hy => rfl); (case hg => exact heap_alloc_new u1 _); (case hi => kernel_rfl); (case ho => kernel_rfl); (case h1 => kernel_rfl); refine Hid.out ?_)
  unfold Hid
  rw [World.setRow_alloc_new]
  refine wpList_at fun u2 hu2 => ?_
  have d2 : Below u1.heap.size u1 u2 := by rw [hu2]; exact below_alloc u1 _
  have G2 : Hid (u2.heap[u1.heap.size]? = some (.cells #[.slice v1.code.a v1.code.len v1.code.cap, .int .i64 m.pc, .slice v1.regs.a v1.regs.len v1.regs.cap, .slice v1.data.a v1.data.len v1.data.cap, .slice v1.stk.a v1.stk.len v1.stk.cap, .slice v1.inp.a v1.inp.len v1.inp.cap, .slice v1.out.a v1.out.len v1.out.cap, .int .i64 m.steps, .int .i64 m.fin, .int .i64 m.val] 25) ∧ u1.heap.size < u2.heap.size) := by show u2.heap[u1.heap.size]? = _ ∧ u1.heap.size < u2.heap.size; rw [hu2]; exact ⟨heap_alloc_new u1 _, by simp⟩
  have P2 : Hid (u2.heap[w.heap.size]? = some (.cells #[.slice v.code.a v.code.len v.code.cap, .int .i64 m.pc, .slice v.regs.a v.regs.len v.regs.cap, .slice v.data.a v.data.len v.data.cap, .slice v.stk.a v.stk.len v.stk.cap, .slice v.inp.a v.inp.len v.inp.cap, .slice v.out.a v.out.len v.out.cap, .int .i64 m.steps, .int .i64 m.fin, .int .i64 m.val] 25)) := (d2.block _ (by have := Z1.out; omega)).trans P1.out
  have E2 : Hid (u2.heap[w.heap.size + 1]? = some (.cells #[.slice none 0 0, .int .i64 0, .slice none 0 0, .slice none 0 0, .slice none 0 0, .slice none 0 0, .slice none 0 0, .int .i64 0, .int .i64 0, .int .i64 0] 25)) := (d2.block _ (by have := Z1.out; omega)).trans E1.out
  have B2 : Hid (Below w.heap.size w u2) := B1.out.trans (d2.mono (by have := Z1.out; omega))
  have O2 : Hid (MOwn u0.heap.size u2 v1 m) := O1.out.keep d2
  have SB : Hid (∀ s : SV, ∀ (k : IntKind) (e : TypeId) (zs : List Int), Own k e u0.heap.size u1 s.a s.len s.cap zs → Span s u0.heap.size u1.heap.size) := fun s k e zs ho => ho.span (Nat.le_refl _)
  clear hu2 d2 P1 E1 B1
  obtain ⟨g, hg⟩ : ∃ g, g = u1.heap.size := ⟨_, rfl⟩
  rw [← hg] at G2 Z1 SB ⊢
  clear hg
  go_wp2_with (refine wpList_load_row rfl 25 _ rfl (w.heap.size) ?hx 25 #[.slice v.code.a v.code.len v.code.cap, .int .i64 m.pc, .slice v.regs.a v.regs.len v.regs.cap, .slice v.data.a v.data.len v.data.cap, .slice v.stk.a v.stk.len v.stk.cap, .slice v.inp.a v.inp.len v.inp.cap, .slice v.out.a v.out.len v.out.cap, .int .i64 m.steps, .int .i64 m.fin, .int .i64 m.val] (0, 0) _ ?hg Try.underlying25 ?hd ?hi ?_; (case hx => rfl); (case hg => exact P2.out); (case hd => rfl); (case hi => kernel_rfl))
  refine (specMachineOk_any v m u2 (HH.out.is.keep B2.out)).mono ?_
  rintro e u3 ⟨rfl, d3⟩
  rw [hok]
  have G3 : Hid (u3.heap[g]? = some (.cells #[.slice v1.code.a v1.code.len v1.code.cap, .int .i64 m.pc, .slice v1.regs.a v1.regs.len v1.regs.cap, .slice v1.data.a v1.data.len v1.data.cap, .slice v1.stk.a v1.stk.len v1.stk.cap, .slice v1.inp.a v1.inp.len v1.inp.cap, .slice v1.out.a v1.out.len v1.out.cap, .int .i64 m.steps, .int .i64 m.fin, .int .i64 m.val] 25) ∧ g < u3.heap.size) := ⟨(d3.block _ G2.out.2).trans G2.out.1, Nat.lt_of_lt_of_le G2.out.2 d3.size⟩
  have E3 : Hid (u3.heap[w.heap.size + 1]? = some (.cells #[.slice none 0 0, .int .i64 0, .slice none 0 0, .slice none 0 0, .slice none 0 0, .slice none 0 0, .slice none 0 0, .int .i64 0, .int .i64 0, .int .i64 0] 25)) := (d3.block _ (by have := Z1.out; have := G2.out.2; omega)).trans E2.out
  have B3 : Hid (Below w.heap.size w u3) := B2.out.trans (d3.mono (by have := Z1.out; have := G2.out.2; omega))
  have O3 : Hid (MOwn u0.heap.size u3 v1 m) := O2.out.keep d3
  clear d3 P2 E2 B2 O2 G2
  have hs0 : ((size : Int) == 0) = false := by simp; omega
  go_wp2_with (first | (go_at_call 24; refine (specKindSize_any _ _).mono ?_; rintro e w' ⟨rfl, hw'⟩; rw [hw', hk]; clear hw'))
  obtain ⟨t0, t1, t2, t3, t4, t5, t6, s0, s1, s2, s3, s4, s5, q0, q1, q2, q3, q4, q5⟩ := SP.out
  have e1 := O3.out.2.2.1.row.1
  have e2 := O3.out.2.2.2.1.row.1
  have hz : ∀ n ∈ m.data, 0 ≤ n ∧ n ≤ 255 := fun n hn => bounds_u8 (O3.out.2.2.1.row.2.2.2.1 n hn)
  obtain ⟨b, hadr⟩ : ∃ b, v1.data.a = some ⟨b, 0, none⟩ := by
    rcases O3.out.2.2.1.1.2 with ⟨h0, h1⟩ | ⟨b, _, _, h0, _⟩
    · omega
    · simp only [Value.slice.injEq] at h0; exact ⟨b, h0.1⟩
  have hbs : u0.heap.size ≤ b ∧ b < g := SB.out v1.data _ _ _ O1.out.2.2.1 ⟨b, 0, none⟩ hadr
  refine (l3Store_data v1 m g kind at_ x b p size m.data u3 G3.out.1 hb (by omega) (by omega) hs hk ha (by show at_ = _; have := HP.out; omega) (by omega) hadr (by omega) hz O3.out.2.2.1).mono ?_
  rintro e u4 ⟨rfl, ow, ht⟩
  have kp : ∀ c, c ≠ b → u4.heap[c]? = u3.heap[c]? := fun c hc => ht.block c (fun ad had => by rw [hadr] at had; simp at had; subst had; exact hc)
  have OV : Hid (MOwn u0.heap.size u4 v1 { m with data := Pl.stk_ m.data p x size }) := ⟨(O3.out.1.untouched s0 s2 (by omega) ht), (O3.out.2.1.untouched s1 s2 (by omega) ht), ow, (O3.out.2.2.2.1.untouched s3 s2 (by omega) ht), (O3.out.2.2.2.2.1.untouched s4 s2 (by omega) ht), (O3.out.2.2.2.2.2.untouched s5 s2 (by omega) ht)⟩
  have G4 : Hid (u4.heap[g]? = some (.cells #[.slice v1.code.a v1.code.len v1.code.cap, .int .i64 m.pc, .slice v1.regs.a v1.regs.len v1.regs.cap, .slice v1.data.a v1.data.len v1.data.cap, .slice v1.stk.a v1.stk.len v1.stk.cap, .slice v1.inp.a v1.inp.len v1.inp.cap, .slice v1.out.a v1.out.len v1.out.cap, .int .i64 m.steps, .int .i64 m.fin, .int .i64 m.val] 25) ∧ g < u4.heap.size) := ⟨(kp g (by omega)).trans G3.out.1, by rw [ht.size]; exact G3.out.2⟩
  have B4 : Hid (Below w.heap.size w u4) := B3.out.trans ⟨ht.os, ht.tape, ht.output, Nat.le_of_eq ht.size.symm, fun c hc => kp c (by have := Z1.out; omega)⟩
  have E4 : Hid (u4.heap[w.heap.size + 1]? = some (.cells #[.slice none 0 0, .int .i64 0, .slice none 0 0, .slice none 0 0, .slice none 0 0, .slice none 0 0, .slice none 0 0, .int .i64 0, .int .i64 0, .int .i64 0] 25)) := (kp _ (by have := Z1.out; omega)).trans E3.out
  clear kp ow ht e1 e2 hz hadr
  have EE : Hid (u4.heap[w.heap.size + 1]? = some (.cells #[.slice none 0 0, .int .i64 0, .slice none 0 0, .slice none 0 0, .slice none 0 0, .slice none 0 0, .slice none 0 0, .int .i64 0, .int .i64 0, .int .i64 0] 25)) := E4.out
  go_wp2_with (first | (go_at_call 24; refine (specKindSize_any _ _).mono ?_; rintro e w' ⟨rfl, hw'⟩; rw [hw', hk]; clear hw') | (refine wpList_load_row rfl 25 _ rfl (g) ?hx 25 #[.slice v1.code.a v1.code.len v1.code.cap, .int .i64 m.pc, .slice v1.regs.a v1.regs.len v1.regs.cap, .slice v1.data.a v1.data.len v1.data.cap, .slice v1.stk.a v1.stk.len v1.stk.cap, .slice v1.inp.a v1.inp.len v1.inp.cap, .slice v1.out.a v1.out.len v1.out.cap, .int .i64 m.steps, .int .i64 m.fin, .int .i64 m.val] (0, 0) _ ?hg Try.underlying25 ?hd ?hi ?_; (case hx => rfl); (case hg => exact G4.out.1); (case hd => rfl); (case hi => kernel_rfl)) | (refine wpList_store_row rfl 25 _ _ rfl (w.heap.size + 1) #[.slice v1.code.a v1.code.len v1.code.cap, .int .i64 m.pc, .slice v1.regs.a v1.regs.len v1.regs.cap, .slice v1.data.a v1.data.len v1.data.cap, .slice v1.stk.a v1.stk.len v1.stk.cap, .slice v1.inp.a v1.inp.len v1.inp.cap, .slice v1.out.a v1.out.len v1.out.cap, .int .i64 m.steps, .int .i64 m.fin, .int .i64 m.val] ?hx ?hy 25 #[.slice none 0 0, .int .i64 0, .slice none 0 0, .slice none 0 0, .slice none 0 0, .slice none 0 0, .slice none 0 0, .int .i64 0, .int .i64 0, .int .i64 0] ?hg ?hi ?ho ?h1 ?_; (case hx => rfl); (case hy => rfl); (case hg => exact EE.out); (case hi => kernel_rfl); (case ho => kernel_rfl); (case h1 => kernel_rfl); refine Hid.out ?_))
  unfold Hid
  go_wp2_with fail
  have OF : MOwn u0.heap.size (u4.setRow (w.heap.size + 1) #[.slice v1.code.a v1.code.len v1.code.cap, .int .i64 m.pc, .slice v1.regs.a v1.regs.len v1.regs.cap, .slice v1.data.a v1.data.len v1.data.cap, .slice v1.stk.a v1.stk.len v1.stk.cap, .slice v1.inp.a v1.inp.len v1.inp.cap, .slice v1.out.a v1.out.len v1.out.cap, .int .i64 m.steps, .int .i64 m.fin, .int .i64 m.val]) v1 { m with data := Pl.stk_ m.data p x size } := OV.out.same ((Above.refl u0.heap.size u4).setRow (show w.heap.size + 1 < u0.heap.size by have := Z1.out; omega) _) (Nat.le_refl _)
  have OL : MOwn w.heap.size (u4.setRow (w.heap.size + 1) #[.slice v1.code.a v1.code.len v1.code.cap, .int .i64 m.pc, .slice v1.regs.a v1.regs.len v1.regs.cap, .slice v1.data.a v1.data.len v1.data.cap, .slice v1.stk.a v1.stk.len v1.stk.cap, .slice v1.inp.a v1.inp.len v1.inp.cap, .slice v1.out.a v1.out.len v1.out.cap, .int .i64 m.steps, .int .i64 m.fin, .int .i64 m.val]) v1 { m with data := Pl.stk_ m.data p x size } := OF.lower (by have := Z1.out; omega)
  refine bodyPost_ret (v := .tuple #[.agg #[.slice v1.code.a v1.code.len v1.code.cap, .int .i64 m.pc, .slice v1.regs.a v1.regs.len v1.regs.cap, .slice v1.data.a v1.data.len v1.data.cap, .slice v1.stk.a v1.stk.len v1.stk.cap, .slice v1.inp.a v1.inp.len v1.inp.cap, .slice v1.out.a v1.out.len v1.out.cap, .int .i64 m.steps, .int .i64 m.fin, .int .i64 m.val], .int .i64 0]) ?_ rfl ⟨v1, rfl, OL, (SP.out.bounds OL (by have := Z1.out; have := G4.out.2; simp; omega)), below_setRow B4.out (show w.heap.size ≤ w.heap.size + 1 by omega) _⟩
  refine results_cell_tmp3 Try.results6 _ _ (w.heap.size + 1) 25 #[.slice v1.code.a v1.code.len v1.code.cap, .int .i64 m.pc, .slice v1.regs.a v1.regs.len v1.regs.cap, .slice v1.data.a v1.data.len v1.data.cap, .slice v1.stk.a v1.stk.len v1.stk.cap, .slice v1.inp.a v1.inp.len v1.inp.cap, .slice v1.out.a v1.out.len v1.out.cap, .int .i64 m.steps, .int .i64 m.fin, .int .i64 m.val] (0, 0) _ (.int .i64 0) ?hp ?hq ?hg Try.underlying25 ?hd ?hi
  case hp => rfl
  case hq => rfl
  case hg => exact setRow_heap _ _ _ _ _ _ EE.out
  case hd => rfl
  case hi => kernel_rfl
set_option maxHeartbeats 8000000 in
theorem specStore_stack {lo : Nat} (v : MV) (m : Pl.Mac) (kind at_ x : Int) (w : World) (h : MOwn lo w v m) (hsz : Pl.mSize m ≤ 1048576) (hok : Pl.mOk m = true) (p size : Nat) (hs : 1 ≤ size ∧ size ≤ 4) (hk : Pl.ks kind = size) (ha : (at_.tmod (size : Int) != 0) = false) (hb : -9223372036854775808 ≤ at_ ∧ at_ ≤ 9223372036854775807) (hld : m.data.length ≤ 65536 ∧ m.stk.length ≤ 65536) (hd0 : at_ < 1048576 ∨ (m.data.length : Int) - size < at_ - 1048576) (hp : at_ = 2097152 - (m.stk.length : Int) + p) (hp2 : p + size ≤ m.stk.length) :
    Calls Try.prog 6 #[.agg #[.slice v.code.a v.code.len v.code.cap, .int .i64 m.pc, .slice v.regs.a v.regs.len v.regs.cap, .slice v.data.a v.data.len v.data.cap, .slice v.stk.a v.stk.len v.stk.cap, .slice v.inp.a v.inp.len v.inp.cap, .slice v.out.a v.out.len v.out.cap, .int .i64 m.steps, .int .i64 m.fin, .int .i64 m.val], .int .i64 kind, .int .i64 at_, .int .i64 x] w fun e w' => ∃ v1 : MV, e = .returned (.tuple #[.agg #[.slice v1.code.a v1.code.len v1.code.cap, .int .i64 m.pc, .slice v1.regs.a v1.regs.len v1.regs.cap, .slice v1.data.a v1.data.len v1.data.cap, .slice v1.stk.a v1.stk.len v1.stk.cap, .slice v1.inp.a v1.inp.len v1.inp.cap, .slice v1.out.a v1.out.len v1.out.cap, .int .i64 m.steps, .int .i64 m.fin, .int .i64 m.val], .int .i64 0]) ∧ MOwn w.heap.size w' v1 { m with stk := Pl.stk_ m.stk p x size } ∧ (∃ t0 t6, MSepAt t0 t6 v1 ∧ w.heap.size ≤ t0 ∧ t6 ≤ w'.heap.size) ∧ Below w.heap.size w w' := by
  have HH : Hid (MOwn lo w v m) := h
  have HP : Hid (at_ = 2097152 - (m.stk.length : Int) + p) := hp
  have HD : Hid (at_ < 1048576 ∨ (m.data.length : Int) - size < at_ - 1048576) := hd0
  clear hp hd0
  clear h
  have P0 : Hid (((w.alloc (.cells #[.slice v.code.a v.code.len v.code.cap, .int .i64 m.pc, .slice v.regs.a v.regs.len v.regs.cap, .slice v.data.a v.data.len v.data.cap, .slice v.stk.a v.stk.len v.stk.cap, .slice v.inp.a v.inp.len v.inp.cap, .slice v.out.a v.out.len v.out.cap, .int .i64 m.steps, .int .i64 m.fin, .int .i64 m.val] 25)).alloc (.cells #[.slice none 0 0, .int .i64 0, .slice none 0 0, .slice none 0 0, .slice none 0 0, .slice none 0 0, .slice none 0 0, .int .i64 0, .int .i64 0, .int .i64 0] 25)).heap[w.heap.size]? = some (.cells #[.slice v.code.a v.code.len v.code.cap, .int .i64 m.pc, .slice v.regs.a v.regs.len v.regs.cap, .slice v.data.a v.data.len v.data.cap, .slice v.stk.a v.stk.len v.stk.cap, .slice v.inp.a v.inp.len v.inp.cap, .slice v.out.a v.out.len v.out.cap, .int .i64 m.steps, .int .i64 m.fin, .int .i64 m.val] 25)) := (Below.heap_alloc _ _ _ (by simp)).trans (heap_alloc_new w _)
  go_enter Try.func6, Try.ntmps6
  go_wp2_with (refine wpList_load_row rfl 25 _ rfl (w.heap.size) ?hx 25 #[.slice v.code.a v.code.len v.code.cap, .int .i64 m.pc, .slice v.regs.a v.regs.len v.regs.cap, .slice v.data.a v.data.len v.data.cap, .slice v.stk.a v.stk.len v.stk.cap, .slice v.inp.a v.inp.len v.inp.cap, .slice v.out.a v.out.len v.out.cap, .int .i64 m.steps, .int .i64 m.fin, .int .i64 m.val] (0, 0) _ ?hg Try.underlying25 ?hd ?hi ?_; (case hx => rfl); (case hg => exact P0.out); (case hd => rfl); (case hi => kernel_rfl))
  refine calls_at fun u0 hu0 => ?_
  have E0 : Hid (u0.heap[w.heap.size + 1]? = some (.cells #[.slice none 0 0, .int .i64 0, .slice none 0 0, .slice none 0 0, .slice none 0 0, .slice none 0 0, .slice none 0 0, .int .i64 0, .int .i64 0, .int .i64 0] 25)) := by
    show u0.heap[w.heap.size + 1]? = _
    rw [hu0]
    have := heap_alloc_new (w.alloc (.cells #[.slice v.code.a v.code.len v.code.cap, .int .i64 m.pc, .slice v.regs.a v.regs.len v.regs.cap, .slice v.data.a v.data.len v.data.cap, .slice v.stk.a v.stk.len v.stk.cap, .slice v.inp.a v.inp.len v.inp.cap, .slice v.out.a v.out.len v.out.cap, .int .i64 m.steps, .int .i64 m.fin, .int .i64 m.val] 25)) (.cells #[.slice none 0 0, .int .i64 0, .slice none 0 0, .slice none 0 0, .slice none 0 0, .slice none 0 0, .slice none 0 0, .int .i64 0, .int .i64 0, .int .i64 0] 25)
    simpa using this
  have B0 : Hid (Below w.heap.size w u0) := by show Below w.heap.size w u0; rw [hu0]; exact ((Below.refl _ _).alloc (Nat.le_refl _) _).alloc (by simp) _
  have Z0 : Hid (u0.heap.size = w.heap.size + 2) := by show u0.heap.size = w.heap.size + 2; rw [hu0]; simp
  rw [← hu0] at P0
  clear hu0
  refine (l3Copy_any v m u0 (HH.out.keep B0.out) hsz).mono ?_
  rintro e u1 ⟨v1, rfl, o1, sp1, d1⟩
  have O1 : Hid (MOwn u0.heap.size u1 v1 m) := o1
  have SP : Hid (MSep v1) := sp1
  have P1 : Hid (u1.heap[w.heap.size]? = some (.cells #[.slice v.code.a v.code.len v.code.cap, .int .i64 m.pc, .slice v.regs.a v.regs.len v.regs.cap, .slice v.data.a v.data.len v.data.cap, .slice v.stk.a v.stk.len v.stk.cap, .slice v.inp.a v.inp.len v.inp.cap, .slice v.out.a v.out.len v.out.cap, .int .i64 m.steps, .int .i64 m.fin, .int .i64 m.val] 25)) := (d1.block _ (by have := Z0.out; omega)).trans P0.out
  have E1 : Hid (u1.heap[w.heap.size + 1]? = some (.cells #[.slice none 0 0, .int .i64 0, .slice none 0 0, .slice none 0 0, .slice none 0 0, .slice none 0 0, .slice none 0 0, .int .i64 0, .int .i64 0, .int .i64 0] 25)) := (d1.block _ (by have := Z0.out; omega)).trans E0.out
  have B1 : Hid (Below w.heap.size w u1) := B0.out.trans (d1.mono (by have := Z0.out; omega))
  have Z1 : Hid (w.heap.size + 2 ≤ u1.heap.size ∧ u0.heap.size = w.heap.size + 2) := ⟨by have := Z0.out; have := d1.size; omega, Z0.out⟩
  clear o1 sp1 d1 P0 E0 B0 Z0
  go_wp2_with (refine wpList_store_row rfl 25 _ _ rfl (u1.heap.size) #[.slice v1.code.a v1.code.len v1.code.cap, .int .i64 m.pc, .slice v1.regs.a v1.regs.len v1.regs.cap, .slice v1.data.a v1.data.len v1.data.cap, .slice v1.stk.a v1.stk.len v1.stk.cap, .slice v1.inp.a v1.inp.len v1.inp.cap, .slice v1.out.a v1.out.len v1.out.cap, .int .i64 m.steps, .int .i64 m.fin, .int .i64 m.val] ?hx ?hy 25 #[.slice none 0 0, .int .i64 0, .slice none 0 0, .slice none 0 0, .slice none 0 0, .slice none 0 0, .slice none 0 0, .int .i64 0, .int .i64 0, .int .i64 0] ?hg ?hi ?ho ?h1 ?_; (case hx => rfl); (case hy => rfl); (case hg => exact heap_alloc_new u1 _); (case hi => kernel_rfl); (case ho => kernel_rfl); (case h1 => kernel_rfl); refine Hid.out ?_)
  unfold Hid
  rw [World.setRow_alloc_new]
  refine wpList_at fun u2 hu2 => ?_
  have d2 : Below u1.heap.size u1 u2 := by rw [hu2]; exact below_alloc u1 _
  have G2 : Hid (u2.heap[u1.heap.size]? = some (.cells #[.slice v1.code.a v1.code.len v1.code.cap, .int .i64 m.pc, .slice v1.regs.a v1.regs.len v1.regs.cap, .slice v1.data.a v1.data.len v1.data.cap, .slice v1.stk.a v1.stk.len v1.stk.cap, .slice v1.inp.a v1.inp.len v1.inp.cap, .slice v1.out.a v1.out.len v1.out.cap, .int .i64 m.steps, .int .i64 m.fin, .int .i64 m.val] 25) ∧ u1.heap.size < u2.heap.size) := by show u2.heap[u1.heap.size]? = _ ∧ u1.heap.size < u2.heap.size; rw [hu2]; exact ⟨heap_alloc_new u1 _, by simp⟩
  have P2 : Hid (u2.heap[w.heap.size]? = some (.cells #[.slice v.code.a v.code.len v.code.cap, .int .i64 m.pc, .slice v.regs.a v.regs.len v.regs.cap, .slice v.data.a v.data.len v.data.cap, .slice v.stk.a v.stk.len v.stk.cap, .slice v.inp.a v.inp.len v.inp.cap, .slice v.out.a v.out.len v.out.cap, .int .i64 m.steps, .int .i64 m.fin, .int .i64 m.val] 25)) := (d2.block _ (by have := Z1.out; omega)).trans P1.out
  have E2 : Hid (u2.heap[w.heap.size + 1]? = some (.cells #[.slice none 0 0, .int .i64 0, .slice none 0 0, .slice none 0 0, .slice none 0 0, .slice none 0 0, .slice none 0 0, .int .i64 0, .int .i64 0, .int .i64 0] 25)) := (d2.block _ (by have := Z1.out; omega)).trans E1.out
  have B2 : Hid (Below w.heap.size w u2) := B1.out.trans (d2.mono (by have := Z1.out; omega))
  have O2 : Hid (MOwn u0.heap.size u2 v1 m) := O1.out.keep d2
  have SB : Hid (∀ s : SV, ∀ (k : IntKind) (e : TypeId) (zs : List Int), Own k e u0.heap.size u1 s.a s.len s.cap zs → Span s u0.heap.size u1.heap.size) := fun s k e zs ho => ho.span (Nat.le_refl _)
  clear hu2 d2 P1 E1 B1
  obtain ⟨g, hg⟩ : ∃ g, g = u1.heap.size := ⟨_, rfl⟩
  rw [← hg] at G2 Z1 SB ⊢
  clear hg
  go_wp2_with (refine wpList_load_row rfl 25 _ rfl (w.heap.size) ?hx 25 #[.slice v.code.a v.code.len v.code.cap, .int .i64 m.pc, .slice v.regs.a v.regs.len v.regs.cap, .slice v.data.a v.data.len v.data.cap, .slice v.stk.a v.stk.len v.stk.cap, .slice v.inp.a v.inp.len v.inp.cap, .slice v.out.a v.out.len v.out.cap, .int .i64 m.steps, .int .i64 m.fin, .int .i64 m.val] (0, 0) _ ?hg Try.underlying25 ?hd ?hi ?_; (case hx => rfl); (case hg => exact P2.out); (case hd => rfl); (case hi => kernel_rfl))
  refine (specMachineOk_any v m u2 (HH.out.is.keep B2.out)).mono ?_
  rintro e u3 ⟨rfl, d3⟩
  rw [hok]
  have G3 : Hid (u3.heap[g]? = some (.cells #[.slice v1.code.a v1.code.len v1.code.cap, .int .i64 m.pc, .slice v1.regs.a v1.regs.len v1.regs.cap, .slice v1.data.a v1.data.len v1.data.cap, .slice v1.stk.a v1.stk.len v1.stk.cap, .slice v1.inp.a v1.inp.len v1.inp.cap, .slice v1.out.a v1.out.len v1.out.cap, .int .i64 m.steps, .int .i64 m.fin, .int .i64 m.val] 25) ∧ g < u3.heap.size) := ⟨(d3.block _ G2.out.2).trans G2.out.1, Nat.lt_of_lt_of_le G2.out.2 d3.size⟩
  have E3 : Hid (u3.heap[w.heap.size + 1]? = some (.cells #[.slice none 0 0, .int .i64 0, .slice none 0 0, .slice none 0 0, .slice none 0 0, .slice none 0 0, .slice none 0 0, .int .i64 0, .int .i64 0, .int .i64 0] 25)) := (d3.block _ (by have := Z1.out; have := G2.out.2; omega)).trans E2.out
  have B3 : Hid (Below w.heap.size w u3) := B2.out.trans (d3.mono (by have := Z1.out; have := G2.out.2; omega))
  have O3 : Hid (MOwn u0.heap.size u3 v1 m) := O2.out.keep d3
  clear d3 P2 E2 B2 O2 G2
  have hs0 : ((size : Int) == 0) = false := by simp; omega
  go_wp2_with (first | (go_at_call 24; refine (specKindSize_any _ _).mono ?_; rintro e w' ⟨rfl, hw'⟩; rw [hw', hk]; clear hw'))
  obtain ⟨t0, t1, t2, t3, t4, t5, t6, s0, s1, s2, s3, s4, s5, q0, q1, q2, q3, q4, q5⟩ := SP.out
  have e1 := O3.out.2.2.1.row.1
  have e2 := O3.out.2.2.2.1.row.1
  have hz : ∀ n ∈ m.stk, 0 ≤ n ∧ n ≤ 255 := fun n hn => bounds_u8 (O3.out.2.2.2.1.row.2.2.2.1 n hn)
  obtain ⟨b, hadr⟩ : ∃ b, v1.stk.a = some ⟨b, 0, none⟩ := by
    rcases O3.out.2.2.2.1.1.2 with ⟨h0, h1⟩ | ⟨b, _, _, h0, _⟩
    · omega
    · simp only [Value.slice.injEq] at h0; exact ⟨b, h0.1⟩
  have hbs : u0.heap.size ≤ b ∧ b < g := SB.out v1.stk _ _ _ O1.out.2.2.2.1 ⟨b, 0, none⟩ hadr
  refine (l3Store_stack v1 m g kind at_ x b p size m.stk u3 G3.out.1 hb (by omega) (by omega) hs hk ha (by show at_ < 1048576 ∨ (v1.data.len : Int) - size < at_ - 1048576; have := HD.out; omega) (by show at_ = _; have := HP.out; omega) (by omega) hadr (by omega) hz O3.out.2.2.2.1).mono ?_
  rintro e u4 ⟨rfl, ow, ht⟩
  have kp : ∀ c, c ≠ b → u4.heap[c]? = u3.heap[c]? := fun c hc => ht.block c (fun ad had => by rw [hadr] at had; simp at had; subst had; exact hc)
  have OV : Hid (MOwn u0.heap.size u4 v1 { m with stk := Pl.stk_ m.stk p x size }) := ⟨(O3.out.1.untouched s0 s3 (by omega) ht), (O3.out.2.1.untouched s1 s3 (by omega) ht), (O3.out.2.2.1.untouched s2 s3 (by omega) ht), ow, (O3.out.2.2.2.2.1.untouched s4 s3 (by omega) ht), (O3.out.2.2.2.2.2.untouched s5 s3 (by omega) ht)⟩
  have G4 : Hid (u4.heap[g]? = some (.cells #[.slice v1.code.a v1.code.len v1.code.cap, .int .i64 m.pc, .slice v1.regs.a v1.regs.len v1.regs.cap, .slice v1.data.a v1.data.len v1.data.cap, .slice v1.stk.a v1.stk.len v1.stk.cap, .slice v1.inp.a v1.inp.len v1.inp.cap, .slice v1.out.a v1.out.len v1.out.cap, .int .i64 m.steps, .int .i64 m.fin, .int .i64 m.val] 25) ∧ g < u4.heap.size) := ⟨(kp g (by omega)).trans G3.out.1, by rw [ht.size]; exact G3.out.2⟩
  have B4 : Hid (Below w.heap.size w u4) := B3.out.trans ⟨ht.os, ht.tape, ht.output, Nat.le_of_eq ht.size.symm, fun c hc => kp c (by have := Z1.out; omega)⟩
  have E4 : Hid (u4.heap[w.heap.size + 1]? = some (.cells #[.slice none 0 0, .int .i64 0, .slice none 0 0, .slice none 0 0, .slice none 0 0, .slice none 0 0, .slice none 0 0, .int .i64 0, .int .i64 0, .int .i64 0] 25)) := (kp _ (by have := Z1.out; omega)).trans E3.out
  clear kp ow ht e1 e2 hz hadr
  have EE : Hid (u4.heap[w.heap.size + 1]? = some (.cells #[.slice none 0 0, .int .i64 0, .slice none 0 0, .slice none 0 0, .slice none 0 0, .slice none 0 0, .slice none 0 0, .int .i64 0, .int .i64 0, .int .i64 0] 25)) := E4.out
  go_wp2_with (first | (go_at_call 24; refine (specKindSize_any _ _).mono ?_; rintro e w' ⟨rfl, hw'⟩; rw [hw', hk]; clear hw') | (refine wpList_load_row rfl 25 _ rfl (g) ?hx 25 #[.slice v1.code.a v1.code.len v1.code.cap, .int .i64 m.pc, .slice v1.regs.a v1.regs.len v1.regs.cap, .slice v1.data.a v1.data.len v1.data.cap, .slice v1.stk.a v1.stk.len v1.stk.cap, .slice v1.inp.a v1.inp.len v1.inp.cap, .slice v1.out.a v1.out.len v1.out.cap, .int .i64 m.steps, .int .i64 m.fin, .int .i64 m.val] (0, 0) _ ?hg Try.underlying25 ?hd ?hi ?_; (case hx => rfl); (case hg => exact G4.out.1); (case hd => rfl); (case hi => kernel_rfl)) | (refine wpList_store_row rfl 25 _ _ rfl (w.heap.size + 1) #[.slice v1.code.a v1.code.len v1.code.cap, .int .i64 m.pc, .slice v1.regs.a v1.regs.len v1.regs.cap, .slice v1.data.a v1.data.len v1.data.cap, .slice v1.stk.a v1.stk.len v1.stk.cap, .slice v1.inp.a v1.inp.len v1.inp.cap, .slice v1.out.a v1.out.len v1.out.cap, .int .i64 m.steps, .int .i64 m.fin, .int .i64 m.val] ?hx ?hy 25 #[.slice none 0 0, .int .i64 0, .slice none 0 0, .slice none 0 0, .slice none 0 0, .slice none 0 0, .slice none 0 0, .int .i64 0, .int .i64 0, .int .i64 0] ?hg ?hi ?ho ?h1 ?_; (case hx => rfl); (case hy => rfl); (case hg => exact EE.out); (case hi => kernel_rfl); (case ho => kernel_rfl); (case h1 => kernel_rfl); refine Hid.out ?_))
  unfold Hid
  go_wp2_with fail
  have OF : MOwn u0.heap.size (u4.setRow (w.heap.size + 1) #[.slice v1.code.a v1.code.len v1.code.cap, .int .i64 m.pc, .slice v1.regs.a v1.regs.len v1.regs.cap, .slice v1.data.a v1.data.len v1.data.cap, .slice v1.stk.a v1.stk.len v1.stk.cap, .slice v1.inp.a v1.inp.len v1.inp.cap, .slice v1.out.a v1.out.len v1.out.cap, .int .i64 m.steps, .int .i64 m.fin, .int .i64 m.val]) v1 { m with stk := Pl.stk_ m.stk p x size } := OV.out.same ((Above.refl u0.heap.size u4).setRow (show w.heap.size + 1 < u0.heap.size by have := Z1.out; omega) _) (Nat.le_refl _)
  have OL : MOwn w.heap.size (u4.setRow (w.heap.size + 1) #[.slice v1.code.a v1.code.len v1.code.cap, .int .i64 m.pc, .slice v1.regs.a v1.regs.len v1.regs.cap, .slice v1.data.a v1.data.len v1.data.cap, .slice v1.stk.a v1.stk.len v1.stk.cap, .slice v1.inp.a v1.inp.len v1.inp.cap, .slice v1.out.a v1.out.len v1.out.cap, .int .i64 m.steps, .int .i64 m.fin, .int .i64 m.val]) v1 { m with stk := Pl.stk_ m.stk p x size } := OF.lower (by have := Z1.out; omega)
  refine bodyPost_ret (v := .tuple #[.agg #[.slice v1.code.a v1.code.len v1.code.cap, .int .i64 m.pc, .slice v1.regs.a v1.regs.len v1.regs.cap, .slice v1.data.a v1.data.len v1.data.cap, .slice v1.stk.a v1.stk.len v1.stk.cap, .slice v1.inp.a v1.inp.len v1.inp.cap, .slice v1.out.a v1.out.len v1.out.cap, .int .i64 m.steps, .int .i64 m.fin, .int .i64 m.val], .int .i64 0]) ?_ rfl ⟨v1, rfl, OL, (SP.out.bounds OL (by have := Z1.out; have := G4.out.2; simp; omega)), below_setRow B4.out (show w.heap.size ≤ w.heap.size + 1 by omega) _⟩
  refine results_cell_tmp3 Try.results6 _ _ (w.heap.size + 1) 25 #[.slice v1.code.a v1.code.len v1.code.cap, .int .i64 m.pc, .slice v1.regs.a v1.regs.len v1.regs.cap, .slice v1.data.a v1.data.len v1.data.cap, .slice v1.stk.a v1.stk.len v1.stk.cap, .slice v1.inp.a v1.inp.len v1.inp.cap, .slice v1.out.a v1.out.len v1.out.cap, .int .i64 m.steps, .int .i64 m.fin, .int .i64 m.val] (0, 0) _ (.int .i64 0) ?hp ?hq ?hg Try.underlying25 ?hd ?hi
  case hp => rfl
  case hq => rfl
  case hg => exact setRow_heap _ _ _ _ _ _ EE.out
  case hd => rfl
  case hi => kernel_rfl
end Go.Proofs.Ytfcfnbncgadomaa.W
