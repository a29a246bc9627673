import Derived.Test.YtfcfnbncgadomaaQ26
import Derived.Test.YtfcfnbncgadomaaQ16
import Derived.Test.YtfcfnbncgadomaaQ27
import Derived.Test.YtfcfnbncgadomaaQ28
import Derived.OpenShut
import Derived.Test.YtfcfnbncgadomaaQ29
set_option linter.unusedVariables false
namespace Go.Proofs.Ytfcfnbncgadomaa.W
open Go.RowKit
theorem results_cell_tmp3 {P : Program} {fn : Func} {p q : Tmp} {ty : TypeId} (h : fn.results = #[.cell p ty, .tmp q]) (tmps : Array Value) (w : World) (g : Nat) (t : TypeId) (cs : Array Value) (fr : Nat × Nat) (d : TypeDesc) (v : Value)
    (hp : tmps.getD p undef = .pointer (some ⟨g, 0, none⟩)) (hq : tmps.getD q undef = v) (hg : w.heap[g]? = some (.cells cs t fr))
    (hu : P.underlying ty = some d) (hd : (match d with | .struct _ | .array _ _ => true | _ => false) = true) (hi : (P.info? ty).map (·.size) = some cs.size) :
    (results fn tmps).run P w = .ok (.tuple #[.agg cs, v]) w := by
  have hp' : tmps[p]?.getD undef = .pointer (some ⟨g, 0, none⟩) := by simpa using hp
  have hq' : tmps[q]?.getD undef = v := by simpa using hq
  simp [results, h, hp', hq', asAddr, run_loadVar_row w g t ty cs fr d hg hu hd hi]
theorem span_clamp {k : IntKind} {e : TypeId} {lo a b : Nat} {w : World} {s : SV} {zs : List Int} (h : Own k e lo w s.a s.len s.cap zs) (hs : Span s a b) : Span s (min (max a lo) w.heap.size) (min (max b lo) w.heap.size) := by
  intro ad had
  have h1 := hs ad had
  have h2 := h.span (Nat.le_refl _) ad had
  omega
theorem MSep.bounds {lo : Nat} {w : World} {v : MV} {m : Pl.Mac} (hs : MSep v) (h : MOwn lo w v m) (hl : lo ≤ w.heap.size) : ∃ t0 t6, MSepAt t0 t6 v ∧ lo ≤ t0 ∧ t6 ≤ w.heap.size := by
  obtain ⟨t0, t1, t2, t3, t4, t5, t6, p0, p1, p2, p3, p4, p5, q⟩ := hs
  exact ⟨_, _, ⟨_, _, _, _, _, span_clamp h.1 p0, span_clamp h.2.1 p1, span_clamp h.2.2.1 p2, span_clamp h.2.2.2.1 p3, span_clamp h.2.2.2.2.1 p4, span_clamp h.2.2.2.2.2 p5, by omega, by omega, by omega, by omega, by omega, by omega⟩, by omega, by omega⟩
theorem Own.past {k : IntKind} {e : TypeId} {lo l hi b i : Nat} {w : World} {s : SV} {zs : List Int} {x : Value} (h : Own k e lo w s.a s.len s.cap zs) (hs : Span s l hi) (hh : hi ≤ b) : Own k e lo (w.setCell ⟨b, i, none⟩ x) s.a s.len s.cap zs := by
  obtain ⟨hown, hwf⟩ := h
  refine ⟨⟨hown.1, ?_⟩, hwf⟩
  rcases hown.2 with h0 | ⟨g, cap', cur, h0, hlo, hg, hr⟩
  · exact .inl h0
  · refine .inr ⟨g, cap', cur, h0, hlo, ?_, hr⟩
    simp only [Value.slice.injEq] at h0
    have a1 : l ≤ g ∧ g < hi := hs ⟨g, 0, none⟩ h0.1
    rw [Below.heap_setCell _ _ _ _ (show g ≠ b by omega), hg]
theorem MOwn.same {B lo : Nat} {w w' : World} {v : MV} {m : Pl.Mac} (h : MOwn lo w v m) (ab : Above B w w') (hB : B ≤ lo) : MOwn lo w' v m :=
  ⟨h.1.same ab hB, h.2.1.same ab hB, h.2.2.1.same ab hB, h.2.2.2.1.same ab hB, h.2.2.2.2.1.same ab hB, h.2.2.2.2.2.same ab hB⟩
theorem MOwn.lower {lo lo' : Nat} {w : World} {v : MV} {m : Pl.Mac} (h : MOwn lo w v m) (hl : lo' ≤ lo) : MOwn lo' w v m :=
  ⟨h.1.lower hl, h.2.1.lower hl, h.2.2.1.lower hl, h.2.2.2.1.lower hl, h.2.2.2.2.1.lower hl, h.2.2.2.2.2.lower hl⟩
set_option maxHeartbeats 8000000 in
theorem implStore_no {lo : Nat} (v : MV) (m : Pl.Mac) (kind at_ x : Int) (w : World) (h : MOwn lo w v m) (hsz : Pl.mSize m ≤ 1048576) (hok : Pl.mOk m = false) :
    Calls Try.prog 7 #[.agg #[.slice v.code.a v.code.len v.code.cap, .int .i64 m.pc, .slice v.regs.a v.regs.len v.regs.cap, .slice v.data.a v.data.len v.data.cap, .slice v.stk.a v.stk.len v.stk.cap, .slice v.inp.a v.inp.len v.inp.cap, .slice v.out.a v.out.len v.out.cap, .int .i64 m.steps, .int .i64 m.fin, .int .i64 m.val], .int .i64 kind, .int .i64 at_, .int .i64 x] w fun e w' => ∃ v1 : MV, e = .returned (.tuple #[.agg #[.slice v1.code.a v1.code.len v1.code.cap, .int .i64 m.pc, .slice v1.regs.a v1.regs.len v1.regs.cap, .slice v1.data.a v1.data.len v1.data.cap, .slice v1.stk.a v1.stk.len v1.stk.cap, .slice v1.inp.a v1.inp.len v1.inp.cap, .slice v1.out.a v1.out.len v1.out.cap, .int .i64 m.steps, .int .i64 m.fin, .int .i64 m.val], .int .i64 4]) ∧ MOwn w.heap.size w' v1 m ∧ (∃ t0 t6, MSepAt t0 t6 v1 ∧ w.heap.size ≤ t0 ∧ t6 ≤ w'.heap.size) ∧ Below w.heap.size w w' := by
  have HH : Hid (MOwn lo w v m) := h
  clear h
  have P0 : Hid ((((((w.alloc (.cells #[.slice v.code.a v.code.len v.code.cap, .int .i64 m.pc, .slice v.regs.a v.regs.len v.regs.cap, .slice v.data.a v.data.len v.data.cap, .slice v.stk.a v.stk.len v.stk.cap, .slice v.inp.a v.inp.len v.inp.cap, .slice v.out.a v.out.len v.out.cap, .int .i64 m.steps, .int .i64 m.fin, .int .i64 m.val] 25)).alloc (.cells #[.int .i64 kind] 3)).alloc (.cells #[.int .i64 at_] 3)).alloc (.cells #[.int .i64 x] 3)).alloc (.cells #[.slice none 0 0, .int .i64 0, .slice none 0 0, .slice none 0 0, .slice none 0 0, .slice none 0 0, .slice none 0 0, .int .i64 0, .int .i64 0, .int .i64 0] 25)).heap[w.heap.size]? = some (.cells #[.slice v.code.a v.code.len v.code.cap, .int .i64 m.pc, .slice v.regs.a v.regs.len v.regs.cap, .slice v.data.a v.data.len v.data.cap, .slice v.stk.a v.stk.len v.stk.cap, .slice v.inp.a v.inp.len v.inp.cap, .slice v.out.a v.out.len v.out.cap, .int .i64 m.steps, .int .i64 m.fin, .int .i64 m.val] 25)) := (Below.heap_alloc _ _ _ (by simp <;> omega)).trans ((Below.heap_alloc _ _ _ (by simp <;> omega)).trans ((Below.heap_alloc _ _ _ (by simp <;> omega)).trans ((Below.heap_alloc _ _ _ (by simp)).trans (heap_alloc_new w _))))
  go_enter Try.func7, Try.ntmps7
  go_wp2_with (refine wpList_load_row rfl 25 _ rfl (w.heap.size) ?hx 25 #[.slice v.code.a v.code.len v.code.cap, .int .i64 m.pc, .slice v.regs.a v.regs.len v.regs.cap, .slice v.data.a v.data.len v.data.cap, .slice v.stk.a v.stk.len v.stk.cap, .slice v.inp.a v.inp.len v.inp.cap, .slice v.out.a v.out.len v.out.cap, .int .i64 m.steps, .int .i64 m.fin, .int .i64 m.val] (0, 0) _ ?hg Try.underlying25 ?hd ?hi ?_; (case hx => rfl); (case hg => exact P0.out); (case hd => rfl); (case hi => kernel_rfl))
  refine calls_at fun u0 hu0 => ?_
  have K0 : Hid (u0.heap[w.heap.size + 1]? = some (.cells #[.int .i64 kind] 3)) := by
    show u0.heap[w.heap.size + 1]? = _
    rw [hu0, Below.heap_alloc _ _ _ (by simp <;> omega), Below.heap_alloc _ _ _ (by simp <;> omega), Below.heap_alloc _ _ _ (by simp)]
    have := heap_alloc_new (w.alloc (.cells #[.slice v.code.a v.code.len v.code.cap, .int .i64 m.pc, .slice v.regs.a v.regs.len v.regs.cap, .slice v.data.a v.data.len v.data.cap, .slice v.stk.a v.stk.len v.stk.cap, .slice v.inp.a v.inp.len v.inp.cap, .slice v.out.a v.out.len v.out.cap, .int .i64 m.steps, .int .i64 m.fin, .int .i64 m.val] 25)) (.cells #[.int .i64 kind] 3)
    simpa using this
  have A0 : Hid (u0.heap[w.heap.size + 1 + 1]? = some (.cells #[.int .i64 at_] 3)) := by
    show u0.heap[w.heap.size + 1 + 1]? = _
    rw [hu0, Below.heap_alloc _ _ _ (by simp <;> omega), Below.heap_alloc _ _ _ (by simp)]
    have := heap_alloc_new ((w.alloc (.cells #[.slice v.code.a v.code.len v.code.cap, .int .i64 m.pc, .slice v.regs.a v.regs.len v.regs.cap, .slice v.data.a v.data.len v.data.cap, .slice v.stk.a v.stk.len v.stk.cap, .slice v.inp.a v.inp.len v.inp.cap, .slice v.out.a v.out.len v.out.cap, .int .i64 m.steps, .int .i64 m.fin, .int .i64 m.val] 25)).alloc (.cells #[.int .i64 kind] 3)) (.cells #[.int .i64 at_] 3)
    simpa using this
  have X0 : Hid (u0.heap[w.heap.size + 1 + 1 + 1]? = some (.cells #[.int .i64 x] 3)) := by
    show u0.heap[w.heap.size + 1 + 1 + 1]? = _
    rw [hu0, Below.heap_alloc _ _ _ (by simp)]
    have := heap_alloc_new (((w.alloc (.cells #[.slice v.code.a v.code.len v.code.cap, .int .i64 m.pc, .slice v.regs.a v.regs.len v.regs.cap, .slice v.data.a v.data.len v.data.cap, .slice v.stk.a v.stk.len v.stk.cap, .slice v.inp.a v.inp.len v.inp.cap, .slice v.out.a v.out.len v.out.cap, .int .i64 m.steps, .int .i64 m.fin, .int .i64 m.val] 25)).alloc (.cells #[.int .i64 kind] 3)).alloc (.cells #[.int .i64 at_] 3)) (.cells #[.int .i64 x] 3)
    simpa using this
  have E0 : Hid (u0.heap[w.heap.size + 1 + 1 + 1 + 1]? = some (.cells #[.slice none 0 0, .int .i64 0, .slice none 0 0, .slice none 0 0, .slice none 0 0, .slice none 0 0, .slice none 0 0, .int .i64 0, .int .i64 0, .int .i64 0] 25)) := by
    show u0.heap[w.heap.size + 1 + 1 + 1 + 1]? = _
    rw [hu0]
    have := heap_alloc_new ((((w.alloc (.cells #[.slice v.code.a v.code.len v.code.cap, .int .i64 m.pc, .slice v.regs.a v.regs.len v.regs.cap, .slice v.data.a v.data.len v.data.cap, .slice v.stk.a v.stk.len v.stk.cap, .slice v.inp.a v.inp.len v.inp.cap, .slice v.out.a v.out.len v.out.cap, .int .i64 m.steps, .int .i64 m.fin, .int .i64 m.val] 25)).alloc (.cells #[.int .i64 kind] 3)).alloc (.cells #[.int .i64 at_] 3)).alloc (.cells #[.int .i64 x] 3)) (.cells #[.slice none 0 0, .int .i64 0, .slice none 0 0, .slice none 0 0, .slice none 0 0, .slice none 0 0, .slice none 0 0, .int .i64 0, .int .i64 0, .int .i64 0] 25)
    simpa using this
  have B0 : Hid (Below w.heap.size w u0) := by show Below w.heap.size w u0; rw [hu0]; exact (((((Below.refl _ _).alloc (Nat.le_refl _) _).alloc (by simp) _).alloc (by simp <;> omega) _).alloc (by simp <;> omega) _).alloc (by simp <;> omega) _
  have Z0 : Hid (u0.heap.size = w.heap.size + 5) := by show u0.heap.size = w.heap.size + 5; rw [hu0]; simp
  rw [← hu0] at P0
  clear hu0
  refine (copyMachine_any v m u0 (HH.out.keep B0.out) hsz).mono ?_
  rintro e u1 ⟨v1, rfl, o1, sp1, d1⟩
  have O1 : Hid (MOwn u0.heap.size u1 v1 m) := o1
  have SP : Hid (MSep v1) := sp1
  have P1 : Hid (u1.heap[w.heap.size]? = some (.cells #[.slice v.code.a v.code.len v.code.cap, .int .i64 m.pc, .slice v.regs.a v.regs.len v.regs.cap, .slice v.data.a v.data.len v.data.cap, .slice v.stk.a v.stk.len v.stk.cap, .slice v.inp.a v.inp.len v.inp.cap, .slice v.out.a v.out.len v.out.cap, .int .i64 m.steps, .int .i64 m.fin, .int .i64 m.val] 25)) := (d1.block _ (by have := Z0.out; omega)).trans P0.out
  have K1 : Hid (u1.heap[w.heap.size + 1]? = some (.cells #[.int .i64 kind] 3)) := (d1.block _ (by have := Z0.out; omega)).trans K0.out
  have A1 : Hid (u1.heap[w.heap.size + 1 + 1]? = some (.cells #[.int .i64 at_] 3)) := (d1.block _ (by have := Z0.out; omega)).trans A0.out
  have X1 : Hid (u1.heap[w.heap.size + 1 + 1 + 1]? = some (.cells #[.int .i64 x] 3)) := (d1.block _ (by have := Z0.out; omega)).trans X0.out
  have E1 : Hid (u1.heap[w.heap.size + 1 + 1 + 1 + 1]? = some (.cells #[.slice none 0 0, .int .i64 0, .slice none 0 0, .slice none 0 0, .slice none 0 0, .slice none 0 0, .slice none 0 0, .int .i64 0, .int .i64 0, .int .i64 0] 25)) := (d1.block _ (by have := Z0.out; omega)).trans E0.out
  have B1 : Hid (Below w.heap.size w u1) := B0.out.trans (d1.mono (by have := Z0.out; omega))
  have Z1 : Hid (w.heap.size + 5 ≤ u1.heap.size ∧ u0.heap.size = w.heap.size + 5) := ⟨by have := Z0.out; have := d1.size; omega, Z0.out⟩
  clear o1 sp1 d1 P0 K0 A0 X0 E0 B0 Z0 HH
  go_wp2_with (refine wpList_store_row rfl 25 _ _ rfl (w.heap.size) #[.slice v1.code.a v1.code.len v1.code.cap, .int .i64 m.pc, .slice v1.regs.a v1.regs.len v1.regs.cap, .slice v1.data.a v1.data.len v1.data.cap, .slice v1.stk.a v1.stk.len v1.stk.cap, .slice v1.inp.a v1.inp.len v1.inp.cap, .slice v1.out.a v1.out.len v1.out.cap, .int .i64 m.steps, .int .i64 m.fin, .int .i64 m.val] ?hx ?hy 25 #[.slice v.code.a v.code.len v.code.cap, .int .i64 m.pc, .slice v.regs.a v.regs.len v.regs.cap, .slice v.data.a v.data.len v.data.cap, .slice v.stk.a v.stk.len v.stk.cap, .slice v.inp.a v.inp.len v.inp.cap, .slice v.out.a v.out.len v.out.cap, .int .i64 m.steps, .int .i64 m.fin, .int .i64 m.val] ?hg ?hi ?ho ?h1 ?_; (case hx => rfl); (case hy => rfl); (case hg => exact P1.out); (case hi => kernel_rfl); (case ho => kernel_rfl); (case h1 => kernel_rfl); refine Hid.out ?_)
  unfold Hid
  refine wpList_at fun u2 hu2 => ?_
  have P2 : Hid (u2.heap[w.heap.size]? = some (.cells #[.slice v1.code.a v1.code.len v1.code.cap, .int .i64 m.pc, .slice v1.regs.a v1.regs.len v1.regs.cap, .slice v1.data.a v1.data.len v1.data.cap, .slice v1.stk.a v1.stk.len v1.stk.cap, .slice v1.inp.a v1.inp.len v1.inp.cap, .slice v1.out.a v1.out.len v1.out.cap, .int .i64 m.steps, .int .i64 m.fin, .int .i64 m.val] 25)) := by show u2.heap[w.heap.size]? = _; rw [hu2]; exact setRow_heap _ _ _ _ _ _ P1.out
  have K2 : Hid (u2.heap[w.heap.size + 1]? = some (.cells #[.int .i64 kind] 3)) := by show u2.heap[w.heap.size + 1]? = _; rw [hu2]; exact (setRow_other _ _ _ _ (by omega)).trans K1.out
  have A2 : Hid (u2.heap[w.heap.size + 1 + 1]? = some (.cells #[.int .i64 at_] 3)) := by show u2.heap[w.heap.size + 1 + 1]? = _; rw [hu2]; exact (setRow_other _ _ _ _ (by omega)).trans A1.out
  have X2 : Hid (u2.heap[w.heap.size + 1 + 1 + 1]? = some (.cells #[.int .i64 x] 3)) := by show u2.heap[w.heap.size + 1 + 1 + 1]? = _; rw [hu2]; exact (setRow_other _ _ _ _ (by omega)).trans X1.out
  have E2 : Hid (u2.heap[w.heap.size + 1 + 1 + 1 + 1]? = some (.cells #[.slice none 0 0, .int .i64 0, .slice none 0 0, .slice none 0 0, .slice none 0 0, .slice none 0 0, .slice none 0 0, .int .i64 0, .int .i64 0, .int .i64 0] 25)) := by show u2.heap[w.heap.size + 1 + 1 + 1 + 1]? = _; rw [hu2]; exact (setRow_other _ _ _ _ (by omega)).trans E1.out
  have B2 : Hid (Below w.heap.size w u2) := by show Below w.heap.size w u2; rw [hu2]; exact below_setRow B1.out (Nat.le_refl _) _
  have Z2 : Hid (w.heap.size + 5 ≤ u2.heap.size ∧ u0.heap.size = w.heap.size + 5) := by show w.heap.size + 5 ≤ u2.heap.size ∧ u0.heap.size = w.heap.size + 5; rw [hu2]; have := Z1.out; simpa using this
  have O2 : Hid (MOwn u0.heap.size u2 v1 m) := by
    have ab : Above u0.heap.size u1 u2 := by rw [hu2]; exact (Above.refl _ _).setRow (show w.heap.size < u0.heap.size by have := Z1.out; omega) _
    have o := O1.out
    exact ⟨o.1.same ab (Nat.le_refl _), o.2.1.same ab (Nat.le_refl _), o.2.2.1.same ab (Nat.le_refl _), o.2.2.2.1.same ab (Nat.le_refl _), o.2.2.2.2.1.same ab (Nat.le_refl _), o.2.2.2.2.2.same ab (Nat.le_refl _)⟩
  clear hu2 P1 K1 A1 X1 E1 B1 Z1 O1
  go_wp2_with (refine wpList_load_row rfl 25 _ rfl (w.heap.size) ?hx 25 #[.slice v1.code.a v1.code.len v1.code.cap, .int .i64 m.pc, .slice v1.regs.a v1.regs.len v1.regs.cap, .slice v1.data.a v1.data.len v1.data.cap, .slice v1.stk.a v1.stk.len v1.stk.cap, .slice v1.inp.a v1.inp.len v1.inp.cap, .slice v1.out.a v1.out.len v1.out.cap, .int .i64 m.steps, .int .i64 m.fin, .int .i64 m.val] (0, 0) _ ?hg Try.underlying25 ?hd ?hi ?_; (case hx => rfl); (case hg => exact P2.out); (case hd => rfl); (case hi => kernel_rfl))
  refine (implMachineOk_any v1 m u2 O2.out.is).mono ?_
  rintro e u3 ⟨rfl, d3⟩
  rw [hok]
  have P3 : Hid (u3.heap[w.heap.size]? = some (.cells #[.slice v1.code.a v1.code.len v1.code.cap, .int .i64 m.pc, .slice v1.regs.a v1.regs.len v1.regs.cap, .slice v1.data.a v1.data.len v1.data.cap, .slice v1.stk.a v1.stk.len v1.stk.cap, .slice v1.inp.a v1.inp.len v1.inp.cap, .slice v1.out.a v1.out.len v1.out.cap, .int .i64 m.steps, .int .i64 m.fin, .int .i64 m.val] 25)) := (d3.block _ (by have := Z2.out; omega)).trans P2.out
  have K3 : Hid (u3.heap[w.heap.size + 1]? = some (.cells #[.int .i64 kind] 3)) := (d3.block _ (by have := Z2.out; omega)).trans K2.out
  have A3 : Hid (u3.heap[w.heap.size + 1 + 1]? = some (.cells #[.int .i64 at_] 3)) := (d3.block _ (by have := Z2.out; omega)).trans A2.out
  have X3 : Hid (u3.heap[w.heap.size + 1 + 1 + 1]? = some (.cells #[.int .i64 x] 3)) := (d3.block _ (by have := Z2.out; omega)).trans X2.out
  have E3 : Hid (u3.heap[w.heap.size + 1 + 1 + 1 + 1]? = some (.cells #[.slice none 0 0, .int .i64 0, .slice none 0 0, .slice none 0 0, .slice none 0 0, .slice none 0 0, .slice none 0 0, .int .i64 0, .int .i64 0, .int .i64 0] 25)) := (d3.block _ (by have := Z2.out; omega)).trans E2.out
  have B3 : Hid (Below w.heap.size w u3) := B2.out.trans (d3.mono (by have := Z2.out; omega))
  have Z3 : Hid (w.heap.size + 5 ≤ u3.heap.size ∧ u0.heap.size = w.heap.size + 5) := ⟨by have := Z2.out; have := d3.size; omega, Z2.out.2⟩
  have O3 : Hid (MOwn u0.heap.size u3 v1 m) := O2.out.keep d3
  clear d3 P2 K2 A2 X2 E2 B2 Z2 O2
  go_wp2_with (first | (refine wpList_load_row rfl 25 _ rfl (w.heap.size) ?hx 25 #[.slice v1.code.a v1.code.len v1.code.cap, .int .i64 m.pc, .slice v1.regs.a v1.regs.len v1.regs.cap, .slice v1.data.a v1.data.len v1.data.cap, .slice v1.stk.a v1.stk.len v1.stk.cap, .slice v1.inp.a v1.inp.len v1.inp.cap, .slice v1.out.a v1.out.len v1.out.cap, .int .i64 m.steps, .int .i64 m.fin, .int .i64 m.val] (0, 0) _ ?hg Try.underlying25 ?hd ?hi ?_; (case hx => rfl); (case hg => exact P3.out); (case hd => rfl); (case hi => kernel_rfl)) | (refine wpList_store_row rfl 25 _ _ rfl (w.heap.size + 1 + 1 + 1 + 1) #[.slice v1.code.a v1.code.len v1.code.cap, .int .i64 m.pc, .slice v1.regs.a v1.regs.len v1.regs.cap, .slice v1.data.a v1.data.len v1.data.cap, .slice v1.stk.a v1.stk.len v1.stk.cap, .slice v1.inp.a v1.inp.len v1.inp.cap, .slice v1.out.a v1.out.len v1.out.cap, .int .i64 m.steps, .int .i64 m.fin, .int .i64 m.val] ?hx ?hy 25 #[.slice none 0 0, .int .i64 0, .slice none 0 0, .slice none 0 0, .slice none 0 0, .slice none 0 0, .slice none 0 0, .int .i64 0, .int .i64 0, .int .i64 0] ?hg ?hi ?ho ?h1 ?_; (case hx => rfl); (case hy => rfl); (case hg => exact E3.out); (case hi => kernel_rfl); (case ho => kernel_rfl); (case h1 => kernel_rfl); refine Hid.out ?_))
  unfold Hid
  go_wp2_with fail
  have OF : MOwn u0.heap.size (u3.setRow (w.heap.size + 1 + 1 + 1 + 1) #[.slice v1.code.a v1.code.len v1.code.cap, .int .i64 m.pc, .slice v1.regs.a v1.regs.len v1.regs.cap, .slice v1.data.a v1.data.len v1.data.cap, .slice v1.stk.a v1.stk.len v1.stk.cap, .slice v1.inp.a v1.inp.len v1.inp.cap, .slice v1.out.a v1.out.len v1.out.cap, .int .i64 m.steps, .int .i64 m.fin, .int .i64 m.val]) v1 m := O3.out.same ((Above.refl u0.heap.size u3).setRow (show w.heap.size + 1 + 1 + 1 + 1 < u0.heap.size by have := Z3.out; omega) _) (Nat.le_refl _)
  have OL : MOwn w.heap.size (u3.setRow (w.heap.size + 1 + 1 + 1 + 1) #[.slice v1.code.a v1.code.len v1.code.cap, .int .i64 m.pc, .slice v1.regs.a v1.regs.len v1.regs.cap, .slice v1.data.a v1.data.len v1.data.cap, .slice v1.stk.a v1.stk.len v1.stk.cap, .slice v1.inp.a v1.inp.len v1.inp.cap, .slice v1.out.a v1.out.len v1.out.cap, .int .i64 m.steps, .int .i64 m.fin, .int .i64 m.val]) v1 m := OF.lower (by have := Z3.out; omega)
  refine bodyPost_ret (v := .tuple #[.agg #[.slice v1.code.a v1.code.len v1.code.cap, .int .i64 m.pc, .slice v1.regs.a v1.regs.len v1.regs.cap, .slice v1.data.a v1.data.len v1.data.cap, .slice v1.stk.a v1.stk.len v1.stk.cap, .slice v1.inp.a v1.inp.len v1.inp.cap, .slice v1.out.a v1.out.len v1.out.cap, .int .i64 m.steps, .int .i64 m.fin, .int .i64 m.val], .int .i64 4]) ?_ rfl ⟨v1, rfl, OL, (SP.out.bounds OL (by have := Z3.out; simp; omega)), below_setRow B3.out (show w.heap.size ≤ w.heap.size + 1 + 1 + 1 + 1 by omega) _⟩
  refine results_cell_tmp3 Try.results7 _ _ (w.heap.size + 1 + 1 + 1 + 1) 25 #[.slice v1.code.a v1.code.len v1.code.cap, .int .i64 m.pc, .slice v1.regs.a v1.regs.len v1.regs.cap, .slice v1.data.a v1.data.len v1.data.cap, .slice v1.stk.a v1.stk.len v1.stk.cap, .slice v1.inp.a v1.inp.len v1.inp.cap, .slice v1.out.a v1.out.len v1.out.cap, .int .i64 m.steps, .int .i64 m.fin, .int .i64 m.val] (0, 0) _ (.int .i64 4) ?hp ?hq ?hg Try.underlying25 ?hd ?hi
  case hp => rfl
  case hq => rfl
  case hg => exact setRow_heap _ _ _ _ _ _ E3.out
  case hd => rfl
  case hi => kernel_rfl
set_option maxHeartbeats 8000000 in
theorem implStore_bad {lo : Nat} (v : MV) (m : Pl.Mac) (kind at_ x : Int) (w : World) (h : MOwn lo w v m) (hsz : Pl.mSize m ≤ 1048576) (hok : Pl.mOk m = true) (code : Int) (HF : ∀ v1 : MV, v1.data.len = v.data.len → v1.stk.len = v.stk.len → ∀ W, Calls Try.prog 61 #[.agg #[.iface 88 (.slice v1.data.a v1.data.len v1.data.cap), .iface 89 (.slice v1.stk.a v1.stk.len v1.stk.cap)], .int .i64 kind, .int .i64 at_] W fun e w' => e = .panicked [{ v := .iface 87 (.int .i64 code), recovered := false }] ∧ Below W.heap.size W w') :
    Calls Try.prog 7 #[.agg #[.slice v.code.a v.code.len v.code.cap, .int .i64 m.pc, .slice v.regs.a v.regs.len v.regs.cap, .slice v.data.a v.data.len v.data.cap, .slice v.stk.a v.stk.len v.stk.cap, .slice v.inp.a v.inp.len v.inp.cap, .slice v.out.a v.out.len v.out.cap, .int .i64 m.steps, .int .i64 m.fin, .int .i64 m.val], .int .i64 kind, .int .i64 at_, .int .i64 x] w fun e w' => ∃ v1 : MV, e = .returned (.tuple #[.agg #[.slice v1.code.a v1.code.len v1.code.cap, .int .i64 m.pc, .slice v1.regs.a v1.regs.len v1.regs.cap, .slice v1.data.a v1.data.len v1.data.cap, .slice v1.stk.a v1.stk.len v1.stk.cap, .slice v1.inp.a v1.inp.len v1.inp.cap, .slice v1.out.a v1.out.len v1.out.cap, .int .i64 m.steps, .int .i64 m.fin, .int .i64 m.val], .int .i64 code]) ∧ MOwn w.heap.size w' v1 m ∧ (∃ t0 t6, MSepAt t0 t6 v1 ∧ w.heap.size ≤ t0 ∧ t6 ≤ w'.heap.size) ∧ Below w.heap.size w w' := by
  have HH : Hid (MOwn lo w v m) := h
  have L0 : Hid (v.data.len = m.data.length ∧ v.stk.len = m.stk.length) := ⟨h.2.2.1.row.1.symm, h.2.2.2.1.row.1.symm⟩
  have HFF : Hid _ := HF
  clear h HF
  have P0 : Hid ((((((w.alloc (.cells #[.slice v.code.a v.code.len v.code.cap, .int .i64 m.pc, .slice v.regs.a v.regs.len v.regs.cap, .slice v.data.a v.data.len v.data.cap, .slice v.stk.a v.stk.len v.stk.cap, .slice v.inp.a v.inp.len v.inp.cap, .slice v.out.a v.out.len v.out.cap, .int .i64 m.steps, .int .i64 m.fin, .int .i64 m.val] 25)).alloc (.cells #[.int .i64 kind] 3)).alloc (.cells #[.int .i64 at_] 3)).alloc (.cells #[.int .i64 x] 3)).alloc (.cells #[.slice none 0 0, .int .i64 0, .slice none 0 0, .slice none 0 0, .slice none 0 0, .slice none 0 0, .slice none 0 0, .int .i64 0, .int .i64 0, .int .i64 0] 25)).heap[w.heap.size]? = some (.cells #[.slice v.code.a v.code.len v.code.cap, .int .i64 m.pc, .slice v.regs.a v.regs.len v.regs.cap, .slice v.data.a v.data.len v.data.cap, .slice v.stk.a v.stk.len v.stk.cap, .slice v.inp.a v.inp.len v.inp.cap, .slice v.out.a v.out.len v.out.cap, .int .i64 m.steps, .int .i64 m.fin, .int .i64 m.val] 25)) := (Below.heap_alloc _ _ _ (by simp <;> omega)).trans ((Below.heap_alloc _ _ _ (by simp <;> omega)).trans ((Below.heap_alloc _ _ _ (by simp <;> omega)).trans ((Below.heap_alloc _ _ _ (by simp)).trans (heap_alloc_new w _))))
  go_enter Try.func7, Try.ntmps7
  go_wp2_with (refine wpList_load_row rfl 25 _ rfl (w.heap.size) ?hx 25 #[.slice v.code.a v.code.len v.code.cap, .int .i64 m.pc, .slice v.regs.a v.regs.len v.regs.cap, .slice v.data.a v.data.len v.data.cap, .slice v.stk.a v.stk.len v.stk.cap, .slice v.inp.a v.inp.len v.inp.cap, .slice v.out.a v.out.len v.out.cap, .int .i64 m.steps, .int .i64 m.fin, .int .i64 m.val] (0, 0) _ ?hg Try.underlying25 ?hd ?hi ?_; (case hx => rfl); (case hg => exact P0.out); (case hd => rfl); (case hi => kernel_rfl))
  refine calls_at fun u0 hu0 => ?_
  have K0 : Hid (u0.heap[w.heap.size + 1]? = some (.cells #[.int .i64 kind] 3)) := by
    show u0.heap[w.heap.size + 1]? = _
    rw [hu0, Below.heap_alloc _ _ _ (by simp <;> omega), Below.heap_alloc _ _ _ (by simp <;> omega), Below.heap_alloc _ _ _ (by simp)]
    have := heap_alloc_new (w.alloc (.cells #[.slice v.code.a v.code.len v.code.cap, .int .i64 m.pc, .slice v.regs.a v.regs.len v.regs.cap, .slice v.data.a v.data.len v.data.cap, .slice v.stk.a v.stk.len v.stk.cap, .slice v.inp.a v.inp.len v.inp.cap, .slice v.out.a v.out.len v.out.cap, .int .i64 m.steps, .int .i64 m.fin, .int .i64 m.val] 25)) (.cells #[.int .i64 kind] 3)
    simpa using this
  have A0 : Hid (u0.heap[w.heap.size + 1 + 1]? = some (.cells #[.int .i64 at_] 3)) := by
    show u0.heap[w.heap.size + 1 + 1]? = _
    rw [hu0, Below.heap_alloc _ _ _ (by simp <;> omega), Below.heap_alloc _ _ _ (by simp)]
    have := heap_alloc_new ((w.alloc (.cells #[.slice v.code.a v.code.len v.code.cap, .int .i64 m.pc, .slice v.regs.a v.regs.len v.regs.cap, .slice v.data.a v.data.len v.data.cap, .slice v.stk.a v.stk.len v.stk.cap, .slice v.inp.a v.inp.len v.inp.cap, .slice v.out.a v.out.len v.out.cap, .int .i64 m.steps, .int .i64 m.fin, .int .i64 m.val] 25)).alloc (.cells #[.int .i64 kind] 3)) (.cells #[.int .i64 at_] 3)
    simpa using this
  have X0 : Hid (u0.heap[w.heap.size + 1 + 1 + 1]? = some (.cells #[.int .i64 x] 3)) := by
    show u0.heap[w.heap.size + 1 + 1 + 1]? = _
    rw [hu0, Below.heap_alloc _ _ _ (by simp)]
    have := heap_alloc_new (((w.alloc (.cells #[.slice v.code.a v.code.len v.code.cap, .int .i64 m.pc, .slice v.regs.a v.regs.len v.regs.cap, .slice v.data.a v.data.len v.data.cap, .slice v.stk.a v.stk.len v.stk.cap, .slice v.inp.a v.inp.len v.inp.cap, .slice v.out.a v.out.len v.out.cap, .int .i64 m.steps, .int .i64 m.fin, .int .i64 m.val] 25)).alloc (.cells #[.int .i64 kind] 3)).alloc (.cells #[.int .i64 at_] 3)) (.cells #[.int .i64 x] 3)
    simpa using this
  have E0 : Hid (u0.heap[w.heap.size + 1 + 1 + 1 + 1]? = some (.cells #[.slice none 0 0, .int .i64 0, .slice none 0 0, .slice none 0 0, .slice none 0 0, .slice none 0 0, .slice none 0 0, .int .i64 0, .int .i64 0, .int .i64 0] 25)) := by
    show u0.heap[w.heap.size + 1 + 1 + 1 + 1]? = _
    rw [hu0]
    have := heap_alloc_new ((((w.alloc (.cells #[.slice v.code.a v.code.len v.code.cap, .int .i64 m.pc, .slice v.regs.a v.regs.len v.regs.cap, .slice v.data.a v.data.len v.data.cap, .slice v.stk.a v.stk.len v.stk.cap, .slice v.inp.a v.inp.len v.inp.cap, .slice v.out.a v.out.len v.out.cap, .int .i64 m.steps, .int .i64 m.fin, .int .i64 m.val] 25)).alloc (.cells #[.int .i64 kind] 3)).alloc (.cells #[.int .i64 at_] 3)).alloc (.cells #[.int .i64 x] 3)) (.cells #[.slice none 0 0, .int .i64 0, .slice none 0 0, .slice none 0 0, .slice none 0 0, .slice none 0 0, .slice none 0 0, .int .i64 0, .int .i64 0, .int .i64 0] 25)
    simpa using this
  have B0 : Hid (Below w.heap.size w u0) := by show Below w.heap.size w u0; rw [hu0]; exact (((((Below.refl _ _).alloc (Nat.le_refl _) _).alloc (by simp) _).alloc (by simp <;> omega) _).alloc (by simp <;> omega) _).alloc (by simp <;> omega) _
  have Z0 : Hid (u0.heap.size = w.heap.size + 5) := by show u0.heap.size = w.heap.size + 5; rw [hu0]; simp
  rw [← hu0] at P0
  clear hu0
  refine (copyMachine_any v m u0 (HH.out.keep B0.out) hsz).mono ?_
  rintro e u1 ⟨v1, rfl, o1, sp1, d1⟩
  have O1 : Hid (MOwn u0.heap.size u1 v1 m) := o1
  have SP : Hid (MSep v1) := sp1
  have P1 : Hid (u1.heap[w.heap.size]? = some (.cells #[.slice v.code.a v.code.len v.code.cap, .int .i64 m.pc, .slice v.regs.a v.regs.len v.regs.cap, .slice v.data.a v.data.len v.data.cap, .slice v.stk.a v.stk.len v.stk.cap, .slice v.inp.a v.inp.len v.inp.cap, .slice v.out.a v.out.len v.out.cap, .int .i64 m.steps, .int .i64 m.fin, .int .i64 m.val] 25)) := (d1.block _ (by have := Z0.out; omega)).trans P0.out
  have K1 : Hid (u1.heap[w.heap.size + 1]? = some (.cells #[.int .i64 kind] 3)) := (d1.block _ (by have := Z0.out; omega)).trans K0.out
  have A1 : Hid (u1.heap[w.heap.size + 1 + 1]? = some (.cells #[.int .i64 at_] 3)) := (d1.block _ (by have := Z0.out; omega)).trans A0.out
  have X1 : Hid (u1.heap[w.heap.size + 1 + 1 + 1]? = some (.cells #[.int .i64 x] 3)) := (d1.block _ (by have := Z0.out; omega)).trans X0.out
  have E1 : Hid (u1.heap[w.heap.size + 1 + 1 + 1 + 1]? = some (.cells #[.slice none 0 0, .int .i64 0, .slice none 0 0, .slice none 0 0, .slice none 0 0, .slice none 0 0, .slice none 0 0, .int .i64 0, .int .i64 0, .int .i64 0] 25)) := (d1.block _ (by have := Z0.out; omega)).trans E0.out
  have B1 : Hid (Below w.heap.size w u1) := B0.out.trans (d1.mono (by have := Z0.out; omega))
  have Z1 : Hid (w.heap.size + 5 ≤ u1.heap.size ∧ u0.heap.size = w.heap.size + 5) := ⟨by have := Z0.out; have := d1.size; omega, Z0.out⟩
  clear o1 sp1 d1 P0 K0 A0 X0 E0 B0 Z0 HH
  go_wp2_with (refine wpList_store_row rfl 25 _ _ rfl (w.heap.size) #[.slice v1.code.a v1.code.len v1.code.cap, .int .i64 m.pc, .slice v1.regs.a v1.regs.len v1.regs.cap, .slice v1.data.a v1.data.len v1.data.cap, .slice v1.stk.a v1.stk.len v1.stk.cap, .slice v1.inp.a v1.inp.len v1.inp.cap, .slice v1.out.a v1.out.len v1.out.cap, .int .i64 m.steps, .int .i64 m.fin, .int .i64 m.val] ?hx ?hy 25 #[.slice v.code.a v.code.len v.code.cap, .int .i64 m.pc, .slice v.regs.a v.regs.len v.regs.cap, .slice v.data.a v.data.len v.data.cap, .slice v.stk.a v.stk.len v.stk.cap, .slice v.inp.a v.inp.len v.inp.cap, .slice v.out.a v.out.len v.out.cap, .int .i64 m.steps, .int .i64 m.fin, .int .i64 m.val] ?hg ?hi ?ho ?h1 ?_; (case hx => rfl); (case hy => rfl); (case hg => exact P1.out); (case hi => kernel_rfl); (case ho => kernel_rfl); (case h1 => kernel_rfl); refine Hid.out ?_)
  unfold Hid
  refine wpList_at fun u2 hu2 => ?_
  have P2 : Hid (u2.heap[w.heap.size]? = some (.cells #[.slice v1.code.a v1.code.len v1.code.cap, .int .i64 m.pc, .slice v1.regs.a v1.regs.len v1.regs.cap, .slice v1.data.a v1.data.len v1.data.cap, .slice v1.stk.a v1.stk.len v1.stk.cap, .slice v1.inp.a v1.inp.len v1.inp.cap, .slice v1.out.a v1.out.len v1.out.cap, .int .i64 m.steps, .int .i64 m.fin, .int .i64 m.val] 25)) := by show u2.heap[w.heap.size]? = _; rw [hu2]; exact setRow_heap _ _ _ _ _ _ P1.out
  have K2 : Hid (u2.heap[w.heap.size + 1]? = some (.cells #[.int .i64 kind] 3)) := by show u2.heap[w.heap.size + 1]? = _; rw [hu2]; exact (setRow_other _ _ _ _ (by omega)).trans K1.out
  have A2 : Hid (u2.heap[w.heap.size + 1 + 1]? = some (.cells #[.int .i64 at_] 3)) := by show u2.heap[w.heap.size + 1 + 1]? = _; rw [hu2]; exact (setRow_other _ _ _ _ (by omega)).trans A1.out
  have X2 : Hid (u2.heap[w.heap.size + 1 + 1 + 1]? = some (.cells #[.int .i64 x] 3)) := by show u2.heap[w.heap.size + 1 + 1 + 1]? = _; rw [hu2]; exact (setRow_other _ _ _ _ (by omega)).trans X1.out
  have E2 : Hid (u2.heap[w.heap.size + 1 + 1 + 1 + 1]? = some (.cells #[.slice none 0 0, .int .i64 0, .slice none 0 0, .slice none 0 0, .slice none 0 0, .slice none 0 0, .slice none 0 0, .int .i64 0, .int .i64 0, .int .i64 0] 25)) := by show u2.heap[w.heap.size + 1 + 1 + 1 + 1]? = _; rw [hu2]; exact (setRow_other _ _ _ _ (by omega)).trans E1.out
  have B2 : Hid (Below w.heap.size w u2) := by show Below w.heap.size w u2; rw [hu2]; exact below_setRow B1.out (Nat.le_refl _) _
  have Z2 : Hid (w.heap.size + 5 ≤ u2.heap.size ∧ u0.heap.size = w.heap.size + 5) := by show w.heap.size + 5 ≤ u2.heap.size ∧ u0.heap.size = w.heap.size + 5; rw [hu2]; have := Z1.out; simpa using this
  have O2 : Hid (MOwn u0.heap.size u2 v1 m) := by
    have ab : Above u0.heap.size u1 u2 := by rw [hu2]; exact (Above.refl _ _).setRow (show w.heap.size < u0.heap.size by have := Z1.out; omega) _
    have o := O1.out
    exact ⟨o.1.same ab (Nat.le_refl _), o.2.1.same ab (Nat.le_refl _), o.2.2.1.same ab (Nat.le_refl _), o.2.2.2.1.same ab (Nat.le_refl _), o.2.2.2.2.1.same ab (Nat.le_refl _), o.2.2.2.2.2.same ab (Nat.le_refl _)⟩
  clear hu2 P1 K1 A1 X1 E1 B1 Z1 O1
  go_wp2_with (refine wpList_load_row rfl 25 _ rfl (w.heap.size) ?hx 25 #[.slice v1.code.a v1.code.len v1.code.cap, .int .i64 m.pc, .slice v1.regs.a v1.regs.len v1.regs.cap, .slice v1.data.a v1.data.len v1.data.cap, .slice v1.stk.a v1.stk.len v1.stk.cap, .slice v1.inp.a v1.inp.len v1.inp.cap, .slice v1.out.a v1.out.len v1.out.cap, .int .i64 m.steps, .int .i64 m.fin, .int .i64 m.val] (0, 0) _ ?hg Try.underlying25 ?hd ?hi ?_; (case hx => rfl); (case hg => exact P2.out); (case hd => rfl); (case hi => kernel_rfl))
  refine (implMachineOk_any v1 m u2 O2.out.is).mono ?_
  rintro e u3 ⟨rfl, d3⟩
  rw [hok]
  have P3 : Hid (u3.heap[w.heap.size]? = some (.cells #[.slice v1.code.a v1.code.len v1.code.cap, .int .i64 m.pc, .slice v1.regs.a v1.regs.len v1.regs.cap, .slice v1.data.a v1.data.len v1.data.cap, .slice v1.stk.a v1.stk.len v1.stk.cap, .slice v1.inp.a v1.inp.len v1.inp.cap, .slice v1.out.a v1.out.len v1.out.cap, .int .i64 m.steps, .int .i64 m.fin, .int .i64 m.val] 25)) := (d3.block _ (by have := Z2.out; omega)).trans P2.out
  have K3 : Hid (u3.heap[w.heap.size + 1]? = some (.cells #[.int .i64 kind] 3)) := (d3.block _ (by have := Z2.out; omega)).trans K2.out
  have A3 : Hid (u3.heap[w.heap.size + 1 + 1]? = some (.cells #[.int .i64 at_] 3)) := (d3.block _ (by have := Z2.out; omega)).trans A2.out
  have X3 : Hid (u3.heap[w.heap.size + 1 + 1 + 1]? = some (.cells #[.int .i64 x] 3)) := (d3.block _ (by have := Z2.out; omega)).trans X2.out
  have E3 : Hid (u3.heap[w.heap.size + 1 + 1 + 1 + 1]? = some (.cells #[.slice none 0 0, .int .i64 0, .slice none 0 0, .slice none 0 0, .slice none 0 0, .slice none 0 0, .slice none 0 0, .int .i64 0, .int .i64 0, .int .i64 0] 25)) := (d3.block _ (by have := Z2.out; omega)).trans E2.out
  have B3 : Hid (Below w.heap.size w u3) := B2.out.trans (d3.mono (by have := Z2.out; omega))
  have Z3 : Hid (w.heap.size + 5 ≤ u3.heap.size ∧ u0.heap.size = w.heap.size + 5) := ⟨by have := Z2.out; have := d3.size; omega, Z2.out.2⟩
  have O3 : Hid (MOwn u0.heap.size u3 v1 m) := O2.out.keep d3
  clear d3 P2 K2 A2 X2 E2 B2 Z2 O2
  have hmf : ∀ (fn : Fn) (first cap : Array Value) (w : World), (Instr.makeFunc fn first cap).run Try.prog w = .ok (.func fn first cap) w := fun _ _ _ _ => rfl
  go_wp2_with fail
  obtain ⟨U, hU⟩ : ∃ U, U = u3.alloc (.cells #[.int .i64 0] 3) := ⟨_, rfl⟩
  have dU : Below u3.heap.size u3 U := by rw [hU]; exact below_alloc u3 _
  have CU : Hid (U.heap[u3.heap.size]? = some (.cells #[.int .i64 0] 3) ∧ u3.heap.size < U.heap.size) := by rw [hU]; exact ⟨heap_alloc_new u3 _, by simp⟩
  have PU : U.heap[w.heap.size]? = some (.cells #[.slice v1.code.a v1.code.len v1.code.cap, .int .i64 m.pc, .slice v1.regs.a v1.regs.len v1.regs.cap, .slice v1.data.a v1.data.len v1.data.cap, .slice v1.stk.a v1.stk.len v1.stk.cap, .slice v1.inp.a v1.inp.len v1.inp.cap, .slice v1.out.a v1.out.len v1.out.cap, .int .i64 m.steps, .int .i64 m.fin, .int .i64 m.val] 25) := (dU.block _ (by have := Z3.out; omega)).trans P3.out
  have KU : U.heap[w.heap.size + 1]? = some (.cells #[.int .i64 kind] 3) := (dU.block _ (by have := Z3.out; omega)).trans K3.out
  have AU : U.heap[w.heap.size + 1 + 1]? = some (.cells #[.int .i64 at_] 3) := (dU.block _ (by have := Z3.out; omega)).trans A3.out
  have XU : U.heap[w.heap.size + 1 + 1 + 1]? = some (.cells #[.int .i64 x] 3) := (dU.block _ (by have := Z3.out; omega)).trans X3.out
  have EU : U.heap[w.heap.size + 1 + 1 + 1 + 1]? = some (.cells #[.slice none 0 0, .int .i64 0, .slice none 0 0, .slice none 0 0, .slice none 0 0, .slice none 0 0, .slice none 0 0, .int .i64 0, .int .i64 0, .int .i64 0] 25) := (dU.block _ (by have := Z3.out; omega)).trans E3.out
  have BU : Hid (Below w.heap.size w U) := B3.out.trans (dU.mono (by have := Z3.out; omega))
  have OU : Hid (MOwn u0.heap.size U v1 m) := O3.out.keep dU
  have ZU : Hid (w.heap.size + 5 ≤ U.heap.size ∧ w.heap.size + 5 ≤ u3.heap.size ∧ u0.heap.size = w.heap.size + 5) := ⟨by have := Z3.out; have := dU.size; omega, Z3.out.1, Z3.out.2⟩
  have hl1 : v1.data.len = v.data.len ∧ v1.stk.len = v.stk.len := by
    have a1 := OU.out.2.2.1.row.1
    have a2 := OU.out.2.2.2.1.row.1
    have := L0.out
    omega
  have HL : Hid (∀ W, Below U.heap.size U W → Calls Try.prog 31 #[.agg #[.iface 88 (.slice v1.data.a v1.data.len v1.data.cap), .iface 89 (.slice v1.stk.a v1.stk.len v1.stk.cap)], .int .i64 kind, .int .i64 at_, .int .i64 x] W fun e w' => e = .panicked [{ v := .iface 87 (.int .i64 code), recovered := false }] ∧ Below W.heap.size W w') := fun W _ => store_bad _ _ _ _ _ _ kind at_ x code W (HFF.out v1 hl1.1 hl1.2)
  have HX := store1_bad v1 m kind at_ x w.heap.size (w.heap.size + 1) (w.heap.size + 1 + 1) (w.heap.size + 1 + 1 + 1) U PU KU AU XU code HL
  refine (faultOf_badS _ u3 code (fun w' => Below U.heap.size U w') (by rw [← hU]; exact HX) (fun u hu => (hu.block _ CU.out.2).trans CU.out.1)).mono ?_
  rintro e u4 ⟨rfl, u, hb', rfl⟩
  obtain ⟨V, hV⟩ : ∃ V, V = u.setCell ⟨u3.heap.size, 0, none⟩ (.int .i64 code) := ⟨_, rfl⟩
  rw [← hV]
  have PV : Hid (V.heap[w.heap.size]? = some (.cells #[.slice v1.code.a v1.code.len v1.code.cap, .int .i64 m.pc, .slice v1.regs.a v1.regs.len v1.regs.cap, .slice v1.data.a v1.data.len v1.data.cap, .slice v1.stk.a v1.stk.len v1.stk.cap, .slice v1.inp.a v1.inp.len v1.inp.cap, .slice v1.out.a v1.out.len v1.out.cap, .int .i64 m.steps, .int .i64 m.fin, .int .i64 m.val] 25)) := by show V.heap[w.heap.size]? = _; rw [hV]; exact keep_oth ((hb'.block _ (by have := ZU.out; omega)).trans PU) (by have := ZU.out; omega)
  have EV : Hid (V.heap[w.heap.size + 1 + 1 + 1 + 1]? = some (.cells #[.slice none 0 0, .int .i64 0, .slice none 0 0, .slice none 0 0, .slice none 0 0, .slice none 0 0, .slice none 0 0, .int .i64 0, .int .i64 0, .int .i64 0] 25)) := by show V.heap[w.heap.size + 1 + 1 + 1 + 1]? = _; rw [hV]; exact keep_oth ((hb'.block _ (by have := ZU.out; omega)).trans EU) (by have := ZU.out; omega)
  have BV : Hid (Below w.heap.size w V) := by show Below w.heap.size w V; rw [hV]; exact (BU.out.trans (hb'.mono BU.out.size)).setCell (show w.heap.size ≤ u3.heap.size by have := ZU.out; omega) _
  have ZV : Hid (u3.heap.size < V.heap.size) := by show u3.heap.size < V.heap.size; rw [hV]; have := CU.out.2; have := hb'.size; simp; omega
  have OV : Hid (MOwn u0.heap.size V v1 m) := by
    have hB : Below u3.heap.size u3 V := by rw [hV]; exact (dU.trans (hb'.mono dU.size)).setCell (Nat.le_refl _) _
    exact O3.out.keep hB
  clear hV hb' HX HL HFF EU XU AU KU PU dU hU hl1
  go_wp2_with (first | (refine wpList_load_row rfl 25 _ rfl (w.heap.size) ?hx 25 #[.slice v1.code.a v1.code.len v1.code.cap, .int .i64 m.pc, .slice v1.regs.a v1.regs.len v1.regs.cap, .slice v1.data.a v1.data.len v1.data.cap, .slice v1.stk.a v1.stk.len v1.stk.cap, .slice v1.inp.a v1.inp.len v1.inp.cap, .slice v1.out.a v1.out.len v1.out.cap, .int .i64 m.steps, .int .i64 m.fin, .int .i64 m.val] (0, 0) _ ?hg Try.underlying25 ?hd ?hi ?_; (case hx => rfl); (case hg => exact PV.out); (case hd => rfl); (case hi => kernel_rfl)) | (refine wpList_store_row rfl 25 _ _ rfl (w.heap.size + 1 + 1 + 1 + 1) #[.slice v1.code.a v1.code.len v1.code.cap, .int .i64 m.pc, .slice v1.regs.a v1.regs.len v1.regs.cap, .slice v1.data.a v1.data.len v1.data.cap, .slice v1.stk.a v1.stk.len v1.stk.cap, .slice v1.inp.a v1.inp.len v1.inp.cap, .slice v1.out.a v1.out.len v1.out.cap, .int .i64 m.steps, .int .i64 m.fin, .int .i64 m.val] ?hx ?hy 25 #[.slice none 0 0, .int .i64 0, .slice none 0 0, .slice none 0 0, .slice none 0 0, .slice none 0 0, .slice none 0 0, .int .i64 0, .int .i64 0, .int .i64 0] ?hg ?hi ?ho ?h1 ?_; (case hx => rfl); (case hy => rfl); (case hg => exact EV.out); (case hi => kernel_rfl); (case ho => kernel_rfl); (case h1 => kernel_rfl); refine Hid.out ?_))
  unfold Hid
  go_wp2_with fail
  have OF : MOwn u0.heap.size (V.setRow (w.heap.size + 1 + 1 + 1 + 1) #[.slice v1.code.a v1.code.len v1.code.cap, .int .i64 m.pc, .slice v1.regs.a v1.regs.len v1.regs.cap, .slice v1.data.a v1.data.len v1.data.cap, .slice v1.stk.a v1.stk.len v1.stk.cap, .slice v1.inp.a v1.inp.len v1.inp.cap, .slice v1.out.a v1.out.len v1.out.cap, .int .i64 m.steps, .int .i64 m.fin, .int .i64 m.val]) v1 m := OV.out.same ((Above.refl u0.heap.size V).setRow (show w.heap.size + 1 + 1 + 1 + 1 < u0.heap.size by have := ZU.out; omega) _) (Nat.le_refl _)
  have OL : MOwn w.heap.size (V.setRow (w.heap.size + 1 + 1 + 1 + 1) #[.slice v1.code.a v1.code.len v1.code.cap, .int .i64 m.pc, .slice v1.regs.a v1.regs.len v1.regs.cap, .slice v1.data.a v1.data.len v1.data.cap, .slice v1.stk.a v1.stk.len v1.stk.cap, .slice v1.inp.a v1.inp.len v1.inp.cap, .slice v1.out.a v1.out.len v1.out.cap, .int .i64 m.steps, .int .i64 m.fin, .int .i64 m.val]) v1 m := OF.lower (by have := ZU.out; omega)
  refine bodyPost_ret (v := .tuple #[.agg #[.slice v1.code.a v1.code.len v1.code.cap, .int .i64 m.pc, .slice v1.regs.a v1.regs.len v1.regs.cap, .slice v1.data.a v1.data.len v1.data.cap, .slice v1.stk.a v1.stk.len v1.stk.cap, .slice v1.inp.a v1.inp.len v1.inp.cap, .slice v1.out.a v1.out.len v1.out.cap, .int .i64 m.steps, .int .i64 m.fin, .int .i64 m.val], .int .i64 code]) ?_ rfl ⟨v1, rfl, OL, (SP.out.bounds OL (by have := ZU.out; have := ZV.out; simp; omega)), below_setRow BV.out (show w.heap.size ≤ w.heap.size + 1 + 1 + 1 + 1 by omega) _⟩
  refine results_cell_tmp3 Try.results7 _ _ (w.heap.size + 1 + 1 + 1 + 1) 25 #[.slice v1.code.a v1.code.len v1.code.cap, .int .i64 m.pc, .slice v1.regs.a v1.regs.len v1.regs.cap, .slice v1.data.a v1.data.len v1.data.cap, .slice v1.stk.a v1.stk.len v1.stk.cap, .slice v1.inp.a v1.inp.len v1.inp.cap, .slice v1.out.a v1.out.len v1.out.cap, .int .i64 m.steps, .int .i64 m.fin, .int .i64 m.val] (0, 0) _ (.int .i64 code) ?hp ?hq ?hg Try.underlying25 ?hd ?hi
  case hp => rfl
  case hq => rfl
  case hg => exact setRow_heap _ _ _ _ _ _ EV.out
  case hd => rfl
  case hi => kernel_rfl
set_option maxHeartbeats 8000000 in
theorem implStore_data {lo : Nat} (v : MV) (m : Pl.Mac) (kind at_ x : Int) (w : World) (h : MOwn lo w v m) (hsz : Pl.mSize m ≤ 1048576) (hok : Pl.mOk m = true) (p size : Nat) (hs : 1 ≤ size ∧ size ≤ 4) (hxb : -9223372036854775808 ≤ x ∧ x ≤ 9223372036854775807) (hp2 : p + size ≤ m.data.length) (HF : ∀ (v1 : MV) (g : Nat), v1.data.a = some ⟨g, 0, none⟩ → v1.data.len = m.data.length → v1.stk.len = m.stk.length → v1.data.len ≤ v1.data.cap → v1.data.cap ≤ 9223372036854775807 → ∀ W, Calls Try.prog 61 #[.agg #[.iface 88 (.slice v1.data.a v1.data.len v1.data.cap), .iface 89 (.slice v1.stk.a v1.stk.len v1.stk.cap)], .int .i64 kind, .int .i64 at_] W fun e w' => e = .returned (.slice (some ⟨g, 0 + p, none⟩) size (v1.data.cap - p)) ∧ Below W.heap.size W w') :
    Calls Try.prog 7 #[.agg #[.slice v.code.a v.code.len v.code.cap, .int .i64 m.pc, .slice v.regs.a v.regs.len v.regs.cap, .slice v.data.a v.data.len v.data.cap, .slice v.stk.a v.stk.len v.stk.cap, .slice v.inp.a v.inp.len v.inp.cap, .slice v.out.a v.out.len v.out.cap, .int .i64 m.steps, .int .i64 m.fin, .int .i64 m.val], .int .i64 kind, .int .i64 at_, .int .i64 x] w fun e w' => ∃ v1 : MV, e = .returned (.tuple #[.agg #[.slice v1.code.a v1.code.len v1.code.cap, .int .i64 m.pc, .slice v1.regs.a v1.regs.len v1.regs.cap, .slice v1.data.a v1.data.len v1.data.cap, .slice v1.stk.a v1.stk.len v1.stk.cap, .slice v1.inp.a v1.inp.len v1.inp.cap, .slice v1.out.a v1.out.len v1.out.cap, .int .i64 m.steps, .int .i64 m.fin, .int .i64 m.val], .int .i64 0]) ∧ MOwn w.heap.size w' v1 { m with data := Pl.stk_ m.data p x size } ∧ (∃ t0 t6, MSepAt t0 t6 v1 ∧ w.heap.size ≤ t0 ∧ t6 ≤ w'.heap.size) ∧ Below w.heap.size w w' := by
  have HH : Hid (MOwn lo w v m) := h
  have HFF : Hid _ := HF
  clear h HF
  have P0 : Hid ((((((w.alloc (.cells #[.slice v.code.a v.code.len v.code.cap, .int .i64 m.pc, .slice v.regs.a v.regs.len v.regs.cap, .slice v.data.a v.data.len v.data.cap, .slice v.stk.a v.stk.len v.stk.cap, .slice v.inp.a v.inp.len v.inp.cap, .slice v.out.a v.out.len v.out.cap, .int .i64 m.steps, .int .i64 m.fin, .int .i64 m.val] 25)).alloc (.cells #[.int .i64 kind] 3)).alloc (.cells #[.int .i64 at_] 3)).alloc (.cells #[.int .i64 x] 3)).alloc (.cells #[.slice none 0 0, .int .i64 0, .slice none 0 0, .slice none 0 0, .slice none 0 0, .slice none 0 0, .slice none 0 0, .int .i64 0, .int .i64 0, .int .i64 0] 25)).heap[w.heap.size]? = some (.cells #[.slice v.code.a v.code.len v.code.cap, .int .i64 m.pc, .slice v.regs.a v.regs.len v.regs.cap, .slice v.data.a v.data.len v.data.cap, .slice v.stk.a v.stk.len v.stk.cap, .slice v.inp.a v.inp.len v.inp.cap, .slice v.out.a v.out.len v.out.cap, .int .i64 m.steps, .int .i64 m.fin, .int .i64 m.val] 25)) := (Below.heap_alloc _ _ _ (by simp <;> omega)).trans ((Below.heap_alloc _ _ _ (by simp <;> omega)).trans ((Below.heap_alloc _ _ _ (by simp <;> omega)).trans ((Below.heap_alloc _ _ _ (by simp)).trans (heap_alloc_new w _))))
  go_enter Try.func7, Try.ntmps7
  go_wp2_with (refine wpList_load_row rfl 25 _ rfl (w.heap.size) ?hx 25 #[.slice v.code.a v.code.len v.code.cap, .int .i64 m.pc, .slice v.regs.a v.regs.len v.regs.cap, .slice v.data.a v.data.len v.data.cap, .slice v.stk.a v.stk.len v.stk.cap, .slice v.inp.a v.inp.len v.inp.cap, .slice v.out.a v.out.len v.out.cap, .int .i64 m.steps, .int .i64 m.fin, .int .i64 m.val] (0, 0) _ ?hg Try.underlying25 ?hd ?hi ?_; (case hx => rfl); (case hg => exact P0.out); (case hd => rfl); (case hi => kernel_rfl))
  refine calls_at fun u0 hu0 => ?_
  have K0 : Hid (u0.heap[w.heap.size + 1]? = some (.cells #[.int .i64 kind] 3)) := by
    show u0.heap[w.heap.size + 1]? = _
    rw [hu0, Below.heap_alloc _ _ _ (by simp <;> omega), Below.heap_alloc _ _ _ (by simp <;> omega), Below.heap_alloc _ _ _ (by simp)]
    have := heap_alloc_new (w.alloc (.cells #[.slice v.code.a v.code.len v.code.cap, .int .i64 m.pc, .slice v.regs.a v.regs.len v.regs.cap, .slice v.data.a v.data.len v.data.cap, .slice v.stk.a v.stk.len v.stk.cap, .slice v.inp.a v.inp.len v.inp.cap, .slice v.out.a v.out.len v.out.cap, .int .i64 m.steps, .int .i64 m.fin, .int .i64 m.val] 25)) (.cells #[.int .i64 kind] 3)
    simpa using this
  have A0 : Hid (u0.heap[w.heap.size + 1 + 1]? = some (.cells #[.int .i64 at_] 3)) := by
    show u0.heap[w.heap.size + 1 + 1]? = _
    rw [hu0, Below.heap_alloc _ _ _ (by simp <;> omega), Below.heap_alloc _ _ _ (by simp)]
    have := heap_alloc_new ((w.alloc (.cells #[.slice v.code.a v.code.len v.code.cap, .int .i64 m.pc, .slice v.regs.a v.regs.len v.regs.cap, .slice v.data.a v.data.len v.data.cap, .slice v.stk.a v.stk.len v.stk.cap, .slice v.inp.a v.inp.len v.inp.cap, .slice v.out.a v.out.len v.out.cap, .int .i64 m.steps, .int .i64 m.fin, .int .i64 m.val] 25)).alloc (.cells #[.int .i64 kind] 3)) (.cells #[.int .i64 at_] 3)
    simpa using this
  have X0 : Hid (u0.heap[w.heap.size + 1 + 1 + 1]? = some (.cells #[.int .i64 x] 3)) := by
    show u0.heap[w.heap.size + 1 + 1 + 1]? = _
    rw [hu0, Below.heap_alloc _ _ _ (by simp)]
    have := heap_alloc_new (((w.alloc (.cells #[.slice v.code.a v.code.len v.code.cap, .int .i64 m.pc, .slice v.regs.a v.regs.len v.regs.cap, .slice v.data.a v.data.len v.data.cap, .slice v.stk.a v.stk.len v.stk.cap, .slice v.inp.a v.inp.len v.inp.cap, .slice v.out.a v.out.len v.out.cap, .int .i64 m.steps, .int .i64 m.fin, .int .i64 m.val] 25)).alloc (.cells #[.int .i64 kind] 3)).alloc (.cells #[.int .i64 at_] 3)) (.cells #[.int .i64 x] 3)
    simpa using this
  have E0 : Hid (u0.heap[w.heap.size + 1 + 1 + 1 + 1]? = some (.cells #[.slice none 0 0, .int .i64 0, .slice none 0 0, .slice none 0 0, .slice none 0 0, .slice none 0 0, .slice none 0 0, .int .i64 0, .int .i64 0, .int .i64 0] 25)) := by
    show u0.heap[w.heap.size + 1 + 1 + 1 + 1]? = _
    rw [hu0]
    have := heap_alloc_new ((((w.alloc (.cells #[.slice v.code.a v.code.len v.code.cap, .int .i64 m.pc, .slice v.regs.a v.regs.len v.regs.cap, .slice v.data.a v.data.len v.data.cap, .slice v.stk.a v.stk.len v.stk.cap, .slice v.inp.a v.inp.len v.inp.cap, .slice v.out.a v.out.len v.out.cap, .int .i64 m.steps, .int .i64 m.fin, .int .i64 m.val] 25)).alloc (.cells #[.int .i64 kind] 3)).alloc (.cells #[.int .i64 at_] 3)).alloc (.cells #[.int .i64 x] 3)) (.cells #[.slice none 0 0, .int .i64 0, .slice none 0 0, .slice none 0 0, .slice none 0 0, .slice none 0 0, .slice none 0 0, .int .i64 0, .int .i64 0, .int .i64 0] 25)
    simpa using this
  have B0 : Hid (Below w.heap.size w u0) := by show Below w.heap.size w u0; rw [hu0]; exact (((((Below.refl _ _).alloc (Nat.le_refl _) _).alloc (by simp) _).alloc (by simp <;> omega) _).alloc (by simp <;> omega) _).alloc (by simp <;> omega) _
  have Z0 : Hid (u0.heap.size = w.heap.size + 5) := by show u0.heap.size = w.heap.size + 5; rw [hu0]; simp
  rw [← hu0] at P0
  clear hu0
  refine (copyMachine_any v m u0 (HH.out.keep B0.out) hsz).mono ?_
  rintro e u1 ⟨v1, rfl, o1, sp1, d1⟩
  have O1 : Hid (MOwn u0.heap.size u1 v1 m) := o1
  have SP : Hid (MSep v1) := sp1
  have P1 : Hid (u1.heap[w.heap.size]? = some (.cells #[.slice v.code.a v.code.len v.code.cap, .int .i64 m.pc, .slice v.regs.a v.regs.len v.regs.cap, .slice v.data.a v.data.len v.data.cap, .slice v.stk.a v.stk.len v.stk.cap, .slice v.inp.a v.inp.len v.inp.cap, .slice v.out.a v.out.len v.out.cap, .int .i64 m.steps, .int .i64 m.fin, .int .i64 m.val] 25)) := (d1.block _ (by have := Z0.out; omega)).trans P0.out
  have K1 : Hid (u1.heap[w.heap.size + 1]? = some (.cells #[.int .i64 kind] 3)) := (d1.block _ (by have := Z0.out; omega)).trans K0.out
  have A1 : Hid (u1.heap[w.heap.size + 1 + 1]? = some (.cells #[.int .i64 at_] 3)) := (d1.block _ (by have := Z0.out; omega)).trans A0.out
  have X1 : Hid (u1.heap[w.heap.size + 1 + 1 + 1]? = some (.cells #[.int .i64 x] 3)) := (d1.block _ (by have := Z0.out; omega)).trans X0.out
  have E1 : Hid (u1.heap[w.heap.size + 1 + 1 + 1 + 1]? = some (.cells #[.slice none 0 0, .int .i64 0, .slice none 0 0, .slice none 0 0, .slice none 0 0, .slice none 0 0, .slice none 0 0, .int .i64 0, .int .i64 0, .int .i64 0] 25)) := (d1.block _ (by have := Z0.out; omega)).trans E0.out
  have B1 : Hid (Below w.heap.size w u1) := B0.out.trans (d1.mono (by have := Z0.out; omega))
  have Z1 : Hid (w.heap.size + 5 ≤ u1.heap.size ∧ u0.heap.size = w.heap.size + 5) := ⟨by have := Z0.out; have := d1.size; omega, Z0.out⟩
  clear o1 sp1 d1 P0 K0 A0 X0 E0 B0 Z0 HH
  go_wp2_with (refine wpList_store_row rfl 25 _ _ rfl (w.heap.size) #[.slice v1.code.a v1.code.len v1.code.cap, .int .i64 m.pc, .slice v1.regs.a v1.regs.len v1.regs.cap, .slice v1.data.a v1.data.len v1.data.cap, .slice v1.stk.a v1.stk.len v1.stk.cap, .slice v1.inp.a v1.inp.len v1.inp.cap, .slice v1.out.a v1.out.len v1.out.cap, .int .i64 m.steps, .int .i64 m.fin, .int .i64 m.val] ?hx ?hy 25 #[.slice v.code.a v.code.len v.code.cap, .int .i64 m.pc, .slice v.regs.a v.regs.len v.regs.cap, .slice v.data.a v.data.len v.data.cap, .slice v.stk.a v.stk.len v.stk.cap, .slice v.inp.a v.inp.len v.inp.cap, .slice v.out.a v.out.len v.out.cap, .int .i64 m.steps, .int .i64 m.fin, .int .i64 m.val] ?hg ?hi ?ho ?h1 ?_; (case hx => rfl); (case hy => rfl); (case hg => exact P1.out); (case hi => kernel_rfl); (case ho => kernel_rfl); (case h1 => kernel_rfl); refine Hid.out ?_)
  unfold Hid
  refine wpList_at fun u2 hu2 => ?_
  have P2 : Hid (u2.heap[w.heap.size]? = some (.cells #[.slice v1.code.a v1.code.len v1.code.cap, .int .i64 m.pc, .slice v1.regs.a v1.regs.len v1.regs.cap, .slice v1.data.a v1.data.len v1.data.cap, .slice v1.stk.a v1.stk.len v1.stk.cap, .slice v1.inp.a v1.inp.len v1.inp.cap, .slice v1.out.a v1.out.len v1.out.cap, .int .i64 m.steps, .int .i64 m.fin, .int .i64 m.val] 25)) := by show u2.heap[w.heap.size]? = _; rw [hu2]; exact setRow_heap _ _ _ _ _ _ P1.out
  have K2 : Hid (u2.heap[w.heap.size + 1]? = some (.cells #[.int .i64 kind] 3)) := by show u2.heap[w.heap.size + 1]? = _; rw [hu2]; exact (setRow_other _ _ _ _ (by omega)).trans K1.out
  have A2 : Hid (u2.heap[w.heap.size + 1 + 1]? = some (.cells #[.int .i64 at_] 3)) := by show u2.heap[w.heap.size + 1 + 1]? = _; rw [hu2]; exact (setRow_other _ _ _ _ (by omega)).trans A1.out
  have X2 : Hid (u2.heap[w.heap.size + 1 + 1 + 1]? = some (.cells #[.int .i64 x] 3)) := by show u2.heap[w.heap.size + 1 + 1 + 1]? = _; rw [hu2]; exact (setRow_other _ _ _ _ (by omega)).trans X1.out
  have E2 : Hid (u2.heap[w.heap.size + 1 + 1 + 1 + 1]? = some (.cells #[.slice none 0 0, .int .i64 0, .slice none 0 0, .slice none 0 0, .slice none 0 0, .slice none 0 0, .slice none 0 0, .int .i64 0, .int .i64 0, .int .i64 0] 25)) := by show u2.heap[w.heap.size + 1 + 1 + 1 + 1]? = _; rw [hu2]; exact (setRow_other _ _ _ _ (by omega)).trans E1.out
  have B2 : Hid (Below w.heap.size w u2) := by show Below w.heap.size w u2; rw [hu2]; exact below_setRow B1.out (Nat.le_refl _) _
  have Z2 : Hid (w.heap.size + 5 ≤ u2.heap.size ∧ u0.heap.size = w.heap.size + 5) := by show w.heap.size + 5 ≤ u2.heap.size ∧ u0.heap.size = w.heap.size + 5; rw [hu2]; have := Z1.out; simpa using this
  have O2 : Hid (MOwn u0.heap.size u2 v1 m) := by
    have ab : Above u0.heap.size u1 u2 := by rw [hu2]; exact (Above.refl _ _).setRow (show w.heap.size < u0.heap.size by have := Z1.out; omega) _
    have o := O1.out
    exact ⟨o.1.same ab (Nat.le_refl _), o.2.1.same ab (Nat.le_refl _), o.2.2.1.same ab (Nat.le_refl _), o.2.2.2.1.same ab (Nat.le_refl _), o.2.2.2.2.1.same ab (Nat.le_refl _), o.2.2.2.2.2.same ab (Nat.le_refl _)⟩
  clear hu2 P1 K1 A1 X1 E1 B1 Z1 O1
  go_wp2_with (refine wpList_load_row rfl 25 _ rfl (w.heap.size) ?hx 25 #[.slice v1.code.a v1.code.len v1.code.cap, .int .i64 m.pc, .slice v1.regs.a v1.regs.len v1.regs.cap, .slice v1.data.a v1.data.len v1.data.cap, .slice v1.stk.a v1.stk.len v1.stk.cap, .slice v1.inp.a v1.inp.len v1.inp.cap, .slice v1.out.a v1.out.len v1.out.cap, .int .i64 m.steps, .int .i64 m.fin, .int .i64 m.val] (0, 0) _ ?hg Try.underlying25 ?hd ?hi ?_; (case hx => rfl); (case hg => exact P2.out); (case hd => rfl); (case hi => kernel_rfl))
  refine (implMachineOk_any v1 m u2 O2.out.is).mono ?_
  rintro e u3 ⟨rfl, d3⟩
  rw [hok]
  have P3 : Hid (u3.heap[w.heap.size]? = some (.cells #[.slice v1.code.a v1.code.len v1.code.cap, .int .i64 m.pc, .slice v1.regs.a v1.regs.len v1.regs.cap, .slice v1.data.a v1.data.len v1.data.cap, .slice v1.stk.a v1.stk.len v1.stk.cap, .slice v1.inp.a v1.inp.len v1.inp.cap, .slice v1.out.a v1.out.len v1.out.cap, .int .i64 m.steps, .int .i64 m.fin, .int .i64 m.val] 25)) := (d3.block _ (by have := Z2.out; omega)).trans P2.out
  have K3 : Hid (u3.heap[w.heap.size + 1]? = some (.cells #[.int .i64 kind] 3)) := (d3.block _ (by have := Z2.out; omega)).trans K2.out
  have A3 : Hid (u3.heap[w.heap.size + 1 + 1]? = some (.cells #[.int .i64 at_] 3)) := (d3.block _ (by have := Z2.out; omega)).trans A2.out
  have X3 : Hid (u3.heap[w.heap.size + 1 + 1 + 1]? = some (.cells #[.int .i64 x] 3)) := (d3.block _ (by have := Z2.out; omega)).trans X2.out
  have E3 : Hid (u3.heap[w.heap.size + 1 + 1 + 1 + 1]? = some (.cells #[.slice none 0 0, .int .i64 0, .slice none 0 0, .slice none 0 0, .slice none 0 0, .slice none 0 0, .slice none 0 0, .int .i64 0, .int .i64 0, .int .i64 0] 25)) := (d3.block _ (by have := Z2.out; omega)).trans E2.out
  have B3 : Hid (Below w.heap.size w u3) := B2.out.trans (d3.mono (by have := Z2.out; omega))
  have Z3 : Hid (w.heap.size + 5 ≤ u3.heap.size ∧ u0.heap.size = w.heap.size + 5) := ⟨by have := Z2.out; have := d3.size; omega, Z2.out.2⟩
  have O3 : Hid (MOwn u0.heap.size u3 v1 m) := O2.out.keep d3
  clear d3 P2 K2 A2 X2 E2 B2 Z2 O2
  have hmf : ∀ (fn : Fn) (first cap : Array Value) (w : World), (Instr.makeFunc fn first cap).run Try.prog w = .ok (.func fn first cap) w := fun _ _ _ _ => rfl
  go_wp2_with fail
  obtain ⟨U, hU⟩ : ∃ U, U = u3.alloc (.cells #[.int .i64 0] 3) := ⟨_, rfl⟩
  have dU : Below u3.heap.size u3 U := by rw [hU]; exact below_alloc u3 _
  have CU : Hid (U.heap[u3.heap.size]? = some (.cells #[.int .i64 0] 3) ∧ u3.heap.size < U.heap.size) := by rw [hU]; exact ⟨heap_alloc_new u3 _, by simp⟩
  have PU : U.heap[w.heap.size]? = some (.cells #[.slice v1.code.a v1.code.len v1.code.cap, .int .i64 m.pc, .slice v1.regs.a v1.regs.len v1.regs.cap, .slice v1.data.a v1.data.len v1.data.cap, .slice v1.stk.a v1.stk.len v1.stk.cap, .slice v1.inp.a v1.inp.len v1.inp.cap, .slice v1.out.a v1.out.len v1.out.cap, .int .i64 m.steps, .int .i64 m.fin, .int .i64 m.val] 25) := (dU.block _ (by have := Z3.out; omega)).trans P3.out
  have KU : U.heap[w.heap.size + 1]? = some (.cells #[.int .i64 kind] 3) := (dU.block _ (by have := Z3.out; omega)).trans K3.out
  have AU : U.heap[w.heap.size + 1 + 1]? = some (.cells #[.int .i64 at_] 3) := (dU.block _ (by have := Z3.out; omega)).trans A3.out
  have XU : U.heap[w.heap.size + 1 + 1 + 1]? = some (.cells #[.int .i64 x] 3) := (dU.block _ (by have := Z3.out; omega)).trans X3.out
  have EU : U.heap[w.heap.size + 1 + 1 + 1 + 1]? = some (.cells #[.slice none 0 0, .int .i64 0, .slice none 0 0, .slice none 0 0, .slice none 0 0, .slice none 0 0, .slice none 0 0, .int .i64 0, .int .i64 0, .int .i64 0] 25) := (dU.block _ (by have := Z3.out; omega)).trans E3.out
  have BU : Hid (Below w.heap.size w U) := B3.out.trans (dU.mono (by have := Z3.out; omega))
  have OU : Hid (MOwn u0.heap.size U v1 m) := O3.out.keep dU
  have ZU : Hid (w.heap.size + 5 ≤ U.heap.size ∧ w.heap.size + 5 ≤ u3.heap.size ∧ u0.heap.size = w.heap.size + 5) := ⟨by have := Z3.out; have := dU.size; omega, Z3.out.1, Z3.out.2⟩
  obtain ⟨t0, t1, t2, t3, t4, t5, t6, s0, s1, s2, s3, s4, s5, q0, q1, q2, q3, q4, q5⟩ := SP.out
  have rw_ := OU.out.2.2.1.row
  have e1 := OU.out.2.2.1.row.1
  have e2 := OU.out.2.2.2.1.row.1
  have hz : ∀ n ∈ m.data, 0 ≤ n ∧ n ≤ 255 := fun n hn => bounds_u8 (rw_.2.2.2.1 n hn)
  have hcap := rw_.2.2.1
  unfold maxLen at hcap
  obtain ⟨g, hadr⟩ : ∃ g, v1.data.a = some ⟨g, 0, none⟩ := by
    rcases OU.out.2.2.1.1.2 with ⟨h0, h1⟩ | ⟨g, _, _, h0, _⟩
    · omega
    · simp only [Value.slice.injEq] at h0; exact ⟨g, h0.1⟩
  have hg3 : u0.heap.size ≤ g ∧ g < u3.heap.size := O3.out.2.2.1.span (Nat.le_refl _) ⟨g, 0, none⟩ hadr
  have HFW := HFF.out v1 g hadr e1.symm e2.symm rw_.2.1 hcap
  have HL : Hid (∀ W, Below U.heap.size U W → Calls Try.prog 31 #[.agg #[.iface 88 (.slice v1.data.a v1.data.len v1.data.cap), .iface 89 (.slice v1.stk.a v1.stk.len v1.stk.cap)], .int .i64 kind, .int .i64 at_, .int .i64 x] W fun e w' => e = .returned (.tuple #[]) ∧ ∃ u, Below W.heap.size W u ∧ Touch (some ⟨g, 0, none⟩) u w' ∧ Own .u8 5 u0.heap.size w' (some ⟨g, 0, none⟩) v1.data.len v1.data.cap (Pl.stk_ m.data p x size)) := fun W hW => by
    have ow := OU.out.2.2.1.keep hW
    rw [hadr] at ow
    exact store_good _ _ _ _ _ _ kind at_ x g p size v1.data.cap (v1.data.cap - p) v1.data.len m.data hs hxb (by omega) (by omega) W hz ow HFW
  have HX := store1_good v1 m kind at_ x w.heap.size (w.heap.size + 1) (w.heap.size + 1 + 1) (w.heap.size + 1 + 1 + 1) U PU KU AU XU (fun W w' => ∃ u, Below W.heap.size W u ∧ Touch (some ⟨g, 0, none⟩) u w' ∧ Own .u8 5 u0.heap.size w' (some ⟨g, 0, none⟩) v1.data.len v1.data.cap (Pl.stk_ m.data p x size)) HL
  refine (faultOf_goodS _ u3 (fun w' => ∃ u, Below U.heap.size U u ∧ Touch (some ⟨g, 0, none⟩) u w' ∧ Own .u8 5 u0.heap.size w' (some ⟨g, 0, none⟩) v1.data.len v1.data.cap (Pl.stk_ m.data p x size)) (by
    rw [← hU]
    refine HX.mono ?_
    rintro e w' ⟨rfl, W, hW, u, hu, ht, ow⟩
    exact ⟨rfl, u, hW.trans (hu.mono hW.size), ht, ow⟩) (fun y hy => by
    obtain ⟨u, hu, ht, _⟩ := hy
    exact (ht.block _ (fun ad had => by simp at had; subst had; show u3.heap.size ≠ g; omega)).trans ((hu.block _ CU.out.2).trans CU.out.1))).mono ?_
  rintro e u4 ⟨rfl, y, ⟨u, hu, ht, ow⟩, rfl⟩
  obtain ⟨V, hV⟩ : ∃ V, V = y.setCell ⟨u3.heap.size, 0, none⟩ (.int .i64 0) := ⟨_, rfl⟩
  rw [← hV]
  have kp : ∀ b, b < w.heap.size + 5 → V.heap[b]? = U.heap[b]? := fun b hb => by
    rw [hV, Below.heap_setCell _ _ _ _ (show b ≠ u3.heap.size by have := ZU.out; omega), ht.block b (fun ad had => by simp at had; subst had; show b ≠ g; have := ZU.out; omega), hu.block b (by have := ZU.out; omega)]
  have PV : Hid (V.heap[w.heap.size]? = some (.cells #[.slice v1.code.a v1.code.len v1.code.cap, .int .i64 m.pc, .slice v1.regs.a v1.regs.len v1.regs.cap, .slice v1.data.a v1.data.len v1.data.cap, .slice v1.stk.a v1.stk.len v1.stk.cap, .slice v1.inp.a v1.inp.len v1.inp.cap, .slice v1.out.a v1.out.len v1.out.cap, .int .i64 m.steps, .int .i64 m.fin, .int .i64 m.val] 25)) := (kp _ (by omega)).trans PU
  have EV : Hid (V.heap[w.heap.size + 1 + 1 + 1 + 1]? = some (.cells #[.slice none 0 0, .int .i64 0, .slice none 0 0, .slice none 0 0, .slice none 0 0, .slice none 0 0, .slice none 0 0, .int .i64 0, .int .i64 0, .int .i64 0] 25)) := (kp _ (by omega)).trans EU
  have ys : U.heap.size ≤ y.heap.size := by rw [ht.size]; exact hu.size
  have zs_ : V.heap.size = y.heap.size := by rw [hV]; simp
  have BV : Hid (Below w.heap.size w V) := BU.out.trans ⟨by rw [hV]; exact ht.os.trans hu.os, by rw [hV]; exact ht.tape.trans hu.tape, by rw [hV]; exact ht.output.trans hu.output, by rw [zs_]; exact ys, fun b hb => kp b (by omega)⟩
  have ZV : Hid (u3.heap.size < V.heap.size) := by show u3.heap.size < V.heap.size; have := CU.out.2; omega
  have tr : Touch v1.data.a u y := by rw [hadr]; exact ht
  have OV : Hid (MOwn u0.heap.size V v1 { m with data := Pl.stk_ m.data p x size }) := by
    have ou := O3.out
    have b3 : Below u3.heap.size u3 u := dU.trans (hu.mono dU.size)
    rw [← hadr] at ow
    show MOwn u0.heap.size V v1 { m with data := Pl.stk_ m.data p x size }
    rw [hV]
    exact ⟨((ou.1.keep b3).untouched s0 s2 (by omega) tr).past (O3.out.1.span (Nat.le_refl _)) (Nat.le_refl _), ((ou.2.1.keep b3).untouched s1 s2 (by omega) tr).past (O3.out.2.1.span (Nat.le_refl _)) (Nat.le_refl _), ow.past (O3.out.2.2.1.span (Nat.le_refl _)) (Nat.le_refl _), ((ou.2.2.2.1.keep b3).untouched s3 s2 (by omega) tr).past (O3.out.2.2.2.1.span (Nat.le_refl _)) (Nat.le_refl _), ((ou.2.2.2.2.1.keep b3).untouched s4 s2 (by omega) tr).past (O3.out.2.2.2.2.1.span (Nat.le_refl _)) (Nat.le_refl _), ((ou.2.2.2.2.2.keep b3).untouched s5 s2 (by omega) tr).past (O3.out.2.2.2.2.2.span (Nat.le_refl _)) (Nat.le_refl _)⟩
  clear hV HX HL HFF HFW EU XU AU KU PU dU hU kp hadr e1 e2 rw_ hcap hz ow tr ht hu
  go_wp2_with (first | (refine wpList_load_row rfl 25 _ rfl (w.heap.size) ?hx 25 #[.slice v1.code.a v1.code.len v1.code.cap, .int .i64 m.pc, .slice v1.regs.a v1.regs.len v1.regs.cap, .slice v1.data.a v1.data.len v1.data.cap, .slice v1.stk.a v1.stk.len v1.stk.cap, .slice v1.inp.a v1.inp.len v1.inp.cap, .slice v1.out.a v1.out.len v1.out.cap, .int .i64 m.steps, .int .i64 m.fin, .int .i64 m.val] (0, 0) _ ?hg Try.underlying25 ?hd ?hi ?_; (case hx => rfl); (case hg => exact PV.out); (case hd => rfl); (case hi => kernel_rfl)) | (refine wpList_store_row rfl 25 _ _ rfl (w.heap.size + 1 + 1 + 1 + 1) #[.slice v1.code.a v1.code.len v1.code.cap, .int .i64 m.pc, .slice v1.regs.a v1.regs.len v1.regs.cap, .slice v1.data.a v1.data.len v1.data.cap, .slice v1.stk.a v1.stk.len v1.stk.cap, .slice v1.inp.a v1.inp.len v1.inp.cap, .slice v1.out.a v1.out.len v1.out.cap, .int .i64 m.steps, .int .i64 m.fin, .int .i64 m.val] ?hx ?hy 25 #[.slice none 0 0, .int .i64 0, .slice none 0 0, .slice none 0 0, .slice none 0 0, .slice none 0 0, .slice none 0 0, .int .i64 0, .int .i64 0, .int .i64 0] ?hg ?hi ?ho ?h1 ?_; (case hx => rfl); (case hy => rfl); (case hg => exact EV.out); (case hi => kernel_rfl); (case ho => kernel_rfl); (case h1 => kernel_rfl); refine Hid.out ?_))
  unfold Hid
  go_wp2_with fail
  have OF : MOwn u0.heap.size (V.setRow (w.heap.size + 1 + 1 + 1 + 1) #[.slice v1.code.a v1.code.len v1.code.cap, .int .i64 m.pc, .slice v1.regs.a v1.regs.len v1.regs.cap, .slice v1.data.a v1.data.len v1.data.cap, .slice v1.stk.a v1.stk.len v1.stk.cap, .slice v1.inp.a v1.inp.len v1.inp.cap, .slice v1.out.a v1.out.len v1.out.cap, .int .i64 m.steps, .int .i64 m.fin, .int .i64 m.val]) v1 { m with data := Pl.stk_ m.data p x size } := OV.out.same ((Above.refl u0.heap.size V).setRow (show w.heap.size + 1 + 1 + 1 + 1 < u0.heap.size by have := ZU.out; omega) _) (Nat.le_refl _)
  have OL : MOwn w.heap.size (V.setRow (w.heap.size + 1 + 1 + 1 + 1) #[.slice v1.code.a v1.code.len v1.code.cap, .int .i64 m.pc, .slice v1.regs.a v1.regs.len v1.regs.cap, .slice v1.data.a v1.data.len v1.data.cap, .slice v1.stk.a v1.stk.len v1.stk.cap, .slice v1.inp.a v1.inp.len v1.inp.cap, .slice v1.out.a v1.out.len v1.out.cap, .int .i64 m.steps, .int .i64 m.fin, .int .i64 m.val]) v1 { m with data := Pl.stk_ m.data p x size } := OF.lower (by have := ZU.out; omega)
  refine bodyPost_ret (v := .tuple #[.agg #[.slice v1.code.a v1.code.len v1.code.cap, .int .i64 m.pc, .slice v1.regs.a v1.regs.len v1.regs.cap, .slice v1.data.a v1.data.len v1.data.cap, .slice v1.stk.a v1.stk.len v1.stk.cap, .slice v1.inp.a v1.inp.len v1.inp.cap, .slice v1.out.a v1.out.len v1.out.cap, .int .i64 m.steps, .int .i64 m.fin, .int .i64 m.val], .int .i64 0]) ?_ rfl ⟨v1, rfl, OL, (SP.out.bounds OL (by have := ZU.out; have := ZV.out; simp; omega)), below_setRow BV.out (show w.heap.size ≤ w.heap.size + 1 + 1 + 1 + 1 by omega) _⟩
  refine results_cell_tmp3 Try.results7 _ _ (w.heap.size + 1 + 1 + 1 + 1) 25 #[.slice v1.code.a v1.code.len v1.code.cap, .int .i64 m.pc, .slice v1.regs.a v1.regs.len v1.regs.cap, .slice v1.data.a v1.data.len v1.data.cap, .slice v1.stk.a v1.stk.len v1.stk.cap, .slice v1.inp.a v1.inp.len v1.inp.cap, .slice v1.out.a v1.out.len v1.out.cap, .int .i64 m.steps, .int .i64 m.fin, .int .i64 m.val] (0, 0) _ (.int .i64 0) ?hp ?hq ?hg Try.underlying25 ?hd ?hi
  case hp => rfl
  case hq => rfl
  case hg => exact setRow_heap _ _ _ _ _ _ EV.out
  case hd => rfl
  case hi => kernel_rfl
set_option maxHeartbeats 8000000 in
theorem implStore_stack {lo : Nat} (v : MV) (m : Pl.Mac) (kind at_ x : Int) (w : World) (h : MOwn lo w v m) (hsz : Pl.mSize m ≤ 1048576) (hok : Pl.mOk m = true) (p size : Nat) (hs : 1 ≤ size ∧ size ≤ 4) (hxb : -9223372036854775808 ≤ x ∧ x ≤ 9223372036854775807) (hp2 : p + size ≤ m.stk.length) (HF : ∀ (v1 : MV) (g : Nat), v1.stk.a = some ⟨g, 0, none⟩ → v1.data.len = m.data.length → v1.stk.len = m.stk.length → v1.stk.len ≤ v1.stk.cap → v1.stk.cap ≤ 9223372036854775807 → ∀ W, Calls Try.prog 61 #[.agg #[.iface 88 (.slice v1.data.a v1.data.len v1.data.cap), .iface 89 (.slice v1.stk.a v1.stk.len v1.stk.cap)], .int .i64 kind, .int .i64 at_] W fun e w' => e = .returned (.slice (some ⟨g, 0 + p, none⟩) size (v1.stk.cap - p)) ∧ Below W.heap.size W w') :
    Calls Try.prog 7 #[.agg #[.slice v.code.a v.code.len v.code.cap, .int .i64 m.pc, .slice v.regs.a v.regs.len v.regs.cap, .slice v.data.a v.data.len v.data.cap, .slice v.stk.a v.stk.len v.stk.cap, .slice v.inp.a v.inp.len v.inp.cap, .slice v.out.a v.out.len v.out.cap, .int .i64 m.steps, .int .i64 m.fin, .int .i64 m.val], .int .i64 kind, .int .i64 at_, .int .i64 x] w fun e w' => ∃ v1 : MV, e = .returned (.tuple #[.agg #[.slice v1.code.a v1.code.len v1.code.cap, .int .i64 m.pc, .slice v1.regs.a v1.regs.len v1.regs.cap, .slice v1.data.a v1.data.len v1.data.cap, .slice v1.stk.a v1.stk.len v1.stk.cap, .slice v1.inp.a v1.inp.len v1.inp.cap, .slice v1.out.a v1.out.len v1.out.cap, .int .i64 m.steps, .int .i64 m.fin, .int .i64 m.val], .int .i64 0]) ∧ MOwn w.heap.size w' v1 { m with stk := Pl.stk_ m.stk p x size } ∧ (∃ t0 t6, MSepAt t0 t6 v1 ∧ w.heap.size ≤ t0 ∧ t6 ≤ w'.heap.size) ∧ Below w.heap.size w w' := by
  have HH : Hid (MOwn lo w v m) := h
  have HFF : Hid _ := HF
  clear h HF
  have P0 : Hid ((((((w.alloc (.cells #[.slice v.code.a v.code.len v.code.cap, .int .i64 m.pc, .slice v.regs.a v.regs.len v.regs.cap, .slice v.data.a v.data.len v.data.cap, .slice v.stk.a v.stk.len v.stk.cap, .slice v.inp.a v.inp.len v.inp.cap, .slice v.out.a v.out.len v.out.cap, .int .i64 m.steps, .int .i64 m.fin, .int .i64 m.val] 25)).alloc (.cells #[.int .i64 kind] 3)).alloc (.cells #[.int .i64 at_] 3)).alloc (.cells #[.int .i64 x] 3)).alloc (.cells #[.slice none 0 0, .int .i64 0, .slice none 0 0, .slice none 0 0, .slice none 0 0, .slice none 0 0, .slice none 0 0, .int .i64 0, .int .i64 0, .int .i64 0] 25)).heap[w.heap.size]? = some (.cells #[.slice v.code.a v.code.len v.code.cap, .int .i64 m.pc, .slice v.regs.a v.regs.len v.regs.cap, .slice v.data.a v.data.len v.data.cap, .slice v.stk.a v.stk.len v.stk.cap, .slice v.inp.a v.inp.len v.inp.cap, .slice v.out.a v.out.len v.out.cap, .int .i64 m.steps, .int .i64 m.fin, .int .i64 m.val] 25)) := (Below.heap_alloc _ _ _ (by simp <;> omega)).trans ((Below.heap_alloc _ _ _ (by simp <;> omega)).trans ((Below.heap_alloc _ _ _ (by simp <;> omega)).trans ((Below.heap_alloc _ _ _ (by simp)).trans (heap_alloc_new w _))))
  go_enter Try.func7, Try.ntmps7
  go_wp2_with (refine wpList_load_row rfl 25 _ rfl (w.heap.size) ?hx 25 #[.slice v.code.a v.code.len v.code.cap, .int .i64 m.pc, .slice v.regs.a v.regs.len v.regs.cap, .slice v.data.a v.data.len v.data.cap, .slice v.stk.a v.stk.len v.stk.cap, .slice v.inp.a v.inp.len v.inp.cap, .slice v.out.a v.out.len v.out.cap, .int .i64 m.steps, .int .i64 m.fin, .int .i64 m.val] (0, 0) _ ?hg Try.underlying25 ?hd ?hi ?_; (case hx => rfl); (case hg => exact P0.out); (case hd => rfl); (case hi => kernel_rfl))
  refine calls_at fun u0 hu0 => ?_
  have K0 : Hid (u0.heap[w.heap.size + 1]? = some (.cells #[.int .i64 kind] 3)) := by
    show u0.heap[w.heap.size + 1]? = _
    rw [hu0, Below.heap_alloc _ _ _ (by simp <;> omega), Below.heap_alloc _ _ _ (by simp <;> omega), Below.heap_alloc _ _ _ (by simp)]
    have := heap_alloc_new (w.alloc (.cells #[.slice v.code.a v.code.len v.code.cap, .int .i64 m.pc, .slice v.regs.a v.regs.len v.regs.cap, .slice v.data.a v.data.len v.data.cap, .slice v.stk.a v.stk.len v.stk.cap, .slice v.inp.a v.inp.len v.inp.cap, .slice v.out.a v.out.len v.out.cap, .int .i64 m.steps, .int .i64 m.fin, .int .i64 m.val] 25)) (.cells #[.int .i64 kind] 3)
    simpa using this
  have A0 : Hid (u0.heap[w.heap.size + 1 + 1]? = some (.cells #[.int .i64 at_] 3)) := by
    show u0.heap[w.heap.size + 1 + 1]? = _
    rw [hu0, Below.heap_alloc _ _ _ (by simp <;> omega), Below.heap_alloc _ _ _ (by simp)]
    have := heap_alloc_new ((w.alloc (.cells #[.slice v.code.a v.code.len v.code.cap, .int .i64 m.pc, .slice v.regs.a v.regs.len v.regs.cap, .slice v.data.a v.data.len v.data.cap, .slice v.stk.a v.stk.len v.stk.cap, .slice v.inp.a v.inp.len v.inp.cap, .slice v.out.a v.out.len v.out.cap, .int .i64 m.steps, .int .i64 m.fin, .int .i64 m.val] 25)).alloc (.cells #[.int .i64 kind] 3)) (.cells #[.int .i64 at_] 3)
    simpa using this
  have X0 : Hid (u0.heap[w.heap.size + 1 + 1 + 1]? = some (.cells #[.int .i64 x] 3)) := by
    show u0.heap[w.heap.size + 1 + 1 + 1]? = _
    rw [hu0, Below.heap_alloc _ _ _ (by simp)]
    have := heap_alloc_new (((w.alloc (.cells #[.slice v.code.a v.code.len v.code.cap, .int .i64 m.pc, .slice v.regs.a v.regs.len v.regs.cap, .slice v.data.a v.data.len v.data.cap, .slice v.stk.a v.stk.len v.stk.cap, .slice v.inp.a v.inp.len v.inp.cap, .slice v.out.a v.out.len v.out.cap, .int .i64 m.steps, .int .i64 m.fin, .int .i64 m.val] 25)).alloc (.cells #[.int .i64 kind] 3)).alloc (.cells #[.int .i64 at_] 3)) (.cells #[.int .i64 x] 3)
    simpa using this
  have E0 : Hid (u0.heap[w.heap.size + 1 + 1 + 1 + 1]? = some (.cells #[.slice none 0 0, .int .i64 0, .slice none 0 0, .slice none 0 0, .slice none 0 0, .slice none 0 0, .slice none 0 0, .int .i64 0, .int .i64 0, .int .i64 0] 25)) := by
    show u0.heap[w.heap.size + 1 + 1 + 1 + 1]? = _
    rw [hu0]
    have := heap_alloc_new ((((w.alloc (.cells #[.slice v.code.a v.code.len v.code.cap, .int .i64 m.pc, .slice v.regs.a v.regs.len v.regs.cap, .slice v.data.a v.data.len v.data.cap, .slice v.stk.a v.stk.len v.stk.cap, .slice v.inp.a v.inp.len v.inp.cap, .slice v.out.a v.out.len v.out.cap, .int .i64 m.steps, .int .i64 m.fin, .int .i64 m.val] 25)).alloc (.cells #[.int .i64 kind] 3)).alloc (.cells #[.int .i64 at_] 3)).alloc (.cells #[.int .i64 x] 3)) (.cells #[.slice none 0 0, .int .i64 0, .slice none 0 0, .slice none 0 0, .slice none 0 0, .slice none 0 0, .slice none 0 0, .int .i64 0, .int .i64 0, .int .i64 0] 25)
    simpa using this
  have B0 : Hid (Below w.heap.size w u0) := by show Below w.heap.size w u0; rw [hu0]; exact (((((Below.refl _ _).alloc (Nat.le_refl _) _).alloc (by simp) _).alloc (by simp <;> omega) _).alloc (by simp <;> omega) _).alloc (by simp <;> omega) _
  have Z0 : Hid (u0.heap.size = w.heap.size + 5) := by show u0.heap.size = w.heap.size + 5; rw [hu0]; simp
  rw [← hu0] at P0
  clear hu0
  refine (copyMachine_any v m u0 (HH.out.keep B0.out) hsz).mono ?_
  rintro e u1 ⟨v1, rfl, o1, sp1, d1⟩
  have O1 : Hid (MOwn u0.heap.size u1 v1 m) := o1
  have SP : Hid (MSep v1) := sp1
  have P1 : Hid (u1.heap[w.heap.size]? = some (.cells #[.slice v.code.a v.code.len v.code.cap, .int .i64 m.pc, .slice v.regs.a v.regs.len v.regs.cap, .slice v.data.a v.data.len v.data.cap, .slice v.stk.a v.stk.len v.stk.cap, .slice v.inp.a v.inp.len v.inp.cap, .slice v.out.a v.out.len v.out.cap, .int .i64 m.steps, .int .i64 m.fin, .int .i64 m.val] 25)) := (d1.block _ (by have := Z0.out; omega)).trans P0.out
  have K1 : Hid (u1.heap[w.heap.size + 1]? = some (.cells #[.int .i64 kind] 3)) := (d1.block _ (by have := Z0.out; omega)).trans K0.out
  have A1 : Hid (u1.heap[w.heap.size + 1 + 1]? = some (.cells #[.int .i64 at_] 3)) := (d1.block _ (by have := Z0.out; omega)).trans A0.out
  have X1 : Hid (u1.heap[w.heap.size + 1 + 1 + 1]? = some (.cells #[.int .i64 x] 3)) := (d1.block _ (by have := Z0.out; omega)).trans X0.out
  have E1 : Hid (u1.heap[w.heap.size + 1 + 1 + 1 + 1]? = some (.cells #[.slice none 0 0, .int .i64 0, .slice none 0 0, .slice none 0 0, .slice none 0 0, .slice none 0 0, .slice none 0 0, .int .i64 0, .int .i64 0, .int .i64 0] 25)) := (d1.block _ (by have := Z0.out; omega)).trans E0.out
  have B1 : Hid (Below w.heap.size w u1) := B0.out.trans (d1.mono (by have := Z0.out; omega))
  have Z1 : Hid (w.heap.size + 5 ≤ u1.heap.size ∧ u0.heap.size = w.heap.size + 5) := ⟨by have := Z0.out; have := d1.size; omega, Z0.out⟩
  clear o1 sp1 d1 P0 K0 A0 X0 E0 B0 Z0 HH
  go_wp2_with (refine wpList_store_row rfl 25 _ _ rfl (w.heap.size) #[.slice v1.code.a v1.code.len v1.code.cap, .int .i64 m.pc, .slice v1.regs.a v1.regs.len v1.regs.cap, .slice v1.data.a v1.data.len v1.data.cap, .slice v1.stk.a v1.stk.len v1.stk.cap, .slice v1.inp.a v1.inp.len v1.inp.cap, .slice v1.out.a v1.out.len v1.out.cap, .int .i64 m.steps, .int .i64 m.fin, .int .i64 m.val] ?hx ?hy 25 #[.slice v.code.a v.code.len v.code.cap, .int .i64 m.pc, .slice v.regs.a v.regs.len v.regs.cap, .slice v.data.a v.data.len v.data.cap, .slice v.stk.a v.stk.len v.stk.cap, .slice v.inp.a v.inp.len v.inp.cap, .slice v.out.a v.out.len v.out.cap, .int .i64 m.steps, .int .i64 m.fin, .int .i64 m.val] ?hg ?hi ?ho ?h1 ?_; (case hx => rfl); (case hy => rfl); (case hg => exact P1.out); (case hi => kernel_rfl); (case ho => kernel_rfl); (case h1 => kernel_rfl); refine Hid.out ?_)
  unfold Hid
  refine wpList_at fun u2 hu2 => ?_
  have P2 : Hid (u2.heap[w.heap.size]? = some (.cells #[.slice v1.code.a v1.code.len v1.code.cap, .int .i64 m.pc, .slice v1.regs.a v1.regs.len v1.regs.cap, .slice v1.data.a v1.data.len v1.data.cap, .slice v1.stk.a v1.stk.len v1.stk.cap, .slice v1.inp.a v1.inp.len v1.inp.cap, .slice v1.out.a v1.out.len v1.out.cap, .int .i64 m.steps, .int .i64 m.fin, .int .i64 m.val] 25)) := by show u2.heap[w.heap.size]? = _; rw [hu2]; exact setRow_heap _ _ _ _ _ _ P1.out
  have K2 : Hid (u2.heap[w.heap.size + 1]? = some (.cells #[.int .i64 kind] 3)) := by show u2.heap[w.heap.size + 1]? = _; rw [hu2]; exact (setRow_other _ _ _ _ (by omega)).trans K1.out
  have A2 : Hid (u2.heap[w.heap.size + 1 + 1]? = some (.cells #[.int .i64 at_] 3)) := by show u2.heap[w.heap.size + 1 + 1]? = _; rw [hu2]; exact (setRow_other _ _ _ _ (by omega)).trans A1.out
  have X2 : Hid (u2.heap[w.heap.size + 1 + 1 + 1]? = some (.cells #[.int .i64 x] 3)) := by show u2.heap[w.heap.size + 1 + 1 + 1]? = _; rw [hu2]; exact (setRow_other _ _ _ _ (by omega)).trans X1.out
  have E2 : Hid (u2.heap[w.heap.size + 1 + 1 + 1 + 1]? = some (.cells #[.slice none 0 0, .int .i64 0, .slice none 0 0, .slice none 0 0, .slice none 0 0, .slice none 0 0, .slice none 0 0, .int .i64 0, .int .i64 0, .int .i64 0] 25)) := by show u2.heap[w.heap.size + 1 + 1 + 1 + 1]? = _; rw [hu2]; exact (setRow_other _ _ _ _ (by omega)).trans E1.out
  have B2 : Hid (Below w.heap.size w u2) := by show Below w.heap.size w u2; rw [hu2]; exact below_setRow B1.out (Nat.le_refl _) _
  have Z2 : Hid (w.heap.size + 5 ≤ u2.heap.size ∧ u0.heap.size = w.heap.size + 5) := by show w.heap.size + 5 ≤ u2.heap.size ∧ u0.heap.size = w.heap.size + 5; rw [hu2]; have := Z1.out; simpa using this
  have O2 : Hid (MOwn u0.heap.size u2 v1 m) := by
    have ab : Above u0.heap.size u1 u2 := by rw [hu2]; exact (Above.refl _ _).setRow (show w.heap.size < u0.heap.size by have := Z1.out; omega) _
    have o := O1.out
    exact ⟨o.1.same ab (Nat.le_refl _), o.2.1.same ab (Nat.le_refl _), o.2.2.1.same ab (Nat.le_refl _), o.2.2.2.1.same ab (Nat.le_refl _), o.2.2.2.2.1.same ab (Nat.le_refl _), o.2.2.2.2.2.same ab (Nat.le_refl _)⟩
  clear hu2 P1 K1 A1 X1 E1 B1 Z1 O1
  go_wp2_with (refine wpList_load_row rfl 25 _ rfl (w.heap.size) ?hx 25 #[.slice v1.code.a v1.code.len v1.code.cap, .int .i64 m.pc, .slice v1.regs.a v1.regs.len v1.regs.cap, .slice v1.data.a v1.data.len v1.data.cap, .slice v1.stk.a v1.stk.len v1.stk.cap, .slice v1.inp.a v1.inp.len v1.inp.cap, .slice v1.out.a v1.out.len v1.out.cap, .int .i64 m.steps, .int .i64 m.fin, .int .i64 m.val] (0, 0) _ ?hg Try.underlying25 ?hd ?hi ?_; (case hx => rfl); (case hg => exact P2.out); (case hd => rfl); (case hi => kernel_rfl))
  refine (implMachineOk_any v1 m u2 O2.out.is).mono ?_
  rintro e u3 ⟨rfl, d3⟩
  rw [hok]
  have P3 : Hid (u3.heap[w.heap.size]? = some (.cells #[.slice v1.code.a v1.code.len v1.code.cap, .int .i64 m.pc, .slice v1.regs.a v1.regs.len v1.regs.cap, .slice v1.data.a v1.data.len v1.data.cap, .slice v1.stk.a v1.stk.len v1.stk.cap, .slice v1.inp.a v1.inp.len v1.inp.cap, .slice v1.out.a v1.out.len v1.out.cap, .int .i64 m.steps, .int .i64 m.fin, .int .i64 m.val] 25)) := (d3.block _ (by have := Z2.out; omega)).trans P2.out
  have K3 : Hid (u3.heap[w.heap.size + 1]? = some (.cells #[.int .i64 kind] 3)) := (d3.block _ (by have := Z2.out; omega)).trans K2.out
  have A3 : Hid (u3.heap[w.heap.size + 1 + 1]? = some (.cells #[.int .i64 at_] 3)) := (d3.block _ (by have := Z2.out; omega)).trans A2.out
  have X3 : Hid (u3.heap[w.heap.size + 1 + 1 + 1]? = some (.cells #[.int .i64 x] 3)) := (d3.block _ (by have := Z2.out; omega)).trans X2.out
  have E3 : Hid (u3.heap[w.heap.size + 1 + 1 + 1 + 1]? = some (.cells #[.slice none 0 0, .int .i64 0, .slice none 0 0, .slice none 0 0, .slice none 0 0, .slice none 0 0, .slice none 0 0, .int .i64 0, .int .i64 0, .int .i64 0] 25)) := (d3.block _ (by have := Z2.out; omega)).trans E2.out
  have B3 : Hid (Below w.heap.size w u3) := B2.out.trans (d3.mono (by have := Z2.out; omega))
  have Z3 : Hid (w.heap.size + 5 ≤ u3.heap.size ∧ u0.heap.size = w.heap.size + 5) := ⟨by have := Z2.out; have := d3.size; omega, Z2.out.2⟩
  have O3 : Hid (MOwn u0.heap.size u3 v1 m) := O2.out.keep d3
  clear d3 P2 K2 A2 X2 E2 B2 Z2 O2
  have hmf : ∀ (fn : Fn) (first cap : Array Value) (w : World), (Instr.makeFunc fn first cap).run Try.prog w = .ok (.func fn first cap) w := fun _ _ _ _ => rfl
  go_wp2_with fail
  obtain ⟨U, hU⟩ : ∃ U, U = u3.alloc (.cells #[.int .i64 0] 3) := ⟨_, rfl⟩
  have dU : Below u3.heap.size u3 U := by rw [hU]; exact below_alloc u3 _
  have CU : Hid (U.heap[u3.heap.size]? = some (.cells #[.int .i64 0] 3) ∧ u3.heap.size < U.heap.size) := by rw [hU]; exact ⟨heap_alloc_new u3 _, by simp⟩
  have PU : U.heap[w.heap.size]? = some (.cells #[.slice v1.code.a v1.code.len v1.code.cap, .int .i64 m.pc, .slice v1.regs.a v1.regs.len v1.regs.cap, .slice v1.data.a v1.data.len v1.data.cap, .slice v1.stk.a v1.stk.len v1.stk.cap, .slice v1.inp.a v1.inp.len v1.inp.cap, .slice v1.out.a v1.out.len v1.out.cap, .int .i64 m.steps, .int .i64 m.fin, .int .i64 m.val] 25) := (dU.block _ (by have := Z3.out; omega)).trans P3.out
  have KU : U.heap[w.heap.size + 1]? = some (.cells #[.int .i64 kind] 3) := (dU.block _ (by have := Z3.out; omega)).trans K3.out
  have AU : U.heap[w.heap.size + 1 + 1]? = some (.cells #[.int .i64 at_] 3) := (dU.block _ (by have := Z3.out; omega)).trans A3.out
  have XU : U.heap[w.heap.size + 1 + 1 + 1]? = some (.cells #[.int .i64 x] 3) := (dU.block _ (by have := Z3.out; omega)).trans X3.out
  have EU : U.heap[w.heap.size + 1 + 1 + 1 + 1]? = some (.cells #[.slice none 0 0, .int .i64 0, .slice none 0 0, .slice none 0 0, .slice none 0 0, .slice none 0 0, .slice none 0 0, .int .i64 0, .int .i64 0, .int .i64 0] 25) := (dU.block _ (by have := Z3.out; omega)).trans E3.out
  have BU : Hid (Below w.heap.size w U) := B3.out.trans (dU.mono (by have := Z3.out; omega))
  have OU : Hid (MOwn u0.heap.size U v1 m) := O3.out.keep dU
  have ZU : Hid (w.heap.size + 5 ≤ U.heap.size ∧ w.heap.size + 5 ≤ u3.heap.size ∧ u0.heap.size = w.heap.size + 5) := ⟨by have := Z3.out; have := dU.size; omega, Z3.out.1, Z3.out.2⟩
  obtain ⟨t0, t1, t2, t3, t4, t5, t6, s0, s1, s2, s3, s4, s5, q0, q1, q2, q3, q4, q5⟩ := SP.out
  have rw_ := OU.out.2.2.2.1.row
  have e1 := OU.out.2.2.1.row.1
  have e2 := OU.out.2.2.2.1.row.1
  have hz : ∀ n ∈ m.stk, 0 ≤ n ∧ n ≤ 255 := fun n hn => bounds_u8 (rw_.2.2.2.1 n hn)
  have hcap := rw_.2.2.1
  unfold maxLen at hcap
  obtain ⟨g, hadr⟩ : ∃ g, v1.stk.a = some ⟨g, 0, none⟩ := by
    rcases OU.out.2.2.2.1.1.2 with ⟨h0, h1⟩ | ⟨g, _, _, h0, _⟩
    · omega
    · simp only [Value.slice.injEq] at h0; exact ⟨g, h0.1⟩
  have hg3 : u0.heap.size ≤ g ∧ g < u3.heap.size := O3.out.2.2.2.1.span (Nat.le_refl _) ⟨g, 0, none⟩ hadr
  have HFW := HFF.out v1 g hadr e1.symm e2.symm rw_.2.1 hcap
  have HL : Hid (∀ W, Below U.heap.size U W → Calls Try.prog 31 #[.agg #[.iface 88 (.slice v1.data.a v1.data.len v1.data.cap), .iface 89 (.slice v1.stk.a v1.stk.len v1.stk.cap)], .int .i64 kind, .int .i64 at_, .int .i64 x] W fun e w' => e = .returned (.tuple #[]) ∧ ∃ u, Below W.heap.size W u ∧ Touch (some ⟨g, 0, none⟩) u w' ∧ Own .u8 5 u0.heap.size w' (some ⟨g, 0, none⟩) v1.stk.len v1.stk.cap (Pl.stk_ m.stk p x size)) := fun W hW => by
    have ow := OU.out.2.2.2.1.keep hW
    rw [hadr] at ow
    exact store_good _ _ _ _ _ _ kind at_ x g p size v1.stk.cap (v1.stk.cap - p) v1.stk.len m.stk hs hxb (by omega) (by omega) W hz ow HFW
  have HX := store1_good v1 m kind at_ x w.heap.size (w.heap.size + 1) (w.heap.size + 1 + 1) (w.heap.size + 1 + 1 + 1) U PU KU AU XU (fun W w' => ∃ u, Below W.heap.size W u ∧ Touch (some ⟨g, 0, none⟩) u w' ∧ Own .u8 5 u0.heap.size w' (some ⟨g, 0, none⟩) v1.stk.len v1.stk.cap (Pl.stk_ m.stk p x size)) HL
  refine (faultOf_goodS _ u3 (fun w' => ∃ u, Below U.heap.size U u ∧ Touch (some ⟨g, 0, none⟩) u w' ∧ Own .u8 5 u0.heap.size w' (some ⟨g, 0, none⟩) v1.stk.len v1.stk.cap (Pl.stk_ m.stk p x size)) (by
    rw [← hU]
    refine HX.mono ?_
    rintro e w' ⟨rfl, W, hW, u, hu, ht, ow⟩
    exact ⟨rfl, u, hW.trans (hu.mono hW.size), ht, ow⟩) (fun y hy => by
    obtain ⟨u, hu, ht, _⟩ := hy
    exact (ht.block _ (fun ad had => by simp at had; subst had; show u3.heap.size ≠ g; omega)).trans ((hu.block _ CU.out.2).trans CU.out.1))).mono ?_
  rintro e u4 ⟨rfl, y, ⟨u, hu, ht, ow⟩, rfl⟩
  obtain ⟨V, hV⟩ : ∃ V, V = y.setCell ⟨u3.heap.size, 0, none⟩ (.int .i64 0) := ⟨_, rfl⟩
  rw [← hV]
  have kp : ∀ b, b < w.heap.size + 5 → V.heap[b]? = U.heap[b]? := fun b hb => by
    rw [hV, Below.heap_setCell _ _ _ _ (show b ≠ u3.heap.size by have := ZU.out; omega), ht.block b (fun ad had => by simp at had; subst had; show b ≠ g; have := ZU.out; omega), hu.block b (by have := ZU.out; omega)]
  have PV : Hid (V.heap[w.heap.size]? = some (.cells #[.slice v1.code.a v1.code.len v1.code.cap, .int .i64 m.pc, .slice v1.regs.a v1.regs.len v1.regs.cap, .slice v1.data.a v1.data.len v1.data.cap, .slice v1.stk.a v1.stk.len v1.stk.cap, .slice v1.inp.a v1.inp.len v1.inp.cap, .slice v1.out.a v1.out.len v1.out.cap, .int .i64 m.steps, .int .i64 m.fin, .int .i64 m.val] 25)) := (kp _ (by omega)).trans PU
  have EV : Hid (V.heap[w.heap.size + 1 + 1 + 1 + 1]? = some (.cells #[.slice none 0 0, .int .i64 0, .slice none 0 0, .slice none 0 0, .slice none 0 0, .slice none 0 0, .slice none 0 0, .int .i64 0, .int .i64 0, .int .i64 0] 25)) := (kp _ (by omega)).trans EU
  have ys : U.heap.size ≤ y.heap.size := by rw [ht.size]; exact hu.size
  have zs_ : V.heap.size = y.heap.size := by rw [hV]; simp
  have BV : Hid (Below w.heap.size w V) := BU.out.trans ⟨by rw [hV]; exact ht.os.trans hu.os, by rw [hV]; exact ht.tape.trans hu.tape, by rw [hV]; exact ht.output.trans hu.output, by rw [zs_]; exact ys, fun b hb => kp b (by omega)⟩
  have ZV : Hid (u3.heap.size < V.heap.size) := by show u3.heap.size < V.heap.size; have := CU.out.2; omega
  have tr : Touch v1.stk.a u y := by rw [hadr]; exact ht
  have OV : Hid (MOwn u0.heap.size V v1 { m with stk := Pl.stk_ m.stk p x size }) := by
    have ou := O3.out
    have b3 : Below u3.heap.size u3 u := dU.trans (hu.mono dU.size)
    rw [← hadr] at ow
    show MOwn u0.heap.size V v1 { m with stk := Pl.stk_ m.stk p x size }
    rw [hV]
    exact ⟨((ou.1.keep b3).untouched s0 s3 (by omega) tr).past (O3.out.1.span (Nat.le_refl _)) (Nat.le_refl _), ((ou.2.1.keep b3).untouched s1 s3 (by omega) tr).past (O3.out.2.1.span (Nat.le_refl _)) (Nat.le_refl _), ((ou.2.2.1.keep b3).untouched s2 s3 (by omega) tr).past (O3.out.2.2.1.span (Nat.le_refl _)) (Nat.le_refl _), ow.past (O3.out.2.2.2.1.span (Nat.le_refl _)) (Nat.le_refl _), ((ou.2.2.2.2.1.keep b3).untouched s4 s3 (by omega) tr).past (O3.out.2.2.2.2.1.span (Nat.le_refl _)) (Nat.le_refl _), ((ou.2.2.2.2.2.keep b3).untouched s5 s3 (by omega) tr).past (O3.out.2.2.2.2.2.span (Nat.le_refl _)) (Nat.le_refl _)⟩
  clear hV HX HL HFF HFW EU XU AU KU PU dU hU kp hadr e1 e2 rw_ hcap hz ow tr ht hu
  go_wp2_with (first | (refine wpList_load_row rfl 25 _ rfl (w.heap.size) ?hx 25 #[.slice v1.code.a v1.code.len v1.code.cap, .int .i64 m.pc, .slice v1.regs.a v1.regs.len v1.regs.cap, .slice v1.data.a v1.data.len v1.data.cap, .slice v1.stk.a v1.stk.len v1.stk.cap, .slice v1.inp.a v1.inp.len v1.inp.cap, .slice v1.out.a v1.out.len v1.out.cap, .int .i64 m.steps, .int .i64 m.fin, .int .i64 m.val] (0, 0) _ ?hg Try.underlying25 ?hd ?hi ?_; (case hx => rfl); (case hg => exact PV.out); (case hd => rfl); (case hi => kernel_rfl)) | (refine wpList_store_row rfl 25 _ _ rfl (w.heap.size + 1 + 1 + 1 + 1) #[.slice v1.code.a v1.code.len v1.code.cap, .int .i64 m.pc, .slice v1.regs.a v1.regs.len v1.regs.cap, .slice v1.data.a v1.data.len v1.data.cap, .slice v1.stk.a v1.stk.len v1.stk.cap, .slice v1.inp.a v1.inp.len v1.inp.cap, .slice v1.out.a v1.out.len v1.out.cap, .int .i64 m.steps, .int .i64 m.fin, .int .i64 m.val] ?hx ?hy 25 #[.slice none 0 0, .int .i64 0, .slice none 0 0, .slice none 0 0, .slice none 0 0, .slice none 0 0, .slice none 0 0, .int .i64 0, .int .i64 0, .int .i64 0] ?hg ?hi ?ho ?h1 ?_; (case hx => rfl); (case hy => rfl); (case hg => exact EV.out); (case hi => kernel_rfl); (case ho => kernel_rfl); (case h1 => kernel_rfl); refine Hid.out ?_))
  unfold Hid
  go_wp2_with fail
  have OF : MOwn u0.heap.size (V.setRow (w.heap.size + 1 + 1 + 1 + 1) #[.slice v1.code.a v1.code.len v1.code.cap, .int .i64 m.pc, .slice v1.regs.a v1.regs.len v1.regs.cap, .slice v1.data.a v1.data.len v1.data.cap, .slice v1.stk.a v1.stk.len v1.stk.cap, .slice v1.inp.a v1.inp.len v1.inp.cap, .slice v1.out.a v1.out.len v1.out.cap, .int .i64 m.steps, .int .i64 m.fin, .int .i64 m.val]) v1 { m with stk := Pl.stk_ m.stk p x size } := OV.out.same ((Above.refl u0.heap.size V).setRow (show w.heap.size + 1 + 1 + 1 + 1 < u0.heap.size by have := ZU.out; omega) _) (Nat.le_refl _)
  have OL : MOwn w.heap.size (V.setRow (w.heap.size + 1 + 1 + 1 + 1) #[.slice v1.code.a v1.code.len v1.code.cap, .int .i64 m.pc, .slice v1.regs.a v1.regs.len v1.regs.cap, .slice v1.data.a v1.data.len v1.data.cap, .slice v1.stk.a v1.stk.len v1.stk.cap, .slice v1.inp.a v1.inp.len v1.inp.cap, .slice v1.out.a v1.out.len v1.out.cap, .int .i64 m.steps, .int .i64 m.fin, .int .i64 m.val]) v1 { m with stk := Pl.stk_ m.stk p x size } := OF.lower (by have := ZU.out; omega)
  refine bodyPost_ret (v := .tuple #[.agg #[.slice v1.code.a v1.code.len v1.code.cap, .int .i64 m.pc, .slice v1.regs.a v1.regs.len v1.regs.cap, .slice v1.data.a v1.data.len v1.data.cap, .slice v1.stk.a v1.stk.len v1.stk.cap, .slice v1.inp.a v1.inp.len v1.inp.cap, .slice v1.out.a v1.out.len v1.out.cap, .int .i64 m.steps, .int .i64 m.fin, .int .i64 m.val], .int .i64 0]) ?_ rfl ⟨v1, rfl, OL, (SP.out.bounds OL (by have := ZU.out; have := ZV.out; simp; omega)), below_setRow BV.out (show w.heap.size ≤ w.heap.size + 1 + 1 + 1 + 1 by omega) _⟩
  refine results_cell_tmp3 Try.results7 _ _ (w.heap.size + 1 + 1 + 1 + 1) 25 #[.slice v1.code.a v1.code.len v1.code.cap, .int .i64 m.pc, .slice v1.regs.a v1.regs.len v1.regs.cap, .slice v1.data.a v1.data.len v1.data.cap, .slice v1.stk.a v1.stk.len v1.stk.cap, .slice v1.inp.a v1.inp.len v1.inp.cap, .slice v1.out.a v1.out.len v1.out.cap, .int .i64 m.steps, .int .i64 m.fin, .int .i64 m.val] (0, 0) _ (.int .i64 0) ?hp ?hq ?hg Try.underlying25 ?hd ?hi
  case hp => rfl
  case hq => rfl
  case hg => exact setRow_heap _ _ _ _ _ _ EV.out
  case hd => rfl
  case hi => kernel_rfl
end Go.Proofs.Ytfcfnbncgadomaa.W
