import Derived.Test.YtcgfgmlfbgbkfaaGreatDoorQ09
import Derived.Test.YtcgfgmlfbgbkfaaGreatDoorL22
set_option linter.unusedVariables false
set_option linter.unusedSimpArgs false
namespace Go.Proofs.YtcgfgmlfbgbkfaaGreatDoor.W
open Go.RowKit
/-- what Spans gives, of the program -/
def SpP (w : World) (f : Pl.IrF) (R : Nat) (e : Ending) (w' : World) : Prop := Below w.heap.size w w' ∧ ((¬ Pl.funOk f ∧ e = .returned (.slice none 0 0)) ∨ (Pl.funOk f ∧ ∃ (go : Nat) (S : Nat → Pl.Sp), e = .returned (.slice (some ⟨go, 0, none⟩) R R) ∧ w'.ownsRow w.heap.size 73 3 (.slice (some ⟨go, 0, none⟩) R R) R (Pl.spV R S) ∧ ∀ r, r < R → Pl.SpanIs f r (S r)))
set_option maxRecDepth 100000 in
set_option maxHeartbeats 16000000 in
theorem implSp_no {lo : Nat} (f : Pl.IrF) (v s : SV) (R : Nat) (w : World) (h : FIs lo w v s f) (hal : ∀ i, i < f.code.length → (f.code.getD i Pl.IrI.zero).args.length ≤ 1048576) (hwf : ∀ i, i < f.code.length → (Lit.int .i64 (f.code.getD i Pl.IrI.zero).n).wf = true) (hf : ¬ Pl.funOk f) : Calls Tryz.prog 16 #[.agg #[.string f.name, .int .i64 f.params, .int .i64 f.regs, .slice v.a v.len v.cap, .slice s.a s.len s.cap]] w fun e w' => SpP w f R e w' := by
  have HRR : Hid (∀ u, Below w.heap.size w u → Calls Tryz.prog 32 #[.agg #[.string f.name, .int .i64 f.params, .int .i64 f.regs, .slice v.a v.len v.cap, .slice s.a s.len s.cap]] u fun e u' => e = .returned (.tuple #[.pointer none, .bool false]) ∧ Below u.heap.size u u') := fun u hu => (readRoutine_is f v s u (h.keep hu) hal hwf).mono fun e u' q => by
    rcases q.2 with ⟨_, z⟩ | ⟨z, _⟩
    · exact ⟨z, q.1⟩
    · exact absurd ((Pl.rr_fun f).1 z) hf
  have HN : Hid (¬ Pl.funOk f) := hf
  clear h hal hwf hf
  go_enter Tryz.func16, Tryz.ntmps16
  go_wp2_with fail
  refine ty_at fun u0 hu0 => ?_
  have H0 : Hid (Below w.heap.size w u0) := by rw [hu0]; exact below_alloc w _
  clear hu0
  refine (HRR.out u0 H0.out).mono ?_
  rintro e u1 ⟨rfl, d1⟩
  have H1 : Hid (Below w.heap.size w u1) := H0.out.trans (d1.mono H0.out.size)
  clear d1 H0 HRR
  go_wp2_with fail
  go_ret
  exact ⟨H1.out, .inl ⟨HN.out, rfl⟩⟩
set_option maxRecDepth 100000 in
set_option maxHeartbeats 16000000 in
theorem implSp_yes {lo : Nat} (f : Pl.IrF) (v s : SV) (R : Nat) (w : World) (h : FIs lo w v s f) (hal : ∀ i, i < f.code.length → (f.code.getD i Pl.IrI.zero).args.length ≤ 1048576) (hwf : ∀ i, i < f.code.length → (Lit.int .i64 (f.code.getD i Pl.IrI.zero).n).wf = true) (hT : TabT w) (hf : Pl.funOk f) (hR : f.regs = R) : Calls Tryz.prog 16 #[.agg #[.string f.name, .int .i64 f.params, .int .i64 f.regs, .slice v.a v.len v.cap, .slice s.a s.len s.cap]] w fun e w' => SpP w f R e w' := by
  have HRR : Hid (∀ u, Below w.heap.size w u → Calls Tryz.prog 32 #[.agg #[.string f.name, .int .i64 f.params, .int .i64 f.regs, .slice v.a v.len v.cap, .slice s.a s.len s.cap]] u fun e u' => ∃ gr gm nm g c P lab Y, e = .returned (.tuple #[.pointer (some ⟨gr, 0, none⟩), .bool true]) ∧ Below u.heap.size u u' ∧ Pl.LabK f.code f.code.length lab ∧ (∀ i, i < f.code.length → Row .i64 0 u' (Y i).a (Y i).len (Y i).cap (f.code.getD i Pl.IrI.zero).args) ∧ Rt u gr gm nm f v s (.slice (some ⟨g, 0, none⟩) f.code.length c) (stepsV f Y f.code.length) lab P ((List.range f.slots.length).map (Pl.rooms f.slots)) (Pl.upM (Pl.rooms f.slots f.slots.length) 16) u') := fun u hu => (readRoutine_is f v s u (h.keep hu) hal hwf).mono fun e u' q => by
    rcases q.2 with ⟨z, _⟩ | ⟨_, gr, gm, nm, S, P, lab, Y, e1, e2, e3, e4⟩
    · exact absurd ((Pl.rr_fun f).2 hf) z
    · have hsl : (stepsV f Y f.code.length).length = f.code.length := by simp [stepsV]
      have hst := e4.st
      rw [hsl] at hst
      obtain ⟨g, c, rfl, _, _⟩ := hst.form (by have := hf.1.2.2.2.1.1; omega)
      exact ⟨gr, gm, nm, g, c, P, lab, Y, e1, q.1, e2, fun i hi => (e3 i hi).keep q.1, e4⟩
  have HF : Hid (Pl.funOk f ∧ f.regs = R ∧ TabT w ∧ ∀ i, i < f.code.length → (Lit.int .i64 (f.code.getD i Pl.IrI.zero).n).wf = true) := ⟨hf, hR, hT, hwf⟩
  have hR2 : R ≤ 2000 := by have := hf.1.2.1.2; omega
  obtain ⟨n, hn⟩ : ∃ n, n = f.code.length := ⟨_, rfl⟩
  have hn8 : 1 ≤ n ∧ n ≤ 8000 := by rw [hn]; exact hf.1.2.2.2.1
  clear h hal hwf hf hR hT
  go_enter Tryz.func16, Tryz.ntmps16
  go_wp2_with fail
  refine ty_at fun u0 hu0 => ?_
  have H0 : Hid (Below w.heap.size w u0) := by rw [hu0]; exact below_alloc w _
  clear hu0
  refine (HRR.out u0 H0.out).mono ?_
  rintro e u1 ⟨gr, gm, nm, g, c, P, lab, Y, rfl, d1, hlab, hrows, hRt⟩
  have H1 : Hid (Below w.heap.size w u1 ∧ TabT u1) := by
    have hb := H0.out.trans (d1.mono H0.out.size)
    exact ⟨hb, HF.out.2.2.1.keep (block_lt_of_cell (HF.out.2.2.1 0 (by decide))) hb⟩
  have HSP : Hid (Calls Tryz.prog 41 #[.pointer (some ⟨gr, 0, none⟩)] u1 fun e w' => SpI u1 f R e w') := by
    have hsl : (stepsV f Y f.code.length).length = f.code.length := by simp [stepsV]
    have hst := hRt.st
    rw [hsl] at hst
    refine spans_is u1 gr g n c R f Y hn.symm (by rw [hn]; exact hRt.cell 5) (hRt.cell 1) (by rw [← HF.out.2.1]; exact hRt.cell 2) (hst.lt g rfl).2 (fun i hi => ?_) (fun i hi => ((HF.out.1.2.2.1 i (by omega)).1).1) hn8 hR2 H1.out.2 fun u hu => ?_
    · rw [hst.cellAt i (by omega)]
      unfold stepsV
      rw [List.getElem?_map, List.getElem?_range (by omega)]; rfl
    · have := newLiveness_is u (hRt.keep hu) HF.out.1 hlab HF.out.2.2.2 (fun i hi => (hrows i hi).keep hu) R HF.out.2.1
      unfold NlSaid at this
      rw [← hn] at this
      exact this
  clear hlab hrows hRt d1 HRR hn
  go_wp2_with fail
  refine (HSP.out).mono ?_
  rintro e u3 ⟨go, S, rfl, ow, hs, d3⟩
  have HE : Hid (SpP w f R (.returned (.slice (some ⟨go, 0, none⟩) R R)) u3) := ⟨H1.out.1.trans (d3.mono H1.out.1.size), .inr ⟨HF.out.1, go, S, rfl, own_lowL ow H1.out.1.size, hs⟩⟩
  clear ow hs d3
  go_wp2_with fail
  go_ret
  exact HE.out
theorem implSp_is {lo : Nat} (f : Pl.IrF) (v s : SV) (R : Nat) (w : World) (h : FIs lo w v s f) (hal : ∀ i, i < f.code.length → (f.code.getD i Pl.IrI.zero).args.length ≤ 1048576) (hwf : ∀ i, i < f.code.length → (Lit.int .i64 (f.code.getD i Pl.IrI.zero).n).wf = true) (hT : TabT w) (hR : f.regs = R ∨ ¬ Pl.funOk f) : Calls Tryz.prog 16 #[.agg #[.string f.name, .int .i64 f.params, .int .i64 f.regs, .slice v.a v.len v.cap, .slice s.a s.len s.cap]] w fun e w' => SpP w f R e w' := by
  by_cases hf : Pl.funOk f
  · exact implSp_yes f v s R w h hal hwf hT hf (hR.resolve_right (fun c => c hf))
  · exact implSp_no f v s R w h hal hwf hf
end Go.Proofs.YtcgfgmlfbgbkfaaGreatDoor.W
