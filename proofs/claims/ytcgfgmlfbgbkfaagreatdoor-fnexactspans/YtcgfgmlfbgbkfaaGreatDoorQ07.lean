import Derived.Test.YtcgfgmlfbgbkfaaGreatDoorQ06
set_option linter.unusedVariables false
set_option linter.unusedSimpArgs false
namespace Go.Proofs.YtcgfgmlfbgbkfaaGreatDoor.W
open Go.RowKit
/-- what Spans gives, of the document -/
def SpO (w : World) (f : Pl.IrF) (R : Nat) (e : Ending) (w' : World) : Prop := ∃ (go co n : Nat) (S : Nat → Pl.Sp), e = .returned (.slice (some ⟨go, 0, none⟩) n co) ∧ w'.ownsRow w.heap.size 73 3 (.slice (some ⟨go, 0, none⟩) n co) n (Pl.spV n S) ∧ ((¬ Pl.funOk f ∧ n = 0) ∨ (Pl.funOk f ∧ n = R ∧ ∀ r, r < n → Pl.SpanIs f r (S r))) ∧ Below w.heap.size w w'
set_option maxHeartbeats 8000000 in
set_option maxRecDepth 100000 in
theorem specSp_is {lo : Nat} (f : Pl.IrF) (v s : SV) (R : Nat) (w : World) (h : FIs lo w v s f) (hR : f.regs = R ∨ ¬ Pl.funOk f) : Calls Tryz.prog 15 #[.agg #[.string f.name, .int .i64 f.params, .int .i64 f.regs, .slice v.a v.len v.cap, .slice s.a s.len s.cap]] w fun e w' => SpO w f R e w' := by
  by_cases hf : Pl.funOk f
  · have HFO : Hid (∀ u, Below w.heap.size w u → Calls Tryz.prog 27 #[.agg #[.string f.name, .int .i64 f.params, .int .i64 f.regs, .slice v.a v.len v.cap, .slice s.a s.len s.cap]] u fun e u' => e = .returned (.bool true) ∧ Below u.heap.size u u') := fun u hu => (l10FunOk_any f v s u (h.keep hu)).mono fun e u' q => by
      obtain ⟨⟨b, rfl, hb⟩, d⟩ := q
      cases b with
      | false => exact absurd (hb.2 hf) (by decide)
      | true => exact ⟨rfl, d⟩
    have hR2 : f.regs = R := hR.resolve_right (fun c => c hf)
    have HSP : Hid (∀ u, Below w.heap.size w u → Calls Tryz.prog 40 #[.agg #[.string f.name, .int .i64 f.params, .int .i64 f.regs, .slice v.a v.len v.cap, .slice s.a s.len s.cap]] u fun e u' => SpSaid u f R e u') := fun u hu => l11Spans_any f v s R u (h.keep hu) hf hR2
    have HN : Hid (Pl.funOk f) := hf
    clear h hf hR hR2
    go_enter Tryz.func15, Tryz.ntmps15
    go_wp2_with fail
    refine ty_at fun u0 hu0 => ?_
    have H0 : Hid (Below w.heap.size w u0 ∧ u0.heap[w.heap.size]? = some (.cells #[.string f.name, .int .i64 f.params, .int .i64 f.regs, .slice v.a v.len v.cap, .slice s.a s.len s.cap] 31 (0, 0))) := by
      rw [hu0]
      exact ⟨below_alloc w _, heap_alloc_new w _⟩
    clear hu0
    refine (HFO.out u0 H0.out.1).mono ?_
    rintro e u1 ⟨rfl, d1⟩
    have H1 : Hid (Below w.heap.size w u1 ∧ u1.heap[w.heap.size]? = some (.cells #[.string f.name, .int .i64 f.params, .int .i64 f.regs, .slice v.a v.len v.cap, .slice s.a s.len s.cap] 31 (0, 0))) := ⟨H0.out.1.trans (d1.mono H0.out.1.size), (d1.block _ (Array.getElem?_eq_some_iff.1 H0.out.2).1).trans H0.out.2⟩
    clear d1 H0 HFO
    have ah := H1.out.2
    have a0 : u1.cell? ⟨w.heap.size, 0, none⟩ = some (.string f.name) := by rw [cell_of_row u1 _ 0 _ _ (0, 0) ah]; rfl
    have a1 : u1.cell? ⟨w.heap.size, 1, none⟩ = some (.int .i64 f.params) := by rw [cell_of_row u1 _ 1 _ _ (0, 0) ah]; rfl
    have a2 : u1.cell? ⟨w.heap.size, 2, none⟩ = some (.int .i64 f.regs) := by rw [cell_of_row u1 _ 2 _ _ (0, 0) ah]; rfl
    have a3 : u1.cell? ⟨w.heap.size, 3, none⟩ = some (.slice v.a v.len v.cap) := by rw [cell_of_row u1 _ 3 _ _ (0, 0) ah]; rfl
    have a4 : u1.cell? ⟨w.heap.size, 4, none⟩ = some (.slice s.a s.len s.cap) := by rw [cell_of_row u1 _ 4 _ _ (0, 0) ah]; rfl
    clear ah
    go_wp2_with fail
    refine (HSP.out u1 H1.out.1).mono ?_
    rintro e u2 ⟨go, co, S, rfl, ow, hs, d2⟩
    have HE : Hid (SpO w f R (.returned (.slice (some ⟨go, 0, none⟩) R co)) u2) := ⟨go, co, R, S, rfl, own_lowL ow H1.out.1.size, .inr ⟨HN.out, rfl, hs⟩, H1.out.1.trans (d2.mono H1.out.1.size)⟩
    clear ow hs d2 a0 a1 a2 a3 a4
    go_wp2_with fail
    go_ret
    exact HE.out
  · have HFO : Hid (∀ u, Below w.heap.size w u → Calls Tryz.prog 27 #[.agg #[.string f.name, .int .i64 f.params, .int .i64 f.regs, .slice v.a v.len v.cap, .slice s.a s.len s.cap]] u fun e u' => e = .returned (.bool false) ∧ Below u.heap.size u u') := fun u hu => (l10FunOk_any f v s u (h.keep hu)).mono fun e u' q => by
      obtain ⟨⟨b, rfl, hb⟩, d⟩ := q
      cases b with
      | false => exact ⟨rfl, d⟩
      | true => exact absurd (hb.1 rfl) hf
    have HN : Hid (¬ Pl.funOk f) := hf
    clear h hf hR
    go_enter Tryz.func15, Tryz.ntmps15
    go_wp2_with fail
    refine ty_at fun u0 hu0 => ?_
    have H0 : Hid (Below w.heap.size w u0) := by
      rw [hu0]
      exact below_alloc w _
    clear hu0
    refine (HFO.out u0 H0.out).mono ?_
    rintro e u1 ⟨rfl, d1⟩
    have H1 : Hid (Below w.heap.size w u1) := H0.out.trans (d1.mono H0.out.size)
    clear d1 H0 HFO
    go_wp2_with fail
    go_ret
    exact ⟨_, _, 0, fun _ => ⟨0, 0, false⟩, rfl, World.ownsRow_lit u1 #[] 0 H1.out.size (Nat.zero_le _) rfl, .inl ⟨HN.out, rfl⟩, H1.out.trans ((below_alloc u1 _).mono H1.out.size)⟩
end Go.Proofs.YtcgfgmlfbgbkfaaGreatDoor.W
