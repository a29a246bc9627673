import Derived.Test.YtcgfgmlfbgbkfaaGreatDoorQ11
import Derived.Test.YtcgfgmlfbgbkfaaGreatDoorL22
set_option linter.unusedVariables false
set_option linter.unusedSimpArgs false
namespace Go.Proofs.YtcgfgmlfbgbkfaaGreatDoor.Pl
open Classical in
/-- how many registers are told of -/
noncomputable def spN (f : IrF) : Nat := if funOk f then f.regs.toNat else 0
open Classical in
/-- what is told of each -/
noncomputable def spS (f : IrF) (r : Nat) : Sp := if h : ∃ s, SpanIs f r s then Classical.choose h else ⟨0, 0, false⟩
theorem spS_is {f : IrF} {r : Nat} {s : Sp} (h : SpanIs f r s) : spS f r = s := by
  have hx : ∃ s, SpanIs f r s := ⟨s, h⟩
  unfold spS
  rw [dif_pos hx]
  exact (Classical.choose_spec hx).fn h
theorem spN_le (f : IrF) : spN f ≤ 8000 := by
  unfold spN
  split
  · rename_i h; have := h.1.2.1.2; omega
  · omega
theorem spR (f : IrF) : f.regs = (f.regs.toNat : Int) ∨ ¬ funOk f := by
  by_cases h : funOk f
  · have h1 := h.1.1.1; have h2 := h.1.2.1.1; exact .inl (by omega)
  · exact .inr h
end Go.Proofs.YtcgfgmlfbgbkfaaGreatDoor.Pl
namespace Go.Proofs.YtcgfgmlfbgbkfaaGreatDoor.W
open Go.RowKit
theorem Tr.belowS {l h' B : Nat} {u w w' : World} (ht : Tr l h' w w') (hb : Below B u w) (hB : B ≤ l) (hu : B ≤ u.heap.size) : Below B u w' := ⟨ht.os.trans hb.os, ht.tape.trans hb.tape, ht.output.trans hb.output, Nat.le_trans hb.size ht.size, fun g hg => (ht.block g (by have := hb.size; omega) (.inl (by omega))).trans (hb.block g hg)⟩
/-- the document's Spans -/
theorem specSp_c {lo : Nat} (f : Pl.IrF) (v s : SV) (w : World) (h : FIs lo w v s f) : Calls Tryz.prog 15 #[.agg #[.string f.name, .int .i64 f.params, .int .i64 f.regs, .slice v.a v.len v.cap, .slice s.a s.len s.cap]] w fun e w' => (∃ a c, e = .returned (.slice a (Pl.spN f) c) ∧ RS w' a (Pl.spN f) (Pl.spS f)) ∧ Below w.heap.size w w' := by
  refine (specSp_is f v s f.regs.toNat w h (Pl.spR f)).mono fun e w' q => ?_
  obtain ⟨go, co, n, S, rfl, hr, hc, hb⟩ := q
  have hn : n = Pl.spN f := by
    unfold Pl.spN
    rcases hc with ⟨h1, h2⟩ | ⟨h1, h2, _⟩
    · rw [if_neg h1]; exact h2
    · rw [if_pos h1]; exact h2
  have hS : ∀ r, r < n → S r = Pl.spS f r := fun r hr => by
    rcases hc with ⟨_, h2⟩ | ⟨_, _, h3⟩
    · omega
    · exact (Pl.spS_is (h3 r hr)).symm
  rw [Pl.spV_congr hS] at hr
  subst hn
  exact ⟨⟨some ⟨go, 0, none⟩, co, rfl, (RO.own hr).rs (Pl.spN_le f)⟩, hb⟩
/-- the program's Spans -/
theorem implSp_c {lo : Nat} (f : Pl.IrF) (v s : SV) (w : World) (h : FIs lo w v s f) (hz : f.sized) (hwf : ∀ i, i < f.code.length → (Lit.int .i64 (f.code.getD i Pl.IrI.zero).n).wf = true) (hT : TabT w) : Calls Tryz.prog 16 #[.agg #[.string f.name, .int .i64 f.params, .int .i64 f.regs, .slice v.a v.len v.cap, .slice s.a s.len s.cap]] w fun e w' => (∃ a c, e = .returned (.slice a (Pl.spN f) c) ∧ RO w.heap.size w' a (Pl.spN f) (Pl.spS f)) ∧ Below w.heap.size w w' := by
  refine (implSp_is f v s f.regs.toNat w h (fun i hi => (hz.2.2.2 i hi).2) hwf hT (Pl.spR f)).mono fun e w' q => ?_
  obtain ⟨hb, ⟨h1, rfl⟩ | ⟨h1, go, S, rfl, hr, h2⟩⟩ := q
  · have hn : Pl.spN f = 0 := by unfold Pl.spN; rw [if_neg h1]
    exact ⟨⟨none, 0, by rw [hn], .inl hn⟩, hb⟩
  · have hn : Pl.spN f = f.regs.toNat := by unfold Pl.spN; rw [if_pos h1]
    refine ⟨⟨some ⟨go, 0, none⟩, f.regs.toNat, by rw [hn], ?_⟩, hb⟩
    rw [Pl.spV_congr (fun r hr => (Pl.spS_is (h2 r hr)).symm)] at hr
    rw [hn]
    exact RO.own hr
end Go.Proofs.YtcgfgmlfbgbkfaaGreatDoor.W
