import Derived.Test.YtmnlhienhfmhdaaDoorRows
import Derived.Test.YtmnlhienhfmhdaaDoorCards
import Derived.Test.YtmnlhienhfmhdaaDoorTie
import Derived.Test.YtmnlhienhfmhdaaDoorWRegNumber
import Derived.WalkKit
import Derived.ProofKit
import Derived.LaidMore
import Derived.OpenShut
import Derived.ShutString
import Derived.OpenVars
import Derived.ChangeOld
import Derived.Stop.Joined
import Derived.Stop.LaidErr
import Derived.SevenTiedAt
namespace Go.Proofs.YtmnlhienhfmhdaaDoor.fnExactRegNumber
open Go.ChangeShapes Go.WideShapes Go.ChangeAt Go.RowKit
open Go.ChangeMaps (open_string shut_string)
set_option linter.unusedVariables false
theorem own : ownKnob Tryd.prog.godebug = none := by kernel_rfl
theorem laidOut : laidOutB Tryd.prog = true := by kernel_rfl
theorem tRegs : (Tryd.prog.globals[0]?).map (·.type) = some 39 := by kernel_rfl
theorem door_met (os : Os) (args : Array Value) : laidMetH Tryd.prog Rows.fnExactRegNumberRow.laid ((World.doorLaid Tryd.prog 400 os).forCall (fun _ _ => 0) ⟨#[], args, []⟩).memory :=
  laidMetH_of_parts3 (fuel := 8) (laidMet_of_run' 8 (by kernel_rfl) (by kernel_rfl)) (by kernel_rfl) (by kernel_rfl)
theorem regs_datum : Rows.laid_loop_example_s01681_impl_regNames (H := Unit) = .agg (Pl.regs.map fun r => .lit (.string r)) := rfl
theorem take_one {α : Type} {l : List α} {k : Nat} {c : α} (h : (l.drop k).take 1 = [c]) : l[k]? = some c := by
  have h2 := congrArg (fun x => x[0]?) h
  simpa using h2
theorem of_laid {W : World} (h : laidMetH Tryd.prog Rows.fnExactRegNumberRow.laid W) : Go.Proofs.YtmnlhienhfmhdaaDoor.W.RegsLie W := by
  rw [MakeChecks.laidMetH_plain _ _ _ (by kernel_rfl)] at h
  replace h := laidMet.tail (laidMet.tail (laidMet.tail h))
  obtain ⟨ps, ⟨g0, t0, cs0, f0, p0, q0, hg0, ht0, hv0, hd0, _, _⟩, _, _⟩ := h
  obtain rfl : 0 = g0 := Option.some.inj (Eq.trans (Eq.symm (by kernel_rfl)) hg0)
  obtain rfl := Option.some.inj (tRegs.symm.trans ht0)
  obtain ⟨xs, m1, rfl, hx1, hlen, hn, hel⟩ := DataW.trod_array Tryd.underlying39 hd0
  have c9 : Tryd.prog.cellsOf 9 = 1 := by kernel_rfl
  have key : ∀ k, k < 32 → W.cell? ⟨0, k, none⟩ = some (.string (Pl.rn k)) := by
    intro k hk
    have h0 := hel k hk
    rw [c9, Nat.mul_one] at h0
    have hx : xs[k]? = some (xs[k]'(by omega)) := List.getElem?_eq_getElem _
    rw [hx] at h0
    obtain ⟨s, e1, e2, _⟩ := DataW.trod_string Tryd.underlying9 h0
    have hx2 : (DataW.agg (Pl.regs.map fun r => .lit (.string r)) : DataW Unit) = .agg (xs.map (·.1)) := by
      rw [← regs_datum]; exact (Prod.mk.inj hx1).1
    have hx3 : (Pl.regs.map fun r => (DataW.lit (.string r) : DataW Unit)) = xs.map (·.1) := by injection hx2
    have hx4 := congrArg (fun l => l[k]?) hx3
    have hl : Pl.regs.length = 32 := rfl
    simp only [List.getElem?_map, hx, Option.map_some, e2] at hx4
    rw [List.getElem?_eq_getElem (by omega)] at hx4
    simp only [Option.map_some, Option.some.injEq, DataW.lit.injEq, Lit.string.injEq] at hx4
    have hs : s = Pl.rn k := by
      unfold Pl.rn
      rw [List.getD_eq_getElem?_getD, List.getElem?_eq_getElem (by omega)]
      simp only [Option.getD_some, hx4]
    subst hs
    have hc := World.var?_cell hg0 hv0 k
    rw [hc, ← Array.getElem?_toList]
    exact take_one e1
  exact ⟨block_lt_of_cell (key 0 (by decide)), key⟩
set_option maxRecDepth 100000 in
theorem lifted (os : Os) (started : os.Started) (H : Type) (enc : TypeId × Value → H) :
    ReturnsInHanded {} Tryd.checked os 4 .any (fun w args => (Rows.fnExactRegNumberSpec.pre enc Tryd.prog Tryd.f4 [] false w args ∧ laidMetH Tryd.prog Rows.fnExactRegNumberRow.laid w) ∧ sizedMet enc Tryd.prog Tryd.f4 (OpenSpec.ofChange Rows.fnExactRegNumberSpec) false w args)
      (Rows.fnExactRegNumberSpec.post enc Tryd.prog Tryd.f4 false true false false) := by
  refine returnsInHanded_of_change_and (C := Tryd.checked) (X := fun w _ => laidMetH Tryd.prog Rows.fnExactRegNumberRow.laid w) (fun _ _ _ hh h => h.of_heap hh) own started (by kernel_rfl) Tryd.func4
    (ChangeSpec.witness_shaped (enc := enc) (C := Tryd.checked) (os := os) (X := fun w _ => laidMetH Tryd.prog Rows.fnExactRegNumberRow.laid w) false (World.doorLaid Tryd.prog 400 os) #[.string ⟨#[]⟩] 8 rfl (World.shaped_of_RefB (by kernel_rfl) (by kernel_rfl)) (by kernel_rfl) (by kernel_rfl) (by kernel_rfl) (door_met os _)) ?_
  intro W base args ds gs before hval0 hW _ _ hL _
  have hval : ∀ (j : Nat) t v, Tryd.f4.params[j]? = some t → args[j]? = some v → Value.okWide Tryd.prog W .any base t v := hval0
  have hW' := hW
  obtain ⟨p, q, hA0, hV, rfl, hfz, hnd⟩ := hW
  have hA : DataW.TrodAll enc Tryd.prog W 0 (fun _ => true) true Tryd.f4.params.toList args.toList ds p := hA0
  rw [Tryd.params4] at hA hval
  obtain ⟨v0, d0, rfl, rfl, h0⟩ := trodAll_one hA
  obtain ⟨a0, rfl, rfl, rfl, w0⟩ := open_string Tryd.underlying9 (hval 0 9 v0 rfl rfl) h0
  have hR := of_laid hL
  clear hA0 hval0
  refine (Go.Proofs.YtmnlhienhfmhdaaDoor.W.fnExactRegNumber_walk a0 w0 W hR).mono fun e W' ⟨he, bel⟩ => ?_
  subst he
  have hvars := Below.trodVars laidOut bel (by kernel_rfl) hV
  obtain ⟨g, t, cs, fuel, d, pp, rfl, hvs⟩ := trodVars_one hV
  exact ⟨_, rfl, _, _, _, [], [], q, hW', trodAll_mk1 (shut_bool Tryd.underlying4 _), trodAll_mk1 (shut_string Tryd.underlying9 w0), hvars, bel.frame _, fun h => by cases h⟩
theorem over : Rows.fnExactRegNumberRow.holds Tryd.pinned (OpenSpec.ofChange Rows.fnExactRegNumberSpec) :=
  OpenClaim.holds_of_wide 4 Tryd.f4 rfl rfl rfl rfl rfl rfl rfl ⟨rfl, rfl, rfl, rfl, rfl⟩ rfl rfl rfl rfl rfl (by kernel_rfl) Tryd.func4 (by kernel_rfl)
    (of_decide_eq_true (by kernel_rfl)) (by unfold Func.isWrapper; first | (rw [if_pos (by decide +kernel)]; kernel_rfl) | (rw [if_neg (by decide +kernel)]; exact ⟨rfl, rfl⟩))
    (fun os started H enc _ => lifted os started H enc)
theorem card : Rows.FnExactRegNumberCardSaid :=
  Claim7.holds_tied_plain_at .later [] [.data, .data, .data, .data] true Rows.fnExactRegNumberCard.stood.harness false
    over (fun _ h => by cases h) (by kernel_rfl) (fun _ h => by cases h) fnExactRegNumber_row_tie rfl ⟨rfl, rfl⟩ (by kernel_rfl) rfl
    (fun f fn hf hfn => by
      obtain rfl : f = 4 := Option.some.inj (Eq.trans (Eq.symm hf) (by kernel_rfl))
      obtain rfl : fn = Tryd.f4 := (Option.some.inj (Tryd.func4.symm.trans hfn)).symm
      exact ⟨by kernel_rfl, fun j t ht => by
        rw [Tryd.params4] at ht
        have h3 : t = 9 := by
          rcases j with _ | j
          · simpa using ht.symm
          · simp at ht
        subst h3
        exact (show Tryd.prog.wantsStandIn 9 = false by kernel_rfl)⟩)
    (by kernel_rfl)
end Go.Proofs.YtmnlhienhfmhdaaDoor.fnExactRegNumber
namespace Go.Proofs.YtmnlhienhfmhdaaDoor
theorem fnExactRegNumber_holds : Rows.FnExactRegNumberCardSaid := fnExactRegNumber.card
end Go.Proofs.YtmnlhienhfmhdaaDoor
