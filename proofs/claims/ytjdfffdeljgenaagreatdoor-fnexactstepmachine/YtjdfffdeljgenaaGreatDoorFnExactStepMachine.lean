import Derived.Test.YtjdfffdeljgenaaGreatDoorRows
import Derived.Test.YtjdfffdeljgenaaGreatDoorCards
import Derived.Test.YtjdfffdeljgenaaGreatDoorTie
import Derived.Test.YtjdfffdeljgenaaGreatDoorP45
import Derived.Test.YtjdfffdeljgenaaGreatDoorP42
import Derived.WalkKit
import Derived.ProofKit
import Derived.LaidMore
import Derived.Lib.LaidTab
import Derived.OpenShut
import Derived.ShutString
import Derived.OpenVars
import Derived.ChangeOld
import Derived.Below
import Derived.Stop.Joined
import Derived.Stop.LaidErr
import Derived.SevenTiedAt
set_option linter.unusedVariables false
namespace Go.Proofs.YtjdfffdeljgenaaGreatDoor.fnExactStepMachine
open Go.ChangeShapes Go.WideShapes Go.ChangeAt Go.RowKit
open Go.ChangeMaps (open_string shut_string)
theorem own : ownKnob Tryz.prog.godebug = none := by kernel_rfl
theorem laidOut : laidOutB Tryz.prog = true := by kernel_rfl
theorem door_met (os : Os) (args : Array Value) : laidMetH Tryz.prog Rows.fnExactStepMachineRow.laid ((World.doorLaid Tryz.prog 400 os).forCall (fun _ _ => 0) ⟨#[], args, []⟩).memory :=
  laidMetH_of_parts3 (fuel := 8) (laidMet_of_run' 8 (by kernel_rfl) (by kernel_rfl)) (by kernel_rfl) (by kernel_rfl)
theorem of_laid {W : World} (h : laidMetH Tryz.prog Rows.fnExactStepMachineRow.laid W) : Go.Proofs.YtjdfffdeljgenaaGreatDoor.W.Tabs W := by
  rw [MakeChecks.laidMetH_plain _ _ _ (by kernel_rfl)] at h
  have t0 : Lib.TabIs Tryz.prog W "loop.example/s01681/impl.immOperations" .i64 [1, 4, 5, 6, 9, 10, 3, 7, 8] :=
    Lib.tabIs_of_head (g := 0) (t := 99) (e := 3) (n := 9) (by kernel_rfl) (by kernel_rfl) Tryz.underlying99 Tryz.underlying3 (by kernel_rfl) (by kernel_rfl) h
  replace h := laidMet.tail h
  have t1 : Lib.TabIs Tryz.prog W "loop.example/s01681/impl.loadKinds" .i64 [1, 3, 5, 2, 4] :=
    Lib.tabIs_of_head (g := 1) (t := 102) (e := 3) (n := 5) (by kernel_rfl) (by kernel_rfl) Tryz.underlying102 Tryz.underlying3 (by kernel_rfl) (by kernel_rfl) h
  replace h := laidMet.tail h
  have t2 : Lib.TabIs Tryz.prog W "loop.example/s01681/impl.storeKinds" .i64 [2, 4, 5] :=
    Lib.tabIs_of_head (g := 2) (t := 104) (e := 3) (n := 3) (by kernel_rfl) (by kernel_rfl) Tryz.underlying104 Tryz.underlying3 (by kernel_rfl) (by kernel_rfl) h
  refine ⟨fun k hk => ?_, fun k hk => ?_, fun k hk => ?_⟩
  · have := t0.cell (g := 0) (by kernel_rfl) k hk
    rcases (show k = 0 ∨ k = 1 ∨ k = 2 ∨ k = 3 ∨ k = 4 ∨ k = 5 ∨ k = 6 ∨ k = 7 ∨ k = 8 by omega) with rfl | rfl | rfl | rfl | rfl | rfl | rfl | rfl | rfl <;> exact this
  · have := t1.cell (g := 1) (by kernel_rfl) k hk
    rcases (show k = 0 ∨ k = 1 ∨ k = 2 ∨ k = 3 ∨ k = 4 by omega) with rfl | rfl | rfl | rfl | rfl <;> exact this
  · have := t2.cell (g := 2) (by kernel_rfl) k hk
    rcases (show k = 0 ∨ k = 1 ∨ k = 2 by omega) with rfl | rfl | rfl <;> exact this
theorem vars_three {H : Type} {enc : TypeId × Value → H} {P : Program} {w : World} {spare : Nat → Bool} {n0 n1 n2 : String} {gs : List (DataW H)} {ps : List MemPlace} (h : DataW.TrodVars enc P w spare [n0, n1, n2] gs ps) : ∃ d0 d1 d2, gs = [d0, d1, d2] := by
  cases gs with
  | nil => simp [DataW.TrodVars] at h
  | cons d ds =>
    obtain ⟨g0, t0, cs0, f0, p0, q0, h1, h2, h3, h4, hs, e⟩ := h
    obtain ⟨g1, t1, cs1, f1, d1, p1, g2, t2, cs2, f2, d2, p2, rfl, _⟩ := trodVars_two hs
    exact ⟨_, _, _, rfl⟩
set_option maxHeartbeats 1000000 in
set_option maxRecDepth 100000 in
theorem lifted (os : Os) (started : os.Started) (H : Type) (enc : TypeId × Value → H) :
    ReturnsInHanded {} Tryz.checked os 6 .any (fun w args => (Rows.fnExactStepMachineSpec.pre enc Tryz.prog Tryz.f6 [] false w args ∧ laidMetH Tryz.prog Rows.fnExactStepMachineRow.laid w) ∧ sizedMet enc Tryz.prog Tryz.f6 (OpenSpec.ofChange Rows.fnExactStepMachineSpec) false w args)
      (Rows.fnExactStepMachineSpec.post enc Tryz.prog Tryz.f6 false true false false) := by
  refine returnsInHanded_of_change_and (C := Tryz.checked) (X := fun w _ => laidMetH Tryz.prog Rows.fnExactStepMachineRow.laid w) (fun _ _ _ hh h => h.of_heap hh) own started (by kernel_rfl) Tryz.func6
    (ChangeSpec.witness_shaped (enc := enc) (C := Tryz.checked) (os := os) (X := fun w _ => laidMetH Tryz.prog Rows.fnExactStepMachineRow.laid w) false (World.doorLaid Tryz.prog 400 os) #[.agg #[.slice none 0 0, .int .i64 0, .slice none 0 0, .slice none 0 0, .slice none 0 0, .slice none 0 0, .slice none 0 0, .int .i64 0, .int .i64 0, .int .i64 0]] 8 rfl (World.shaped_of_RefB (by kernel_rfl) (by kernel_rfl)) (by kernel_rfl) (by kernel_rfl) (by kernel_rfl) (door_met os _)) ?_
  intro W base args ds gs before hval0 hW _ _ hL _
  have hval : ∀ (j : Nat) t v, Tryz.f6.params[j]? = some t → args[j]? = some v → Value.okWide Tryz.prog W .any base t v := hval0
  have hW' := hW
  obtain ⟨p, q, hA0, hV, rfl, hfz, hnd⟩ := hW
  have hA : DataW.TrodAll enc Tryz.prog W 0 (fun _ => true) true Tryz.f6.params.toList args.toList ds p := hA0
  rw [Tryz.params6] at hA hval
  obtain ⟨v0, vs0, d0, ds0, p0, q0, hargs, rfl, rfl, h0, r0⟩ := trodAll_cons hA
  obtain ⟨rfl, rfl, rfl⟩ := trodAll_nil r0
  obtain rfl : args = #[v0] := by cases args; simp_all
  have k0 := h0
  have lt0 : ∀ x ∈ p0, x.block < W.heap.size := by obtain ⟨m, hm⟩ := k0; exact DataW.trod_lt m _ _ _ hm
  obtain ⟨x0, m0, rfl, is0, wp0, wt0, wf0, wv0⟩ := Kit.open_machine (hval 0 36 v0 rfl rfl) h0
  have hR := of_laid hL
  clear hA0 hval0
  refine (Go.Proofs.YtjdfffdeljgenaaGreatDoor.W.fnExactStepMachine_walk x0 m0 W is0 hR).mono fun e W' ⟨he, bel⟩ => ?_
  subst he
  have hvars := Below.trodVars laidOut bel (by kernel_rfl) hV
  obtain ⟨e0, e1, e2, rfl⟩ := vars_three hV
  exact ⟨_, rfl, _, _, _, [], _, _, hW', trodAll_mk1 (shut_bool Tryz.underlying4 _), (trodAll_cons_mk (Below.trod laidOut (by kernel_rfl) (of_decide_eq_true (by kernel_rfl)) k0 bel lt0) trodAll_mk0), hvars, bel.frame _, fun h => by cases h⟩
theorem over : Rows.fnExactStepMachineRow.holds Tryz.pinned (OpenSpec.ofChange Rows.fnExactStepMachineSpec) :=
  OpenClaim.holds_of_wide 6 Tryz.f6 rfl rfl rfl rfl rfl rfl rfl ⟨rfl, rfl, rfl, rfl, rfl⟩ rfl rfl rfl rfl rfl (by kernel_rfl) Tryz.func6 (by kernel_rfl)
    (of_decide_eq_true (by kernel_rfl)) (by unfold Func.isWrapper; first | (rw [if_pos (by decide +kernel)]; kernel_rfl) | (rw [if_neg (by decide +kernel)]; exact ⟨rfl, rfl⟩))
    (fun os started H enc _ => lifted os started H enc)
theorem card : Rows.FnExactStepMachineCardSaid :=
  Claim7.holds_tied_plain_at .later [] [.data, .data, .data] true Rows.fnExactStepMachineCard.stood.harness true
    over (fun _ h => by cases h) (by kernel_rfl) (fun _ h => by cases h) fnExactStepMachine_row_tie rfl ⟨rfl, rfl⟩ (by kernel_rfl) rfl
    (fun f fn hf hfn => by
      obtain rfl : f = 6 := Option.some.inj (Eq.trans (Eq.symm hf) (by kernel_rfl))
      obtain rfl : fn = Tryz.f6 := (Option.some.inj (Tryz.func6.symm.trans hfn)).symm
      exact ⟨by kernel_rfl, fun j t ht => by
        rw [Tryz.params6] at ht
        have h3 : t = 36 := by
          rcases j with _ | j
          · simpa using ht.symm
          · simp at ht
        subst h3
        exact (show Tryz.prog.wantsStandIn 36 = false by kernel_rfl)⟩)
    (by kernel_rfl)
end Go.Proofs.YtjdfffdeljgenaaGreatDoor.fnExactStepMachine
namespace Go.Proofs.YtjdfffdeljgenaaGreatDoor
theorem fnExactStepMachine_holds : Rows.FnExactStepMachineCardSaid := fnExactStepMachine.card
end Go.Proofs.YtjdfffdeljgenaaGreatDoor
