import Derived.Test.YtgpmplcamdophaaDoorRows
import Derived.Test.YtgpmplcamdophaaDoorCards
import Derived.Test.YtgpmplcamdophaaDoorTie
import Derived.Test.YtgpmplcamdophaaDoorWFnExactPrintAsm
import Derived.Test.YtgpmplcamdophaaDoorOpn
import Derived.WalkKit
import Derived.ProofKit
import Derived.LaidMore
import Derived.Lib.LaidTab
import Derived.OpenShut
import Derived.ShutString
import Derived.OpenVars
import Derived.ChangeOld
import Derived.Stop.Joined
import Derived.Stop.LaidErr
import Derived.SevenTiedAt
namespace Go.Proofs.YtgpmplcamdophaaDoor.fnExactPrintAsm
open Go.ChangeShapes Go.WideShapes Go.ChangeAt Go.RowKit
open Go.ChangeMaps (open_string shut_string)
set_option linter.unusedVariables false
theorem own : ownKnob Tryd.prog.godebug = none := by kernel_rfl
theorem laidOut : laidOutB Tryd.prog = true := by kernel_rfl
theorem door_met (os : Os) (args : Array Value) : laidMetH Tryd.prog Rows.fnExactPrintAsmRow.laid ((World.doorLaid Tryd.prog 400 os).forCall (fun _ _ => 0) ⟨#[], args, []⟩).memory :=
  laidMetH_of_parts3 (fuel := 8) (laidMet_of_run' 8 (by kernel_rfl) (by kernel_rfl)) (by kernel_rfl) (by kernel_rfl)
theorem tWords : (Tryd.prog.globals[0]?).map (·.type) = some 91 := by kernel_rfl
theorem tRegs : (Tryd.prog.globals[1]?).map (·.type) = some 103 := by kernel_rfl
theorem pow_datum : Rows.laid_internal_strconv_uint64pow10 (H := Unit) = Lib.tabData .u64 Lib.pow10Tab := rfl
theorem regs_datum : Rows.laid_loop_example_s01681_impl_regNames (H := Unit) = .agg (Pl.regs.map fun r => .lit (.string r)) := rfl
theorem words_datum : Rows.laid_loop_example_s01681_impl_lineWords (H := Unit) = .agg (Pl.lws.map fun r => .lit (.string r)) := rfl
theorem take_one {α : Type} {l : List α} {k : Nat} {c : α} (h : (l.drop k).take 1 = [c]) : l[k]? = some c := by
  have h2 := congrArg (fun x => x[0]?) h
  simpa using h2
/-- a table of texts that lies in its variable -/
theorem texts_lie {W : World} {name : String} {g n : Nat} {t : TypeId} {cs : Array Value} {ds : List (List UInt8)} {fuel : Nat} {q : List MemPlace} {sp : Nat → Bool} {held : Bool} {base : Nat} {enc : TypeId × Value → Unit} (hg : Tryd.prog.globalNamed name = some g) (ht : Tryd.prog.underlying t = some (.array n 9)) (hv : W.var? Tryd.prog name = some cs)
    (hd : DataW.trod enc Tryd.prog W base sp held fuel t cs.toList = some (.agg (ds.map fun r => .lit (.string r)), q)) (hn : ds.length = n) : ∀ k, k < n → W.cell? ⟨g, k, none⟩ = some (.string ⟨(ds.getD k []).toArray⟩) := by
  obtain ⟨xs, m1, rfl, hx1, hlen, hnn, hel⟩ := DataW.trod_array ht hd
  have c9 : Tryd.prog.cellsOf 9 = 1 := by kernel_rfl
  intro k hk
  have h0 := hel k hk
  rw [c9, Nat.mul_one] at h0
  have hx : xs[k]? = some (xs[k]'(by omega)) := List.getElem?_eq_getElem _
  rw [hx] at h0
  obtain ⟨s, e1, e2, _⟩ := DataW.trod_string Tryd.underlying9 h0
  have hx2 : (DataW.agg (ds.map fun r => .lit (.string r)) : DataW Unit) = .agg (xs.map (·.1)) := (Prod.mk.inj hx1).1
  have hx3 : (ds.map fun r => (DataW.lit (.string r) : DataW Unit)) = xs.map (·.1) := by injection hx2
  have hx4 := congrArg (fun l => l[k]?) hx3
  simp only [List.getElem?_map, hx, Option.map_some, e2] at hx4
  rw [List.getElem?_eq_getElem (by omega)] at hx4
  simp only [Option.map_some, Option.some.injEq, DataW.lit.injEq, Lit.string.injEq] at hx4
  have hs : s = ⟨(ds.getD k []).toArray⟩ := by
    rw [List.getD_eq_getElem?_getD, List.getElem?_eq_getElem (by omega)]
    simp only [Option.getD_some, hx4]
  subst hs
  have hc := World.var?_cell hg hv k
  rw [hc, ← Array.getElem?_toList]
  exact take_one e1
theorem of_laid {W : World} (h : laidMetH Tryd.prog Rows.fnExactPrintAsmRow.laid W) : Go.Proofs.YtgpmplcamdophaaDoor.W.AsmLies W := by
  rw [MakeChecks.laidMetH_plain _ _ _ (by kernel_rfl)] at h
  replace h := laidMet.tail (laidMet.tail h)
  have hpow : Lib.TabIs Tryd.prog W "internal/strconv.uint64pow10" .u64 Lib.pow10Tab :=
    Lib.tabIs_of_head (g := 2) (t := 115) (e := 106) (n := 20) (by kernel_rfl) (by kernel_rfl) Tryd.underlying115 Tryd.underlying106 (by kernel_rfl) (by kernel_rfl) h
  replace h := laidMet.tail h
  have h' := laidMet.tail h
  obtain ⟨ps, ⟨g0, t0, cs0, f0, p0, q0, hg0, ht0, hv0, hd0, _, _⟩, _, _⟩ := h
  obtain ⟨ps', ⟨g1, t1, cs1, f1, p1, q1, hg1, ht1, hv1, hd1, _, _⟩, _, _⟩ := h'
  obtain rfl : 1 = g0 := Option.some.inj (Eq.trans (Eq.symm (by kernel_rfl)) hg0)
  obtain rfl := Option.some.inj (tRegs.symm.trans ht0)
  obtain rfl : 0 = g1 := Option.some.inj (Eq.trans (Eq.symm (by kernel_rfl)) hg1)
  obtain rfl := Option.some.inj (tWords.symm.trans ht1)
  rw [regs_datum] at hd0
  rw [words_datum] at hd1
  have k0 := texts_lie hg0 Tryd.underlying103 hv0 hd0 rfl
  have k1 := texts_lie hg1 Tryd.underlying91 hv1 hd1 rfl
  exact ⟨⟨block_lt_of_cell (k0 0 (by decide)), k0⟩, block_lt_of_cell (k1 0 (by decide)), k1, hpow⟩
set_option maxRecDepth 100000 in
theorem lifted (os : Os) (started : os.Started) (H : Type) (enc : TypeId × Value → H) :
    ReturnsInHanded {} Tryd.checked os 4 .any (fun w args => (Rows.fnExactPrintAsmSpec.pre enc Tryd.prog Tryd.f4 [] false w args ∧ laidMetH Tryd.prog Rows.fnExactPrintAsmRow.laid w) ∧ sizedMet enc Tryd.prog Tryd.f4 (OpenSpec.ofChange Rows.fnExactPrintAsmSpec) false w args)
      (Rows.fnExactPrintAsmSpec.post enc Tryd.prog Tryd.f4 false true false false) := by
  refine returnsInHanded_of_change_and (C := Tryd.checked) (X := fun w _ => laidMetH Tryd.prog Rows.fnExactPrintAsmRow.laid w) (fun _ _ _ hh h => h.of_heap hh) own started (by kernel_rfl) Tryd.func4
    (ChangeSpec.witness_shaped (enc := enc) (C := Tryd.checked) (os := os) (X := fun w _ => laidMetH Tryd.prog Rows.fnExactPrintAsmRow.laid w) false (World.doorLaid Tryd.prog 400 os) #[.slice none 0 0] 8 rfl (World.shaped_of_RefB (by kernel_rfl) (by kernel_rfl)) (by kernel_rfl) (by kernel_rfl) (by kernel_rfl) (door_met os _)) ?_
  intro W base args ds gs before hval0 hW _ _ hL _
  have hval : ∀ (j : Nat) t v, Tryd.f4.params[j]? = some t → args[j]? = some v → Value.okWide Tryd.prog W .any base t v := hval0
  have hW' := hW
  obtain ⟨p, q, hA0, hV, rfl, hfz, hnd⟩ := hW
  have hA : DataW.TrodAll enc Tryd.prog W 0 (fun _ => true) true Tryd.f4.params.toList args.toList ds p := hA0
  rw [Tryd.params4] at hA hval
  obtain ⟨v0, vs0, d0, ds0, p0, q0, hargs, rfl, rfl, h0, r0⟩ := trodAll_cons hA
  obtain ⟨rfl, rfl, rfl⟩ := trodAll_nil r0
  obtain rfl : args = #[v0] := by cases args; simp_all
  have k0 := h0
  have lt0 : ∀ x ∈ p0, x.block < W.heap.size := by obtain ⟨m, hm⟩ := k0; exact DataW.trod_lt m _ _ _ hm
  obtain ⟨a0, len0, cap0, xs0, rfl, is0⟩ := Kit.open_lines (hval 0 24 v0 rfl rfl) h0
  have hR := of_laid hL
  clear hA0 hval0
  refine (Go.Proofs.YtgpmplcamdophaaDoor.W.fnExactPrintAsm_walk a0 len0 cap0 xs0 W is0 hR).mono fun e W' ⟨he, bel⟩ => ?_
  subst he
  have hvars := Below.trodVars laidOut bel (by kernel_rfl) hV
  obtain ⟨g0, t0, cs0, f0, e0, z0, g1, t1, cs1, f1, e1, z1, rfl, hvs⟩ := trodVars_two hV
  exact ⟨_, rfl, _, _, _, [], _, _, hW', trodAll_mk1 (shut_bool Tryd.underlying4 _), (trodAll_cons_mk (Below.trod laidOut (by kernel_rfl) (of_decide_eq_true (by kernel_rfl)) k0 bel lt0) trodAll_mk0), hvars, bel.frame _, fun h => by cases h⟩
theorem over : Rows.fnExactPrintAsmRow.holds Tryd.pinned (OpenSpec.ofChange Rows.fnExactPrintAsmSpec) :=
  OpenClaim.holds_of_wide 4 Tryd.f4 rfl rfl rfl rfl rfl rfl rfl ⟨rfl, rfl, rfl, rfl, rfl⟩ rfl rfl rfl rfl rfl (by kernel_rfl) Tryd.func4 (by kernel_rfl)
    (of_decide_eq_true (by kernel_rfl)) (by unfold Func.isWrapper; first | (rw [if_pos (by decide +kernel)]; kernel_rfl) | (rw [if_neg (by decide +kernel)]; exact ⟨rfl, rfl⟩))
    (fun os started H enc _ => lifted os started H enc)
theorem card : Rows.FnExactPrintAsmCardSaid :=
  Claim7.holds_tied_plain_at .later [] [.data, .data, .data, .data, .data] true Rows.fnExactPrintAsmCard.stood.harness false
    over (fun _ h => by cases h) (by kernel_rfl) (fun _ h => by cases h) fnExactPrintAsm_row_tie rfl ⟨rfl, rfl⟩ (by kernel_rfl) rfl
    (fun f fn hf hfn => by
      obtain rfl : f = 4 := Option.some.inj (Eq.trans (Eq.symm hf) (by kernel_rfl))
      obtain rfl : fn = Tryd.f4 := (Option.some.inj (Tryd.func4.symm.trans hfn)).symm
      exact ⟨by kernel_rfl, fun j t ht => by
        rw [Tryd.params4] at ht
        have h3 : t = 24 := by
          rcases j with _ | j
          · simpa using ht.symm
          · simp at ht
        subst h3
        exact (show Tryd.prog.wantsStandIn 24 = false by kernel_rfl)⟩)
    (by kernel_rfl)
end Go.Proofs.YtgpmplcamdophaaDoor.fnExactPrintAsm
namespace Go.Proofs.YtgpmplcamdophaaDoor
theorem fnExactPrintAsm_holds : Rows.FnExactPrintAsmCardSaid := fnExactPrintAsm.card
end Go.Proofs.YtgpmplcamdophaaDoor
