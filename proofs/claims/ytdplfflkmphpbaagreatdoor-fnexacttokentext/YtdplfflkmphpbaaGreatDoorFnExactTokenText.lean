import Derived.Test.YtdplfflkmphpbaaGreatDoorRows
import Derived.Test.YtdplfflkmphpbaaGreatDoorCards
import Derived.Test.YtdplfflkmphpbaaGreatDoorTie
import Derived.Test.YtdplfflkmphpbaaGreatDoorT26
import Derived.Test.YtdplfflkmphpbaaGreatDoorT28
import Derived.WalkKit
import Derived.ProofKit
import Derived.LaidMore
import Derived.Lib.LaidTab
import Derived.OpenShut
import Derived.ShutString
import Derived.OpenVars
import Derived.ChangeOld
import Derived.Below
import Derived.Stop.Joined
import Derived.Stop.LaidErr
import Derived.Lay
import Derived.SevenTiedAt
import Derived.Deep.DeepHandedRow
import Derived.Shelf.Vars
set_option linter.unusedVariables false
namespace Go.Proofs.YtdplfflkmphpbaaGreatDoor.fnExactTokenText
open Go.ChangeShapes Go.WideShapes Go.ChangeAt Go.RowKit
theorem own : ownKnob Tryz.prog.godebug = none := by kernel_rfl
theorem laidOut : laidOutB Tryz.prog = true := by kernel_rfl
theorem star : "*" ++ "errors.errorString" = "*errors.errorString" := by decide
theorem rowE (u : TypeId) (h : Tryz.prog.typeName? 3 u = some "*errors.errorString") : u = 153 :=
  typeName_ptr_named (nm := "errors.errorString") (by rw [star]; kernel_rfl) (by kernel_rfl) (by decide) u (by rw [star]; exact h)
theorem gS : Tryz.prog.globalNamed "strconv.ErrSyntax" = some 6 := by kernel_rfl
theorem gR : Tryz.prog.globalNamed "strconv.ErrRange" = some 7 := by kernel_rfl
theorem gST : (Tryz.prog.globals[6]?).map (·.type) = some 120 := by kernel_rfl
theorem gRT : (Tryz.prog.globals[7]?).map (·.type) = some 120 := by kernel_rfl
theorem cellsE : Tryz.prog.cellsOf 155 = 1 := by kernel_rfl
theorem cells9 : Tryz.prog.cellsOf 9 = 1 := by kernel_rfl
theorem maxLen_at {W : World} (h : W.ShapedOpen Tryz.prog) : ∃ m, W.cell? ⟨0, 0, none⟩ = some (.int .i64 m) :=
  cell_of_shapedOpen_int (zero := #[.int .i64 0]) h (of_decide_eq_true (by kernel_rfl)) (by kernel_rfl) rfl (by kernel_rfl) (by kernel_rfl) Tryz.underlying3
def tab64 : List Int := [0, 1, 56, 2, 57, 49, 28, 3, 61, 58, 42, 50, 38, 29, 17, 4, 62, 47, 59, 36, 45, 43, 51, 22, 53, 39, 33, 30, 24, 18, 12, 5, 63, 55, 48, 27, 60, 41, 37, 16, 46, 35, 44, 21, 52, 32, 23, 11, 54, 26, 40, 15, 34, 20, 31, 10, 25, 14, 19, 9, 13, 8, 7, 6]
theorem tab_datum : Rows.laid_math_bits_deBruijn64tab (H := Unit) = Lib.tabData .u8 tab64 := rfl
theorem pow_datum : Rows.laid_internal_strconv_uint64pow10 (H := Unit) = Lib.tabData .u64 Lib.pow10Tab := rfl
theorem of_laid {W : World} (h : laidMetH Tryz.prog Rows.fnExactTokenTextRow.laid W) (hsh : W.ShapedOpen Tryz.prog) : Go.Proofs.YtdplfflkmphpbaaGreatDoor.W.Glo W ∧ Go.Proofs.YtdplfflkmphpbaaGreatDoor.W.DbLies W ∧ Go.Proofs.YtdplfflkmphpbaaGreatDoor.W.PowLies W := by
  rw [MakeChecks.laidMetH_plain _ _ _ (by kernel_rfl)] at h
  have hd : Go.Proofs.YtdplfflkmphpbaaGreatDoor.W.DbLies W := by
    have ht : Lib.TabIs Tryz.prog W "math/bits.deBruijn64tab" .u8 tab64 :=
      Lib.tabIs_of_head (g := 3) (t := 145) (e := 5) (n := 64) (by kernel_rfl) (by kernel_rfl) Tryz.underlying145 Tryz.underlying5 (by kernel_rfl) (by kernel_rfl) (laidMet.tail h)
    have hc := ht.cell (g := 3) (by kernel_rfl) 7 (by decide)
    exact ⟨block_lt_of_cell hc, hc⟩
  have hpow : Go.Proofs.YtdplfflkmphpbaaGreatDoor.W.PowLies W :=
    Lib.tabIs_of_head (g := 1) (t := 124) (e := 100) (n := 20) (by kernel_rfl) (by kernel_rfl) Tryz.underlying124 Tryz.underlying100 (by kernel_rfl) (by kernel_rfl) (laidMet.tail (laidMet.tail h))
  have h4 := laidMet.tail (laidMet.tail (laidMet.tail (laidMet.tail h)))
  obtain ⟨a1, s1, hv1, _, _, _⟩ := laid_sentinel h4 gR gRT Tryz.underlying120 rowE Tryz.underlying153 Tryz.underlying155 rfl rfl Tryz.underlying9 cellsE cells9
  obtain ⟨a0, s0, hv0, _, _, _⟩ := laid_sentinel (laidMet.tail h4) gS gST Tryz.underlying120 rowE Tryz.underlying153 Tryz.underlying155 rfl rfl Tryz.underlying9 cellsE cells9
  exact ⟨⟨⟨_, World.var?_cell gS hv0 0, .inr ⟨_, _, rfl⟩⟩, ⟨_, World.var?_cell gR hv1 0, .inr ⟨_, _, rfl⟩⟩, maxLen_at hsh⟩, hd, hpow⟩
set_option maxHeartbeats 1000000 in
set_option maxRecDepth 100000 in
theorem lifted (os : Os) (started : os.Started) (H : Type) (enc : TypeId × Value → H) :
    ReturnsInHanded {} Tryz.checked os 5 .any (fun w args => (Rows.fnExactTokenTextSpec.pre enc Tryz.prog Tryz.f5 [] false w args ∧ laidMetH Tryz.prog Rows.fnExactTokenTextRow.laid w) ∧ sizedMet enc Tryz.prog Tryz.f5 (OpenSpec.ofChange Rows.fnExactTokenTextSpec) false w args)
      (Rows.fnExactTokenTextSpec.post enc Tryz.prog Tryz.f5 false true false false) := by
  refine returnsInHanded_of_row (C := Tryz.checked) (s := OpenSpec.ofChange Rows.fnExactTokenTextSpec) (F := fun _ _ _ => 0) (laid := Rows.fnExactTokenTextRow.laid) own started (by kernel_rfl) Tryz.func5
    (ChangeSpec.witness_shaped (enc := enc) (C := Tryz.checked) (os := os) (X := fun w _ => laidMetH Tryz.prog Rows.fnExactTokenTextRow.laid w) false (World.laidAll Tryz.prog os Rows.fnExactTokenTextRow.laid) #[.agg #[.int .i64 0, .string ⟨#[]⟩, .int .i64 0, .int .i64 0, .int .i64 0]] 8 (World.laidAll_os _ _ _)
      (World.shaped_of_ZipB (by kernel_rfl) (by kernel_rfl)) (by kernel_rfl) (by kernel_rfl) (by kernel_rfl)
      (by rw [MakeChecks.laidMetH_plain _ _ _ (by kernel_rfl)]; exact laidMet_laidAll _ (by kernel_rfl) (by kernel_rfl))) ?_
  intro W base args ds gs before hval0 hW _ _ _ hL hsh _
  have hval : ∀ (j : Nat) t v, Tryz.f5.params[j]? = some t → args[j]? = some v → Value.okWide Tryz.prog W .any base t v := hval0
  have hW' := hW
  obtain ⟨p, q, hA0, hV, rfl, hfz, hnd⟩ := hW
  have hA : DataW.TrodAll enc Tryz.prog W 0 (fun _ => true) true Tryz.f5.params.toList args.toList ds p := hA0
  rw [Tryz.params5] at hA hval
  obtain ⟨v0, vs0, d0, ds0, p0, q0, hargs, rfl, rfl, h0, r0⟩ := trodAll_cons hA
  obtain ⟨rfl, rfl, rfl⟩ := trodAll_nil r0
  obtain rfl : args = #[v0] := by cases args; simp_all
  obtain ⟨rfl, rfl⟩ := trodVars_none hV
  have k0 := h0
  have lt0 : ∀ x ∈ p0, x.block < W.heap.size := by obtain ⟨m, hm⟩ := k0; exact DataW.trod_lt m _ _ _ hm
  obtain ⟨k0', n0, l0, c0, s0, rfl, wn, hs0⟩ := Kit.open_token (hval 0 35 v0 rfl rfl) h0
  have hR := of_laid hL hsh
  clear hA0 hval0
  refine (Go.Proofs.YtdplfflkmphpbaaGreatDoor.W.fnExactTokenText_walk ⟨k0', s0, n0, l0, c0⟩ (bounds_i64 wn).1 (bounds_i64 wn).2 hs0 W hR.1 hR.2.1 hR.2.2).mono fun e W' ⟨he, bel⟩ => ?_
  subst he
  exact ⟨_, rfl, _, _, _, [], _, [], hW', trodAll_mk1 (shut_bool Tryz.underlying4 _), (trodAll_cons_mk (Below.trod laidOut (by kernel_rfl) (of_decide_eq_true (by kernel_rfl)) k0 bel lt0) trodAll_mk0), rfl, bel.frame _, fun h => by cases h⟩
theorem over : Rows.fnExactTokenTextRow.holds Tryz.pinned (OpenSpec.ofChange Rows.fnExactTokenTextSpec) :=
  OpenClaim.holds_of_wide 5 Tryz.f5 rfl rfl rfl rfl rfl rfl rfl ⟨rfl, rfl, rfl, rfl, rfl⟩ rfl rfl rfl rfl rfl (by kernel_rfl) Tryz.func5 (by kernel_rfl)
    (of_decide_eq_true (by kernel_rfl)) (by unfold Func.isWrapper; first | (rw [if_pos (by decide +kernel)]; kernel_rfl) | (rw [if_neg (by decide +kernel)]; exact ⟨rfl, rfl⟩))
    (fun os started H enc _ => lifted os started H enc)
theorem card : Rows.FnExactTokenTextCardSaid :=
  Claim7.holds_tied_plain_at .later [] [.data, .data, .data, .data, .sentinel, .sentinel, .pinned] true Rows.fnExactTokenTextCard.stood.harness true
    over (fun _ h => by cases h) (by kernel_rfl) (fun _ h => by cases h) fnExactTokenText_row_tie rfl ⟨rfl, rfl⟩ (by kernel_rfl) rfl
    (fun f fn hf hfn => by
      obtain rfl : f = 5 := Option.some.inj (Eq.trans (Eq.symm hf) (by kernel_rfl))
      obtain rfl : fn = Tryz.f5 := (Option.some.inj (Tryz.func5.symm.trans hfn)).symm
      exact ⟨by kernel_rfl, fun j t ht => by
        rw [Tryz.params5] at ht
        have h3 : t = 35 := by
          rcases j with _ | j
          · simpa using ht.symm
          · simp at ht
        subst h3
        exact (show Tryz.prog.wantsStandIn 35 = false by kernel_rfl)⟩)
    (by kernel_rfl)
end Go.Proofs.YtdplfflkmphpbaaGreatDoor.fnExactTokenText
namespace Go.Proofs.YtdplfflkmphpbaaGreatDoor
theorem fnExactTokenText_holds : Rows.FnExactTokenTextCardSaid := fnExactTokenText.card
end Go.Proofs.YtdplfflkmphpbaaGreatDoor
