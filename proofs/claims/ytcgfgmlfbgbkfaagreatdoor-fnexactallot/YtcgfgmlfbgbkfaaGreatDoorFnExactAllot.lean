import Derived.Test.YtcgfgmlfbgbkfaaGreatDoorRows
import Derived.Test.YtcgfgmlfbgbkfaaGreatDoorCards
import Derived.Test.YtcgfgmlfbgbkfaaGreatDoorTie
import Derived.Test.YtcgfgmlfbgbkfaaGreatDoorM26
import Derived.Test.YtcgfgmlfbgbkfaaGreatDoorM28
import Derived.WalkKit
import Derived.ProofKit
import Derived.LaidMore
import Derived.Lib.LaidTab
import Derived.OpenShut
import Derived.ShutString
import Derived.OpenVars
import Derived.ChangeOld
import Derived.Below
import Derived.Stop.Joined
import Derived.Stop.LaidErr
import Derived.Lay
import Derived.SevenTiedAt
import Derived.Deep.DeepHandedRow
import Derived.Shelf.Vars
set_option linter.unusedVariables false
namespace Go.Proofs.YtcgfgmlfbgbkfaaGreatDoor.fnExactAllot
open Go.ChangeShapes Go.WideShapes Go.ChangeAt Go.RowKit
theorem own:ownKnob Tryz.prog.godebug=none:=by kernel_rfl
theorem laidOut:laidOutB Tryz.prog=true:=by kernel_rfl
def tab64:List Int:=[0,1,56,2,57,49,28,3,61,58,42,50,38,29,17,4,62,47,59,36,45,43,51,22,53,39,33,30,24,18,12,5,63,55,48,27,60,41,37,16,46,35,44,21,52,32,23,11,54,26,40,15,34,20,31,10,25,14,19,9,13,8,7,6]
theorem tab_datum:Rows.laid_math_bits_deBruijn64tab (H:=Unit)=Lib.tabData .u8 tab64:=rfl
theorem tab_is:∀ j,j<64->tab64.getD j 0=((Lib.deBruijn64tab.getD j 0:Nat):Int):=by decide +kernel
theorem of_laid {W:World} (h:laidMetH Tryz.prog Rows.fnExactAllotRow.laid W):Go.Proofs.YtcgfgmlfbgbkfaaGreatDoor.W.TabG W:=by
 rw[MakeChecks.laidMetH_plain _ _ _ (by kernel_rfl)]at h
 have ht:Lib.TabIs Tryz.prog W "math/bits.deBruijn64tab" .u8 tab64:=
  Lib.tabIs_of_head (g:=0) (t:=201) (e:=5) (n:=64) (by kernel_rfl) (by kernel_rfl) Tryz.underlying201 Tryz.underlying5 (by kernel_rfl) (by kernel_rfl) h
 replace h:=laidMet.tail h
 have ht2:Lib.TabIs Tryz.prog W "loop.example/s01681/impl.givenRegs" .i64 Pl.gvL:=
  Lib.tabIs_of_head (g:=1) (t:=134) (e:=3) (n:=16) (by kernel_rfl) (by kernel_rfl) Tryz.underlying134 Tryz.underlying3 (by kernel_rfl) (by kernel_rfl) h
 refine⟨fun j hj=>?_,fun k hk=>?_⟩
 ·have hc:=ht.cell (g:=0) (by kernel_rfl) j hj
  rw[tab_is j hj]at hc
  exact hc
 ·exact ht2.cell (g:=1) (by kernel_rfl) k hk
theorem vars_one {H:Type} {enc:TypeId × Value->H} {P:Program} {w:World} {spare:Nat->Bool} {n0:String} {gs:List (DataW H)} {ps:List MemPlace} (h:DataW.TrodVars enc P w spare [n0] gs ps):∃ d0,gs=[d0]:=by
 cases gs with
 | nil=>simp[DataW.TrodVars]at h
 | cons d ds=>
  obtain⟨g0,t0,cs0,f0,p0,q0,h1,h2,h3,h4,hs,e⟩:=h
  obtain⟨rfl,rfl⟩:=trodVars_none hs
  exact⟨_,rfl⟩
set_option maxHeartbeats 1000000 in
set_option maxRecDepth 100000 in
theorem lifted (os:Os) (started:os.Started) (H:Type) (enc:TypeId × Value->H) :
  ReturnsInHanded {} Tryz.checked os 5 .any (fun w args=>(Rows.fnExactAllotSpec.pre enc Tryz.prog Tryz.f5 [] false w args/\laidMetH Tryz.prog Rows.fnExactAllotRow.laid w)/\sizedMet enc Tryz.prog Tryz.f5 (OpenSpec.ofChange Rows.fnExactAllotSpec) false w args)
   (Rows.fnExactAllotSpec.post enc Tryz.prog Tryz.f5 false true false false):=by
 refine returnsInHanded_of_row (C:=Tryz.checked) (s:=OpenSpec.ofChange Rows.fnExactAllotSpec) (F:=fun _ _ _=>0) (laid:=Rows.fnExactAllotRow.laid) own started (by kernel_rfl) Tryz.func5
  (ChangeSpec.witness_shaped (enc:=enc) (C:=Tryz.checked) (os:=os) (X:=fun w _=>laidMetH Tryz.prog Rows.fnExactAllotRow.laid w) false (World.laidAll Tryz.prog os Rows.fnExactAllotRow.laid) #[.agg #[.string ⟨#[]⟩,.int .i64 0,.int .i64 0,.slice none 0 0,.slice none 0 0]] 8 (World.laidAll_os _ _ _)
   (World.shaped_of_ZipB (by kernel_rfl) (by kernel_rfl)) (by kernel_rfl) (by kernel_rfl) (by kernel_rfl)
   (by rw[MakeChecks.laidMetH_plain _ _ _ (by kernel_rfl)];exact laidMet_laidAll _ (by kernel_rfl) (by kernel_rfl))) ?_
 intro W base args ds gs before hval0 hW _ _ _ hL hsh _
 have hval:∀ (j:Nat) t v,Tryz.f5.params[j]?=some t->args[j]?=some v->Value.okWide Tryz.prog W .any base t v:=hval0
 have hW':=hW
 obtain⟨p,q,hA0,hV,rfl,hfz,hnd⟩:=hW
 have hA:DataW.TrodAll enc Tryz.prog W 0 (fun _=>true) true Tryz.f5.params.toList args.toList ds p:=hA0
 rw[Tryz.params5]at hA hval
 obtain⟨v0,vs0,d0,ds0,p0,q0,hargs,rfl,rfl,h0,r0⟩:=trodAll_cons hA
 obtain⟨rfl,rfl,rfl⟩:=trodAll_nil r0
 obtain rfl:args=#[v0]:=by cases args;simp_all
 have k0:=h0
 have lt0:∀ x∈p0,x.block<W.heap.size:=by obtain⟨m,hm⟩:=k0;exact DataW.trod_lt m _ _ _ hm
 obtain⟨f0,sv,ss,rfl,hwf,is0⟩:=Kit.open_irfun (hval 0 25 v0 rfl rfl) h0
 have hR:=of_laid hL
 have hn0:∀ i,i<f0.code.length->(Lit.int .i64 (f0.code.getD i Pl.IrI.zero).n).wf=true:=fun i hi=>by
  rw[List.getD_eq_getElem?_getD,List.getElem?_eq_getElem hi]
  have:=hwf _ (List.getElem_mem hi)
  simp only[Option.getD_some]
  generalize (f0.code[i]).n=y at this ⊢
  simp[Lit.wf,IntKind.min,IntKind.max,IntKind.signed,IntKind.bits]
  omega
 clear hA0 hval0
 refine (Go.Proofs.YtcgfgmlfbgbkfaaGreatDoor.W.fnExactAllot_walk f0 sv ss W is0 hn0 hR).mono fun e W' ⟨he,bel⟩=>?_
 subst he
 have hvars:=Below.trodVars laidOut bel (by kernel_rfl) hV
 obtain⟨e0,rfl⟩:=vars_one hV
 exact⟨_,rfl,_,_,_,[],_,_,hW',trodAll_mk1 (shut_bool Tryz.underlying4 _),(trodAll_cons_mk (Below.trod laidOut (by kernel_rfl) (of_decide_eq_true (by kernel_rfl)) k0 bel lt0) trodAll_mk0),hvars,bel.frame _,fun h=>by cases h⟩
theorem over:Rows.fnExactAllotRow.holds Tryz.pinned (OpenSpec.ofChange Rows.fnExactAllotSpec):=
 OpenClaim.holds_of_wide 5 Tryz.f5 rfl rfl rfl rfl rfl rfl rfl ⟨rfl,rfl,rfl,rfl,rfl⟩ rfl rfl rfl rfl rfl (by kernel_rfl) Tryz.func5 (by kernel_rfl)
  (of_decide_eq_true (by kernel_rfl)) (by unfold Func.isWrapper;first | (rw[if_pos (by decide +kernel)];kernel_rfl) | (rw[if_neg (by decide +kernel)];exact⟨rfl,rfl⟩))
  (fun os started H enc _=>lifted os started H enc)
theorem card:Rows.FnExactAllotCardSaid:=
 Claim7.holds_tied_plain_at .later [] [.data,.data] true Rows.fnExactAllotCard.stood.harness true
  over (fun _ h=>by cases h) (by kernel_rfl) (fun _ h=>by cases h) fnExactAllot_row_tie rfl ⟨rfl,rfl⟩ (by kernel_rfl) rfl
  (fun f fn hf hfn=>by
   obtain rfl:f=5:=Option.some.inj (Eq.trans (Eq.symm hf) (by kernel_rfl))
   obtain rfl:fn=Tryz.f5:=(Option.some.inj (Tryz.func5.symm.trans hfn)).symm
   exact⟨by kernel_rfl,fun j t ht=>by
    rw[Tryz.params5]at ht
    have h3:t=25:=by
     rcases j with _ | j
     ·simpa using ht.symm
     ·simp at ht
    subst h3
    exact (show Tryz.prog.wantsStandIn 25=false by kernel_rfl)⟩)
  (by kernel_rfl)
end Go.Proofs.YtcgfgmlfbgbkfaaGreatDoor.fnExactAllot
namespace Go.Proofs.YtcgfgmlfbgbkfaaGreatDoor
theorem fnExactAllot_holds:Rows.FnExactAllotCardSaid:=fnExactAllot.card
end Go.Proofs.YtcgfgmlfbgbkfaaGreatDoor
