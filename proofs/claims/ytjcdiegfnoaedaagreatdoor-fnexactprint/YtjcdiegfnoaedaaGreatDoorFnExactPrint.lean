import Derived.Test.YtjcdiegfnoaedaaGreatDoorRows
import Derived.Test.YtjcdiegfnoaedaaGreatDoorCards
import Derived.Test.YtjcdiegfnoaedaaGreatDoorTie
import Derived.Test.YtjcdiegfnoaedaaGreatDoorZ33
import Derived.Test.YtjcdiegfnoaedaaGreatDoorZ51
import Derived.Test.YtjcdiegfnoaedaaGreatDoorZ50
import Derived.WalkKit
import Derived.ProofKit
import Derived.LaidMore
import Derived.Lib.LaidTab
import Derived.OpenShut
import Derived.ShutString
import Derived.OpenVars
import Derived.ChangeOld
import Derived.Below
import Derived.Stop.Joined
import Derived.Stop.LaidErr
import Derived.Lay
import Derived.SevenTiedAt
import Derived.Deep.DeepHandedRow
import Derived.Shelf.Vars
set_option linter.unusedVariables false
namespace Go.Proofs.YtjcdiegfnoaedaaGreatDoor.fnExactPrint
open Go.ChangeShapes Go.WideShapes Go.ChangeAt Go.RowKit
theorem own:ownKnob Tryz.prog.godebug=none:=by kernel_rfl
theorem laidOut:laidOutB Tryz.prog=true:=by kernel_rfl
theorem star : "*" ++ "errors.errorString" = "*errors.errorString" :=by decide
theorem aFm (u:TypeId) (h:Tryz.prog.typeName? 3 u=some "*errors.errorString"):u=262:=
 typeName_ptr_named (nm:= "errors.errorString") (by rw[star];kernel_rfl) (by kernel_rfl) (by decide) u (by rw[star];exact h)
theorem gS:Tryz.prog.globalNamed "strconv.ErrSyntax" = some 0:=by kernel_rfl
theorem gR:Tryz.prog.globalNamed "strconv.ErrRange" = some 1:=by kernel_rfl
theorem gST:(Tryz.prog.globals[0]?).map (·.type)=some 213:=by kernel_rfl
theorem gRT:(Tryz.prog.globals[1]?).map (·.type)=some 213:=by kernel_rfl
theorem cellsE:Tryz.prog.cellsOf 264=1:=by kernel_rfl
theorem Sn:Tryz.prog.cellsOf 9=1:=by kernel_rfl
theorem Ir {W:World} (h:W.ShapedOpen Tryz.prog):∃ m,W.cell? ⟨3,0,none⟩=some (.int .i64 m):=
 cell_of_shapedOpen_int (zero:=#[.int .i64 0]) h (of_decide_eq_true (by kernel_rfl)) (by kernel_rfl) rfl (by kernel_rfl) (by kernel_rfl) Tryz.underlying3
def aBl:List Int:=[0,1,56,2,57,49,28,3,61,58,42,50,38,29,17,4,62,47,59,36,45,43,51,22,53,39,33,30,24,18,12,5,63,55,48,27,60,41,37,16,46,35,44,21,52,32,23,11,54,26,40,15,34,20,31,10,25,14,19,9,13,8,7,6]
theorem aDE:Rows.laid_math_bits_deBruijn64tab (H:=Unit)=Lib.tabData .u8 aBl:=rfl
theorem aDF:Rows.laid_internal_strconv_uint64pow10 (H:=Unit)=Lib.tabData .u64 Lib.pow10Tab:=rfl
theorem aA2 {W:World} (h:laidMetH Tryz.prog Rows.fnExactPrintRow.laid W) (hsh:W.ShapedOpen Tryz.prog):Go.Proofs.YtjcdiegfnoaedaaGreatDoor.W.nR W/\Go.Proofs.YtjcdiegfnoaedaaGreatDoor.W.bD W/\Go.Proofs.YtjcdiegfnoaedaaGreatDoor.W.iH W:=by
 rw[MakeChecks.laidMetH_plain _ _ _ (by kernel_rfl)]at h
 have hd:Go.Proofs.YtjcdiegfnoaedaaGreatDoor.W.bD W:=by
  have ht:Lib.TabIs Tryz.prog W "math/bits.deBruijn64tab" .u8 aBl:=
   Lib.tabIs_of_head (g:=7) (t:=281) (e:=5) (n:=64) (by kernel_rfl) (by kernel_rfl) Tryz.underlying281 Tryz.underlying5 (by kernel_rfl) (by kernel_rfl) (laidMet.tail h)
  have hc:=ht.cell (g:=7) (by kernel_rfl) 7 (by decide)
  exact⟨block_lt_of_cell hc,hc⟩
 have aGQ:Go.Proofs.YtjcdiegfnoaedaaGreatDoor.W.iH W:=
  Lib.tabIs_of_head (g:=2) (t:=266) (e:=211) (n:=20) (by kernel_rfl) (by kernel_rfl) Tryz.underlying266 Tryz.underlying211 (by kernel_rfl) (by kernel_rfl) (laidMet.tail (laidMet.tail h))
 have h4:=laidMet.tail (laidMet.tail (laidMet.tail (laidMet.tail h)))
 obtain⟨a1,s1,hv1,_,_,_⟩:=laid_sentinel h4 gR gRT Tryz.underlying213 aFm Tryz.underlying262 Tryz.underlying264 rfl rfl Tryz.underlying9 cellsE Sn
 obtain⟨a0,s0,hv0,_,_,_⟩:=laid_sentinel (laidMet.tail h4) gS gST Tryz.underlying213 aFm Tryz.underlying262 Tryz.underlying264 rfl rfl Tryz.underlying9 cellsE Sn
 exact⟨⟨⟨_,World.var?_cell gS hv0 0,.inr ⟨_,_,rfl⟩⟩,⟨_,World.var?_cell gR hv1 0,.inr ⟨_,_,rfl⟩⟩,Ir hsh⟩,hd,aGQ⟩
set_option maxHeartbeats 1000000 in
set_option maxRecDepth 100000 in
theorem lifted (os:Os) (started:os.Started) (H:Type) (enc:TypeId × Value->H) :
  ReturnsInHanded {} Tryz.checked os 3 .any (fun w args=>(Rows.fnExactPrintSpec.pre enc Tryz.prog Tryz.f3 [] false w args/\laidMetH Tryz.prog Rows.fnExactPrintRow.laid w)/\sizedMet enc Tryz.prog Tryz.f3 (OpenSpec.ofChange Rows.fnExactPrintSpec) false w args)
   (Rows.fnExactPrintSpec.post enc Tryz.prog Tryz.f3 false true false false):=by
 refine returnsInHanded_of_row (C:=Tryz.checked) (s:=OpenSpec.ofChange Rows.fnExactPrintSpec) (F:=fun _ _ _=>0) (laid:=Rows.fnExactPrintRow.laid) own started (by kernel_rfl) Tryz.func3
  (ChangeSpec.witness_shaped (enc:=enc) (C:=Tryz.checked) (os:=os) (X:=fun w _=>laidMetH Tryz.prog Rows.fnExactPrintRow.laid w) false (World.laidAll Tryz.prog os Rows.fnExactPrintRow.laid) #[.agg #[.slice none 0 0]] 8 (World.laidAll_os _ _ _)
   (World.shaped_of_ZipB (by kernel_rfl) (by kernel_rfl)) (by kernel_rfl) (by kernel_rfl) (by kernel_rfl)
   (by rw[MakeChecks.laidMetH_plain _ _ _ (by kernel_rfl)];exact laidMet_laidAll _ (by kernel_rfl) (by kernel_rfl))) ?_
 intro W base args ds gs before hval0 hW _ _ _ hL hsh _
 have hval:∀ (j:Nat) t v,Tryz.f3.params[j]?=some t->args[j]?=some v->Value.okWide Tryz.prog W .any base t v:=hval0
 have hW':=hW
 obtain⟨p,q,hA0,hV,rfl,hfz,hnd⟩:=hW
 have hA:DataW.TrodAll enc Tryz.prog W 0 (fun _=>true) true Tryz.f3.params.toList args.toList ds p:=hA0
 rw[Tryz.params3]at hA hval
 obtain⟨v0,vs0,d0,ds0,p0,q0,hargs,rfl,rfl,h0,r0⟩:=trodAll_cons hA
 obtain⟨rfl,rfl,rfl⟩:=trodAll_nil r0
 obtain rfl:args=#[v0]:=by cases args;simp_all
 obtain⟨rfl,rfl⟩:=trodVars_none hV
 have k0:=h0
 have lt0:∀ x∈p0,x.block<W.heap.size:=by obtain⟨m,hm⟩:=k0;exact DataW.trod_lt m _ _ _ hm
 obtain⟨a0,l0,c0,xs,rfl,hwf,is0⟩:=Kit.ZV (hval 0 24 v0 rfl rfl) h0
 have hR:=aA2 hL hsh
 clear hA0 hval0
 refine (Go.Proofs.YtjcdiegfnoaedaaGreatDoor.W.yO a0 l0 c0 xs W is0 hwf hR).mono fun e W' ⟨he,jR⟩=>?_
 subst he
 exact⟨_,rfl,_,_,_,[],_,[],hW',trodAll_mk1 (shut_bool Tryz.underlying4 _),(trodAll_cons_mk (Below.trod laidOut (by kernel_rfl) (of_decide_eq_true (by kernel_rfl)) k0 jR lt0) trodAll_mk0),rfl,jR.frame _,fun h=>by cases h⟩
theorem over:Rows.fnExactPrintRow.holds Tryz.pinned (OpenSpec.ofChange Rows.fnExactPrintSpec):=
 OpenClaim.holds_of_wide 3 Tryz.f3 rfl rfl rfl rfl rfl rfl rfl ⟨rfl,rfl,rfl,rfl,rfl⟩ rfl rfl rfl rfl rfl (by kernel_rfl) Tryz.func3 (by kernel_rfl)
  (of_decide_eq_true (by kernel_rfl)) (by unfold Func.isWrapper;first | (rw[if_pos (by decide +kernel)];kernel_rfl) | (rw[if_neg (by decide +kernel)];exact⟨rfl,rfl⟩))
  (fun os started H enc _=>lifted os started H enc)
theorem card:Rows.FnExactPrintCardSaid:=
 Claim7.holds_tied_plain_at .later [] [.data,.data,.data,.data,.sentinel,.sentinel,.pinned] true Rows.fnExactPrintCard.stood.harness true
  over (fun _ h=>by cases h) (by kernel_rfl) (fun _ h=>by cases h) fnExactPrint_row_tie rfl ⟨rfl,rfl⟩ (by kernel_rfl) rfl
  (fun f fn hf hfn=>by
   obtain rfl:f=3:=Option.some.inj (Eq.trans (Eq.symm hf) (by kernel_rfl))
   obtain rfl:fn=Tryz.f3:=(Option.some.inj (Tryz.func3.symm.trans hfn)).symm
   exact⟨by kernel_rfl,fun j t ht=>by
    rw[Tryz.params3]at ht
    have h3:t=24:=by
     rcases j with _ | j
     ·simpa using ht.symm
     ·simp at ht
    subst h3
    exact (show Tryz.prog.wantsStandIn 24=false by kernel_rfl)⟩)
  (by kernel_rfl)
end Go.Proofs.YtjcdiegfnoaedaaGreatDoor.fnExactPrint
namespace Go.Proofs.YtjcdiegfnoaedaaGreatDoor
theorem fnExactPrint_holds:Rows.FnExactPrintCardSaid:=fnExactPrint.card
end Go.Proofs.YtjcdiegfnoaedaaGreatDoor
