import Derived.Test.YtlbomnnldkeocaaGreatI40
import Derived.Test.YtlbomnnldkeocaaGreatI41
import Derived.Test.YtlbomnnldkeocaaGreatI08
import Derived.BigQuiet
import Derived.Test.YtlbomnnldkeocaaGreatI37
import Derived.Maps.Own
import Derived.Maps.Views
import Derived.StringKeys
set_option linter.unusedVariables false
set_option linter.unusedSimpArgs false
set_option maxHeartbeats 16000000
namespace Go.Proofs.YtlbomnnldkeocaaGreat.W
open Go.RowKit
set_option maxRecDepth 100000 in
theorem Gz:xE fun xs k=>(Pl.gl xs k).k=13/\(Pl.gl xs k).s=⟨#[]⟩:=by
 intro lo xs F R g k a len cap la ll lc aa ac vc vd _ _ _ _ _ _ _ _ _ _ _ _ _ _ _ _ _ _ _ _ _ _ _ _ _ _ _ _ _ _ _ _ _ _ _ _ _ _ _ _ _ _ _ _ _ _ _ _ _ _ _ _ _ _ _ _ _ _ _ _ _ _ _ _ _ _ _ _ _ _ _ _ _ _ _ _ _ _ _ _ _ _ _ _ _ _ _ _ _ _ _ _ _ _ _ _ _ _ _ _ _ _ _ _ _ _ _ _ _ _ _ _ _ _ _ _ _ _ _ _ _ _ _ _ _ _ _ _ _ _ _ _ _ _ _ _ _ _ _ _ w0 Y hE hF hK hS hL hk hn hR hq Q hN hX
 replace hq:(Pl.gl xs k).k=13/\(Pl.gl xs k).s=⟨#[]⟩:=hq
 have wE:Hid _:=hN
 have wW:Hid _:=hX
 have HE:Hid (pX lo xs Y F R a len cap la ll lc aa ac):=hE
 have hxl:xs.length=len:=hE.ln.len.1
 have lM:Hid (xs.length=len):=hxl
 have hK1:=hK k (by omega)
 have GG:Hid (nA (Pl.gl xs k)):=hK1
 obtain⟨a6,y6,hv6⟩:=aT hF.od
 subst hv6
 have HF:Hid (aZ w0 Y g vc (.slice a6 (Pl.aH xs k).length y6) (Pl.aL bI xs k) (Pl.aH xs k)):=hF
 have rC:Hid ((Pl.ins xs k).any (fun y=>!y.ok || (Pl.jT (Pl.gl xs k).k && Pl.rJ xs (Pl.gl xs k).s))=Pl.dQ xs k):=Pl.jQ xs k hK1.i
 have mR:Hid (Pl.ins xs k=Pl.bM (Pl.gl xs k) (Pl.cu xs k).at (Pl.gT xs (Pl.gl xs k).s)):=rfl
 have uS:=oI hK (by omega) (Pl.gl xs k).s
 have yS:=oJ hK (by omega) (k:=k) (by omega)
 have vS:Hid (Pl.aL bI xs (k+1)=Pl.aL bI xs k ++ (Pl.ins xs k).map bI):=Pl.dH _ _ _
 have uI:Hid (Pl.aH xs (k+1)=Pl.aH xs k ++ Pl.dat xs k):=Pl.dZ _ _
 have gM:=Pl.eB bI xs (fun i hi=>(hK i hi).b) hS k (by omega)
 have hcb:=Pl.jO xs (fun i hi=>(hK i hi).b) k (by omega)
 have hcl:(Pl.aL bI xs k).length<=100000:=by omega
 have hdl:(Pl.aH xs k).length<=1310720000:=by omega
 have HB0:Hid (((Pl.aH xs k).length:Int)=(Pl.cu xs k).b):=gM.2
 have hg0:=hF.hg
 have hgY:g<Y.heap.size:=hF.lt
 have hs0:(Pl.gl xs k).s=⟨#[]⟩:=hq.2
 have ha0:Pl.gT xs (Pl.gl xs k).s=0/\Pl.rJ xs (Pl.gl xs k).s=false:=by rw[hs0];exact pI hK
 have se:(Pl.gl xs k).s.toList.isEmpty=true:=by rw[<- Pl.jU];simpa using hs0
 have wG:Hid (Pl.aH xs (k+1)=Pl.aH xs k ++ Pl.nD (Pl.gl xs k).n (Pl.fK (Pl.gl xs k) 0).toNat):=by show _=_;rw[uI.out,Pl.CR xs k (by omega) hs0]
 have ZA:0<=Pl.fK (Pl.gl xs k) 0/\Pl.fK (Pl.gl xs k) 0<=4:=by unfold Pl.fK;rcases (show (Pl.gl xs k).k=12\/(Pl.gl xs k).k=13\/(Pl.gl xs k).k=14 by omega) with e | e | e <;> simp[e]
 have ZB:Hid (((Pl.fK (Pl.gl xs k) 0).toNat:Int)=Pl.fK (Pl.gl xs k) 0):=by show _=_;omega
 have Vv:0<=(Pl.gl xs k).n/\(Pl.gl xs k).n<=4294967295:=by
  rcases (show (Pl.gl xs k).k=12\/(Pl.gl xs k).k=13\/(Pl.gl xs k).k=14 by omega) with e | e | e
  ·have:=hK1.n12 e;omega
  ·have:=hK1.n13 e;omega
  ·exact hK1.Kc e (by rw[hs0];rfl)
 have HIS:Hid (∀ u,bV (Pl.gl xs k) (Pl.cu xs k).at (Pl.gT xs (Pl.gl xs k).s) u):=fun u=>gV _ _ _ u hK1.b.k (by omega) (by omega) hK1.i.w4 (fun q=>by have:=hK1.far (.inl q);omega)
 have hat:=hE.ats hk
 obtain⟨ba,oa,yT,TY,cat⟩:=hat
 subst yT
 obtain⟨b0,off,wH,hlo,hb1,hsz,z0,z1,z2,z3,z4,z5,z6,z7⟩:=hE.ln.at k hk
 subst wH
 have hi:(k:Int)<(len:Int):=by omega
 have wI:Hid (Pl.sG (Pl.gl xs k)):=hK1.b
 have hf0:=hE.f0
 have TZ:F<Y.heap.size:=block_lt_of_cell hf0
 clear hE hF hN hX hK hS hL hK1 gM hcb hsz
 conv=>arg 2;whnf
 dsimp only
 rw[ha0.2]at rC
 rw[ha0.1]at mR HIS
 generalize hx:Pl.gl xs k=x at *
 have sU:Hid (Pl.gl xs k=x):=hx
 clear hx
 have hkk:x.k=13:=hq.1
 have HKK:Hid (x.k=13):=hkk
 rw[hkk]at z0
 clear hq hkk
 clear ha0 hs0
 go_upto_region 12 with fail
 have hrow:(Y.alloc (.cells #[.int .i64 13,.int .i64 x.op,.int .i64 x.rd,.int .i64 x.r1,.int .i64 x.r2,.int .i64 x.im,.string x.s,.int .i64 x.n] 51)).heap[Y.heap.size]?=some (.cells #[.int .i64 13,.int .i64 x.op,.int .i64 x.rd,.int .i64 x.r1,.int .i64 x.r2,.int .i64 x.im,.string x.s,.int .i64 x.n] 51 (0,0)):=heap_alloc_new Y _
 have aX:Hid (∀ w1:World,w1.heap[Y.heap.size]?=some (.cells #[.int .i64 13,.int .i64 x.op,.int .i64 x.rd,.int .i64 x.r1,.int .i64 x.r2,.int .i64 x.im,.string x.s,.int .i64 x.n] 51 (0,0))->∀ j,w1.cell? ⟨Y.heap.size,j,none⟩=(#[.int .i64 13,.int .i64 x.op,.int .i64 x.rd,.int .i64 x.r1,.int .i64 x.r2,.int .i64 x.im,.string x.s,.int .i64 x.n]:Array Value)[j]?):=fun w1 hw1 j=>cell_of_row _ _ j _ 51 (0,0) hw1
 have HRW:Hid ((Y.alloc (.cells #[.int .i64 13,.int .i64 x.op,.int .i64 x.rd,.int .i64 x.r1,.int .i64 x.r2,.int .i64 x.im,.string x.s,.int .i64 x.n] 51)).heap[Y.heap.size]?=some (.cells #[.int .i64 13,.int .i64 x.op,.int .i64 x.rd,.int .i64 x.r1,.int .i64 x.r2,.int .i64 x.im,.string x.s,.int .i64 x.n] 51 (0,0))):=hrow
 refine rV F Y.heap.size k ba oa len ac x (Pl.cu xs k).at 0 (Y.alloc (.cells #[.int .i64 13,.int .i64 x.op,.int .i64 x.rd,.int .i64 x.r1,.int .i64 x.r2,.int .i64 x.im,.string x.s,.int .i64 x.n] 51)) (aF (aB _ _) HE.out.f1) hk hn (aF (aB _ _) cat) (by rw[HKK.out];exact aX.out _ HRW.out 0) (aX.out _ HRW.out 1) (aX.out _ HRW.out 2) (aX.out _ HRW.out 3) (aX.out _ HRW.out 4) (aX.out _ HRW.out 5) (aX.out _ HRW.out 6) (aX.out _ HRW.out 7) (HIS.out _) ?_
 intro ai ni ci w1 hI hw1
 have HI:Hid (aY (Y.alloc (.cells #[.int .i64 13,.int .i64 x.op,.int .i64 x.rd,.int .i64 x.r1,.int .i64 x.r2,.int .i64 x.im,.string x.s,.int .i64 x.n] 51)).heap.size w1 ai ni (Pl.bM x (Pl.cu xs k).at 0)):=hI
 have HW1:Hid (Below (Y.alloc (.cells #[.int .i64 13,.int .i64 x.op,.int .i64 x.rd,.int .i64 x.r1,.int .i64 x.r2,.int .i64 x.im,.string x.s,.int .i64 x.n] 51)).heap.size (Y.alloc (.cells #[.int .i64 13,.int .i64 x.op,.int .i64 x.rd,.int .i64 x.r1,.int .i64 x.r2,.int .i64 x.im,.string x.s,.int .i64 x.n] 51)) w1):=hw1
 have HR1:Hid (w1.heap[Y.heap.size]?=some (.cells #[.int .i64 13,.int .i64 x.op,.int .i64 x.rd,.int .i64 x.r1,.int .i64 x.r2,.int .i64 x.im,.string x.s,.int .i64 x.n] 51 (0,0))):=(hw1.block Y.heap.size (by simp)).trans hrow
 have tV:Hid (aZ w0 w1 g vc (.slice a6 (Pl.aH xs k).length y6) (Pl.aL bI xs k) (Pl.aH xs k)):=(HF.out.keep (aB _ _)).keep hw1
 have k0:=aX.out _ HR1.out 0
 simp only[List.getElem?_toArray,List.getElem?_cons_zero]at k0
 clear hI hw1 hrow
 go_upto_block 2 with fail
 refine kG k g R false true (Pl.bM x (Pl.cu xs k).at 0) ai ni ci vc _ (Pl.aL bI xs k) (Pl.aH xs k) w0 w1 tV.out HI.out ((HE.out.keep (Below.trans (aB Y _) (HW1.out.mono (by simp)))).r) hR (by simp;omega) hcl ?N ?X
 case X=>
  intros
  rename_i hany hrw hbe
  refine wW.out _ _ _ _ _ _ _ _ _ _ _ _ _ _ _ _ _ _ _ _ _ _ _ _ _ _ _ _ _ _ _ _ _ _ _ _ _ _ _ _ _ _ _ _ _ _ _ _ _ _ _ _ _ _ _ _ _ _ _ _ _ _ _ _ _ _ _ _ _ _ _ _ _ _ _ _ _ _ _ _ _ _ _ _ _ _ _ _ _ _ _ _ _ _ _ _ _ _ _ _ _ _ _ _ _ _ _ _ _ _ _ _ _ _ _ _ _ _ _ _ _ _ _ _ _ _ _ _ _ _ _ _ _ _ ?_ hrw hbe
  rw[<- rC.out,mR.out]
  simpa [Pl.jT,HKK.out] using hany
 case N=>
  intro v5 v14 v15 v16 v71 v72 v73 v74 v75 v76 v77 v78 v79 v80 v81 v82 v83 v84 v85 v86 v87 OZ v89 PD v91 PE v93 PG PH PI PK PL PM wJ wK u rW hany hs2 hby
  have HS2:Hid (aZ w0 u g rW (.slice a6 (Pl.aH xs k).length y6) (Pl.aL bI xs (k+1)) (Pl.aH xs k)):=by show aZ _ _ _ _ _ _ _;rw[vS.out,mR.out];exact hs2
  have vE:Hid (Pl.dQ xs k=false):=by
   show _=_
   rw[<- rC.out,mR.out]
   simpa [Pl.jT,HKK.out] using hany
  have HR2:Hid (u.heap[Y.heap.size]?=some (.cells #[.int .i64 13,.int .i64 x.op,.int .i64 x.rd,.int .i64 x.r1,.int .i64 x.r2,.int .i64 x.im,.string x.s,.int .i64 x.n] 51 (0,0))):=hby.block _ _ (by omega) HR1.out (fun c q=>by injection q with _ q2 _;exact absurd q2 (by decide))
  have l0:=aX.out _ HR2.out 0;have l6:=aX.out _ HR2.out 6
  simp only[List.getElem?_toArray,List.getElem?_cons_zero,List.getElem?_cons_succ]at l0 l6
  clear hany hs2 hby k0
  go_upto_region 25 with fail
  refine vD g Y.heap.size ((Pl.aH xs k) ++ Pl.nD x.n (Pl.fK x 0).toNat).length _ x (Pl.fK x 0) a6 y6 (iD w0 ((Pl.aH xs k) ++ Pl.nD x.n (Pl.fK x 0).toNat)) u HS2.out.c1 (by rw[HKK.out];exact aX.out _ HR2.out 0) (aX.out _ HR2.out 1) (aX.out _ HR2.out 2) (aX.out _ HR2.out 3) (aX.out _ HR2.out 4) (aX.out _ HR2.out 5) (aX.out _ HR2.out 6) (aX.out _ HR2.out 7) (fun _ _ _ _ h1 h2=>iD.old HS2.out h1 h2) (fun u3=>eO x 0 wI.out (by omega) u3) (fun u3 h3=>by have h5:=MU (HS2.out.keep h3) x.n (Pl.fK x 0).toNat (by omega) (by omega) (by omega);rw[ZB.out]at h5;exact h5) ?_
  intro a2 y2 u3 u4 h3 h4
  have vT:Hid (aZ w0 (u4.setCell ⟨g,1,none⟩ (.slice a2 ((Pl.aH xs k) ++ Pl.nD x.n (Pl.fK x 0).toNat).length y2)) g rW (.slice a2 ((Pl.aH xs k) ++ Pl.nD x.n (Pl.fK x 0).toNat).length y2) (Pl.aL bI xs (k+1)) (Pl.aH xs (k+1))):=by show aZ _ _ _ _ _ _ _;rw[wG.out];exact iD.fin HS2.out h3 h4
  clear h3 h4
  go_wp2_with fail
  have hfn:=vT.out
  simp only[List.length_append]at hfn
  exact wE.out _ _ _ _ _ _ _ _ _ _ _ _ _ _ _ _ _ _ _ _ _ _ _ _ _ _ _ _ _ _ _ _ _ _ _ _ _ _ _ _ _ _ _ _ _ _ _ _ _ _ _ _ _ _ _ _ _ _ _ _ _ _ _ _ _ _ _ _ _ _ _ _ _ _ _ _ _ _ _ _ _ _ _ _ _ _ _ _ _ _ _ _ _ _ _ _ _ _ _ _ _ _ _ _ _ _ _ _ _ _ _ _ _ _ _ _ _ _ _ _ _ _ _ _ _ _ _ _ _ _ _ vE.out hfn
set_option maxRecDepth 100000 in
theorem Ha:xE fun xs k=>(Pl.gl xs k).k=14/\(Pl.gl xs k).s=⟨#[]⟩:=by
 intro lo xs F R g k a len cap la ll lc aa ac vc vd _ _ _ _ _ _ _ _ _ _ _ _ _ _ _ _ _ _ _ _ _ _ _ _ _ _ _ _ _ _ _ _ _ _ _ _ _ _ _ _ _ _ _ _ _ _ _ _ _ _ _ _ _ _ _ _ _ _ _ _ _ _ _ _ _ _ _ _ _ _ _ _ _ _ _ _ _ _ _ _ _ _ _ _ _ _ _ _ _ _ _ _ _ _ _ _ _ _ _ _ _ _ _ _ _ _ _ _ _ _ _ _ _ _ _ _ _ _ _ _ _ _ _ _ _ _ _ _ _ _ _ _ _ _ _ _ _ _ _ _ w0 Y hE hF hK hS hL hk hn hR hq Q hN hX
 replace hq:(Pl.gl xs k).k=14/\(Pl.gl xs k).s=⟨#[]⟩:=hq
 have wE:Hid _:=hN
 have wW:Hid _:=hX
 have HE:Hid (pX lo xs Y F R a len cap la ll lc aa ac):=hE
 have hxl:xs.length=len:=hE.ln.len.1
 have lM:Hid (xs.length=len):=hxl
 have hK1:=hK k (by omega)
 have GG:Hid (nA (Pl.gl xs k)):=hK1
 obtain⟨a6,y6,hv6⟩:=aT hF.od
 subst hv6
 have HF:Hid (aZ w0 Y g vc (.slice a6 (Pl.aH xs k).length y6) (Pl.aL bI xs k) (Pl.aH xs k)):=hF
 have rC:Hid ((Pl.ins xs k).any (fun y=>!y.ok || (Pl.jT (Pl.gl xs k).k && Pl.rJ xs (Pl.gl xs k).s))=Pl.dQ xs k):=Pl.jQ xs k hK1.i
 have mR:Hid (Pl.ins xs k=Pl.bM (Pl.gl xs k) (Pl.cu xs k).at (Pl.gT xs (Pl.gl xs k).s)):=rfl
 have uS:=oI hK (by omega) (Pl.gl xs k).s
 have yS:=oJ hK (by omega) (k:=k) (by omega)
 have vS:Hid (Pl.aL bI xs (k+1)=Pl.aL bI xs k ++ (Pl.ins xs k).map bI):=Pl.dH _ _ _
 have uI:Hid (Pl.aH xs (k+1)=Pl.aH xs k ++ Pl.dat xs k):=Pl.dZ _ _
 have gM:=Pl.eB bI xs (fun i hi=>(hK i hi).b) hS k (by omega)
 have hcb:=Pl.jO xs (fun i hi=>(hK i hi).b) k (by omega)
 have hcl:(Pl.aL bI xs k).length<=100000:=by omega
 have hdl:(Pl.aH xs k).length<=1310720000:=by omega
 have HB0:Hid (((Pl.aH xs k).length:Int)=(Pl.cu xs k).b):=gM.2
 have hg0:=hF.hg
 have hgY:g<Y.heap.size:=hF.lt
 have hs0:(Pl.gl xs k).s=⟨#[]⟩:=hq.2
 have ha0:Pl.gT xs (Pl.gl xs k).s=0/\Pl.rJ xs (Pl.gl xs k).s=false:=by rw[hs0];exact pI hK
 have se:(Pl.gl xs k).s.toList.isEmpty=true:=by rw[<- Pl.jU];simpa using hs0
 have wG:Hid (Pl.aH xs (k+1)=Pl.aH xs k ++ Pl.nD (Pl.gl xs k).n (Pl.fK (Pl.gl xs k) 0).toNat):=by show _=_;rw[uI.out,Pl.CR xs k (by omega) hs0]
 have ZA:0<=Pl.fK (Pl.gl xs k) 0/\Pl.fK (Pl.gl xs k) 0<=4:=by unfold Pl.fK;rcases (show (Pl.gl xs k).k=12\/(Pl.gl xs k).k=13\/(Pl.gl xs k).k=14 by omega) with e | e | e <;> simp[e]
 have ZB:Hid (((Pl.fK (Pl.gl xs k) 0).toNat:Int)=Pl.fK (Pl.gl xs k) 0):=by show _=_;omega
 have Vv:0<=(Pl.gl xs k).n/\(Pl.gl xs k).n<=4294967295:=by
  rcases (show (Pl.gl xs k).k=12\/(Pl.gl xs k).k=13\/(Pl.gl xs k).k=14 by omega) with e | e | e
  ·have:=hK1.n12 e;omega
  ·have:=hK1.n13 e;omega
  ·exact hK1.Kc e (by rw[hs0];rfl)
 have HIS:Hid (∀ u,bV (Pl.gl xs k) (Pl.cu xs k).at (Pl.gT xs (Pl.gl xs k).s) u):=fun u=>gV _ _ _ u hK1.b.k (by omega) (by omega) hK1.i.w4 (fun q=>by have:=hK1.far (.inl q);omega)
 have hat:=hE.ats hk
 obtain⟨ba,oa,yT,TY,cat⟩:=hat
 subst yT
 obtain⟨b0,off,wH,hlo,hb1,hsz,z0,z1,z2,z3,z4,z5,z6,z7⟩:=hE.ln.at k hk
 subst wH
 have hi:(k:Int)<(len:Int):=by omega
 have wI:Hid (Pl.sG (Pl.gl xs k)):=hK1.b
 have hf0:=hE.f0
 have TZ:F<Y.heap.size:=block_lt_of_cell hf0
 clear hE hF hN hX hK hS hL hK1 gM hcb hsz
 conv=>arg 2;whnf
 dsimp only
 rw[ha0.2]at rC
 rw[ha0.1]at mR HIS
 generalize hx:Pl.gl xs k=x at *
 have sU:Hid (Pl.gl xs k=x):=hx
 clear hx
 have hkk:x.k=14:=hq.1
 have HKK:Hid (x.k=14):=hkk
 rw[hkk]at z0
 clear hq hkk
 clear ha0 hs0
 go_upto_region 12 with fail
 have hrow:(Y.alloc (.cells #[.int .i64 14,.int .i64 x.op,.int .i64 x.rd,.int .i64 x.r1,.int .i64 x.r2,.int .i64 x.im,.string x.s,.int .i64 x.n] 51)).heap[Y.heap.size]?=some (.cells #[.int .i64 14,.int .i64 x.op,.int .i64 x.rd,.int .i64 x.r1,.int .i64 x.r2,.int .i64 x.im,.string x.s,.int .i64 x.n] 51 (0,0)):=heap_alloc_new Y _
 have aX:Hid (∀ w1:World,w1.heap[Y.heap.size]?=some (.cells #[.int .i64 14,.int .i64 x.op,.int .i64 x.rd,.int .i64 x.r1,.int .i64 x.r2,.int .i64 x.im,.string x.s,.int .i64 x.n] 51 (0,0))->∀ j,w1.cell? ⟨Y.heap.size,j,none⟩=(#[.int .i64 14,.int .i64 x.op,.int .i64 x.rd,.int .i64 x.r1,.int .i64 x.r2,.int .i64 x.im,.string x.s,.int .i64 x.n]:Array Value)[j]?):=fun w1 hw1 j=>cell_of_row _ _ j _ 51 (0,0) hw1
 have HRW:Hid ((Y.alloc (.cells #[.int .i64 14,.int .i64 x.op,.int .i64 x.rd,.int .i64 x.r1,.int .i64 x.r2,.int .i64 x.im,.string x.s,.int .i64 x.n] 51)).heap[Y.heap.size]?=some (.cells #[.int .i64 14,.int .i64 x.op,.int .i64 x.rd,.int .i64 x.r1,.int .i64 x.r2,.int .i64 x.im,.string x.s,.int .i64 x.n] 51 (0,0))):=hrow
 refine rV F Y.heap.size k ba oa len ac x (Pl.cu xs k).at 0 (Y.alloc (.cells #[.int .i64 14,.int .i64 x.op,.int .i64 x.rd,.int .i64 x.r1,.int .i64 x.r2,.int .i64 x.im,.string x.s,.int .i64 x.n] 51)) (aF (aB _ _) HE.out.f1) hk hn (aF (aB _ _) cat) (by rw[HKK.out];exact aX.out _ HRW.out 0) (aX.out _ HRW.out 1) (aX.out _ HRW.out 2) (aX.out _ HRW.out 3) (aX.out _ HRW.out 4) (aX.out _ HRW.out 5) (aX.out _ HRW.out 6) (aX.out _ HRW.out 7) (HIS.out _) ?_
 intro ai ni ci w1 hI hw1
 have HI:Hid (aY (Y.alloc (.cells #[.int .i64 14,.int .i64 x.op,.int .i64 x.rd,.int .i64 x.r1,.int .i64 x.r2,.int .i64 x.im,.string x.s,.int .i64 x.n] 51)).heap.size w1 ai ni (Pl.bM x (Pl.cu xs k).at 0)):=hI
 have HW1:Hid (Below (Y.alloc (.cells #[.int .i64 14,.int .i64 x.op,.int .i64 x.rd,.int .i64 x.r1,.int .i64 x.r2,.int .i64 x.im,.string x.s,.int .i64 x.n] 51)).heap.size (Y.alloc (.cells #[.int .i64 14,.int .i64 x.op,.int .i64 x.rd,.int .i64 x.r1,.int .i64 x.r2,.int .i64 x.im,.string x.s,.int .i64 x.n] 51)) w1):=hw1
 have HR1:Hid (w1.heap[Y.heap.size]?=some (.cells #[.int .i64 14,.int .i64 x.op,.int .i64 x.rd,.int .i64 x.r1,.int .i64 x.r2,.int .i64 x.im,.string x.s,.int .i64 x.n] 51 (0,0))):=(hw1.block Y.heap.size (by simp)).trans hrow
 have tV:Hid (aZ w0 w1 g vc (.slice a6 (Pl.aH xs k).length y6) (Pl.aL bI xs k) (Pl.aH xs k)):=(HF.out.keep (aB _ _)).keep hw1
 have k0:=aX.out _ HR1.out 0
 simp only[List.getElem?_toArray,List.getElem?_cons_zero]at k0
 clear hI hw1 hrow
 go_upto_block 2 with fail
 refine kG k g R false true (Pl.bM x (Pl.cu xs k).at 0) ai ni ci vc _ (Pl.aL bI xs k) (Pl.aH xs k) w0 w1 tV.out HI.out ((HE.out.keep (Below.trans (aB Y _) (HW1.out.mono (by simp)))).r) hR (by simp;omega) hcl ?N ?X
 case X=>
  intros
  rename_i hany hrw hbe
  refine wW.out _ _ _ _ _ _ _ _ _ _ _ _ _ _ _ _ _ _ _ _ _ _ _ _ _ _ _ _ _ _ _ _ _ _ _ _ _ _ _ _ _ _ _ _ _ _ _ _ _ _ _ _ _ _ _ _ _ _ _ _ _ _ _ _ _ _ _ _ _ _ _ _ _ _ _ _ _ _ _ _ _ _ _ _ _ _ _ _ _ _ _ _ _ _ _ _ _ _ _ _ _ _ _ _ _ _ _ _ _ _ _ _ _ _ _ _ _ _ _ _ _ _ _ _ _ _ _ _ _ _ _ _ _ _ ?_ hrw hbe
  rw[<- rC.out,mR.out]
  simpa [Pl.jT,HKK.out] using hany
 case N=>
  intro v5 v14 v15 v16 v71 v72 v73 v74 v75 v76 v77 v78 v79 v80 v81 v82 v83 v84 v85 v86 v87 OZ v89 PD v91 PE v93 PG PH PI PK PL PM wJ wK u rW hany hs2 hby
  have HS2:Hid (aZ w0 u g rW (.slice a6 (Pl.aH xs k).length y6) (Pl.aL bI xs (k+1)) (Pl.aH xs k)):=by show aZ _ _ _ _ _ _ _;rw[vS.out,mR.out];exact hs2
  have vE:Hid (Pl.dQ xs k=false):=by
   show _=_
   rw[<- rC.out,mR.out]
   simpa [Pl.jT,HKK.out] using hany
  have HR2:Hid (u.heap[Y.heap.size]?=some (.cells #[.int .i64 14,.int .i64 x.op,.int .i64 x.rd,.int .i64 x.r1,.int .i64 x.r2,.int .i64 x.im,.string x.s,.int .i64 x.n] 51 (0,0))):=hby.block _ _ (by omega) HR1.out (fun c q=>by injection q with _ q2 _;exact absurd q2 (by decide))
  have l0:=aX.out _ HR2.out 0;have l6:=aX.out _ HR2.out 6
  simp only[List.getElem?_toArray,List.getElem?_cons_zero,List.getElem?_cons_succ]at l0 l6
  clear hany hs2 hby k0
  go_upto_region 25 with fail
  refine vD g Y.heap.size ((Pl.aH xs k) ++ Pl.nD x.n (Pl.fK x 0).toNat).length _ x (Pl.fK x 0) a6 y6 (iD w0 ((Pl.aH xs k) ++ Pl.nD x.n (Pl.fK x 0).toNat)) u HS2.out.c1 (by rw[HKK.out];exact aX.out _ HR2.out 0) (aX.out _ HR2.out 1) (aX.out _ HR2.out 2) (aX.out _ HR2.out 3) (aX.out _ HR2.out 4) (aX.out _ HR2.out 5) (aX.out _ HR2.out 6) (aX.out _ HR2.out 7) (fun _ _ _ _ h1 h2=>iD.old HS2.out h1 h2) (fun u3=>eO x 0 wI.out (by omega) u3) (fun u3 h3=>by have h5:=MU (HS2.out.keep h3) x.n (Pl.fK x 0).toNat (by omega) (by omega) (by omega);rw[ZB.out]at h5;exact h5) ?_
  intro a2 y2 u3 u4 h3 h4
  have vT:Hid (aZ w0 (u4.setCell ⟨g,1,none⟩ (.slice a2 ((Pl.aH xs k) ++ Pl.nD x.n (Pl.fK x 0).toNat).length y2)) g rW (.slice a2 ((Pl.aH xs k) ++ Pl.nD x.n (Pl.fK x 0).toNat).length y2) (Pl.aL bI xs (k+1)) (Pl.aH xs (k+1))):=by show aZ _ _ _ _ _ _ _;rw[wG.out];exact iD.fin HS2.out h3 h4
  clear h3 h4
  go_wp2_with fail
  have hfn:=vT.out
  simp only[List.length_append]at hfn
  exact wE.out _ _ _ _ _ _ _ _ _ _ _ _ _ _ _ _ _ _ _ _ _ _ _ _ _ _ _ _ _ _ _ _ _ _ _ _ _ _ _ _ _ _ _ _ _ _ _ _ _ _ _ _ _ _ _ _ _ _ _ _ _ _ _ _ _ _ _ _ _ _ _ _ _ _ _ _ _ _ _ _ _ _ _ _ _ _ _ _ _ _ _ _ _ _ _ _ _ _ _ _ _ _ _ _ _ _ _ _ _ _ _ _ _ _ _ _ _ _ _ _ _ _ _ _ _ _ _ _ _ _ _ vE.out hfn
set_option maxRecDepth 100000 in
theorem Hd:xE fun xs k=>(Pl.gl xs k).k=15:=by
 intro lo xs F R g k a len cap la ll lc aa ac vc vd _ _ _ _ _ _ _ _ _ _ _ _ _ _ _ _ _ _ _ _ _ _ _ _ _ _ _ _ _ _ _ _ _ _ _ _ _ _ _ _ _ _ _ _ _ _ _ _ _ _ _ _ _ _ _ _ _ _ _ _ _ _ _ _ _ _ _ _ _ _ _ _ _ _ _ _ _ _ _ _ _ _ _ _ _ _ _ _ _ _ _ _ _ _ _ _ _ _ _ _ _ _ _ _ _ _ _ _ _ _ _ _ _ _ _ _ _ _ _ _ _ _ _ _ _ _ _ _ _ _ _ _ _ _ _ _ _ _ _ _ w0 Y hE hF hK hS hL hk hn hR hq Q hN hX
 replace hq:(Pl.gl xs k).k=15:=hq
 have wE:Hid _:=hN
 have wW:Hid _:=hX
 have HE:Hid (pX lo xs Y F R a len cap la ll lc aa ac):=hE
 have hxl:xs.length=len:=hE.ln.len.1
 have lM:Hid (xs.length=len):=hxl
 have hK1:=hK k (by omega)
 have GG:Hid (nA (Pl.gl xs k)):=hK1
 obtain⟨a6,y6,hv6⟩:=aT hF.od
 subst hv6
 have HF:Hid (aZ w0 Y g vc (.slice a6 (Pl.aH xs k).length y6) (Pl.aL bI xs k) (Pl.aH xs k)):=hF
 have rC:Hid ((Pl.ins xs k).any (fun y=>!y.ok || (Pl.jT (Pl.gl xs k).k && Pl.rJ xs (Pl.gl xs k).s))=Pl.dQ xs k):=Pl.jQ xs k hK1.i
 have mR:Hid (Pl.ins xs k=Pl.bM (Pl.gl xs k) (Pl.cu xs k).at (Pl.gT xs (Pl.gl xs k).s)):=rfl
 have uS:=oI hK (by omega) (Pl.gl xs k).s
 have yS:=oJ hK (by omega) (k:=k) (by omega)
 have vS:Hid (Pl.aL bI xs (k+1)=Pl.aL bI xs k ++ (Pl.ins xs k).map bI):=Pl.dH _ _ _
 have uI:Hid (Pl.aH xs (k+1)=Pl.aH xs k ++ Pl.dat xs k):=Pl.dZ _ _
 have gM:=Pl.eB bI xs (fun i hi=>(hK i hi).b) hS k (by omega)
 have hcb:=Pl.jO xs (fun i hi=>(hK i hi).b) k (by omega)
 have hcl:(Pl.aL bI xs k).length<=100000:=by omega
 have hdl:(Pl.aH xs k).length<=1310720000:=by omega
 have HB0:Hid (((Pl.aH xs k).length:Int)=(Pl.cu xs k).b):=gM.2
 have hg0:=hF.hg
 have hgY:g<Y.heap.size:=hF.lt
 have hs0:(Pl.gl xs k).s=⟨#[]⟩:=rA (hK1.XD (by omega) (by omega) (by omega) (by omega) (by omega) (by omega))
 have ha0:Pl.gT xs (Pl.gl xs k).s=0/\Pl.rJ xs (Pl.gl xs k).s=false:=by rw[hs0];exact pI hK
 have se:(Pl.gl xs k).s.toList.isEmpty=true:=by rw[<- Pl.jU];simpa using hs0
 have wG:Hid (Pl.aH xs (k+1)=Pl.aH xs k ++ List.replicate (Pl.fK (Pl.gl xs k) (Pl.cu xs k).b).toNat 0):=by show _=_;rw[uI.out,Pl.yR xs k (by omega)]
 have ZA:=Pl.uN hK1.b (Pl.cu xs k).b hcb.2.1
 have Vw:0<=(Pl.cu xs k).b/\(Pl.cu xs k).b<=1310720000:=by omega
 have ZB:Hid (((Pl.fK (Pl.gl xs k) (Pl.cu xs k).b).toNat:Int)=Pl.fK (Pl.gl xs k) (Pl.cu xs k).b):=by show _=_;omega
 have HIS:Hid (∀ u,bV (Pl.gl xs k) (Pl.cu xs k).at (Pl.gT xs (Pl.gl xs k).s) u):=fun u=>gV _ _ _ u hK1.b.k (by omega) (by omega) hK1.i.w4 (fun q=>by have:=hK1.far (.inl q);omega)
 have hat:=hE.ats hk
 obtain⟨ba,oa,yT,TY,cat⟩:=hat
 subst yT
 obtain⟨b0,off,wH,hlo,hb1,hsz,z0,z1,z2,z3,z4,z5,z6,z7⟩:=hE.ln.at k hk
 subst wH
 have hi:(k:Int)<(len:Int):=by omega
 have wI:Hid (Pl.sG (Pl.gl xs k)):=hK1.b
 have hf0:=hE.f0
 have TZ:F<Y.heap.size:=block_lt_of_cell hf0
 clear hE hF hN hX hK hS hL hK1 gM hcb hsz
 conv=>arg 2;whnf
 dsimp only
 rw[ha0.2]at rC
 rw[ha0.1]at mR HIS
 generalize hx:Pl.gl xs k=x at *
 have sU:Hid (Pl.gl xs k=x):=hx
 clear hx
 have hkk:x.k=15:=hq
 have HKK:Hid (x.k=15):=hkk
 rw[hkk]at z0
 clear hq hkk
 clear ha0 hs0
 go_upto_region 12 with fail
 have hrow:(Y.alloc (.cells #[.int .i64 15,.int .i64 x.op,.int .i64 x.rd,.int .i64 x.r1,.int .i64 x.r2,.int .i64 x.im,.string x.s,.int .i64 x.n] 51)).heap[Y.heap.size]?=some (.cells #[.int .i64 15,.int .i64 x.op,.int .i64 x.rd,.int .i64 x.r1,.int .i64 x.r2,.int .i64 x.im,.string x.s,.int .i64 x.n] 51 (0,0)):=heap_alloc_new Y _
 have aX:Hid (∀ w1:World,w1.heap[Y.heap.size]?=some (.cells #[.int .i64 15,.int .i64 x.op,.int .i64 x.rd,.int .i64 x.r1,.int .i64 x.r2,.int .i64 x.im,.string x.s,.int .i64 x.n] 51 (0,0))->∀ j,w1.cell? ⟨Y.heap.size,j,none⟩=(#[.int .i64 15,.int .i64 x.op,.int .i64 x.rd,.int .i64 x.r1,.int .i64 x.r2,.int .i64 x.im,.string x.s,.int .i64 x.n]:Array Value)[j]?):=fun w1 hw1 j=>cell_of_row _ _ j _ 51 (0,0) hw1
 have HRW:Hid ((Y.alloc (.cells #[.int .i64 15,.int .i64 x.op,.int .i64 x.rd,.int .i64 x.r1,.int .i64 x.r2,.int .i64 x.im,.string x.s,.int .i64 x.n] 51)).heap[Y.heap.size]?=some (.cells #[.int .i64 15,.int .i64 x.op,.int .i64 x.rd,.int .i64 x.r1,.int .i64 x.r2,.int .i64 x.im,.string x.s,.int .i64 x.n] 51 (0,0))):=hrow
 refine rV F Y.heap.size k ba oa len ac x (Pl.cu xs k).at 0 (Y.alloc (.cells #[.int .i64 15,.int .i64 x.op,.int .i64 x.rd,.int .i64 x.r1,.int .i64 x.r2,.int .i64 x.im,.string x.s,.int .i64 x.n] 51)) (aF (aB _ _) HE.out.f1) hk hn (aF (aB _ _) cat) (by rw[HKK.out];exact aX.out _ HRW.out 0) (aX.out _ HRW.out 1) (aX.out _ HRW.out 2) (aX.out _ HRW.out 3) (aX.out _ HRW.out 4) (aX.out _ HRW.out 5) (aX.out _ HRW.out 6) (aX.out _ HRW.out 7) (HIS.out _) ?_
 intro ai ni ci w1 hI hw1
 have HI:Hid (aY (Y.alloc (.cells #[.int .i64 15,.int .i64 x.op,.int .i64 x.rd,.int .i64 x.r1,.int .i64 x.r2,.int .i64 x.im,.string x.s,.int .i64 x.n] 51)).heap.size w1 ai ni (Pl.bM x (Pl.cu xs k).at 0)):=hI
 have HW1:Hid (Below (Y.alloc (.cells #[.int .i64 15,.int .i64 x.op,.int .i64 x.rd,.int .i64 x.r1,.int .i64 x.r2,.int .i64 x.im,.string x.s,.int .i64 x.n] 51)).heap.size (Y.alloc (.cells #[.int .i64 15,.int .i64 x.op,.int .i64 x.rd,.int .i64 x.r1,.int .i64 x.r2,.int .i64 x.im,.string x.s,.int .i64 x.n] 51)) w1):=hw1
 have HR1:Hid (w1.heap[Y.heap.size]?=some (.cells #[.int .i64 15,.int .i64 x.op,.int .i64 x.rd,.int .i64 x.r1,.int .i64 x.r2,.int .i64 x.im,.string x.s,.int .i64 x.n] 51 (0,0))):=(hw1.block Y.heap.size (by simp)).trans hrow
 have tV:Hid (aZ w0 w1 g vc (.slice a6 (Pl.aH xs k).length y6) (Pl.aL bI xs k) (Pl.aH xs k)):=(HF.out.keep (aB _ _)).keep hw1
 have k0:=aX.out _ HR1.out 0
 simp only[List.getElem?_toArray,List.getElem?_cons_zero]at k0
 clear hI hw1 hrow
 go_upto_block 2 with fail
 refine kG k g R false true (Pl.bM x (Pl.cu xs k).at 0) ai ni ci vc _ (Pl.aL bI xs k) (Pl.aH xs k) w0 w1 tV.out HI.out ((HE.out.keep (Below.trans (aB Y _) (HW1.out.mono (by simp)))).r) hR (by simp;omega) hcl ?N ?X
 case X=>
  intros
  rename_i hany hrw hbe
  refine wW.out _ _ _ _ _ _ _ _ _ _ _ _ _ _ _ _ _ _ _ _ _ _ _ _ _ _ _ _ _ _ _ _ _ _ _ _ _ _ _ _ _ _ _ _ _ _ _ _ _ _ _ _ _ _ _ _ _ _ _ _ _ _ _ _ _ _ _ _ _ _ _ _ _ _ _ _ _ _ _ _ _ _ _ _ _ _ _ _ _ _ _ _ _ _ _ _ _ _ _ _ _ _ _ _ _ _ _ _ _ _ _ _ _ _ _ _ _ _ _ _ _ _ _ _ _ _ _ _ _ _ _ _ _ _ ?_ hrw hbe
  rw[<- rC.out,mR.out]
  simpa [Pl.jT,HKK.out] using hany
 case N=>
  intro v5 v14 v15 v16 v71 v72 v73 v74 v75 v76 v77 v78 v79 v80 v81 v82 v83 v84 v85 v86 v87 OZ v89 PD v91 PE v93 PG PH PI PK PL PM wJ wK u rW hany hs2 hby
  have HS2:Hid (aZ w0 u g rW (.slice a6 (Pl.aH xs k).length y6) (Pl.aL bI xs (k+1)) (Pl.aH xs k)):=by show aZ _ _ _ _ _ _ _;rw[vS.out,mR.out];exact hs2
  have vE:Hid (Pl.dQ xs k=false):=by
   show _=_
   rw[<- rC.out,mR.out]
   simpa [Pl.jT,HKK.out] using hany
  have HR2:Hid (u.heap[Y.heap.size]?=some (.cells #[.int .i64 15,.int .i64 x.op,.int .i64 x.rd,.int .i64 x.r1,.int .i64 x.r2,.int .i64 x.im,.string x.s,.int .i64 x.n] 51 (0,0))):=hby.block _ _ (by omega) HR1.out (fun c q=>by injection q with _ q2 _;exact absurd q2 (by decide))
  have l0:=aX.out _ HR2.out 0;have l6:=aX.out _ HR2.out 6
  simp only[List.getElem?_toArray,List.getElem?_cons_zero,List.getElem?_cons_succ]at l0 l6
  clear hany hs2 hby k0
  go_upto_region 24 with fail
  refine Bn g Y.heap.size ((Pl.aH xs k) ++ List.replicate (Pl.fK x (Pl.cu xs k).b).toNat 0).length _ x (Pl.fK x (Pl.cu xs k).b) a6 y6 (iD w0 ((Pl.aH xs k) ++ List.replicate (Pl.fK x (Pl.cu xs k).b).toNat 0)) u HS2.out.c1 (by rw[HKK.out];exact aX.out _ HR2.out 0) (aX.out _ HR2.out 1) (aX.out _ HR2.out 2) (aX.out _ HR2.out 3) (aX.out _ HR2.out 4) (aX.out _ HR2.out 5) (aX.out _ HR2.out 6) (aX.out _ HR2.out 7) (fun _ _ _ _ h1 h2=>iD.old HS2.out h1 h2) (fun u3=>by rw[HB0.out];exact eO x (Pl.cu xs k).b wI.out (by omega) u3) (fun u3 h3=>by have h5:=Bo (HS2.out.keep h3) (Pl.fK x (Pl.cu xs k).b).toNat (by omega);rw[ZB.out]at h5;exact h5) ?_
  intro a2 y2 u3 u4 h3 h4
  have vT:Hid (aZ w0 (u4.setCell ⟨g,1,none⟩ (.slice a2 ((Pl.aH xs k) ++ List.replicate (Pl.fK x (Pl.cu xs k).b).toNat 0).length y2)) g rW (.slice a2 ((Pl.aH xs k) ++ List.replicate (Pl.fK x (Pl.cu xs k).b).toNat 0).length y2) (Pl.aL bI xs (k+1)) (Pl.aH xs (k+1))):=by show aZ _ _ _ _ _ _ _;rw[wG.out];exact iD.fin HS2.out h3 h4
  clear h3 h4
  go_wp2_with fail
  have hfn:=vT.out
  simp only[List.length_append,List.length_replicate]at hfn
  exact wE.out _ _ _ _ _ _ _ _ _ _ _ _ _ _ _ _ _ _ _ _ _ _ _ _ _ _ _ _ _ _ _ _ _ _ _ _ _ _ _ _ _ _ _ _ _ _ _ _ _ _ _ _ _ _ _ _ _ _ _ _ _ _ _ _ _ _ _ _ _ _ _ _ _ _ _ _ _ _ _ _ _ _ _ _ _ _ _ _ _ _ _ _ _ _ _ _ _ _ _ _ _ _ _ _ _ _ _ _ _ _ _ _ _ _ _ _ _ _ _ _ _ _ _ _ _ _ _ _ _ _ _ vE.out hfn
set_option maxRecDepth 100000 in
theorem He:xE fun xs k=>(Pl.gl xs k).k=16:=by
 intro lo xs F R g k a len cap la ll lc aa ac vc vd _ _ _ _ _ _ _ _ _ _ _ _ _ _ _ _ _ _ _ _ _ _ _ _ _ _ _ _ _ _ _ _ _ _ _ _ _ _ _ _ _ _ _ _ _ _ _ _ _ _ _ _ _ _ _ _ _ _ _ _ _ _ _ _ _ _ _ _ _ _ _ _ _ _ _ _ _ _ _ _ _ _ _ _ _ _ _ _ _ _ _ _ _ _ _ _ _ _ _ _ _ _ _ _ _ _ _ _ _ _ _ _ _ _ _ _ _ _ _ _ _ _ _ _ _ _ _ _ _ _ _ _ _ _ _ _ _ _ _ _ w0 Y hE hF hK hS hL hk hn hR hq Q hN hX
 replace hq:(Pl.gl xs k).k=16:=hq
 have wE:Hid _:=hN
 have wW:Hid _:=hX
 have HE:Hid (pX lo xs Y F R a len cap la ll lc aa ac):=hE
 have hxl:xs.length=len:=hE.ln.len.1
 have lM:Hid (xs.length=len):=hxl
 have hK1:=hK k (by omega)
 have GG:Hid (nA (Pl.gl xs k)):=hK1
 obtain⟨a6,y6,hv6⟩:=aT hF.od
 subst hv6
 have HF:Hid (aZ w0 Y g vc (.slice a6 (Pl.aH xs k).length y6) (Pl.aL bI xs k) (Pl.aH xs k)):=hF
 have rC:Hid ((Pl.ins xs k).any (fun y=>!y.ok || (Pl.jT (Pl.gl xs k).k && Pl.rJ xs (Pl.gl xs k).s))=Pl.dQ xs k):=Pl.jQ xs k hK1.i
 have mR:Hid (Pl.ins xs k=Pl.bM (Pl.gl xs k) (Pl.cu xs k).at (Pl.gT xs (Pl.gl xs k).s)):=rfl
 have uS:=oI hK (by omega) (Pl.gl xs k).s
 have yS:=oJ hK (by omega) (k:=k) (by omega)
 have vS:Hid (Pl.aL bI xs (k+1)=Pl.aL bI xs k ++ (Pl.ins xs k).map bI):=Pl.dH _ _ _
 have uI:Hid (Pl.aH xs (k+1)=Pl.aH xs k ++ Pl.dat xs k):=Pl.dZ _ _
 have gM:=Pl.eB bI xs (fun i hi=>(hK i hi).b) hS k (by omega)
 have hcb:=Pl.jO xs (fun i hi=>(hK i hi).b) k (by omega)
 have hcl:(Pl.aL bI xs k).length<=100000:=by omega
 have hdl:(Pl.aH xs k).length<=1310720000:=by omega
 have HB0:Hid (((Pl.aH xs k).length:Int)=(Pl.cu xs k).b):=gM.2
 have hg0:=hF.hg
 have hgY:g<Y.heap.size:=hF.lt
 have hs0:(Pl.gl xs k).s=⟨#[]⟩:=rA (hK1.XD (by omega) (by omega) (by omega) (by omega) (by omega) (by omega))
 have ha0:Pl.gT xs (Pl.gl xs k).s=0/\Pl.rJ xs (Pl.gl xs k).s=false:=by rw[hs0];exact pI hK
 have se:(Pl.gl xs k).s.toList.isEmpty=true:=by rw[<- Pl.jU];simpa using hs0
 have wG:Hid (Pl.aH xs (k+1)=Pl.aH xs k ++ List.replicate (Pl.fK (Pl.gl xs k) (Pl.cu xs k).b).toNat 0):=by show _=_;rw[uI.out,Pl.yR xs k (by omega)]
 have ZA:=Pl.uN hK1.b (Pl.cu xs k).b hcb.2.1
 have Vw:0<=(Pl.cu xs k).b/\(Pl.cu xs k).b<=1310720000:=by omega
 have ZB:Hid (((Pl.fK (Pl.gl xs k) (Pl.cu xs k).b).toNat:Int)=Pl.fK (Pl.gl xs k) (Pl.cu xs k).b):=by show _=_;omega
 have HIS:Hid (∀ u,bV (Pl.gl xs k) (Pl.cu xs k).at (Pl.gT xs (Pl.gl xs k).s) u):=fun u=>gV _ _ _ u hK1.b.k (by omega) (by omega) hK1.i.w4 (fun q=>by have:=hK1.far (.inl q);omega)
 have hat:=hE.ats hk
 obtain⟨ba,oa,yT,TY,cat⟩:=hat
 subst yT
 obtain⟨b0,off,wH,hlo,hb1,hsz,z0,z1,z2,z3,z4,z5,z6,z7⟩:=hE.ln.at k hk
 subst wH
 have hi:(k:Int)<(len:Int):=by omega
 have wI:Hid (Pl.sG (Pl.gl xs k)):=hK1.b
 have hf0:=hE.f0
 have TZ:F<Y.heap.size:=block_lt_of_cell hf0
 clear hE hF hN hX hK hS hL hK1 gM hcb hsz
 conv=>arg 2;whnf
 dsimp only
 rw[ha0.2]at rC
 rw[ha0.1]at mR HIS
 generalize hx:Pl.gl xs k=x at *
 have sU:Hid (Pl.gl xs k=x):=hx
 clear hx
 have hkk:x.k=16:=hq
 have HKK:Hid (x.k=16):=hkk
 rw[hkk]at z0
 clear hq hkk
 clear ha0 hs0
 go_upto_region 12 with fail
 have hrow:(Y.alloc (.cells #[.int .i64 16,.int .i64 x.op,.int .i64 x.rd,.int .i64 x.r1,.int .i64 x.r2,.int .i64 x.im,.string x.s,.int .i64 x.n] 51)).heap[Y.heap.size]?=some (.cells #[.int .i64 16,.int .i64 x.op,.int .i64 x.rd,.int .i64 x.r1,.int .i64 x.r2,.int .i64 x.im,.string x.s,.int .i64 x.n] 51 (0,0)):=heap_alloc_new Y _
 have aX:Hid (∀ w1:World,w1.heap[Y.heap.size]?=some (.cells #[.int .i64 16,.int .i64 x.op,.int .i64 x.rd,.int .i64 x.r1,.int .i64 x.r2,.int .i64 x.im,.string x.s,.int .i64 x.n] 51 (0,0))->∀ j,w1.cell? ⟨Y.heap.size,j,none⟩=(#[.int .i64 16,.int .i64 x.op,.int .i64 x.rd,.int .i64 x.r1,.int .i64 x.r2,.int .i64 x.im,.string x.s,.int .i64 x.n]:Array Value)[j]?):=fun w1 hw1 j=>cell_of_row _ _ j _ 51 (0,0) hw1
 have HRW:Hid ((Y.alloc (.cells #[.int .i64 16,.int .i64 x.op,.int .i64 x.rd,.int .i64 x.r1,.int .i64 x.r2,.int .i64 x.im,.string x.s,.int .i64 x.n] 51)).heap[Y.heap.size]?=some (.cells #[.int .i64 16,.int .i64 x.op,.int .i64 x.rd,.int .i64 x.r1,.int .i64 x.r2,.int .i64 x.im,.string x.s,.int .i64 x.n] 51 (0,0))):=hrow
 refine rV F Y.heap.size k ba oa len ac x (Pl.cu xs k).at 0 (Y.alloc (.cells #[.int .i64 16,.int .i64 x.op,.int .i64 x.rd,.int .i64 x.r1,.int .i64 x.r2,.int .i64 x.im,.string x.s,.int .i64 x.n] 51)) (aF (aB _ _) HE.out.f1) hk hn (aF (aB _ _) cat) (by rw[HKK.out];exact aX.out _ HRW.out 0) (aX.out _ HRW.out 1) (aX.out _ HRW.out 2) (aX.out _ HRW.out 3) (aX.out _ HRW.out 4) (aX.out _ HRW.out 5) (aX.out _ HRW.out 6) (aX.out _ HRW.out 7) (HIS.out _) ?_
 intro ai ni ci w1 hI hw1
 have HI:Hid (aY (Y.alloc (.cells #[.int .i64 16,.int .i64 x.op,.int .i64 x.rd,.int .i64 x.r1,.int .i64 x.r2,.int .i64 x.im,.string x.s,.int .i64 x.n] 51)).heap.size w1 ai ni (Pl.bM x (Pl.cu xs k).at 0)):=hI
 have HW1:Hid (Below (Y.alloc (.cells #[.int .i64 16,.int .i64 x.op,.int .i64 x.rd,.int .i64 x.r1,.int .i64 x.r2,.int .i64 x.im,.string x.s,.int .i64 x.n] 51)).heap.size (Y.alloc (.cells #[.int .i64 16,.int .i64 x.op,.int .i64 x.rd,.int .i64 x.r1,.int .i64 x.r2,.int .i64 x.im,.string x.s,.int .i64 x.n] 51)) w1):=hw1
 have HR1:Hid (w1.heap[Y.heap.size]?=some (.cells #[.int .i64 16,.int .i64 x.op,.int .i64 x.rd,.int .i64 x.r1,.int .i64 x.r2,.int .i64 x.im,.string x.s,.int .i64 x.n] 51 (0,0))):=(hw1.block Y.heap.size (by simp)).trans hrow
 have tV:Hid (aZ w0 w1 g vc (.slice a6 (Pl.aH xs k).length y6) (Pl.aL bI xs k) (Pl.aH xs k)):=(HF.out.keep (aB _ _)).keep hw1
 have k0:=aX.out _ HR1.out 0
 simp only[List.getElem?_toArray,List.getElem?_cons_zero]at k0
 clear hI hw1 hrow
 go_upto_block 2 with fail
 refine kG k g R false true (Pl.bM x (Pl.cu xs k).at 0) ai ni ci vc _ (Pl.aL bI xs k) (Pl.aH xs k) w0 w1 tV.out HI.out ((HE.out.keep (Below.trans (aB Y _) (HW1.out.mono (by simp)))).r) hR (by simp;omega) hcl ?N ?X
 case X=>
  intros
  rename_i hany hrw hbe
  refine wW.out _ _ _ _ _ _ _ _ _ _ _ _ _ _ _ _ _ _ _ _ _ _ _ _ _ _ _ _ _ _ _ _ _ _ _ _ _ _ _ _ _ _ _ _ _ _ _ _ _ _ _ _ _ _ _ _ _ _ _ _ _ _ _ _ _ _ _ _ _ _ _ _ _ _ _ _ _ _ _ _ _ _ _ _ _ _ _ _ _ _ _ _ _ _ _ _ _ _ _ _ _ _ _ _ _ _ _ _ _ _ _ _ _ _ _ _ _ _ _ _ _ _ _ _ _ _ _ _ _ _ _ _ _ _ ?_ hrw hbe
  rw[<- rC.out,mR.out]
  simpa [Pl.jT,HKK.out] using hany
 case N=>
  intro v5 v14 v15 v16 v71 v72 v73 v74 v75 v76 v77 v78 v79 v80 v81 v82 v83 v84 v85 v86 v87 OZ v89 PD v91 PE v93 PG PH PI PK PL PM wJ wK u rW hany hs2 hby
  have HS2:Hid (aZ w0 u g rW (.slice a6 (Pl.aH xs k).length y6) (Pl.aL bI xs (k+1)) (Pl.aH xs k)):=by show aZ _ _ _ _ _ _ _;rw[vS.out,mR.out];exact hs2
  have vE:Hid (Pl.dQ xs k=false):=by
   show _=_
   rw[<- rC.out,mR.out]
   simpa [Pl.jT,HKK.out] using hany
  have HR2:Hid (u.heap[Y.heap.size]?=some (.cells #[.int .i64 16,.int .i64 x.op,.int .i64 x.rd,.int .i64 x.r1,.int .i64 x.r2,.int .i64 x.im,.string x.s,.int .i64 x.n] 51 (0,0))):=hby.block _ _ (by omega) HR1.out (fun c q=>by injection q with _ q2 _;exact absurd q2 (by decide))
  have l0:=aX.out _ HR2.out 0;have l6:=aX.out _ HR2.out 6
  simp only[List.getElem?_toArray,List.getElem?_cons_zero,List.getElem?_cons_succ]at l0 l6
  clear hany hs2 hby k0
  go_upto_region 24 with fail
  refine Bn g Y.heap.size ((Pl.aH xs k) ++ List.replicate (Pl.fK x (Pl.cu xs k).b).toNat 0).length _ x (Pl.fK x (Pl.cu xs k).b) a6 y6 (iD w0 ((Pl.aH xs k) ++ List.replicate (Pl.fK x (Pl.cu xs k).b).toNat 0)) u HS2.out.c1 (by rw[HKK.out];exact aX.out _ HR2.out 0) (aX.out _ HR2.out 1) (aX.out _ HR2.out 2) (aX.out _ HR2.out 3) (aX.out _ HR2.out 4) (aX.out _ HR2.out 5) (aX.out _ HR2.out 6) (aX.out _ HR2.out 7) (fun _ _ _ _ h1 h2=>iD.old HS2.out h1 h2) (fun u3=>by rw[HB0.out];exact eO x (Pl.cu xs k).b wI.out (by omega) u3) (fun u3 h3=>by have h5:=Bo (HS2.out.keep h3) (Pl.fK x (Pl.cu xs k).b).toNat (by omega);rw[ZB.out]at h5;exact h5) ?_
  intro a2 y2 u3 u4 h3 h4
  have vT:Hid (aZ w0 (u4.setCell ⟨g,1,none⟩ (.slice a2 ((Pl.aH xs k) ++ List.replicate (Pl.fK x (Pl.cu xs k).b).toNat 0).length y2)) g rW (.slice a2 ((Pl.aH xs k) ++ List.replicate (Pl.fK x (Pl.cu xs k).b).toNat 0).length y2) (Pl.aL bI xs (k+1)) (Pl.aH xs (k+1))):=by show aZ _ _ _ _ _ _ _;rw[wG.out];exact iD.fin HS2.out h3 h4
  clear h3 h4
  go_wp2_with fail
  have hfn:=vT.out
  simp only[List.length_append,List.length_replicate]at hfn
  exact wE.out _ _ _ _ _ _ _ _ _ _ _ _ _ _ _ _ _ _ _ _ _ _ _ _ _ _ _ _ _ _ _ _ _ _ _ _ _ _ _ _ _ _ _ _ _ _ _ _ _ _ _ _ _ _ _ _ _ _ _ _ _ _ _ _ _ _ _ _ _ _ _ _ _ _ _ _ _ _ _ _ _ _ _ _ _ _ _ _ _ _ _ _ _ _ _ _ _ _ _ _ _ _ _ _ _ _ _ _ _ _ _ _ _ _ _ _ _ _ _ _ _ _ _ _ _ _ _ _ _ _ _ vE.out hfn
def CS (xs:List Pl.Ln) (w:World) (e:Ending) (w':World):Prop:=
 ∃ (a1:Option Addr) (n1 y1:Nat) (a2:Option Addr) (n2 y2:Nat),e=.returned (.tuple #[.agg #[.slice a1 n1 y1,.slice a2 n2 y2,.int .i64 0,.int .i64 0],.int .i64 (Pl.aV (Pl.dQ xs) xs.length)])/\Below w.heap.size w w'/\
  (Pl.aV (Pl.dQ xs) xs.length=-1->w'.ownsRow w.heap.size 3 1 (.slice a1 n1 y1) (Pl.aL bI xs xs.length).length (Pl.IW (Pl.aL bI xs xs.length))/\w'.ownsRow w.heap.size 5 1 (.slice a2 n2 y2) (Pl.aH xs xs.length).length (Pl.rY (Pl.aH xs xs.length)))
theorem ZC {lo:Nat} (xs:List Pl.Ln) (F R g k:Nat) (a:Option Addr) (len cap:Nat) (la:Option Addr) (ll lc:Nat) (aa:Option Addr) (ac:Nat) (vc vd:Value) {c1 c2 c5 c8 c9 c10 c11 c12 c13 c14 c15 c16 c17 c18 c19 c20 c21 dW c23 c24 dP eP fO c28 eQ eT c31 c32 eU c34 eX eY c37 fP fQ c40 gQ iP iQ iF iG c46 iY iH c49 iI c51 iJ c53 iZ iK iL iM fH c59 fU fV fZ gU c64 jC jX jY jZ kC c70 kI c72 jJ kJ c75 c76 nJ nK nL c80 nM nN nO nP c85 nQ c87 nR nS nT c91 nU c93 nV nW nX nY nZ oC gK gL eZ fA fB c105 fC c107 fD c109 gW gX gY gZ iA iB c116 c117 iC c119 fE fF kW kX c124 kY kZ c127 mF mG c130 c131 mH mI mJ mK mM mO c138 c139 mP c141 mQ c143 jR:Value} (w0 Y:World) (hE:pX lo xs Y F R a len cap la ll lc aa ac) (hF:aZ w0 Y g vc vd (Pl.aL bI xs k) (Pl.aH xs k)) (hK:∀ i,i<xs.length->nA (Pl.gl xs i)) (hS:∀ i,i<xs.length->Pl.dU xs i=false) (hL:Pl.lost xs k=false) (hk:k<len) (hn:len<=20000) (hR:R<w0.heap.size) {Q:Exit->Act->World->Prop}
  (hN:Md xs F R g k a len cap w0 Q c1 c2 c17 c18 c19 c20 c21 dW c23 c24 dP jR)
  (hX:Me xs F R g k a len cap w0 Q c1 c2 c17 c18 c19 c20 c21 dW c23 c24 dP jR) :
  (Ee 1).wp Tryz.prog Q { tmps:=#[.slice a len cap,c1,c2,.pointer (some ⟨F,0,none⟩),.pointer (some ⟨R,0,none⟩),c5,.pointer (some ⟨g,0,none⟩),.int .i64 (k:Nat),c8,c9,c10,c11,c12,c13,c14,c15,c16,c17,c18,c19,c20,c21,dW,c23,c24,dP,eP,fO,c28,eQ,eT,c31,c32,eU,c34,eX,eY,c37,fP,fQ,c40,gQ,iP,iQ,iF,iG,c46,iY,iH,c49,iI,c51,iJ,c53,iZ,iK,iL,iM,fH,c59,fU,fV,fZ,gU,c64,jC,jX,jY,jZ,kC,c70,kI,c72,jJ,kJ,c75,c76,nJ,nK,nL,c80,nM,nN,nO,nP,c85,nQ,c87,nR,nS,nT,c91,nU,c93,nV,nW,nX,nY,nZ,oC,gK,gL,eZ,fA,fB,c105,fC,c107,fD,c109,gW,gX,gY,gZ,iA,iB,c116,c117,iC,c119,fE,fF,kW,kX,c124,kY,kZ,c127,mF,mG,c130,c131,mH,mI,mJ,mK,mM,mO,c138,c139,mP,c141,mQ,c143,jR],defers:=[] } Y:=by
 have hxl:xs.length=len:=hE.ln.len.1
 have hb:=(hK k (by omega)).b.k
 rcases (show (Pl.gl xs k).k=1\/(Pl.gl xs k).k=3\/(Pl.gl xs k).k=5\/(Pl.gl xs k).k=7\/(Pl.gl xs k).k=8\/((Pl.gl xs k).k=2\/(Pl.gl xs k).k=4\/(Pl.gl xs k).k=6\/(Pl.gl xs k).k=9\/(Pl.gl xs k).k=10\/(Pl.gl xs k).k=11)\/(Pl.gl xs k).k=12\/(Pl.gl xs k).k=13\/(Pl.gl xs k).k=14\/(Pl.gl xs k).k=15\/(Pl.gl xs k).k=16 by omega) with q | q | q | q | q | q | q | q | q | q | q
 ·exact Mf xs F R g k a len cap la ll lc aa ac vc vd w0 Y hE hF hK hS hL hk hn hR q hN hX
 ·exact Mi xs F R g k a len cap la ll lc aa ac vc vd w0 Y hE hF hK hS hL hk hn hR q hN hX
 ·exact Mj xs F R g k a len cap la ll lc aa ac vc vd w0 Y hE hF hK hS hL hk hn hR q hN hX
 ·exact Mk xs F R g k a len cap la ll lc aa ac vc vd w0 Y hE hF hK hS hL hk hn hR q hN hX
 ·exact Ml xs F R g k a len cap la ll lc aa ac vc vd w0 Y hE hF hK hS hL hk hn hR q hN hX
 ·exact Mm xs F R g k a len cap la ll lc aa ac vc vd w0 Y hE hF hK hS hL hk hn hR q hN hX
 ·exact Gy xs F R g k a len cap la ll lc aa ac vc vd w0 Y hE hF hK hS hL hk hn hR ⟨q,rA ((hK k (by omega)).XD (by omega) (by omega) (by omega) (by omega) (by omega) (by omega))⟩ hN hX
 ·exact Gz xs F R g k a len cap la ll lc aa ac vc vd w0 Y hE hF hK hS hL hk hn hR ⟨q,rA ((hK k (by omega)).XD (by omega) (by omega) (by omega) (by omega) (by omega) (by omega))⟩ hN hX
 ·by_cases c:(Pl.gl xs k).s=⟨#[]⟩
  ·exact Ha xs F R g k a len cap la ll lc aa ac vc vd w0 Y hE hF hK hS hL hk hn hR ⟨q,c⟩ hN hX
  ·exact YZ xs F R g k a len cap la ll lc aa ac vc vd w0 Y hE hF hK hS hL hk hn hR ⟨q,c⟩ hN hX
 ·exact Hd xs F R g k a len cap la ll lc aa ac vc vd w0 Y hE hF hK hS hL hk hn hR q hN hX
 ·exact He xs F R g k a len cap la ll lc aa ac vc vd w0 Y hE hF hK hS hL hk hn hR q hN hX
theorem tX {w:World} {B B':Nat} {e:TypeId} {s n:Nat} {v:Value} {ys:List Value} (h:w.ownsRow B e s v n ys) (hb:B'<=B):w.ownsRow B' e s v n ys:=by
 refine⟨h.1,?_⟩
 rcases h.2 with hn | ⟨g,cap,cur,rfl,hg,rest⟩
 ·exact .inl hn
 ·exact .inr ⟨g,cap,cur,rfl,Nat.le_trans hb hg,rest⟩
set_option maxRecDepth 100000 in
theorem PN {lo:Nat} (a:Option Addr) (len cap:Nat) (xs:List Pl.Ln) (la:Option Addr) (ll lc:Nat) (aa:Option Addr) (ac:Nat) (t4 b4:Int) (w:World) (hln:jE lo w a len cap xs) (hlb:nE w la ll lc xs (Pl.cZ xs xs.length)) (hat:wV w aa len ac xs) (hK:∀ i,i<xs.length->nA (Pl.gl xs i)) (hS:∀ i,i<xs.length->Pl.dU xs i=false) (hL:∀ i,i<xs.length->Pl.lost xs i=false) (hn:len<=20000):Calls Tryz.prog 25 #[.slice a len cap,.agg #[.slice la ll lc,.slice aa len ac,.int .i64 t4,.int .i64 b4]] w (CS xs w):=by
 have hxl:xs.length=len:=hln.len.1
 have lM:Hid (xs.length=len):=hxl
 have HE:Hid (pX lo xs ((w.alloc (.cells #[.slice la ll lc,.slice aa len ac,.int .i64 t4,.int .i64 b4] 55)).alloc (.cells #[.slice none 0 0,.slice none 0 0,.int .i64 0,.int .i64 0] 28)) w.heap.size (w.heap.size+1) a len cap la ll lc aa ac):=by
  have hb:Below w.heap.size w ((w.alloc (.cells #[.slice la ll lc,.slice aa len ac,.int .i64 t4,.int .i64 b4] 55)).alloc (.cells #[.slice none 0 0,.slice none 0 0,.int .i64 0,.int .i64 0] 28)):=(aB w _).alloc (by simp) _
  have c:∀ j,((w.alloc (.cells #[.slice la ll lc,.slice aa len ac,.int .i64 t4,.int .i64 b4] 55)).alloc (.cells #[.slice none 0 0,.slice none 0 0,.int .i64 0,.int .i64 0] 28)).cell? ⟨w.heap.size,j,none⟩=(#[.slice la ll lc,.slice aa len ac,.int .i64 t4,.int .i64 b4]:Array Value)[j]?:=fun j=>by
   refine (Below.cell (aB _ _) (p:=⟨w.heap.size,j,none⟩) (by simp)).trans ?_
   exact cell_of_row _ _ j _ 55 (0,0) (heap_alloc_new w _)
  exact⟨hln.keep hb,hlb.keep hb,hat.keep hb,c 0,c 1,bL (by simp)⟩
 have HK:Hid (∀ i,i<xs.length->nA (Pl.gl xs i)):=hK
 have HS:Hid (∀ i,i<xs.length->Pl.dU xs i=false):=hS
 have HL:Hid (∀ i,i<xs.length->Pl.lost xs i=false):=hL
 have hm:(len:Int)<=9223372036854775807:=by omega
 clear hln hlb hat hK hS hL hxl
 have VE:((w.alloc (.cells #[.slice la ll lc,.slice aa len ac,.int .i64 t4,.int .i64 b4] 55)).alloc (.cells #[.slice none 0 0,.slice none 0 0,.int .i64 0,.int .i64 0] 28)).heap.size=w.heap.size+2:=by simp
 go_enter Tryz.func25,Tryz.ntmps25
 go_wp2_with fail
 go_loopw [7] (fun i wr=>∃ k:Nat,k<=len/\i=.int .i64 k/\(∀ j,j<k->Pl.dQ xs j=false)/\∃ vc vd,aZ ((w.alloc (.cells #[.slice la ll lc,.slice aa len ac,.int .i64 t4,.int .i64 b4] 55)).alloc (.cells #[.slice none 0 0,.slice none 0 0,.int .i64 0,.int .i64 0] 28)) wr (w.heap.size+2+1+1) vc vd (Pl.aL bI xs k) (Pl.aH xs k)) (fun i _=>len-(intOf i).toNat)
 case atStart=>
  refine⟨0,Nat.zero_le _,rfl,fun j hj=>absurd hj (Nat.not_lt_zero _),.slice (some ⟨w.heap.size+2,0,none⟩) 0 0,.slice (some ⟨w.heap.size+2+1,0,none⟩) 0 0,bL (by simp),?_,?_,?_,by rw[VE];omega⟩
  ·refine⟨rfl,.inr ⟨w.heap.size+2,0,#[],rfl,by rw[VE];omega,?_,Nat.le_refl _,Nat.zero_le _,rfl,rfl⟩⟩
   exact (Below.heap_alloc _ _ _ (by simp)).trans ((Below.heap_alloc _ _ _ (by simp)).trans (bL (by rw[VE])))
  ·refine⟨rfl,.inr ⟨w.heap.size+2+1,0,#[],rfl,by rw[VE];omega,?_,Nat.le_refl _,Nat.zero_le _,rfl,rfl⟩⟩
   exact (Below.heap_alloc _ _ _ (by simp)).trans (bL (by simp))
  ·exact ((aB _ _).alloc (by simp) _).alloc (by simp <;> omega) _
 case round=>
  obtain⟨k,hk,rfl,hall,vc,vd,hf⟩:=hrel
  have HA:Hid (∀ j,j<k->Pl.dQ xs j=false):=hall
  have HF:Hid (aZ ((w.alloc (.cells #[.slice la ll lc,.slice aa len ac,.int .i64 t4,.int .i64 b4] 55)).alloc (.cells #[.slice none 0 0,.slice none 0 0,.int .i64 0,.int .i64 0] 28)) wr (w.heap.size+2+1+1) vc vd (Pl.aL bI xs k) (Pl.aH xs k)):=hf
  clear hall hf
  by_cases hlt:k<len
  ·have hi:(k:Int)<(len:Int):=by omega
   go_upto_block 1 with fail
   refine ZC xs w.heap.size (w.heap.size+1) (w.heap.size+2+1+1) k a len cap la ll lc aa ac vc vd ((w.alloc (.cells #[.slice la ll lc,.slice aa len ac,.int .i64 t4,.int .i64 b4] 55)).alloc (.cells #[.slice none 0 0,.slice none 0 0,.int .i64 0,.int .i64 0] 28)) wr (HE.out.keep HF.out.gP) HF.out HK.out HS.out (HL.out k (by rw[lM.out];exact hlt)) hlt hn (by rw[VE];omega) ?N ?X
   case N=>
    intro v5 v8 v9 v10 v11 v12 v13 v14 v15 v16 v26 v27 v28 v29 v30 v31 v32 v33 v34 v35 v36 v37 v38 v39 v40 v41 v42 v43 v44 v45 v46 v47 v48 v49 v50 v51 v52 v53 v54 v55 v56 v57 v58 v59 v60 v61 v62 v63 v64 v65 v66 v67 v68 v69 v70 v71 v72 v73 v74 v75 v76 v77 v78 v79 v80 v81 v82 v83 v84 v85 v86 v87 OZ v89 PD v91 PE v93 PG PH PI PK PL PM wJ wK Vx Vy Vz v105 Wd v107 We v109 Wh Wi Wj Wl Wm Wn Wo v117 Wp Wq Ws Wt Wu Wv v124 Ww Wx v127 Wy Wz v130 v131 Xa Xb Xc Xd Xe Xf v138 v139 Xg v141 Xh v143 u rW I4 hb2 hs2
    have HS2:Hid (aZ ((w.alloc (.cells #[.slice la ll lc,.slice aa len ac,.int .i64 t4,.int .i64 b4] 55)).alloc (.cells #[.slice none 0 0,.slice none 0 0,.int .i64 0,.int .i64 0] 28)) u (w.heap.size+2+1+1) rW I4 (Pl.aL bI xs (k+1)) (Pl.aH xs (k+1))):=hs2
    have HB2:Hid (Pl.dQ xs k=false):=hb2
    clear hs2 hb2
    go_wp2_with fail
    exact⟨⟨k+1,hlt,by go_num,Pl.gJ HA.out HB2.out,rW,I4,HS2.out⟩,by simp[intOf];omega⟩
   case X=>
    intro v8 v9 v10 v11 v12 v13 v14 v15 v16 v26 v27 v28 v29 v30 v31 v32 v33 v34 v35 v36 v37 v38 v39 v40 v41 v42 v43 v44 v45 v46 v47 v48 v49 v50 v51 v52 v53 v54 v55 v56 v57 v58 v59 v60 v61 v62 v63 v64 v65 v66 v67 v68 v69 v70 v71 v72 v73 v74 v75 v76 v77 v78 v79 v80 v81 v82 v83 v84 v85 v86 v87 OZ v89 PD v91 PE v93 PG PH PI PK PL PM wJ wK Vx Vy Vz v105 Wd v107 We v109 Wh Wi Wj Wl Wm Wn Wo v117 Wp Wq Ws Wt Wu Wv v124 Ww Wx v127 Wy Wz v130 v131 Xa Xb Xc Xd Xe Xf v138 v139 Xg v141 Xh v143 u a9 n9 y9 b9 m9 z9 hb2 hrw hbe
    refine bodyPost_ret (v:=.tuple #[.agg #[.slice a9 n9 y9,.slice b9 m9 z9,.int .i64 0,.int .i64 0],.int .i64 (k:Nat)]) (results_cell_tmp Tryz.results25 _ _ (w.heap.size+1) 28 _ (0,0) _ _ rfl rfl hrw Tryz.underlying28 rfl (by kernel_rfl)) rfl ?_
    have hf1:=Pl.kS (Pl.dQ xs) xs.length k (by rw[lM.out];exact hlt) hb2 HA.out
    refine⟨a9,n9,y9,b9,m9,z9,by rw[hf1],?_,fun q=>?_⟩
    ·exact Below.trans ((aB w _).alloc (by simp) _) (hbe.mono (by omega))
    ·rw[hf1]at q;omega
  ·have hi:¬ ((k:Int)<(len:Int)):=by omega
   have hkk:k=len:=by omega
   have XO:Hid (k=len):=hkk
   obtain⟨a5,y5,hv5⟩:=aT HF.out.oc
   obtain⟨a6,y6,hv6⟩:=aT HF.out.od
   subst hv5 hv6
   have m0:=HF.out.c0;have m1:=HF.out.c1;have m2:=HF.out.c2;have m3:=HF.out.c3
   have hrw:=(HE.out.keep HF.out.gP).r
   have HRW:Hid (wr.heap[w.heap.size+1]?=some (.cells #[.slice none 0 0,.slice none 0 0,.int .i64 0,.int .i64 0] 28 (0,0))):=hrw
   have r0:=cell_of_row _ _ 0 _ 28 (0,0) hrw;have r1:=cell_of_row _ _ 1 _ 28 (0,0) hrw;have r2:=cell_of_row _ _ 2 _ 28 (0,0) hrw;have r3:=cell_of_row _ _ 3 _ 28 (0,0) hrw
   have rf:∀ j,wr.frozen? ⟨w.heap.size+1,j,none⟩=false:=fun j=>frozen_of_row _ _ j _ 28 hrw
   clear hrw hkk
   go_wp2
   refine bodyPost_ret (v:=.tuple #[.agg #[.slice a5 (Pl.aL bI xs k).length y5,.slice a6 (Pl.aH xs k).length y6,.int .i64 0,.int .i64 0],.int .i64 (-1)]) (results_cell_tmp Tryz.results25 _ _ (w.heap.size+1) 28 _ (0,0) _ _ rfl rfl (AY HRW.out) Tryz.underlying28 rfl (by kernel_rfl)) rfl ?_
   have hf1:=Pl.iV (Pl.dQ xs) xs.length (fun j hj=>HA.out j (by rw[XO.out,<- lM.out];exact hj))
   have hkx:k=xs.length:=by rw[XO.out,lM.out]
   have hgb:Below w.heap.size w wr:=Below.trans ((aB w _).alloc (by simp) _) (HF.out.gP.mono (by rw[VE];omega))
   refine⟨a5,_,y5,a6,_,y6,by rw[hf1],?_,fun _=>⟨?_,?_⟩⟩
   ·exact Below.setCell (Below.setCell (Below.setCell (Below.setCell hgb (p:=⟨w.heap.size+1,0,none⟩) (by simp) _) (p:=⟨w.heap.size+1,1,none⟩) (by simp) _) (p:=⟨w.heap.size+1,2,none⟩) (by simp) _) (p:=⟨w.heap.size+1,3,none⟩) (by simp) _
   ·rw[<- hkx]
    refine tX (fG (fG (fG (fG HF.out.oc ?_) ?_) ?_) ?_) (by rw[VE];omega) <;> (rw[VE];omega)
   ·rw[<- hkx]
    refine tX (fG (fG (fG (fG HF.out.od ?_) ?_) ?_) ?_) (by rw[VE];omega) <;> (rw[VE];omega)
end Go.Proofs.YtlbomnnldkeocaaGreat.W
namespace Go.Proofs.YtlbomnnldkeocaaGreat.Pl
def dB:ByteArray:=⟨#[95,115,116,97,114,116]⟩
variable {ok:Nat->Bool} {xs:List Ln} {stack:Int}
theorem dJ {z:Int} (h:z=-1):¬ 0<=z:=by omega
section
theorem Mo (h1:xs.length<=20000) (h2:aV (fun i=>!ok i) xs.length=-1) (h3:0<=aV (dU xs) xs.length):gI ok xs stack=(2,aV (dU xs) xs.length):=by
 unfold gI;rw[if_neg (by omega),if_neg (dJ h2),if_pos h3]
theorem Mq (h1:xs.length<=20000) (h2:aV (fun i=>!ok i) xs.length=-1) (h3:aV (dU xs) xs.length=-1) (h4:0<=aV (twice xs) xs.length):gI ok xs stack=(3,aV (twice xs) xs.length):=by
 unfold gI;rw[if_neg (by omega),if_neg (dJ h2),if_neg (dJ h3),if_pos h4]
theorem Mr (h1:xs.length<=20000) (h2:aV (fun i=>!ok i) xs.length=-1) (h3:aV (dU xs) xs.length=-1) (h4:aV (twice xs) xs.length=-1) (h5:0<=aV (lost xs) xs.length):gI ok xs stack=(4,aV (lost xs) xs.length):=by
 unfold gI;rw[if_neg (by omega),if_neg (dJ h2),if_neg (dJ h3),if_neg (dJ h4),if_pos h5]
theorem Ms (h1:xs.length<=20000) (h2:aV (fun i=>!ok i) xs.length=-1) (h3:aV (dU xs) xs.length=-1) (h4:aV (twice xs) xs.length=-1) (h5:aV (lost xs) xs.length=-1) (h6:(cu xs xs.length).t=0\/65536<(cu xs xs.length).t):gI ok xs stack=(5,0):=by
 unfold gI;rw[if_neg (by omega),if_neg (dJ h2),if_neg (dJ h3),if_neg (dJ h4),if_neg (dJ h5),if_pos h6]
theorem Mt (h1:xs.length<=20000) (h2:aV (fun i=>!ok i) xs.length=-1) (h3:aV (dU xs) xs.length=-1) (h4:aV (twice xs) xs.length=-1) (h5:aV (lost xs) xs.length=-1) (h6:¬ ((cu xs xs.length).t=0\/65536<(cu xs xs.length).t)) (h7:65536<(cu xs xs.length).b):gI ok xs stack=(6,0):=by
 unfold gI;rw[if_neg (by omega),if_neg (dJ h2),if_neg (dJ h3),if_neg (dJ h4),if_neg (dJ h5),if_neg h6,if_pos h7]
theorem Mv (h1:xs.length<=20000) (h2:aV (fun i=>!ok i) xs.length=-1) (h3:aV (dU xs) xs.length=-1) (h4:aV (twice xs) xs.length=-1) (h5:aV (lost xs) xs.length=-1) (h6:¬ ((cu xs xs.length).t=0\/65536<(cu xs xs.length).t)) (h7:¬ 65536<(cu xs xs.length).b) (h8:0<=aV (dQ xs) xs.length):gI ok xs stack=(7,aV (dQ xs) xs.length):=by
 unfold gI;rw[if_neg (by omega),if_neg (dJ h2),if_neg (dJ h3),if_neg (dJ h4),if_neg (dJ h5),if_neg h6,if_neg h7,if_pos h8]
theorem Mw (h1:xs.length<=20000) (h2:aV (fun i=>!ok i) xs.length=-1) (h3:aV (dU xs) xs.length=-1) (h4:aV (twice xs) xs.length=-1) (h5:aV (lost xs) xs.length=-1) (h6:¬ ((cu xs xs.length).t=0\/65536<(cu xs xs.length).t)) (h7:¬ 65536<(cu xs xs.length).b) (h8:aV (dQ xs) xs.length=-1) (h9:∀ j,lb xs dB=some j->(cu xs j).d=true\/(cu xs xs.length).t<=(cu xs j).t):gI ok xs stack=(8,0):=by
 unfold gI;rw[if_neg (by omega),if_neg (dJ h2),if_neg (dJ h3),if_neg (dJ h4),if_neg (dJ h5),if_neg h6,if_neg h7,if_neg (dJ h8)]
 show (match lb xs dB with | none=>_ | some j=>_)=_
 cases hl:lb xs dB with
 | none=>rfl
 | some j=>exact if_pos (h9 j hl)
theorem Mx (h1:xs.length<=20000) (h2:aV (fun i=>!ok i) xs.length=-1) (h3:aV (dU xs) xs.length=-1) (h4:aV (twice xs) xs.length=-1) (h5:aV (lost xs) xs.length=-1) (h6:¬ ((cu xs xs.length).t=0\/65536<(cu xs xs.length).t)) (h7:¬ 65536<(cu xs xs.length).b) (h8:aV (dQ xs) xs.length=-1) {j:Nat} (h9:lb xs dB=some j) (h10:¬ ((cu xs j).d=true\/(cu xs xs.length).t<=(cu xs j).t)) (h11:¬ (0<=stack/\stack<=65536/\stack % 16=0)):gI ok xs stack=(9,0):=by
 unfold gI;rw[if_neg (by omega),if_neg (dJ h2),if_neg (dJ h3),if_neg (dJ h4),if_neg (dJ h5),if_neg h6,if_neg h7,if_neg (dJ h8)]
 show (match lb xs dB with | none=>_ | some j=>_)=_
 rw[h9]
 show ite _ _ _=_
 rw[if_neg h10,if_neg h11]
theorem Na (h1:xs.length<=20000) (h2:aV (fun i=>!ok i) xs.length=-1) (h3:aV (dU xs) xs.length=-1) (h4:aV (twice xs) xs.length=-1) (h5:aV (lost xs) xs.length=-1) (h6:¬ ((cu xs xs.length).t=0\/65536<(cu xs xs.length).t)) (h7:¬ 65536<(cu xs xs.length).b) (h8:aV (dQ xs) xs.length=-1) {j:Nat} (h9:lb xs dB=some j) (h10:¬ ((cu xs j).d=true\/(cu xs xs.length).t<=(cu xs j).t)) (h11:0<=stack/\stack<=65536/\stack % 16=0):gI ok xs stack=(0,0):=by
 unfold gI;rw[if_neg (by omega),if_neg (dJ h2),if_neg (dJ h3),if_neg (dJ h4),if_neg (dJ h5),if_neg h6,if_neg h7,if_neg (dJ h8)]
 show (match lb xs dB with | none=>_ | some j=>_)=_
 rw[h9]
 show ite _ _ _=_
 rw[if_neg h10,if_pos h11]
end
theorem Bp (h:20000<xs.length):gI ok xs stack=(1,20000):=by unfold gI;rw[if_pos h]
theorem Bq (h1:xs.length<=20000) (h2:0<=aV (fun i=>!ok i) xs.length):gI ok xs stack=(1,aV (fun i=>!ok i) xs.length):=by
 unfold gI;rw[if_neg (by omega),if_pos h2]
theorem dO {p:Nat->Bool} {n:Nat} (h:¬ 0<=aV p n):aV p n=-1/\∀ j,j<n->p j=false:=by
 rcases mE p n with q | ⟨k,_,q,_⟩
 ·exact q
 ·rw[q]at h;omega
end Go.Proofs.YtlbomnnldkeocaaGreat.Pl
namespace Go.Proofs.YtlbomnnldkeocaaGreat.W
open Go.RowKit
def Xi (xs:List Pl.Ln) (stack code:Int) (B:Nat) (w:World) (vc vd:Value) (en sk:Int):Prop:=
 (code=0->w.ownsRow B 3 1 vc (Pl.aL bI xs xs.length).length (Pl.IW (Pl.aL bI xs xs.length))/\w.ownsRow B 5 1 vd (Pl.aH xs xs.length).length (Pl.rY (Pl.aH xs xs.length))/\en=Pl.gT xs Pl.dB/\sk=stack)/\
 (code≠0->vc=.slice none 0 0/\vd=.slice none 0 0/\en=0/\sk=0)
def bZ (xs:List Pl.Ln) (stack:Int) (w:World) (e:Ending) (w':World):Prop:=
 ∃ (vc vd:Value) (en sk:Int),e=.returned (.tuple #[.agg #[vc,vd,.int .i64 en,.int .i64 sk],.int .i64 (Pl.gI (fun i=>lF (Pl.gl xs i)) xs stack).1,.int .i64 (Pl.gI (fun i=>lF (Pl.gl xs i)) xs stack).2])/\Below w.heap.size w w'/\Xi xs stack (Pl.gI (fun i=>lF (Pl.gl xs i)) xs stack).1 w.heap.size w' vc vd en sk
theorem bZ.no {xs:List Pl.Ln} {stack c p:Int} {w w':World} (h:Pl.gI (fun i=>lF (Pl.gl xs i)) xs stack=(c,p)) (hc:c≠0) (hb:Below w.heap.size w w'):bZ xs stack w (.returned (.tuple #[.agg #[.slice none 0 0,.slice none 0 0,.int .i64 0,.int .i64 0],.int .i64 c,.int .i64 p])) w':=by
 refine⟨.slice none 0 0,.slice none 0 0,0,0,by rw[h],hb,fun q=>?_,fun _=>⟨rfl,rfl,rfl,rfl⟩⟩
 rw[h]at q;exact absurd q hc
theorem aQ {P:Program} {fn:Func} {p q r:Tmp} {ty:TypeId} (h:fn.results=#[.cell p ty,.tmp q,.tmp r]) (tmps:Array Value) (w:World) (g:Nat) (t:TypeId) (cs:Array Value) (fr:Nat × Nat) (d:TypeDesc) (v u:Value)
  (hp:tmps.getD p undef=.pointer (some ⟨g,0,none⟩)) (hq:tmps.getD q undef=v) (hr:tmps.getD r undef=u) (hg:w.heap[g]?=some (.cells cs t fr))
  (hu:P.underlying ty=some d) (hd:(match d with | .struct _ | .array _ _=>true | _=>false)=true) (hi:(P.info? ty).map (·.size)=some cs.size) :
  (results fn tmps).run P w=.ok (.tuple #[.agg cs,v,u]) w:=by
 have hp':tmps[p]?.getD undef=.pointer (some ⟨g,0,none⟩):=by simpa using hp
 have hq':tmps[q]?.getD undef=v:=by simpa using hq
 have hr':tmps[r]?.getD undef=u:=by simpa using hr
 simp[results,h,hp',hq',hr',asAddr,run_loadVar_row w g t ty cs fr d hg hu hd hi]
def MW (n:Nat):Code->Bool
 | .region m _ _=>m == n
 | .seq a _=>MW n a
 | _=>false
def codeF (n:Nat):Code->Option Code
 | .seq a b=>if MW n a then some (.seq a b) else match codeF n a with
  | some c=>some c
  | none=>codeF n b
 | .block _ c=>codeF n c
 | .loop c=>codeF n c
 | .scope c=>codeF n c
 | _=>none
noncomputable def Hf (n:Nat):Code:=((Tryz.f6.body.bind (lG n)).getD .skip)
noncomputable def Hg (n:Nat):Code:=((Tryz.f6.body.bind (codeF n)).getD .skip)
def MX (u:World) (R:Nat):World:=(((u.setCell ⟨R,0,none⟩ (.slice none 0 0)).setCell ⟨R,1,none⟩ (.slice none 0 0)).setCell ⟨R,2,none⟩ (.int .i64 0)).setCell ⟨R,3,none⟩ (.int .i64 0)
def kE (R N7 g9:Nat) (a:Option Addr) (len cap:Nat) (la:Option Addr) (ll lc:Nat) (z:Int)  (c1 c2 c3 c8 c9 c10 c11 c12 c13 c14 c15 c16 c17 c18 c19 c20 c21 dW c23 c24 dP eP fO c28 eQ eT c31 c32 eU c34 fP fQ c40 gQ iP iQ iF iG c46 iY iH c49 iI c51 iJ c53 iZ iK iL iM fH c59 fU fV fZ gU c64 jC jX jY jZ kC c70 kI c72 jJ kJ c75 c76 nJ nK nL c80 nM nN nO nP c85 nQ c87 nR nS nT c91 nU c93 nV nW nX nY nZ oC gK gL eZ fA fB c105 fC c107 fD c109 gW gX gY gZ iA iB c116 c117 iC c119 fE fF d5 d6 ZE Qt Qu:Value)  (L:Array Bool):Act:={ tmps:=#[.slice a len cap,c1,c2,c3,.pointer (some ⟨R,0,none⟩),aR d5 L 4 (.int .i64 2),aR d6 L 5 (.int .i64 z),.pointer (some ⟨N7,0,none⟩),c8,c9,c10,c11,c12,c13,c14,c15,c16,c17,c18,c19,c20,c21,dW,c23,c24,dP,eP,fO,c28,eQ,eT,c31,c32,eU,c34,aR ZE L 0 (.agg #[.slice none 0 0,.slice none 0 0,.int .i64 0,.int .i64 0]),aR Qt L 1 (.slice a len cap),aR Qu L 2 (.int .i64 z),fP,fQ,c40,gQ,iP,iQ,iF,iG,c46,iY,iH,c49,iI,c51,iJ,c53,iZ,iK,iL,iM,fH,c59,fU,fV,fZ,gU,c64,jC,jX,jY,jZ,kC,c70,kI,c72,jJ,kJ,c75,c76,nJ,nK,nL,c80,nM,nN,nO,nP,c85,nQ,c87,nR,nS,nT,c91,nU,c93,nV,nW,nX,nY,nZ,oC,gK,gL,eZ,fA,fB,c105,fC,c107,fD,c109,gW,gX,gY,gZ,iA,iB,c116,c117,iC,c119,fE,fF],defers:=[] }
set_option maxRecDepth 100000 in
theorem Nb (R N7 g9:Nat) (a:Option Addr) (len cap:Nat) (la:Option Addr) (ll lc:Nat) (z:Int) {c1 c2 c3 c8 c9 c10 c11 c12 c13 c14 c15 c16 c17 c18 c19 c20 c21 dW c23 c24 dP eP fO c28 eQ eT c31 c32 eU c34 fP fQ c40 gQ iP iQ iF iG c46 iY iH c49 iI c51 iJ c53 iZ iK iL iM fH c59 fU fV fZ gU c64 jC jX jY jZ kC c70 kI c72 jJ kJ c75 c76 nJ nK nL c80 nM nN nO nP c85 nQ c87 nR nS nT c91 nU c93 nV nW nX nY nZ oC gK gL eZ fA fB c105 fC c107 fD c109 gW gX gY gZ iA iB c116 c117 iC c119 fE fF d5 d6 ZE Qt Qu:Value} (Y:World) (hN:Y.heap[N7]?=some (.cells #[.slice none 0 0,.slice none 0 0,.int .i64 0,.int .i64 0] 28 (0,0))) (hR:Y.heap[R]?=some (.cells #[.slice none 0 0,.slice none 0 0,.int .i64 0,.int .i64 0] 28 (0,0))) (hT:Calls Tryz.prog 21 #[.slice a len cap] Y.drew fun e w'=>e=.returned (.int .i64 z)/\Below Y.drew.heap.size Y.drew w') {Q:Exit->Act->World->Prop}
  (hK:∀ w1,Below Y.heap.size Y w1->Q .normal { tmps:=#[.slice a len cap,c1,c2,c3,.pointer (some ⟨R,0,none⟩),.int .i64 2,.int .i64 z,.pointer (some ⟨N7,0,none⟩),c8,c9,c10,c11,c12,c13,c14,c15,c16,c17,c18,c19,c20,c21,dW,c23,c24,dP,eP,fO,c28,eQ,eT,c31,c32,eU,c34,.agg #[.slice none 0 0,.slice none 0 0,.int .i64 0,.int .i64 0],.slice a len cap,.int .i64 z,fP,fQ,c40,gQ,iP,iQ,iF,iG,c46,iY,iH,c49,iI,c51,iJ,c53,iZ,iK,iL,iM,fH,c59,fU,fV,fZ,gU,c64,jC,jX,jY,jZ,kC,c70,kI,c72,jJ,kJ,c75,c76,nJ,nK,nL,c80,nM,nN,nO,nP,c85,nQ,c87,nR,nS,nT,c91,nU,c93,nV,nW,nX,nY,nZ,oC,gK,gL,eZ,fA,fB,c105,fC,c107,fD,c109,gW,gX,gY,gZ,iA,iB,c116,c117,iC,c119,fE,fF],defers:=[] } (MX w1 R)) :
  (Hf 10).wp Tryz.prog Q { tmps:=#[.slice a len cap,c1,c2,c3,.pointer (some ⟨R,0,none⟩),d5,d6,.pointer (some ⟨N7,0,none⟩),c8,c9,c10,c11,c12,c13,c14,c15,c16,c17,c18,c19,c20,c21,dW,c23,c24,dP,eP,fO,c28,eQ,eT,c31,c32,eU,c34,ZE,Qt,Qu,fP,fQ,c40,gQ,iP,iQ,iF,iG,c46,iY,iH,c49,iI,c51,iJ,c53,iZ,iK,iL,iM,fH,c59,fU,fV,fZ,gU,c64,jC,jX,jY,jZ,kC,c70,kI,c72,jJ,kJ,c75,c76,nJ,nK,nL,c80,nM,nN,nO,nP,c85,nQ,c87,nR,nS,nT,c91,nU,c93,nV,nW,nX,nY,nZ,oC,gK,gL,eZ,fA,fB,c105,fC,c107,fD,c109,gW,gX,gY,gZ,iA,iB,c116,c117,iC,c119,fE,fF],defers:=[] } Y:=by
 have nI:Hid _:=hK
 clear hK
 have j0:=cell_of_row Y.drew _ 0 _ 28 (0,0) hN
 have j1:=cell_of_row Y.drew _ 1 _ 28 (0,0) hN
 have j2:=cell_of_row Y.drew _ 2 _ 28 (0,0) hN
 have j3:=cell_of_row Y.drew _ 3 _ 28 (0,0) hN
 have r0:=cell_of_row Y.drew _ 0 _ 28 (0,0) hR
 have r1:=cell_of_row Y.drew _ 1 _ 28 (0,0) hR
 have r2:=cell_of_row Y.drew _ 2 _ 28 (0,0) hR
 have r3:=cell_of_row Y.drew _ 3 _ 28 (0,0) hR
 simp only[List.getElem?_toArray,List.getElem?_cons_zero,List.getElem?_cons_succ]at j0 j1 j2 j3 r0 r1 r2 r3
 have rf:∀ j,Y.drew.frozen? ⟨R,j,none⟩=false:=fun j=>frozen_of_row Y.drew _ j _ 28 hR
 have HT:Hid _:=hT
 clear hT hN hR
 conv=>arg 2;whnf
 dsimp only
 refine wp_region_any (by kernel_rfl) ?_
 change wpAny _ _ _ _ _ _ _ (World.drew _)
 refine bQ (fun L jD u=>∃ w1,jD=kE R N7 g9 a len cap la ll lc z  c1 c2 c3 c8 c9 c10 c11 c12 c13 c14 c15 c16 c17 c18 c19 c20 c21 dW c23 c24 dP eP fO c28 eQ eT c31 c32 eU c34 fP fQ c40 gQ iP iQ iF iG c46 iY iH c49 iI c51 iJ c53 iZ iK iL iM fH c59 fU fV fZ gU c64 jC jX jY jZ kC c70 kI c72 jJ kJ c75 c76 nJ nK nL c80 nM nN nO nP c85 nQ c87 nR nS nT c91 nU c93 nV nW nX nY nZ oC gK gL eZ fA fB c105 fC c107 fD c109 gW gX gY gZ iA iB c116 c117 iC c119 fE fF d5 d6 ZE Qt Qu  L/\iO Y.drew (fun u=>Below Y.drew.heap.size Y.drew u) (fun u=>u=MX w1 R) 2 3 w1 L u) ?done (by kernel_rfl) ?step _ 6 _ _ (by kernel_rfl) ?init (by decide)
 case init=>exact⟨Y,by simp only[kE,dG (bR _ _)],iO.init⟩
 case step=>
  intro L act w i o hI hlt hs nl hC hd ho K hK
  obtain⟨w1,rfl,hW⟩:=hI
  have jB:i<6:=(Array.getElem?_eq_some_iff.1 ho).1
  have hD:=fun k m=>hd {on:=k,ground:=.data} m rfl
  rcases (show i=0\/i=1\/i=2\/i=3\/i=4\/i=5 by omega) with rfl|rfl|rfl|rfl|rfl|rfl<;>(change some _=some o at ho;cases ho)
  ·have n3:up L 3=false:=hC.no nl 3 rfl (by kernel_rfl)
   have x0:=hW.cell n3 j0 (fun q=>aF q j0)
   have x1:=hW.cell n3 j1 (fun q=>aF q j1)
   have x2:=hW.cell n3 j2 (fun q=>aF q j2)
   have x3:=hW.cell n3 j3 (fun q=>aF q j3)
   simp only[kE]
   go_simp
   exact hK _ _ ⟨w1,by simp only[kE,aD hlt,reduceIte,Nat.reduceEqDiff];try rfl,(hW.keep hlt (by decide) (by decide))⟩
  ·simp only[kE]
   go_simp
   exact hK _ _ ⟨w1,by simp only[kE,aD hlt,reduceIte,Nat.reduceEqDiff];try rfl,(hW.keep hlt (by decide) (by decide))⟩
  ·have q1:up L 1=true:=hD 1 (by simp)
   have n3:up L 3=false:=hC.no nl 3 rfl (by kernel_rfl)
   obtain rfl:=hW.1 nl
   simp only[kE,aA q1]
   go_simp
   refine Calls.mono HT.out ?_
   rintro e w2 ⟨rfl,d1⟩
   go_simp
   exact hK _ _ ⟨w2,by simp only[kE,aD hlt,aA q1,reduceIte,Nat.reduceEqDiff];try rfl,iO.first hlt (by decide) n3 d1⟩
  ·have q0:up L 0=true:=hD 0 (by simp)
   have q2:up L 2=true:=hd { on:=2,ground:=.chain } (by simp) rfl
   obtain⟨d1,y4,_⟩:=hW.2 q2
   obtain rfl:=y4 nl
   have x0:=aF d1 r0
   have x1:=aF d1 r1
   have x2:=aF d1 r2
   have x3:=aF d1 r3
   have xf:∀ j,w.frozen? ⟨R,j,none⟩=false:=fun j=>(Below.frozen d1 (p:=⟨R,j,none⟩) (show R<_ from block_lt_of_cell r0)).trans (rf j)
   simp only[kE,aA q0]
   go_simp
   exact hK _ _ ⟨w,by simp only[kE,aD hlt,aA q0,reduceIte,Nat.reduceEqDiff];try rfl,hW.second hlt q2 rfl⟩
  ·simp only[kE]
   go_simp
   exact hK _ _ ⟨w1,by simp only[kE,aD hlt,reduceIte,Nat.reduceEqDiff];try rfl,(hW.keep hlt (by decide) (by decide))⟩
  ·have q2:up L 2=true:=hD 2 (by simp)
   simp only[kE,aA q2]
   go_simp
   exact hK _ _ ⟨w1,by simp only[kE,aD hlt,aA q2,reduceIte,Nat.reduceEqDiff];try rfl,(hW.keep hlt (by decide) (by decide))⟩
 case done=>
  rintro L a u ⟨w1,rfl,hW⟩ hall
  simp only[kE,aA (hall 0 (by decide)),aA (hall 1 (by decide)),aA (hall 2 (by decide)),aA (hall 3 (by decide)),aA (hall 4 (by decide)),aA (hall 5 (by decide))]
  obtain⟨d1,_,hB⟩:=hW.2 (hall 2 (by decide))
  obtain rfl:=hB (hall 3 (by decide))
  exact nI.out w1 (Below.trans (Below.drew (Below.refl _ _)) d1)
def jG (R N7 g9:Nat) (a:Option Addr) (len cap:Nat) (la:Option Addr) (ll lc:Nat) (z:Int)  (c0 c1 c2 c3 c8 c10 c11 c12 c13 c14 c15 c16 c17 c18 c19 c20 c21 dW c23 c24 dP eP fO c28 eQ eT c31 c32 eU c34 eX eY c37 fP fQ c40 gQ iP iQ iH c49 iI c51 iJ c53 iZ iK iL iM fH c59 fU fV fZ gU c64 jC jX jY jZ kC c70 kI c72 jJ kJ c75 c76 nJ nK nL c80 nM nN nO nP c85 nQ c87 nR nS nT c91 nU c93 nV nW nX nY nZ oC gK gL eZ fA fB c105 fC c107 fD c109 gW gX gY gZ iA iB c116 c117 iC c119 fE fF d5 d6 ZF ZH ZI MZ:Value)  (L:Array Bool):Act:={ tmps:=#[c0,c1,c2,c3,.pointer (some ⟨R,0,none⟩),aR d5 L 5 (.int .i64 3),aR d6 L 6 (.int .i64 z),.pointer (some ⟨N7,0,none⟩),c8,.pointer (some ⟨g9,0,none⟩),c10,c11,c12,c13,c14,c15,c16,c17,c18,c19,c20,c21,dW,c23,c24,dP,eP,fO,c28,eQ,eT,c31,c32,eU,c34,eX,eY,c37,fP,fQ,c40,gQ,iP,iQ,aR ZF L 0 (.agg #[.slice none 0 0,.slice none 0 0,.int .i64 0,.int .i64 0]),aR ZH L 1 (.pointer (some ⟨g9,0,none⟩)),aR ZI L 2 (.slice la ll lc),aR MZ L 3 (.int .i64 z),iH,c49,iI,c51,iJ,c53,iZ,iK,iL,iM,fH,c59,fU,fV,fZ,gU,c64,jC,jX,jY,jZ,kC,c70,kI,c72,jJ,kJ,c75,c76,nJ,nK,nL,c80,nM,nN,nO,nP,c85,nQ,c87,nR,nS,nT,c91,nU,c93,nV,nW,nX,nY,nZ,oC,gK,gL,eZ,fA,fB,c105,fC,c107,fD,c109,gW,gX,gY,gZ,iA,iB,c116,c117,iC,c119,fE,fF],defers:=[] }
set_option maxRecDepth 100000 in
theorem Nc (R N7 g9:Nat) (a:Option Addr) (len cap:Nat) (la:Option Addr) (ll lc:Nat) (z:Int) {c0 c1 c2 c3 c8 c10 c11 c12 c13 c14 c15 c16 c17 c18 c19 c20 c21 dW c23 c24 dP eP fO c28 eQ eT c31 c32 eU c34 eX eY c37 fP fQ c40 gQ iP iQ iH c49 iI c51 iJ c53 iZ iK iL iM fH c59 fU fV fZ gU c64 jC jX jY jZ kC c70 kI c72 jJ kJ c75 c76 nJ nK nL c80 nM nN nO nP c85 nQ c87 nR nS nT c91 nU c93 nV nW nX nY nZ oC gK gL eZ fA fB c105 fC c107 fD c109 gW gX gY gZ iA iB c116 c117 iC c119 fE fF d5 d6 ZF ZH ZI MZ:Value} (Y:World) (hN:Y.heap[N7]?=some (.cells #[.slice none 0 0,.slice none 0 0,.int .i64 0,.int .i64 0] 28 (0,0))) (hR:Y.heap[R]?=some (.cells #[.slice none 0 0,.slice none 0 0,.int .i64 0,.int .i64 0] 28 (0,0))) (hl:Y.cell? ⟨g9,0,none⟩=some (.slice la ll lc)) (hT:Calls Tryz.prog 23 #[.slice la ll lc] Y.drew fun e w'=>e=.returned (.int .i64 z)/\Below Y.drew.heap.size Y.drew w') {Q:Exit->Act->World->Prop}
  (hK:∀ w1,Below Y.heap.size Y w1->Q .normal { tmps:=#[c0,c1,c2,c3,.pointer (some ⟨R,0,none⟩),.int .i64 3,.int .i64 z,.pointer (some ⟨N7,0,none⟩),c8,.pointer (some ⟨g9,0,none⟩),c10,c11,c12,c13,c14,c15,c16,c17,c18,c19,c20,c21,dW,c23,c24,dP,eP,fO,c28,eQ,eT,c31,c32,eU,c34,eX,eY,c37,fP,fQ,c40,gQ,iP,iQ,.agg #[.slice none 0 0,.slice none 0 0,.int .i64 0,.int .i64 0],.pointer (some ⟨g9,0,none⟩),.slice la ll lc,.int .i64 z,iH,c49,iI,c51,iJ,c53,iZ,iK,iL,iM,fH,c59,fU,fV,fZ,gU,c64,jC,jX,jY,jZ,kC,c70,kI,c72,jJ,kJ,c75,c76,nJ,nK,nL,c80,nM,nN,nO,nP,c85,nQ,c87,nR,nS,nT,c91,nU,c93,nV,nW,nX,nY,nZ,oC,gK,gL,eZ,fA,fB,c105,fC,c107,fD,c109,gW,gX,gY,gZ,iA,iB,c116,c117,iC,c119,fE,fF],defers:=[] } (MX w1 R)) :
  (Hf 13).wp Tryz.prog Q { tmps:=#[c0,c1,c2,c3,.pointer (some ⟨R,0,none⟩),d5,d6,.pointer (some ⟨N7,0,none⟩),c8,.pointer (some ⟨g9,0,none⟩),c10,c11,c12,c13,c14,c15,c16,c17,c18,c19,c20,c21,dW,c23,c24,dP,eP,fO,c28,eQ,eT,c31,c32,eU,c34,eX,eY,c37,fP,fQ,c40,gQ,iP,iQ,ZF,ZH,ZI,MZ,iH,c49,iI,c51,iJ,c53,iZ,iK,iL,iM,fH,c59,fU,fV,fZ,gU,c64,jC,jX,jY,jZ,kC,c70,kI,c72,jJ,kJ,c75,c76,nJ,nK,nL,c80,nM,nN,nO,nP,c85,nQ,c87,nR,nS,nT,c91,nU,c93,nV,nW,nX,nY,nZ,oC,gK,gL,eZ,fA,fB,c105,fC,c107,fD,c109,gW,gX,gY,gZ,iA,iB,c116,c117,iC,c119,fE,fF],defers:=[] } Y:=by
 have nI:Hid _:=hK
 clear hK
 have j0:=cell_of_row Y.drew _ 0 _ 28 (0,0) hN
 have j1:=cell_of_row Y.drew _ 1 _ 28 (0,0) hN
 have j2:=cell_of_row Y.drew _ 2 _ 28 (0,0) hN
 have j3:=cell_of_row Y.drew _ 3 _ 28 (0,0) hN
 have r0:=cell_of_row Y.drew _ 0 _ 28 (0,0) hR
 have r1:=cell_of_row Y.drew _ 1 _ 28 (0,0) hR
 have r2:=cell_of_row Y.drew _ 2 _ 28 (0,0) hR
 have r3:=cell_of_row Y.drew _ 3 _ 28 (0,0) hR
 simp only[List.getElem?_toArray,List.getElem?_cons_zero,List.getElem?_cons_succ]at j0 j1 j2 j3 r0 r1 r2 r3
 have rf:∀ j,Y.drew.frozen? ⟨R,j,none⟩=false:=fun j=>frozen_of_row Y.drew _ j _ 28 hR
 have jl:Y.drew.cell? ⟨g9,0,none⟩=some (.slice la ll lc):=hl
 clear hl
 have HT:Hid _:=hT
 clear hT hN hR
 conv=>arg 2;whnf
 dsimp only
 refine wp_region_any (by kernel_rfl) ?_
 change wpAny _ _ _ _ _ _ _ (World.drew _)
 refine bQ (fun L jD u=>∃ w1,jD=jG R N7 g9 a len cap la ll lc z  c0 c1 c2 c3 c8 c10 c11 c12 c13 c14 c15 c16 c17 c18 c19 c20 c21 dW c23 c24 dP eP fO c28 eQ eT c31 c32 eU c34 eX eY c37 fP fQ c40 gQ iP iQ iH c49 iI c51 iJ c53 iZ iK iL iM fH c59 fU fV fZ gU c64 jC jX jY jZ kC c70 kI c72 jJ kJ c75 c76 nJ nK nL c80 nM nN nO nP c85 nQ c87 nR nS nT c91 nU c93 nV nW nX nY nZ oC gK gL eZ fA fB c105 fC c107 fD c109 gW gX gY gZ iA iB c116 c117 iC c119 fE fF d5 d6 ZF ZH ZI MZ  L/\iO Y.drew (fun u=>Below Y.drew.heap.size Y.drew u) (fun u=>u=MX w1 R) 3 4 w1 L u) ?done (by kernel_rfl) ?step _ 7 _ _ (by kernel_rfl) ?init (by decide)
 case init=>exact⟨Y,by simp only[jG,dG (bR _ _)],iO.init⟩
 case step=>
  intro L act w i o hI hlt hs nl hC hd ho K hK
  obtain⟨w1,rfl,hW⟩:=hI
  have jB:i<7:=(Array.getElem?_eq_some_iff.1 ho).1
  have hD:=fun k m=>hd {on:=k,ground:=.data} m rfl
  rcases (show i=0\/i=1\/i=2\/i=3\/i=4\/i=5\/i=6 by omega) with rfl|rfl|rfl|rfl|rfl|rfl|rfl<;>(change some _=some o at ho;cases ho)
  ·have n4:up L 4=false:=hC.no nl 4 rfl (by kernel_rfl)
   have x0:=hW.cell n4 j0 (fun q=>aF q j0)
   have x1:=hW.cell n4 j1 (fun q=>aF q j1)
   have x2:=hW.cell n4 j2 (fun q=>aF q j2)
   have x3:=hW.cell n4 j3 (fun q=>aF q j3)
   simp only[jG]
   go_simp
   exact hK _ _ ⟨w1,by simp only[jG,aD hlt,reduceIte,Nat.reduceEqDiff];try rfl,(hW.keep hlt (by decide) (by decide))⟩
  ·simp only[jG]
   go_simp
   exact hK _ _ ⟨w1,by simp only[jG,aD hlt,reduceIte,Nat.reduceEqDiff];try rfl,(hW.keep hlt (by decide) (by decide))⟩
  ·have q1:up L 1=true:=hD 1 (by simp)
   have n3:up L 3=false:=hC.no nl 3 rfl (by kernel_rfl)
   obtain rfl:=hW.1 n3
   simp only[jG,aA q1]
   go_simp
   exact hK _ _ ⟨w1,by simp only[jG,aD hlt,aA q1,reduceIte,Nat.reduceEqDiff];try rfl,(hW.keep hlt (by decide) (by decide))⟩
  ·have q2:up L 2=true:=hD 2 (by simp)
   have n4:up L 4=false:=hC.no nl 4 rfl (by kernel_rfl)
   obtain rfl:=hW.1 nl
   simp only[jG,aA q2]
   go_simp
   refine Calls.mono HT.out ?_
   rintro e w2 ⟨rfl,d1⟩
   go_simp
   exact hK _ _ ⟨w2,by simp only[jG,aD hlt,aA q2,reduceIte,Nat.reduceEqDiff];try rfl,iO.first hlt (by decide) n4 d1⟩
  ·have q0:up L 0=true:=hD 0 (by simp)
   have q3:up L 3=true:=hd { on:=3,ground:=.chain } (by simp) rfl
   obtain⟨d1,y4,_⟩:=hW.2 q3
   obtain rfl:=y4 nl
   have x0:=aF d1 r0
   have x1:=aF d1 r1
   have x2:=aF d1 r2
   have x3:=aF d1 r3
   have xf:∀ j,w.frozen? ⟨R,j,none⟩=false:=fun j=>(Below.frozen d1 (p:=⟨R,j,none⟩) (show R<_ from block_lt_of_cell r0)).trans (rf j)
   simp only[jG,aA q0]
   go_simp
   exact hK _ _ ⟨w,by simp only[jG,aD hlt,aA q0,reduceIte,Nat.reduceEqDiff];try rfl,hW.second hlt q3 rfl⟩
  ·simp only[jG]
   go_simp
   exact hK _ _ ⟨w1,by simp only[jG,aD hlt,reduceIte,Nat.reduceEqDiff];try rfl,(hW.keep hlt (by decide) (by decide))⟩
  ·have q3:up L 3=true:=hD 3 (by simp)
   simp only[jG,aA q3]
   go_simp
   exact hK _ _ ⟨w1,by simp only[jG,aD hlt,aA q3,reduceIte,Nat.reduceEqDiff];try rfl,(hW.keep hlt (by decide) (by decide))⟩
 case done=>
  rintro L a u ⟨w1,rfl,hW⟩ hall
  simp only[jG,aA (hall 0 (by decide)),aA (hall 1 (by decide)),aA (hall 2 (by decide)),aA (hall 3 (by decide)),aA (hall 4 (by decide)),aA (hall 5 (by decide)),aA (hall 6 (by decide))]
  obtain⟨d1,_,hB⟩:=hW.2 (hall 3 (by decide))
  obtain rfl:=hB (hall 4 (by decide))
  exact nI.out w1 (Below.trans (Below.drew (Below.refl _ _)) d1)
def iR (R N7 g9:Nat) (a:Option Addr) (len cap:Nat) (la:Option Addr) (ll lc:Nat) (z:Int)  (c1 c2 c3 c8 c10 c11 c12 c13 c14 c15 c16 c17 c18 c19 c20 c21 dW c23 c24 dP eP fO c28 eQ eT c31 c32 eU c34 eX eY c37 fP fQ c40 gQ iP iQ iF iG c46 iY iH c49 iI c51 iJ fH c59 fU fV fZ gU c64 jC jX jY jZ kC c70 kI c72 jJ kJ c75 c76 nJ nK nL c80 nM nN nO nP c85 nQ c87 nR nS nT c91 nU c93 nV nW nX nY nZ oC gK gL eZ fA fB c105 fC c107 fD c109 gW gX gY gZ iA iB c116 c117 iC c119 fE fF d5 d6 MR MS XV XW XX:Value)  (L:Array Bool):Act:={ tmps:=#[.slice a len cap,c1,c2,c3,.pointer (some ⟨R,0,none⟩),aR d5 L 6 (.int .i64 4),aR d6 L 7 (.int .i64 z),.pointer (some ⟨N7,0,none⟩),c8,.pointer (some ⟨g9,0,none⟩),c10,c11,c12,c13,c14,c15,c16,c17,c18,c19,c20,c21,dW,c23,c24,dP,eP,fO,c28,eQ,eT,c31,c32,eU,c34,eX,eY,c37,fP,fQ,c40,gQ,iP,iQ,iF,iG,c46,iY,iH,c49,iI,c51,iJ,aR MR L 0 (.agg #[.slice none 0 0,.slice none 0 0,.int .i64 0,.int .i64 0]),aR MS L 1 (.slice a len cap),aR XV L 2 (.pointer (some ⟨g9,0,none⟩)),aR XW L 3 (.slice la ll lc),aR XX L 4 (.int .i64 z),fH,c59,fU,fV,fZ,gU,c64,jC,jX,jY,jZ,kC,c70,kI,c72,jJ,kJ,c75,c76,nJ,nK,nL,c80,nM,nN,nO,nP,c85,nQ,c87,nR,nS,nT,c91,nU,c93,nV,nW,nX,nY,nZ,oC,gK,gL,eZ,fA,fB,c105,fC,c107,fD,c109,gW,gX,gY,gZ,iA,iB,c116,c117,iC,c119,fE,fF],defers:=[] }
set_option maxRecDepth 100000 in
theorem Nf (R N7 g9:Nat) (a:Option Addr) (len cap:Nat) (la:Option Addr) (ll lc:Nat) (z:Int) {c1 c2 c3 c8 c10 c11 c12 c13 c14 c15 c16 c17 c18 c19 c20 c21 dW c23 c24 dP eP fO c28 eQ eT c31 c32 eU c34 eX eY c37 fP fQ c40 gQ iP iQ iF iG c46 iY iH c49 iI c51 iJ fH c59 fU fV fZ gU c64 jC jX jY jZ kC c70 kI c72 jJ kJ c75 c76 nJ nK nL c80 nM nN nO nP c85 nQ c87 nR nS nT c91 nU c93 nV nW nX nY nZ oC gK gL eZ fA fB c105 fC c107 fD c109 gW gX gY gZ iA iB c116 c117 iC c119 fE fF d5 d6 MR MS XV XW XX:Value} (Y:World) (hN:Y.heap[N7]?=some (.cells #[.slice none 0 0,.slice none 0 0,.int .i64 0,.int .i64 0] 28 (0,0))) (hR:Y.heap[R]?=some (.cells #[.slice none 0 0,.slice none 0 0,.int .i64 0,.int .i64 0] 28 (0,0))) (hl:Y.cell? ⟨g9,0,none⟩=some (.slice la ll lc)) (hT:Calls Tryz.prog 24 #[.slice a len cap,.slice la ll lc] Y.drew fun e w'=>e=.returned (.int .i64 z)/\Below Y.drew.heap.size Y.drew w') {Q:Exit->Act->World->Prop}
  (hK:∀ w1,Below Y.heap.size Y w1->Q .normal { tmps:=#[.slice a len cap,c1,c2,c3,.pointer (some ⟨R,0,none⟩),.int .i64 4,.int .i64 z,.pointer (some ⟨N7,0,none⟩),c8,.pointer (some ⟨g9,0,none⟩),c10,c11,c12,c13,c14,c15,c16,c17,c18,c19,c20,c21,dW,c23,c24,dP,eP,fO,c28,eQ,eT,c31,c32,eU,c34,eX,eY,c37,fP,fQ,c40,gQ,iP,iQ,iF,iG,c46,iY,iH,c49,iI,c51,iJ,.agg #[.slice none 0 0,.slice none 0 0,.int .i64 0,.int .i64 0],.slice a len cap,.pointer (some ⟨g9,0,none⟩),.slice la ll lc,.int .i64 z,fH,c59,fU,fV,fZ,gU,c64,jC,jX,jY,jZ,kC,c70,kI,c72,jJ,kJ,c75,c76,nJ,nK,nL,c80,nM,nN,nO,nP,c85,nQ,c87,nR,nS,nT,c91,nU,c93,nV,nW,nX,nY,nZ,oC,gK,gL,eZ,fA,fB,c105,fC,c107,fD,c109,gW,gX,gY,gZ,iA,iB,c116,c117,iC,c119,fE,fF],defers:=[] } (MX w1 R)) :
  (Hf 15).wp Tryz.prog Q { tmps:=#[.slice a len cap,c1,c2,c3,.pointer (some ⟨R,0,none⟩),d5,d6,.pointer (some ⟨N7,0,none⟩),c8,.pointer (some ⟨g9,0,none⟩),c10,c11,c12,c13,c14,c15,c16,c17,c18,c19,c20,c21,dW,c23,c24,dP,eP,fO,c28,eQ,eT,c31,c32,eU,c34,eX,eY,c37,fP,fQ,c40,gQ,iP,iQ,iF,iG,c46,iY,iH,c49,iI,c51,iJ,MR,MS,XV,XW,XX,fH,c59,fU,fV,fZ,gU,c64,jC,jX,jY,jZ,kC,c70,kI,c72,jJ,kJ,c75,c76,nJ,nK,nL,c80,nM,nN,nO,nP,c85,nQ,c87,nR,nS,nT,c91,nU,c93,nV,nW,nX,nY,nZ,oC,gK,gL,eZ,fA,fB,c105,fC,c107,fD,c109,gW,gX,gY,gZ,iA,iB,c116,c117,iC,c119,fE,fF],defers:=[] } Y:=by
 have nI:Hid _:=hK
 clear hK
 have j0:=cell_of_row Y.drew _ 0 _ 28 (0,0) hN
 have j1:=cell_of_row Y.drew _ 1 _ 28 (0,0) hN
 have j2:=cell_of_row Y.drew _ 2 _ 28 (0,0) hN
 have j3:=cell_of_row Y.drew _ 3 _ 28 (0,0) hN
 have r0:=cell_of_row Y.drew _ 0 _ 28 (0,0) hR
 have r1:=cell_of_row Y.drew _ 1 _ 28 (0,0) hR
 have r2:=cell_of_row Y.drew _ 2 _ 28 (0,0) hR
 have r3:=cell_of_row Y.drew _ 3 _ 28 (0,0) hR
 simp only[List.getElem?_toArray,List.getElem?_cons_zero,List.getElem?_cons_succ]at j0 j1 j2 j3 r0 r1 r2 r3
 have rf:∀ j,Y.drew.frozen? ⟨R,j,none⟩=false:=fun j=>frozen_of_row Y.drew _ j _ 28 hR
 have jl:Y.drew.cell? ⟨g9,0,none⟩=some (.slice la ll lc):=hl
 clear hl
 have HT:Hid _:=hT
 clear hT hN hR
 conv=>arg 2;whnf
 dsimp only
 refine wp_region_any (by kernel_rfl) ?_
 change wpAny _ _ _ _ _ _ _ (World.drew _)
 refine bQ (fun L jD u=>∃ w1,jD=iR R N7 g9 a len cap la ll lc z  c1 c2 c3 c8 c10 c11 c12 c13 c14 c15 c16 c17 c18 c19 c20 c21 dW c23 c24 dP eP fO c28 eQ eT c31 c32 eU c34 eX eY c37 fP fQ c40 gQ iP iQ iF iG c46 iY iH c49 iI c51 iJ fH c59 fU fV fZ gU c64 jC jX jY jZ kC c70 kI c72 jJ kJ c75 c76 nJ nK nL c80 nM nN nO nP c85 nQ c87 nR nS nT c91 nU c93 nV nW nX nY nZ oC gK gL eZ fA fB c105 fC c107 fD c109 gW gX gY gZ iA iB c116 c117 iC c119 fE fF d5 d6 MR MS XV XW XX  L/\iO Y.drew (fun u=>Below Y.drew.heap.size Y.drew u) (fun u=>u=MX w1 R) 4 5 w1 L u) ?done (by kernel_rfl) ?step _ 8 _ _ (by kernel_rfl) ?init (by decide)
 case init=>exact⟨Y,by simp only[iR,dG (bR _ _)],iO.init⟩
 case step=>
  intro L act w i o hI hlt hs nl hC hd ho K hK
  obtain⟨w1,rfl,hW⟩:=hI
  have jB:i<8:=(Array.getElem?_eq_some_iff.1 ho).1
  have hD:=fun k m=>hd {on:=k,ground:=.data} m rfl
  rcases (show i=0\/i=1\/i=2\/i=3\/i=4\/i=5\/i=6\/i=7 by omega) with rfl|rfl|rfl|rfl|rfl|rfl|rfl|rfl<;>(change some _=some o at ho;cases ho)
  ·have n5:up L 5=false:=hC.no nl 5 rfl (by kernel_rfl)
   have x0:=hW.cell n5 j0 (fun q=>aF q j0)
   have x1:=hW.cell n5 j1 (fun q=>aF q j1)
   have x2:=hW.cell n5 j2 (fun q=>aF q j2)
   have x3:=hW.cell n5 j3 (fun q=>aF q j3)
   simp only[iR]
   go_simp
   exact hK _ _ ⟨w1,by simp only[iR,aD hlt,reduceIte,Nat.reduceEqDiff];try rfl,(hW.keep hlt (by decide) (by decide))⟩
  ·simp only[iR]
   go_simp
   exact hK _ _ ⟨w1,by simp only[iR,aD hlt,reduceIte,Nat.reduceEqDiff];try rfl,(hW.keep hlt (by decide) (by decide))⟩
  ·simp only[iR]
   go_simp
   exact hK _ _ ⟨w1,by simp only[iR,aD hlt,reduceIte,Nat.reduceEqDiff];try rfl,(hW.keep hlt (by decide) (by decide))⟩
  ·have q2:up L 2=true:=hD 2 (by simp)
   have n4:up L 4=false:=hC.no nl 4 rfl (by kernel_rfl)
   obtain rfl:=hW.1 n4
   simp only[iR,aA q2]
   go_simp
   exact hK _ _ ⟨w1,by simp only[iR,aD hlt,aA q2,reduceIte,Nat.reduceEqDiff];try rfl,(hW.keep hlt (by decide) (by decide))⟩
  ·have q1:up L 1=true:=hD 1 (by simp)
   have q3:up L 3=true:=hD 3 (by simp)
   have n5:up L 5=false:=hC.no nl 5 rfl (by kernel_rfl)
   obtain rfl:=hW.1 nl
   simp only[iR,aA q1,aA q3]
   go_simp
   refine Calls.mono HT.out ?_
   rintro e w2 ⟨rfl,d1⟩
   go_simp
   exact hK _ _ ⟨w2,by simp only[iR,aD hlt,aA q1,aA q3,reduceIte,Nat.reduceEqDiff];try rfl,iO.first hlt (by decide) n5 d1⟩
  ·have q0:up L 0=true:=hD 0 (by simp)
   have q4:up L 4=true:=hd { on:=4,ground:=.chain } (by simp) rfl
   obtain⟨d1,y4,_⟩:=hW.2 q4
   obtain rfl:=y4 nl
   have x0:=aF d1 r0
   have x1:=aF d1 r1
   have x2:=aF d1 r2
   have x3:=aF d1 r3
   have xf:∀ j,w.frozen? ⟨R,j,none⟩=false:=fun j=>(Below.frozen d1 (p:=⟨R,j,none⟩) (show R<_ from block_lt_of_cell r0)).trans (rf j)
   simp only[iR,aA q0]
   go_simp
   exact hK _ _ ⟨w,by simp only[iR,aD hlt,aA q0,reduceIte,Nat.reduceEqDiff];try rfl,hW.second hlt q4 rfl⟩
  ·simp only[iR]
   go_simp
   exact hK _ _ ⟨w1,by simp only[iR,aD hlt,reduceIte,Nat.reduceEqDiff];try rfl,(hW.keep hlt (by decide) (by decide))⟩
  ·have q4:up L 4=true:=hD 4 (by simp)
   simp only[iR,aA q4]
   go_simp
   exact hK _ _ ⟨w1,by simp only[iR,aD hlt,aA q4,reduceIte,Nat.reduceEqDiff];try rfl,(hW.keep hlt (by decide) (by decide))⟩
 case done=>
  rintro L a u ⟨w1,rfl,hW⟩ hall
  simp only[iR,aA (hall 0 (by decide)),aA (hall 1 (by decide)),aA (hall 2 (by decide)),aA (hall 3 (by decide)),aA (hall 4 (by decide)),aA (hall 5 (by decide)),aA (hall 6 (by decide)),aA (hall 7 (by decide))]
  obtain⟨d1,_,hB⟩:=hW.2 (hall 4 (by decide))
  obtain rfl:=hB (hall 5 (by decide))
  exact nI.out w1 (Below.trans (Below.drew (Below.refl _ _)) d1)
end Go.Proofs.YtlbomnnldkeocaaGreat.W
namespace Go.Proofs.YtlbomnnldkeocaaGreat.Pl
def fk (xs:List Ln) (k:Nat) (s:ByteArray):Option Nat:=(List.range k).find? fun i=>decide ((gl xs i).k=1) && decide ((gl xs i).s=s)
theorem UB (xs:List Ln) (s:ByteArray):fk xs xs.length s=lb xs s:=rfl
theorem tY (xs:List Ln) (k:Nat) (s:ByteArray):fk xs (k+1) s=match fk xs k s with | some i=>some i | none=>if (gl xs k).k=1/\(gl xs k).s=s then some k else none:=by
 unfold fk
 rw[List.range_succ,List.find?_append]
 cases (List.range k).find? (fun i=>decide ((gl xs i).k=1) && decide ((gl xs i).s=s)) with
 | some i=>rfl
 | none=>
  by_cases h:(gl xs k).k=1/\(gl xs k).s=s
  ·rw[if_pos h];simp[h.1,h.2]
  ·rw[if_neg h]
   simp only[Option.none_or,List.find?_cons,List.find?_nil]
   split
   ·rename_i q
    simp only[Bool.and_eq_true,decide_eq_true_eq]at q
    exact absurd q h
   ·rfl
theorem NA {xs:List Ln} {k:Nat} {s:ByteArray} {i:Nat} (h:fk xs k s=some i):i<k/\(gl xs i).k=1/\(gl xs i).s=s:=by
 unfold fk at h
 obtain⟨h1,h2,_⟩:=List.find?_range_eq_some.1 h
 simp only[Bool.and_eq_true,decide_eq_true_eq]at h1
 exact⟨List.mem_range.1 h2,h1.1,h1.2⟩
theorem ZJ {xs:List Ln} {k:Nat} {s:ByteArray} (h:fk xs k s=none):∀ j,j<k->(gl xs j).k=1->(gl xs j).s≠s:=by
 unfold fk at h
 rw[List.find?_eq_none]at h
 intro j hj h1 h2
 have:=h j (List.mem_range.2 hj)
 simp[h1,h2]at this
theorem key_inj {s t:ByteArray} (h:s.data.toList=t.data.toList):s=t:=by
 obtain⟨⟨a⟩⟩:=s
 obtain⟨⟨b⟩⟩:=t
 have:a=b:=h
 rw[this]
end Go.Proofs.YtlbomnnldkeocaaGreat.Pl
namespace Go.Proofs.YtlbomnnldkeocaaGreat.W
open Go.RowKit Go.Maps Go.WideMaps
def zZ:Value->Option (DataW Nat × List MemPlace)
 | .pointer none=>some (.nil,[])
 | .pointer (some ⟨b,0,none⟩)=>some (.held b,[])
 | _=>none
theorem ZK {v:Value} {ps:List MemPlace} (h:zZ v=some (.nil,ps)):v=.pointer none:=by
 unfold zZ at h
 split at h
 ·rfl
 ·injection h with h;injection h with h _;cases h
 ·cases h
theorem GJ {v:Value} {b:Nat} {ps:List MemPlace} (h:zZ v=some (.held b,ps)):v=.pointer (some ⟨b,0,none⟩):=by
 unfold zZ at h
 split at h
 ·injection h with h;injection h with h _;cases h
 ·injection h with h;injection h with h _;injection h with h;rw[h]
 ·cases h
theorem Hl:(Tryz.prog.info? 115).map (fun i=>(i.zero,i.size,i.bytes))=some (some (.pointer none),1,8):=by kernel_rfl
theorem ZL (w:World):(zeroValue 115).run Tryz.prog w=.ok (.pointer none) w:=by
 obtain⟨i0,hi,hz,_,_⟩:=info_parts Hl
 simp[zeroValue,typeInfo,hi,hz]
structure rX (xs:List Pl.Ln) (B:Nat) (u:World) (gm k:Nat) (mb:Nat->Nat) (d:Nat->Bool) (ad:Nat->Int):Prop where
 map:∃ D:DataW Nat,IsMap D/\u.ownsMap Tryz.prog 9 zZ gm k D/\(∀ s:ByteArray,D.atKey (.string s.data.toList) .nil=match Pl.fk xs k s with | none=>.nil | some i=>.held (mb i))/\∀ s:ByteArray,Maps.has D (.string s.data.toList)=(Pl.fk xs k s).isSome
 yU:∀ i,i<k->(Pl.gl xs i).k=1->B<=mb i/\u.heap[mb i]?=some (.cells #[.int .i64 (i:Nat),.bool (d i),.int .i64 (ad i)] 117 (0,0))
variable {xs:List Pl.Ln} {B:Nat} {u u':World} {gm k:Nat} {mb:Nat->Nat} {d:Nat->Bool} {ad:Nat->Int}
theorem rX.keep (h:rX xs B u gm k mb d ad) (hb:Below u.heap.size u u'):rX xs B u' gm k mb d ad:=by
 obtain⟨D,h1,h2,h3,h5⟩:=h.map
 refine⟨⟨D,h1,h2.kept (nH hb) (by simp),h3,h5⟩,fun i hi hk=>?_⟩
 obtain⟨q1,q2⟩:=h.yU i hi hk
 exact⟨q1,(hb.block _ (Array.getElem?_eq_some_iff.1 q2).1).trans q2⟩
theorem rX.only (h:rX xs B u gm k mb d ad) {g:Nat} (hb:OnlyC g u u') (hg:gm≠g) (hm:∀ i,i<k->(Pl.gl xs i).k=1->mb i≠g):rX xs B u' gm k mb d ad:=by
 obtain⟨D,h1,h2,h3,h5⟩:=h.map
 refine⟨⟨D,h1,h2.kept hb.grown (fun c=>hg (by injection c)),h3,h5⟩,fun i hi hk=>?_⟩
 obtain⟨q1,q2⟩:=h.yU i hi hk
 exact⟨q1,(hb.block _ (Array.getElem?_eq_some_iff.1 q2).1 (hm i hi hk)).trans q2⟩
theorem rX.look (h:rX xs B u gm k mb d ad) {s:ByteArray} (hs:s.size<=maxLen):(Instr.lookup 67 (.map (some gm)) (.string s) false).run Tryz.prog u=.ok (.pointer (match Pl.fk xs k s with | none=>none | some i=>some ⟨mb i,0,none⟩)) u:=by
 obtain⟨D,h1,h2,h3,h5⟩:=h.map
 obtain⟨v,ps,hr,hv⟩:=h2.lookup (string_keyed Tryz.underlying9) Tryz.underlying67 (ZL u) (zd:=.nil) (zp:=[]) rfl (keyOf_string_mk Tryz.underlying9 hs)
 rw[h3 s]at hv
 rw[hr]
 cases hf:Pl.fk xs k s with
 | none=>rw[hf]at hv;rw[ZK hv]
 | some i=>rw[hf]at hv;rw[GJ hv]
theorem rX.next (h:rX xs B u gm k mb d ad) (hk:(Pl.gl xs k).k≠1):rX xs B u gm (k+1) mb d ad:=by
 obtain⟨D,h1,h2,h3,h5⟩:=h.map
 refine⟨⟨D,h1,h2.mono (by omega),fun s=>?_,fun s=>?_⟩,fun i hi hki=>h.yU i ?_ hki⟩
 ·rw[h3 s,Pl.tY]
  cases Pl.fk xs k s with
  | some i=>rfl
  | none=>simp[hk]
 ·rw[h5 s,Pl.tY]
  cases Pl.fk xs k s with
  | some i=>rfl
  | none=>simp[hk]
 ·rcases Nat.lt_or_ge i k with q | q
  ·exact q
  ·have:i=k:=by omega
   rw[this]at hki;exact absurd hki hk
theorem rX.put (h:rX xs B u gm k mb d ad) (hk:(Pl.gl xs k).k=1) (hf:Pl.fk xs k (Pl.gl xs k).s=none) (hs:(Pl.gl xs k).s.size<=maxLen) (hn:k<maxLen) {g:Nat} (hg:B<=g) (hrow:u.heap[g]?=some (.cells #[.int .i64 (k:Nat),.bool false,.int .i64 0] 117 (0,0))) (hd:∀ i,d i=false) (ha:∀ i,ad i=0) :
  ∃ Y2,(Instr.mapUpdate 67 (.map (some gm)) (.string (Pl.gl xs k).s) (.pointer (some ⟨g,0,none⟩))).run Tryz.prog u=.ok () Y2/\rX xs B Y2 gm (k+1) (fun i=>if i=k then g else mb i) d ad/\u.grownBy Y2 (some gm):=by
 obtain⟨D,h1,h2,h3,h5⟩:=h.map
 obtain⟨Y2,hr,ho,hgr⟩:=h2.update (string_keyed Tryz.underlying9) Tryz.underlying67 hn (keyOf_string_mk Tryz.underlying9 hs) (val:=.pointer (some ⟨g,0,none⟩)) (d:=.held g) (ps:=[]) rfl
 have hgm:∀ {b:Nat} {cur:Array Value} {t:TypeId} {f:Nat × Nat},u.heap[b]?=some (.cells cur t f)->Y2.heap[b]?=some (.cells cur t f):=fun {b cur t f} hb=>by
  refine (hgr.block b (Array.getElem?_eq_some_iff.1 hb).1 (fun c=>?_)).trans hb
  have:b=gm:=by injection c
  subst this
  obtain⟨es,cl,hm,_⟩:=h2
  rw[hb]at hm
  injection hm with hm
  cases hm
 refine⟨Y2,hr,⟨⟨_,h1.put _ _,ho,fun s=>?_,fun s=>?_⟩,fun i hi hki=>?_⟩,hgr⟩
 ·by_cases e:(Pl.gl xs k).s=s
  ·subst e
   rw[atKey_put_same h1 (by trivial),Pl.tY,hf]
   simp[hk]
  ·rw[atKey_put_other (fun hc=>e (Pl.key_inj (Lit.string.inj hc).symm)),h3 s,Pl.tY]
   cases hq:Pl.fk xs k s with
   | some i=>
    have hik:=(Pl.NA hq).1
    show DataW.held (mb i)=.held (if i=k then g else mb i)
    rw[if_neg (Nat.ne_of_lt hik)]
   | none=>simp[e]
 ·by_cases e:(Pl.gl xs k).s=s
  ·subst e
   rw[has_put_same h1 (by trivial),Pl.tY,hf]
   simp[hk]
  ·rw[has_put_other (fun hc=>e (Pl.key_inj (Lit.string.inj hc).symm)),h5 s,Pl.tY]
   cases hq:Pl.fk xs k s with
   | some i=>rfl
   | none=>simp[e]
 ·by_cases e:i=k
  ·subst e
   rw[if_pos rfl,hd,ha]
   exact⟨hg,hgm hrow⟩
  ·rw[if_neg e]
   obtain⟨q1,q2⟩:=h.yU i (by omega) hki
   exact⟨q1,hgm q2⟩
noncomputable def Xj (n:Nat):Code:=((Tryz.f31.body.bind (lG n)).getD .skip)
def jA (ga gm h k hm:Nat) (s:ByteArray) (Y2:World)  (c1 c2 c5 c6 c7 c8 c9 c10 c11 c12 c13 c14 c15 c16 c17 c18 c19 c20 c21 dW c23 c24 dP eP eY oN qF qG qH vF vG vH ZM ZE:Value)  (L:Array Bool):Act:={ tmps:=#[.pointer (some ⟨ga,0,none⟩),c1,c2,.int .i64 (k:Nat),.pointer (some ⟨h,0,none⟩),c5,c6,c7,c8,c9,c10,c11,c12,c13,c14,c15,c16,c17,c18,c19,c20,c21,dW,c23,c24,dP,eP,aR oN L 0 (.pointer (some ⟨ga,0,none⟩)),aR qF L 1 (.pointer (some ⟨ga,0,none⟩)),aR qG L 2 (.pointer (some ⟨ga,2,none⟩)),aR qH L 3 (.map (some gm)),aR vF L 4 (.pointer (some ⟨h,6,none⟩)),aR vG L 5 (.string s),aR vH L 6 (.int .i64 (k:Nat)),aR ZM L 7 (.agg #[.int .i64 (k:Nat),.bool false,.int .i64 0]),aR ZE L 8 (.pointer (some ⟨hm,0,none⟩)),eY],defers:=[] }
set_option maxRecDepth 100000 in
theorem Xk (ga gm h k hm:Nat) (s:ByteArray) (Y2:World) {c1 c2 c5 c6 c7 c8 c9 c10 c11 c12 c13 c14 c15 c16 c17 c18 c19 c20 c21 dW c23 c24 dP eP eY oN qF qG qH vF vG vH ZM ZE:Value} (Y:World) (hh:hm=Y.heap.size) (m2:Y.cell? ⟨ga,2,none⟩=some (.map (some gm))) (l6:Y.cell? ⟨h,6,none⟩=some (.string s)) (hup:(Instr.mapUpdate 67 (.map (some gm)) (.string s) (.pointer (some ⟨hm,0,none⟩))).run Tryz.prog (Y.drew.alloc (.cells #[.int .i64 (k:Nat),.bool false,.int .i64 0] 117))=.ok () Y2) {Q:Exit->Act->World->Prop}
  (hK:Q .normal { tmps:=#[.pointer (some ⟨ga,0,none⟩),c1,c2,.int .i64 (k:Nat),.pointer (some ⟨h,0,none⟩),c5,c6,c7,c8,c9,c10,c11,c12,c13,c14,c15,c16,c17,c18,c19,c20,c21,dW,c23,c24,dP,eP,.pointer (some ⟨ga,0,none⟩),.pointer (some ⟨ga,0,none⟩),.pointer (some ⟨ga,2,none⟩),.map (some gm),.pointer (some ⟨h,6,none⟩),.string s,.int .i64 (k:Nat),.agg #[.int .i64 (k:Nat),.bool false,.int .i64 0],.pointer (some ⟨hm,0,none⟩),eY],defers:=[] } Y2) :
  (Xj 7).wp Tryz.prog Q { tmps:=#[.pointer (some ⟨ga,0,none⟩),c1,c2,.int .i64 (k:Nat),.pointer (some ⟨h,0,none⟩),c5,c6,c7,c8,c9,c10,c11,c12,c13,c14,c15,c16,c17,c18,c19,c20,c21,dW,c23,c24,dP,eP,oN,qF,qG,qH,vF,vG,vH,ZM,ZE,eY],defers:=[] } Y:=by
 have nI:Hid _:=hK
 clear hK
 have HUP:Hid _:=hup
 have j2:Y.drew.cell? ⟨ga,2,none⟩=some (.map (some gm)):=m2
 have j6:Y.drew.cell? ⟨h,6,none⟩=some (.string s):=l6
 subst hh
 clear hup m2 l6
 conv=>arg 2;whnf
 dsimp only
 refine wp_region_any (by kernel_rfl) ?_
 change wpAny _ _ _ _ _ _ _ (World.drew _)
 refine bQ (fun L jD u=>∃ w1,jD=jA ga gm h k Y.heap.size s Y2  c1 c2 c5 c6 c7 c8 c9 c10 c11 c12 c13 c14 c15 c16 c17 c18 c19 c20 c21 dW c23 c24 dP eP eY oN qF qG qH vF vG vH ZM ZE  L/\iO Y.drew (fun u=>u=Y.drew.alloc (.cells #[.int .i64 (k:Nat),.bool false,.int .i64 0] 117)) (fun u=>u=Y2) 8 9 w1 L u) ?done (by kernel_rfl) ?step _ 10 _ _ (by kernel_rfl) ?init (by decide)
 case init=>exact⟨Y,by simp only[jA,dG (bR _ _)],iO.init⟩
 case step=>
  intro L act w i o hI hlt hs nl hC hd ho K hK
  obtain⟨w1,rfl,hW⟩:=hI
  have jB:i<10:=(Array.getElem?_eq_some_iff.1 ho).1
  have hD:=fun k m=>hd {on:=k,ground:=.data} m rfl
  rcases (show i=0\/i=1\/i=2\/i=3\/i=4\/i=5\/i=6\/i=7\/i=8\/i=9 by omega) with rfl|rfl|rfl|rfl|rfl|rfl|rfl|rfl|rfl|rfl<;>(change some _=some o at ho;cases ho)
  ·simp only[jA]
   go_simp
   exact hK _ _ ⟨w1,by simp only[jA,aD hlt,reduceIte,Nat.reduceEqDiff];try rfl,(hW.keep hlt (by decide) (by decide))⟩
  ·have q0:up L 0=true:=hD 0 (by simp)
   simp only[jA,aA q0]
   go_simp
   exact hK _ _ ⟨w1,by simp only[jA,aD hlt,aA q0,reduceIte,Nat.reduceEqDiff];try rfl,(hW.keep hlt (by decide) (by decide))⟩
  ·have q1:up L 1=true:=hD 1 (by simp)
   simp only[jA,aA q1]
   go_simp
   exact hK _ _ ⟨w1,by simp only[jA,aD hlt,aA q1,reduceIte,Nat.reduceEqDiff];try rfl,(hW.keep hlt (by decide) (by decide))⟩
  ·have q2:up L 2=true:=hD 2 (by simp)
   have n9:up L 9=false:=hC.no nl 9 rfl (by kernel_rfl)
   have xo:=hW.cell n9 j2 (fun q=>by rw[q];exact aF (aB _ _) j2)
   simp only[jA,aA q2]
   go_simp
   exact hK _ _ ⟨w1,by simp only[jA,aD hlt,aA q2,reduceIte,Nat.reduceEqDiff];try rfl,(hW.keep hlt (by decide) (by decide))⟩
  ·simp only[jA]
   go_simp
   exact hK _ _ ⟨w1,by simp only[jA,aD hlt,reduceIte,Nat.reduceEqDiff];try rfl,(hW.keep hlt (by decide) (by decide))⟩
  ·have q4:up L 4=true:=hD 4 (by simp)
   have n9:up L 9=false:=hC.no nl 9 rfl (by kernel_rfl)
   have xo:=hW.cell n9 j6 (fun q=>by rw[q];exact aF (aB _ _) j6)
   simp only[jA,aA q4]
   go_simp
   exact hK _ _ ⟨w1,by simp only[jA,aD hlt,aA q4,reduceIte,Nat.reduceEqDiff];try rfl,(hW.keep hlt (by decide) (by decide))⟩
  ·simp only[jA]
   go_simp
   exact hK _ _ ⟨w1,by simp only[jA,aD hlt,reduceIte,Nat.reduceEqDiff];try rfl,(hW.keep hlt (by decide) (by decide))⟩
  ·have q6:up L 6=true:=hD 6 (by simp)
   simp only[jA,aA q6]
   go_simp
   exact hK _ _ ⟨w1,by simp only[jA,aD hlt,aA q6,reduceIte,Nat.reduceEqDiff];try rfl,(hW.keep hlt (by decide) (by decide))⟩
  ·have q7:up L 7=true:=hD 7 (by simp)
   have n9:up L 9=false:=hC.no nl 9 rfl (by kernel_rfl)
   obtain rfl:=hW.1 nl
   simp only[jA,aA q7]
   go_simp
   exact hK _ _ ⟨_,by simp only[jA,aD hlt,aA q7,reduceIte,Nat.reduceEqDiff];try rfl,iO.first hlt (by decide) n9 rfl⟩
  ·have q3:up L 3=true:=hD 3 (by simp)
   have q5:up L 5=true:=hD 5 (by simp)
   have q8:up L 8=true:=hD 8 (by simp)
   obtain⟨d1,y4,_⟩:=hW.2 q8
   obtain rfl:=y4 nl
   have hu:=HUP.out
   rw[<- d1]at hu
   clear d1
   simp only[jA,aA q3,aA q5,aA q8]
   go_simp
   exact hK _ _ ⟨w,by simp only[jA,aD hlt,aA q3,aA q5,aA q8,reduceIte,Nat.reduceEqDiff];try rfl,hW.second hlt q8 rfl⟩
 case done=>
  rintro L a u ⟨w1,rfl,hW⟩ hall
  simp only[jA,aA (hall 0 (by decide)),aA (hall 1 (by decide)),aA (hall 2 (by decide)),aA (hall 3 (by decide)),aA (hall 4 (by decide)),aA (hall 5 (by decide)),aA (hall 6 (by decide)),aA (hall 7 (by decide)),aA (hall 8 (by decide)),aA (hall 9 (by decide))]
  obtain⟨d1,_,hB⟩:=hW.2 (hall 8 (by decide))
  obtain rfl:=hB (hall 9 (by decide))
  exact nI.out
theorem OnlyC.low {g B:Nat} {u u':World} (h:OnlyC g u u') (hg:B<=g) (hB:B<=u.heap.size):Below B u u':=⟨h.os,h.tape,h.output,h.size,fun k hk=>h.block k (by omega) (by omega)⟩
theorem OnlyC.refl (g:Nat) (u:World):OnlyC g u u:=⟨rfl,rfl,rfl,Nat.le_refl _,fun _ _ _=>rfl⟩
structure xG (lo:Nat) (xs:List Pl.Ln) (w u:World) (ga gm:Nat) (a:Option Addr) (len cap:Nat) (stack:Int) (ec:Pl.kV):Prop where
 row:u.heap[ga]?=some (.cells #[.slice a len cap,.int .i64 stack,.map (some gm),.bool ec.d,.int .i64 ec.t,.int .i64 ec.b] 71 (0,0))
 low:Below w.heap.size w u
 ln:jE lo w a len cap xs
 hga:w.heap.size<=ga
 hgm:w.heap.size<=gm
 ne:ga≠gm
variable {lo:Nat} {xs:List Pl.Ln} {w u u':World} {ga gm:Nat} {a:Option Addr} {len cap:Nat} {stack:Int} {ec:Pl.kV}
theorem xG.lt (h:xG lo xs w u ga gm a len cap stack ec):ga<u.heap.size:=(Array.getElem?_eq_some_iff.1 h.row).1
theorem xG.cell (h:xG lo xs w u ga gm a len cap stack ec) (j:Nat):u.cell? ⟨ga,j,none⟩=(#[.slice a len cap,.int .i64 stack,.map (some gm),.bool ec.d,.int .i64 ec.t,.int .i64 ec.b]:Array Value)[j]?:=cell_of_row _ _ j _ 71 (0,0) h.row
theorem xG.fz (h:xG lo xs w u ga gm a len cap stack ec) (j:Nat):u.frozen? ⟨ga,j,none⟩=false:=frozen_of_row _ _ j _ 71 h.row
theorem xG.keep (h:xG lo xs w u ga gm a len cap stack ec) (hb:Below u.heap.size u u'):xG lo xs w u' ga gm a len cap stack ec:=⟨(hb.block ga h.lt).trans h.row,h.low.trans (hb.mono h.low.size),h.ln,h.hga,h.hgm,h.ne⟩
theorem xG.only (h:xG lo xs w u ga gm a len cap stack ec) {g:Nat} (hb:OnlyC g u u') (hg:w.heap.size<=g) (hn:ga≠g):xG lo xs w u' ga gm a len cap stack ec:=⟨(hb.block ga h.lt hn).trans h.row,h.low.trans (hb.low hg h.low.size),h.ln,h.hga,h.hgm,h.ne⟩
theorem xG.lines (h:xG lo xs w u ga gm a len cap stack ec):jE lo u a len cap xs:=h.ln.keep h.low
set_option maxRecDepth 100000 in
theorem yV (h:xG lo xs w u ga gm a len cap stack ec) (hm:rX xs u.heap.size u gm 0 (fun _=>0) (fun _=>false) (fun _=>0)) (hn:len<=20000):Calls Tryz.prog 31 #[.pointer (some ⟨ga,0,none⟩)] u fun e u'=>e=.returned (.int .i64 (Pl.aV (Pl.twice xs) len))/\OnlyC gm u u'/\(Pl.aV (Pl.twice xs) len=-1->∃ mb,rX xs u.heap.size u' gm len mb (fun _=>false) (fun _=>0)):=by
 have HA:Hid (xG lo xs w u ga gm a len cap stack ec):=h
 have HL0:Hid (rX xs u.heap.size u gm 0 (fun _=>0) (fun _=>false) (fun _=>0)):=hm
 have hxl:xs.length=len:=h.ln.len.1
 have lM:Hid (xs.length=len):=hxl
 have m0:=h.cell 0
 simp only[List.getElem?_toArray,List.getElem?_cons_zero]at m0
 have hgl:gm<u.heap.size:=by obtain⟨D,_,h2,_⟩:=hm.map;exact h2.lt
 clear h hm hxl
 go_enter Tryz.func31,Tryz.ntmps31
 go_wp2_with fail
 go_loopw [10] (fun i wr=>∃ k:Nat,k<=len/\i=.int .i64 k/\(∀ j,j<k->Pl.twice xs j=false)/\OnlyC gm u wr/\∃ mb,rX xs u.heap.size wr gm k mb (fun _=>false) (fun _=>0)) (fun i _=>len-(intOf i).toNat)
 case atStart=>exact⟨0,Nat.zero_le _,rfl,fun j hj=>absurd hj (Nat.not_lt_zero _),OnlyC.refl _ _,_,HL0.out⟩
 case round=>
  obtain⟨k,hk,rfl,hall,hon,mb,hlb⟩:=hrel
  have HT:Hid (∀ j,j<k->Pl.twice xs j=false):=hall
  have HO:Hid (OnlyC gm u wr):=hon
  have HB:Hid (rX xs u.heap.size wr gm k mb (fun _=>false) (fun _=>0)):=hlb
  have I5:Hid (xG lo xs w wr ga gm a len cap stack ec):=HA.out.only hon HA.out.hgm HA.out.ne
  clear hall hon hlb
  by_cases hlt:k<len
  ·have hi:(k:Int)<(len:Int):=by omega
   obtain⟨b,off,wH,hlo,hb1,hsz,z0,z1,z2,z3,z4,z5,z6,z7⟩:=I5.out.lines.at k hlt
   subst wH
   have HTK:Hid (∀ i,Pl.fk xs k (Pl.gl xs k).s=some i->(Pl.gl xs k).k=1->Pl.twice xs k=true):=fun i hi hk1=>by
    obtain⟨q1,q2,q3⟩:=Pl.NA hi
    exact (Pl.qX (by rw[lM.out];exact hlt)).2 ⟨hk1,i,q1,q2,q3⟩
   have HTN:Hid (Pl.fk xs k (Pl.gl xs k).s=none->Pl.twice xs k=false):=fun hf=>by
    cases hc:Pl.twice xs k
    ·rfl
    ·obtain⟨_,j,hj,q1,q2⟩:=(Pl.qX (by rw[lM.out];exact hlt)).1 hc
     exact absurd q2 (Pl.ZJ hf j hj q1)
   have Qv:Hid ((Pl.gl xs k).k≠1->Pl.twice xs k=false):=fun q=>by unfold Pl.twice;simp[q]
   by_cases e1:(Pl.gl xs k).k=1
   ·have Xl:Hid ((Pl.gl xs k).k=1):=e1
    have kU:∀ (o:Obj) (n:Nat),(Instr.lookup 67 (.map (some gm)) (.string (Pl.gl xs k).s) false).run Tryz.prog ((wr.alloc o).drewN n)=.ok (.pointer (match Pl.fk xs k (Pl.gl xs k).s with | none=>none | some i=>some ⟨mb i,0,none⟩)) ((wr.alloc o).drewN n):=fun o n=>((HB.out.keep (aB wr o)).keep (below_drewN (Below.refl _ _) n)).look hsz
    have m2:∀ (o:Obj),(wr.alloc o).cell? ⟨ga,2,none⟩=some (.map (some gm)):=fun o=>(I5.out.keep (aB wr o)).cell 2
    have VF:Hid ((Pl.gl xs k).s.size<=maxLen):=hsz
    rw[e1]at z0
    cases hf:Pl.fk xs k (Pl.gl xs k).s with
    | some i=>
     have GK:Hid (Pl.twice xs k=true):=HTK.out i hf e1
     rw[hf]at kU
     clear hf e1 hsz
     generalize Pl.gl xs k=x at *
     go_upto_region 5 with fail
     have hlk:=kU (.cells #[.int .i64 1,.int .i64 x.op,.int .i64 x.rd,.int .i64 x.r1,.int .i64 x.r2,.int .i64 x.im,.string x.s,.int .i64 x.n] 51)
     have hm2:=m2 (.cells #[.int .i64 1,.int .i64 x.op,.int .i64 x.rd,.int .i64 x.r1,.int .i64 x.r2,.int .i64 x.im,.string x.s,.int .i64 x.n] 51)
     have I6:(wr.alloc (.cells #[.int .i64 1,.int .i64 x.op,.int .i64 x.rd,.int .i64 x.r1,.int .i64 x.r2,.int .i64 x.im,.string x.s,.int .i64 x.n] 51)).cell? ⟨wr.heap.size,6,none⟩=some (.string x.s):=cell_of_row _ _ 6 _ 51 (0,0) (heap_alloc_new wr _)
     have HOU:Hid (∀ n,OnlyC gm u ((wr.alloc (.cells #[.int .i64 1,.int .i64 x.op,.int .i64 x.rd,.int .i64 x.r1,.int .i64 x.r2,.int .i64 x.im,.string x.s,.int .i64 x.n] 51)).drewN n)):=fun n=>HO.out.trans (OnlyC.of (below_drewN (aB wr _) n))
     clear kU m2
     generalize wr.alloc (.cells #[.int .i64 1,.int .i64 x.op,.int .i64 x.rd,.int .i64 x.r1,.int .i64 x.r2,.int .i64 x.im,.string x.s,.int .i64 x.n] 51)=W1 at *
     go_quiet (fail)
     go_wp2_with fail
     go_ret
     have hf1:=Pl.kS (Pl.twice xs) len k hlt GK.out HT.out
     exact⟨by rw[hf1];rfl,HOU.out _,fun q=>by rw[hf1]at q;omega⟩
    | none=>
     have GK:Hid (Pl.twice xs k=false):=HTN.out hf
     have vT:Hid (Pl.fk xs k (Pl.gl xs k).s=none):=hf
     rw[hf]at kU
     clear hf e1 hsz
     generalize hgx:Pl.gl xs k=x at *
     have sU:Hid (Pl.gl xs k=x):=hgx
     clear hgx
     go_upto_region 5 with fail
     have hlk:=kU (.cells #[.int .i64 1,.int .i64 x.op,.int .i64 x.rd,.int .i64 x.r1,.int .i64 x.r2,.int .i64 x.im,.string x.s,.int .i64 x.n] 51)
     have hm2:=m2 (.cells #[.int .i64 1,.int .i64 x.op,.int .i64 x.rd,.int .i64 x.r1,.int .i64 x.r2,.int .i64 x.im,.string x.s,.int .i64 x.n] 51)
     have I6:(wr.alloc (.cells #[.int .i64 1,.int .i64 x.op,.int .i64 x.rd,.int .i64 x.r1,.int .i64 x.r2,.int .i64 x.im,.string x.s,.int .i64 x.n] 51)).cell? ⟨wr.heap.size,6,none⟩=some (.string x.s):=cell_of_row _ _ 6 _ 51 (0,0) (heap_alloc_new wr _)
     have Ec:Hid (Below wr.heap.size wr (wr.alloc (.cells #[.int .i64 1,.int .i64 x.op,.int .i64 x.rd,.int .i64 x.r1,.int .i64 x.r2,.int .i64 x.im,.string x.s,.int .i64 x.n] 51))):=aB wr _
     clear kU m2
     generalize wr.alloc (.cells #[.int .i64 1,.int .i64 x.op,.int .i64 x.rd,.int .i64 x.r1,.int .i64 x.r2,.int .i64 x.im,.string x.s,.int .i64 x.n] 51)=W1 at *
     go_quiet (fail)
     go_upto_region 7 with fail
     rename_i nq
     have hbd:Below wr.heap.size wr ((W1.drewN nq).drew.alloc (.cells #[.int .i64 (k:Nat),.bool false,.int .i64 0] 117)):=Below.alloc (Below.drew (below_drewN Ec.out _)) Ec.out.size _
     have hmz:u.heap.size<=(W1.drewN nq).heap.size:=Nat.le_trans HO.out.size Ec.out.size
     obtain⟨Y2,hup,hl2,hg2⟩:=(HB.out.keep hbd).put (by rw[sU.out];exact Xl.out) (by rw[sU.out];exact vT.out) (by rw[sU.out];exact VF.out) (by unfold maxLen;omega) (g:=(W1.drewN nq).heap.size) hmz (bL rfl) (fun _=>rfl) (fun _=>rfl)
     rw[sU.out]at hup
     refine Xk ga gm wr.heap.size k (W1.drewN nq).heap.size x.s Y2 (W1.drewN nq) rfl hm2 I6 hup ?_
     have Xm:Hid (OnlyC gm u Y2):=by
      refine (HO.out.trans (OnlyC.of hbd)).trans ⟨hg2.os,hg2.tape,hg2.output,hg2.size,fun j hj hn=>hg2.block j hj (fun c=>hn (by injection c))⟩
     have HL2:Hid (rX xs u.heap.size Y2 gm (k+1) _ (fun _=>false) (fun _=>0)):=hl2
     clear hl2 hup hg2 hbd
     go_wp2_with fail
     exact⟨⟨k+1,hlt,by go_num,Pl.gJ HT.out GK.out,Xm.out,_,HL2.out⟩,by simp[intOf];omega⟩
   ·have GK:Hid (Pl.twice xs k=false):=Qv.out e1
    have Xl:Hid ((Pl.gl xs k).k≠1):=e1
    have e2:((Pl.gl xs k).k == 1)=false:=by simpa using e1
    have e3:((Pl.gl xs k).k != 1)=true:=by simpa using e1
    have I7:Hid (∀ o,OnlyC gm u (wr.alloc o)/\rX xs u.heap.size (wr.alloc o) gm (k+1) mb (fun _=>false) (fun _=>0)):=fun o=>⟨HO.out.trans (OnlyC.of (aB wr o)),(HB.out.keep (aB wr o)).next Xl.out⟩
    clear e1 hsz
    generalize Pl.gl xs k=x at *
    go_wp2_with fail
    exact⟨⟨k+1,hlt,by go_num,Pl.gJ HT.out GK.out,(I7.out _).1,mb,(I7.out _).2⟩,by simp[intOf];omega⟩
  ·have hi:¬ (k:Int)<(len:Int):=by omega
   have hkk:k=len:=by omega
   have XO:Hid (k=len):=hkk
   clear hkk
   go_wp2
   go_ret
   have hf:=Pl.iV (Pl.twice xs) len (fun j hj=>HT.out j (by rw[XO.out];exact hj))
   exact⟨by rw[hf];rfl,HO.out,fun _=>⟨mb,by have:=HB.out;rw[XO.out]at this;exact this⟩⟩
end Go.Proofs.YtlbomnnldkeocaaGreat.W
