import Derived.Test.YtlbomnnldkeocaaGreatI40
set_option linter.unusedVariables false
set_option linter.unusedSimpArgs false
set_option maxHeartbeats 16000000
namespace Go.Proofs.YtlbomnnldkeocaaGreat.W
open Go.RowKit
set_option maxRecDepth 100000 in
theorem Mf:xE fun xs k=>(Pl.gl xs k).k=1:=by
 intro lo xs F R g k a len cap la ll lc aa ac vc vd _ _ _ _ _ _ _ _ _ _ _ _ _ _ _ _ _ _ _ _ _ _ _ _ _ _ _ _ _ _ _ _ _ _ _ _ _ _ _ _ _ _ _ _ _ _ _ _ _ _ _ _ _ _ _ _ _ _ _ _ _ _ _ _ _ _ _ _ _ _ _ _ _ _ _ _ _ _ _ _ _ _ _ _ _ _ _ _ _ _ _ _ _ _ _ _ _ _ _ _ _ _ _ _ _ _ _ _ _ _ _ _ _ _ _ _ _ _ _ _ _ _ _ _ _ _ _ _ _ _ _ _ _ _ _ _ _ _ _ _ w0 Y hE hF hK hS hL hk hn hR hq Q hN hX
 replace hq:(Pl.gl xs k).k=1:=hq
 have wE:Hid _:=hN
 have wW:Hid _:=hX
 have HE:Hid (pX lo xs Y F R a len cap la ll lc aa ac):=hE
 have hxl:xs.length=len:=hE.ln.len.1
 have lM:Hid (xs.length=len):=hxl
 have hK1:=hK k (by omega)
 have GG:Hid (nA (Pl.gl xs k)):=hK1
 obtain⟨a6,y6,hv6⟩:=aT hF.od
 subst hv6
 have HF:Hid (aZ w0 Y g vc (.slice a6 (Pl.aH xs k).length y6) (Pl.aL bI xs k) (Pl.aH xs k)):=hF
 have rC:Hid ((Pl.ins xs k).any (fun y=>!y.ok || (Pl.jT (Pl.gl xs k).k && Pl.rJ xs (Pl.gl xs k).s))=Pl.dQ xs k):=Pl.jQ xs k hK1.i
 have mR:Hid (Pl.ins xs k=Pl.bM (Pl.gl xs k) (Pl.cu xs k).at (Pl.gT xs (Pl.gl xs k).s)):=rfl
 have uS:=oI hK (by omega) (Pl.gl xs k).s
 have yS:=oJ hK (by omega) (k:=k) (by omega)
 have vS:Hid (Pl.aL bI xs (k+1)=Pl.aL bI xs k ++ (Pl.ins xs k).map bI):=Pl.dH _ _ _
 have uI:Hid (Pl.aH xs (k+1)=Pl.aH xs k ++ Pl.dat xs k):=Pl.dZ _ _
 have gM:=Pl.eB bI xs (fun i hi=>(hK i hi).b) hS k (by omega)
 have hcb:=Pl.jO xs (fun i hi=>(hK i hi).b) k (by omega)
 have hcl:(Pl.aL bI xs k).length<=100000:=by omega
 have hdl:(Pl.aH xs k).length<=1310720000:=by omega
 have HB0:Hid (((Pl.aH xs k).length:Int)=(Pl.cu xs k).b):=gM.2
 have hg0:=hF.hg
 have hgY:g<Y.heap.size:=hF.lt
 have hsn:¬ (Pl.gl xs k).s=⟨#[]⟩:=fun c=>hK1.sym (by omega) (by rw[c];rfl)
 have hlb:Pl.lb xs (Pl.gl xs k).s≠none:=fun c=>by
  have:=hL
  unfold Pl.lost at this
  rw[c]at this
  simp[hsn]at this
 obtain⟨p,bl,ol,hla,hp,GH,ca,cd,hbl⟩:=hE.sym hlb
 subst hla
 have HW:Hid (∀ u,Below Y.heap.size Y u->Calls Tryz.prog 26 #[.slice (some ⟨bl,ol,none⟩) ll lc,.string (Pl.gl xs k).s] u fun e w'=>e=.returned (.int .i64 (p:Nat))/\w'=u):=fun u hu=>by rw[<- GH];exact jV _ _ _ xs _ _ u (HE.out.keep hu).lb
 have GI:Hid (∀ u,Below Y.heap.size Y u->u.cell? ⟨bl,ol+p*4+2,none⟩=some (.int .i64 (Pl.gT xs (Pl.gl xs k).s))/\u.cell? ⟨bl,ol+p*4+3,none⟩=some (.bool (!Pl.rJ xs (Pl.gl xs k).s))):=fun u hu=>⟨aF hu ca,aF hu cd⟩
 have hpl:(p:Int)<(ll:Int):=by omega
 have hll:(ll:Int)<=20000:=by
  have h1:=hE.lb.1
  have h2:(Pl.cZ xs xs.length).length<=xs.length:=by unfold Pl.cZ;refine Nat.le_trans (List.length_filter_le _ _) (by simp)
  omega
 have se:(Pl.gl xs k).s.toList.isEmpty=false:=by rw[<- Pl.jU];simpa using hsn
 clear GH
 have wG:Hid (Pl.aH xs (k+1)=Pl.aH xs k):=by show _=_;rw[uI.out,Pl.pQ xs k (by omega),List.append_nil]
 have HZ:Hid (Pl.fK (Pl.gl xs k) 0=0):=Pl.nG _ _ (by omega)
 have HIS:Hid (∀ u,bV (Pl.gl xs k) (Pl.cu xs k).at (Pl.gT xs (Pl.gl xs k).s) u):=fun u=>gV _ _ _ u hK1.b.k (by omega) (by omega) hK1.i.w4 (fun q=>by have:=hK1.far (.inl q);omega)
 have hat:=hE.ats hk
 obtain⟨ba,oa,yT,TY,cat⟩:=hat
 subst yT
 obtain⟨b0,off,wH,hlo,hb1,hsz,z0,z1,z2,z3,z4,z5,z6,z7⟩:=hE.ln.at k hk
 subst wH
 have hi:(k:Int)<(len:Int):=by omega
 have wI:Hid (Pl.sG (Pl.gl xs k)):=hK1.b
 have hf0:=hE.f0
 have TZ:F<Y.heap.size:=block_lt_of_cell hf0
 clear hE hF hN hX hK hS hL hK1 gM hcb hsz
 conv=>arg 2;whnf
 dsimp only
 generalize hx:Pl.gl xs k=x at *
 have sU:Hid (Pl.gl xs k=x):=hx
 clear hx
 have hkk:x.k=1:=hq
 have HKK:Hid (x.k=1):=hkk
 rw[hkk]at z0
 clear hq hkk
 have Mg:=(GI.out (Y.alloc (.cells #[.int .i64 1,.int .i64 x.op,.int .i64 x.rd,.int .i64 x.r1,.int .i64 x.r2,.int .i64 x.im,.string x.s,.int .i64 x.n] 51)) (aB _ _)).1
 have Mh:=(GI.out (Y.alloc (.cells #[.int .i64 1,.int .i64 x.op,.int .i64 x.rd,.int .i64 x.r1,.int .i64 x.r2,.int .i64 x.im,.string x.s,.int .i64 x.n] 51)) (aB _ _)).2
 have UA:(Y.alloc (.cells #[.int .i64 1,.int .i64 x.op,.int .i64 x.rd,.int .i64 x.r1,.int .i64 x.r2,.int .i64 x.im,.string x.s,.int .i64 x.n] 51)).cell? ⟨F,0,none⟩=some (.slice (some ⟨bl,ol,none⟩) ll lc):=aF (aB _ _) hf0
 go_upto_region 12 with (go_at_call 26;refine (HW.out _ (aB _ _)).mono ?_;rintro e u9 ⟨rfl,rfl⟩)
 have hrow:(Y.alloc (.cells #[.int .i64 1,.int .i64 x.op,.int .i64 x.rd,.int .i64 x.r1,.int .i64 x.r2,.int .i64 x.im,.string x.s,.int .i64 x.n] 51)).heap[Y.heap.size]?=some (.cells #[.int .i64 1,.int .i64 x.op,.int .i64 x.rd,.int .i64 x.r1,.int .i64 x.r2,.int .i64 x.im,.string x.s,.int .i64 x.n] 51 (0,0)):=heap_alloc_new Y _
 have aX:Hid (∀ w1:World,w1.heap[Y.heap.size]?=some (.cells #[.int .i64 1,.int .i64 x.op,.int .i64 x.rd,.int .i64 x.r1,.int .i64 x.r2,.int .i64 x.im,.string x.s,.int .i64 x.n] 51 (0,0))->∀ j,w1.cell? ⟨Y.heap.size,j,none⟩=(#[.int .i64 1,.int .i64 x.op,.int .i64 x.rd,.int .i64 x.r1,.int .i64 x.r2,.int .i64 x.im,.string x.s,.int .i64 x.n]:Array Value)[j]?):=fun w1 hw1 j=>cell_of_row _ _ j _ 51 (0,0) hw1
 have HRW:Hid ((Y.alloc (.cells #[.int .i64 1,.int .i64 x.op,.int .i64 x.rd,.int .i64 x.r1,.int .i64 x.r2,.int .i64 x.im,.string x.s,.int .i64 x.n] 51)).heap[Y.heap.size]?=some (.cells #[.int .i64 1,.int .i64 x.op,.int .i64 x.rd,.int .i64 x.r1,.int .i64 x.r2,.int .i64 x.im,.string x.s,.int .i64 x.n] 51 (0,0))):=hrow
 refine rV F Y.heap.size k ba oa len ac x (Pl.cu xs k).at (Pl.gT xs x.s) (Y.alloc (.cells #[.int .i64 1,.int .i64 x.op,.int .i64 x.rd,.int .i64 x.r1,.int .i64 x.r2,.int .i64 x.im,.string x.s,.int .i64 x.n] 51)) (aF (aB _ _) HE.out.f1) hk hn (aF (aB _ _) cat) (by rw[HKK.out];exact aX.out _ HRW.out 0) (aX.out _ HRW.out 1) (aX.out _ HRW.out 2) (aX.out _ HRW.out 3) (aX.out _ HRW.out 4) (aX.out _ HRW.out 5) (aX.out _ HRW.out 6) (aX.out _ HRW.out 7) (HIS.out _) ?_
 intro ai ni ci w1 hI hw1
 have HI:Hid (aY (Y.alloc (.cells #[.int .i64 1,.int .i64 x.op,.int .i64 x.rd,.int .i64 x.r1,.int .i64 x.r2,.int .i64 x.im,.string x.s,.int .i64 x.n] 51)).heap.size w1 ai ni (Pl.bM x (Pl.cu xs k).at (Pl.gT xs x.s))):=hI
 have HW1:Hid (Below (Y.alloc (.cells #[.int .i64 1,.int .i64 x.op,.int .i64 x.rd,.int .i64 x.r1,.int .i64 x.r2,.int .i64 x.im,.string x.s,.int .i64 x.n] 51)).heap.size (Y.alloc (.cells #[.int .i64 1,.int .i64 x.op,.int .i64 x.rd,.int .i64 x.r1,.int .i64 x.r2,.int .i64 x.im,.string x.s,.int .i64 x.n] 51)) w1):=hw1
 have HR1:Hid (w1.heap[Y.heap.size]?=some (.cells #[.int .i64 1,.int .i64 x.op,.int .i64 x.rd,.int .i64 x.r1,.int .i64 x.r2,.int .i64 x.im,.string x.s,.int .i64 x.n] 51 (0,0))):=(hw1.block Y.heap.size (by simp)).trans hrow
 have tV:Hid (aZ w0 w1 g vc (.slice a6 (Pl.aH xs k).length y6) (Pl.aL bI xs k) (Pl.aH xs k)):=(HF.out.keep (aB _ _)).keep hw1
 have k0:=aX.out _ HR1.out 0
 simp only[List.getElem?_toArray,List.getElem?_cons_zero]at k0
 clear hI hw1 hrow
 go_upto_block 2 with fail
 refine kG k g R false (!Pl.rJ xs x.s) (Pl.bM x (Pl.cu xs k).at (Pl.gT xs x.s)) ai ni ci vc _ (Pl.aL bI xs k) (Pl.aH xs k) w0 w1 tV.out HI.out ((HE.out.keep (Below.trans (aB Y _) (HW1.out.mono (by simp)))).r) hR (by simp;omega) hcl ?N ?X
 case X=>
  intros
  rename_i hany hrw hbe
  refine wW.out _ _ _ _ _ _ _ _ _ _ _ _ _ _ _ _ _ _ _ _ _ _ _ _ _ _ _ _ _ _ _ _ _ _ _ _ _ _ _ _ _ _ _ _ _ _ _ _ _ _ _ _ _ _ _ _ _ _ _ _ _ _ _ _ _ _ _ _ _ _ _ _ _ _ _ _ _ _ _ _ _ _ _ _ _ _ _ _ _ _ _ _ _ _ _ _ _ _ _ _ _ _ _ _ _ _ _ _ _ _ _ _ _ _ _ _ _ _ _ _ _ _ _ _ _ _ _ _ _ _ _ _ _ _ ?_ hrw hbe
  rw[<- rC.out,mR.out]
  simpa [Pl.jT,HKK.out] using hany
 case N=>
  intro v5 v14 v15 v16 v71 v72 v73 v74 v75 v76 v77 v78 v79 v80 v81 v82 v83 v84 v85 v86 v87 OZ v89 PD v91 PE v93 PG PH PI PK PL PM wJ wK u rW hany hs2 hby
  have HS2:Hid (aZ w0 u g rW (.slice a6 (Pl.aH xs k).length y6) (Pl.aL bI xs (k+1)) (Pl.aH xs k)):=by show aZ _ _ _ _ _ _ _;rw[vS.out,mR.out];exact hs2
  have vE:Hid (Pl.dQ xs k=false):=by
   show _=_
   rw[<- rC.out,mR.out]
   simpa [Pl.jT,HKK.out] using hany
  have HR2:Hid (u.heap[Y.heap.size]?=some (.cells #[.int .i64 1,.int .i64 x.op,.int .i64 x.rd,.int .i64 x.r1,.int .i64 x.r2,.int .i64 x.im,.string x.s,.int .i64 x.n] 51 (0,0))):=hby.block _ _ (by omega) HR1.out (fun c q=>by injection q with _ q2 _;exact absurd q2 (by decide))
  have l0:=aX.out _ HR2.out 0;have l6:=aX.out _ HR2.out 6
  simp only[List.getElem?_toArray,List.getElem?_cons_zero,List.getElem?_cons_succ]at l0 l6
  clear hany hs2 hby k0
  go_upto_region 25 with fail
  refine vD g Y.heap.size (Pl.aH xs k).length _ x 0 a6 y6 (iD w0 (Pl.aH xs k)) u HS2.out.c1 (by rw[HKK.out];exact aX.out _ HR2.out 0) (aX.out _ HR2.out 1) (aX.out _ HR2.out 2) (aX.out _ HR2.out 3) (aX.out _ HR2.out 4) (aX.out _ HR2.out 5) (aX.out _ HR2.out 6) (aX.out _ HR2.out 7) (fun _ _ _ _ h1 h2=>iD.old HS2.out h1 h2) (fun u3=>by have h5:=eO x 0 wI.out (by omega) u3;rw[HZ.out]at h5;exact h5) (fun u3 h3=>wF (HS2.out.keep h3) x.n) ?_
  intro a2 y2 u3 u4 h3 h4
  have vT:Hid (aZ w0 (u4.setCell ⟨g,1,none⟩ (.slice a2 (Pl.aH xs k).length y2)) g rW (.slice a2 (Pl.aH xs k).length y2) (Pl.aL bI xs (k+1)) (Pl.aH xs (k+1))):=by show aZ _ _ _ _ _ _ _;rw[wG.out];exact iD.fin HS2.out h3 h4
  clear h3 h4
  go_wp2_with fail
  have hfn:=vT.out
  exact wE.out _ _ _ _ _ _ _ _ _ _ _ _ _ _ _ _ _ _ _ _ _ _ _ _ _ _ _ _ _ _ _ _ _ _ _ _ _ _ _ _ _ _ _ _ _ _ _ _ _ _ _ _ _ _ _ _ _ _ _ _ _ _ _ _ _ _ _ _ _ _ _ _ _ _ _ _ _ _ _ _ _ _ _ _ _ _ _ _ _ _ _ _ _ _ _ _ _ _ _ _ _ _ _ _ _ _ _ _ _ _ _ _ _ _ _ _ _ _ _ _ _ _ _ _ _ _ _ _ _ _ _ vE.out hfn
set_option maxRecDepth 100000 in
theorem Mi:xE fun xs k=>(Pl.gl xs k).k=3:=by
 intro lo xs F R g k a len cap la ll lc aa ac vc vd _ _ _ _ _ _ _ _ _ _ _ _ _ _ _ _ _ _ _ _ _ _ _ _ _ _ _ _ _ _ _ _ _ _ _ _ _ _ _ _ _ _ _ _ _ _ _ _ _ _ _ _ _ _ _ _ _ _ _ _ _ _ _ _ _ _ _ _ _ _ _ _ _ _ _ _ _ _ _ _ _ _ _ _ _ _ _ _ _ _ _ _ _ _ _ _ _ _ _ _ _ _ _ _ _ _ _ _ _ _ _ _ _ _ _ _ _ _ _ _ _ _ _ _ _ _ _ _ _ _ _ _ _ _ _ _ _ _ _ _ w0 Y hE hF hK hS hL hk hn hR hq Q hN hX
 replace hq:(Pl.gl xs k).k=3:=hq
 have wE:Hid _:=hN
 have wW:Hid _:=hX
 have HE:Hid (pX lo xs Y F R a len cap la ll lc aa ac):=hE
 have hxl:xs.length=len:=hE.ln.len.1
 have lM:Hid (xs.length=len):=hxl
 have hK1:=hK k (by omega)
 have GG:Hid (nA (Pl.gl xs k)):=hK1
 obtain⟨a6,y6,hv6⟩:=aT hF.od
 subst hv6
 have HF:Hid (aZ w0 Y g vc (.slice a6 (Pl.aH xs k).length y6) (Pl.aL bI xs k) (Pl.aH xs k)):=hF
 have rC:Hid ((Pl.ins xs k).any (fun y=>!y.ok || (Pl.jT (Pl.gl xs k).k && Pl.rJ xs (Pl.gl xs k).s))=Pl.dQ xs k):=Pl.jQ xs k hK1.i
 have mR:Hid (Pl.ins xs k=Pl.bM (Pl.gl xs k) (Pl.cu xs k).at (Pl.gT xs (Pl.gl xs k).s)):=rfl
 have uS:=oI hK (by omega) (Pl.gl xs k).s
 have yS:=oJ hK (by omega) (k:=k) (by omega)
 have vS:Hid (Pl.aL bI xs (k+1)=Pl.aL bI xs k ++ (Pl.ins xs k).map bI):=Pl.dH _ _ _
 have uI:Hid (Pl.aH xs (k+1)=Pl.aH xs k ++ Pl.dat xs k):=Pl.dZ _ _
 have gM:=Pl.eB bI xs (fun i hi=>(hK i hi).b) hS k (by omega)
 have hcb:=Pl.jO xs (fun i hi=>(hK i hi).b) k (by omega)
 have hcl:(Pl.aL bI xs k).length<=100000:=by omega
 have hdl:(Pl.aH xs k).length<=1310720000:=by omega
 have HB0:Hid (((Pl.aH xs k).length:Int)=(Pl.cu xs k).b):=gM.2
 have hg0:=hF.hg
 have hgY:g<Y.heap.size:=hF.lt
 have hsn:¬ (Pl.gl xs k).s=⟨#[]⟩:=fun c=>hK1.sym (by omega) (by rw[c];rfl)
 have hlb:Pl.lb xs (Pl.gl xs k).s≠none:=fun c=>by
  have:=hL
  unfold Pl.lost at this
  rw[c]at this
  simp[hsn]at this
 obtain⟨p,bl,ol,hla,hp,GH,ca,cd,hbl⟩:=hE.sym hlb
 subst hla
 have HW:Hid (∀ u,Below Y.heap.size Y u->Calls Tryz.prog 26 #[.slice (some ⟨bl,ol,none⟩) ll lc,.string (Pl.gl xs k).s] u fun e w'=>e=.returned (.int .i64 (p:Nat))/\w'=u):=fun u hu=>by rw[<- GH];exact jV _ _ _ xs _ _ u (HE.out.keep hu).lb
 have GI:Hid (∀ u,Below Y.heap.size Y u->u.cell? ⟨bl,ol+p*4+2,none⟩=some (.int .i64 (Pl.gT xs (Pl.gl xs k).s))/\u.cell? ⟨bl,ol+p*4+3,none⟩=some (.bool (!Pl.rJ xs (Pl.gl xs k).s))):=fun u hu=>⟨aF hu ca,aF hu cd⟩
 have hpl:(p:Int)<(ll:Int):=by omega
 have hll:(ll:Int)<=20000:=by
  have h1:=hE.lb.1
  have h2:(Pl.cZ xs xs.length).length<=xs.length:=by unfold Pl.cZ;refine Nat.le_trans (List.length_filter_le _ _) (by simp)
  omega
 have se:(Pl.gl xs k).s.toList.isEmpty=false:=by rw[<- Pl.jU];simpa using hsn
 clear GH
 have wG:Hid (Pl.aH xs (k+1)=Pl.aH xs k):=by show _=_;rw[uI.out,Pl.pQ xs k (by omega),List.append_nil]
 have HZ:Hid (Pl.fK (Pl.gl xs k) 0=0):=Pl.nG _ _ (by omega)
 have HIS:Hid (∀ u,bV (Pl.gl xs k) (Pl.cu xs k).at (Pl.gT xs (Pl.gl xs k).s) u):=fun u=>gV _ _ _ u hK1.b.k (by omega) (by omega) hK1.i.w4 (fun q=>by have:=hK1.far (.inl q);omega)
 have hat:=hE.ats hk
 obtain⟨ba,oa,yT,TY,cat⟩:=hat
 subst yT
 obtain⟨b0,off,wH,hlo,hb1,hsz,z0,z1,z2,z3,z4,z5,z6,z7⟩:=hE.ln.at k hk
 subst wH
 have hi:(k:Int)<(len:Int):=by omega
 have wI:Hid (Pl.sG (Pl.gl xs k)):=hK1.b
 have hf0:=hE.f0
 have TZ:F<Y.heap.size:=block_lt_of_cell hf0
 clear hE hF hN hX hK hS hL hK1 gM hcb hsz
 conv=>arg 2;whnf
 dsimp only
 generalize hx:Pl.gl xs k=x at *
 have sU:Hid (Pl.gl xs k=x):=hx
 clear hx
 have hkk:x.k=3:=hq
 have HKK:Hid (x.k=3):=hkk
 rw[hkk]at z0
 clear hq hkk
 have Mg:=(GI.out (Y.alloc (.cells #[.int .i64 3,.int .i64 x.op,.int .i64 x.rd,.int .i64 x.r1,.int .i64 x.r2,.int .i64 x.im,.string x.s,.int .i64 x.n] 51)) (aB _ _)).1
 have Mh:=(GI.out (Y.alloc (.cells #[.int .i64 3,.int .i64 x.op,.int .i64 x.rd,.int .i64 x.r1,.int .i64 x.r2,.int .i64 x.im,.string x.s,.int .i64 x.n] 51)) (aB _ _)).2
 have UA:(Y.alloc (.cells #[.int .i64 3,.int .i64 x.op,.int .i64 x.rd,.int .i64 x.r1,.int .i64 x.r2,.int .i64 x.im,.string x.s,.int .i64 x.n] 51)).cell? ⟨F,0,none⟩=some (.slice (some ⟨bl,ol,none⟩) ll lc):=aF (aB _ _) hf0
 go_upto_region 12 with (go_at_call 26;refine (HW.out _ (aB _ _)).mono ?_;rintro e u9 ⟨rfl,rfl⟩)
 have hrow:(Y.alloc (.cells #[.int .i64 3,.int .i64 x.op,.int .i64 x.rd,.int .i64 x.r1,.int .i64 x.r2,.int .i64 x.im,.string x.s,.int .i64 x.n] 51)).heap[Y.heap.size]?=some (.cells #[.int .i64 3,.int .i64 x.op,.int .i64 x.rd,.int .i64 x.r1,.int .i64 x.r2,.int .i64 x.im,.string x.s,.int .i64 x.n] 51 (0,0)):=heap_alloc_new Y _
 have aX:Hid (∀ w1:World,w1.heap[Y.heap.size]?=some (.cells #[.int .i64 3,.int .i64 x.op,.int .i64 x.rd,.int .i64 x.r1,.int .i64 x.r2,.int .i64 x.im,.string x.s,.int .i64 x.n] 51 (0,0))->∀ j,w1.cell? ⟨Y.heap.size,j,none⟩=(#[.int .i64 3,.int .i64 x.op,.int .i64 x.rd,.int .i64 x.r1,.int .i64 x.r2,.int .i64 x.im,.string x.s,.int .i64 x.n]:Array Value)[j]?):=fun w1 hw1 j=>cell_of_row _ _ j _ 51 (0,0) hw1
 have HRW:Hid ((Y.alloc (.cells #[.int .i64 3,.int .i64 x.op,.int .i64 x.rd,.int .i64 x.r1,.int .i64 x.r2,.int .i64 x.im,.string x.s,.int .i64 x.n] 51)).heap[Y.heap.size]?=some (.cells #[.int .i64 3,.int .i64 x.op,.int .i64 x.rd,.int .i64 x.r1,.int .i64 x.r2,.int .i64 x.im,.string x.s,.int .i64 x.n] 51 (0,0))):=hrow
 refine rV F Y.heap.size k ba oa len ac x (Pl.cu xs k).at (Pl.gT xs x.s) (Y.alloc (.cells #[.int .i64 3,.int .i64 x.op,.int .i64 x.rd,.int .i64 x.r1,.int .i64 x.r2,.int .i64 x.im,.string x.s,.int .i64 x.n] 51)) (aF (aB _ _) HE.out.f1) hk hn (aF (aB _ _) cat) (by rw[HKK.out];exact aX.out _ HRW.out 0) (aX.out _ HRW.out 1) (aX.out _ HRW.out 2) (aX.out _ HRW.out 3) (aX.out _ HRW.out 4) (aX.out _ HRW.out 5) (aX.out _ HRW.out 6) (aX.out _ HRW.out 7) (HIS.out _) ?_
 intro ai ni ci w1 hI hw1
 have HI:Hid (aY (Y.alloc (.cells #[.int .i64 3,.int .i64 x.op,.int .i64 x.rd,.int .i64 x.r1,.int .i64 x.r2,.int .i64 x.im,.string x.s,.int .i64 x.n] 51)).heap.size w1 ai ni (Pl.bM x (Pl.cu xs k).at (Pl.gT xs x.s))):=hI
 have HW1:Hid (Below (Y.alloc (.cells #[.int .i64 3,.int .i64 x.op,.int .i64 x.rd,.int .i64 x.r1,.int .i64 x.r2,.int .i64 x.im,.string x.s,.int .i64 x.n] 51)).heap.size (Y.alloc (.cells #[.int .i64 3,.int .i64 x.op,.int .i64 x.rd,.int .i64 x.r1,.int .i64 x.r2,.int .i64 x.im,.string x.s,.int .i64 x.n] 51)) w1):=hw1
 have HR1:Hid (w1.heap[Y.heap.size]?=some (.cells #[.int .i64 3,.int .i64 x.op,.int .i64 x.rd,.int .i64 x.r1,.int .i64 x.r2,.int .i64 x.im,.string x.s,.int .i64 x.n] 51 (0,0))):=(hw1.block Y.heap.size (by simp)).trans hrow
 have tV:Hid (aZ w0 w1 g vc (.slice a6 (Pl.aH xs k).length y6) (Pl.aL bI xs k) (Pl.aH xs k)):=(HF.out.keep (aB _ _)).keep hw1
 have k0:=aX.out _ HR1.out 0
 simp only[List.getElem?_toArray,List.getElem?_cons_zero]at k0
 clear hI hw1 hrow
 go_upto_block 2 with fail
 refine kG k g R true (!Pl.rJ xs x.s) (Pl.bM x (Pl.cu xs k).at (Pl.gT xs x.s)) ai ni ci vc _ (Pl.aL bI xs k) (Pl.aH xs k) w0 w1 tV.out HI.out ((HE.out.keep (Below.trans (aB Y _) (HW1.out.mono (by simp)))).r) hR (by simp;omega) hcl ?N ?X
 case X=>
  intros
  rename_i hany hrw hbe
  refine wW.out _ _ _ _ _ _ _ _ _ _ _ _ _ _ _ _ _ _ _ _ _ _ _ _ _ _ _ _ _ _ _ _ _ _ _ _ _ _ _ _ _ _ _ _ _ _ _ _ _ _ _ _ _ _ _ _ _ _ _ _ _ _ _ _ _ _ _ _ _ _ _ _ _ _ _ _ _ _ _ _ _ _ _ _ _ _ _ _ _ _ _ _ _ _ _ _ _ _ _ _ _ _ _ _ _ _ _ _ _ _ _ _ _ _ _ _ _ _ _ _ _ _ _ _ _ _ _ _ _ _ _ _ _ _ ?_ hrw hbe
  rw[<- rC.out,mR.out]
  simpa [Pl.jT,HKK.out] using hany
 case N=>
  intro v5 v14 v15 v16 v71 v72 v73 v74 v75 v76 v77 v78 v79 v80 v81 v82 v83 v84 v85 v86 v87 OZ v89 PD v91 PE v93 PG PH PI PK PL PM wJ wK u rW hany hs2 hby
  have HS2:Hid (aZ w0 u g rW (.slice a6 (Pl.aH xs k).length y6) (Pl.aL bI xs (k+1)) (Pl.aH xs k)):=by show aZ _ _ _ _ _ _ _;rw[vS.out,mR.out];exact hs2
  have vE:Hid (Pl.dQ xs k=false):=by
   show _=_
   rw[<- rC.out,mR.out]
   simpa [Pl.jT,HKK.out] using hany
  have HR2:Hid (u.heap[Y.heap.size]?=some (.cells #[.int .i64 3,.int .i64 x.op,.int .i64 x.rd,.int .i64 x.r1,.int .i64 x.r2,.int .i64 x.im,.string x.s,.int .i64 x.n] 51 (0,0))):=hby.block _ _ (by omega) HR1.out (fun c q=>by injection q with _ q2 _;exact absurd q2 (by decide))
  have l0:=aX.out _ HR2.out 0;have l6:=aX.out _ HR2.out 6
  simp only[List.getElem?_toArray,List.getElem?_cons_zero,List.getElem?_cons_succ]at l0 l6
  clear hany hs2 hby k0
  go_upto_region 25 with fail
  refine vD g Y.heap.size (Pl.aH xs k).length _ x 0 a6 y6 (iD w0 (Pl.aH xs k)) u HS2.out.c1 (by rw[HKK.out];exact aX.out _ HR2.out 0) (aX.out _ HR2.out 1) (aX.out _ HR2.out 2) (aX.out _ HR2.out 3) (aX.out _ HR2.out 4) (aX.out _ HR2.out 5) (aX.out _ HR2.out 6) (aX.out _ HR2.out 7) (fun _ _ _ _ h1 h2=>iD.old HS2.out h1 h2) (fun u3=>by have h5:=eO x 0 wI.out (by omega) u3;rw[HZ.out]at h5;exact h5) (fun u3 h3=>wF (HS2.out.keep h3) x.n) ?_
  intro a2 y2 u3 u4 h3 h4
  have vT:Hid (aZ w0 (u4.setCell ⟨g,1,none⟩ (.slice a2 (Pl.aH xs k).length y2)) g rW (.slice a2 (Pl.aH xs k).length y2) (Pl.aL bI xs (k+1)) (Pl.aH xs (k+1))):=by show aZ _ _ _ _ _ _ _;rw[wG.out];exact iD.fin HS2.out h3 h4
  clear h3 h4
  go_wp2_with fail
  have hfn:=vT.out
  exact wE.out _ _ _ _ _ _ _ _ _ _ _ _ _ _ _ _ _ _ _ _ _ _ _ _ _ _ _ _ _ _ _ _ _ _ _ _ _ _ _ _ _ _ _ _ _ _ _ _ _ _ _ _ _ _ _ _ _ _ _ _ _ _ _ _ _ _ _ _ _ _ _ _ _ _ _ _ _ _ _ _ _ _ _ _ _ _ _ _ _ _ _ _ _ _ _ _ _ _ _ _ _ _ _ _ _ _ _ _ _ _ _ _ _ _ _ _ _ _ _ _ _ _ _ _ _ _ _ _ _ _ _ vE.out hfn
set_option maxRecDepth 100000 in
theorem Mj:xE fun xs k=>(Pl.gl xs k).k=5:=by
 intro lo xs F R g k a len cap la ll lc aa ac vc vd _ _ _ _ _ _ _ _ _ _ _ _ _ _ _ _ _ _ _ _ _ _ _ _ _ _ _ _ _ _ _ _ _ _ _ _ _ _ _ _ _ _ _ _ _ _ _ _ _ _ _ _ _ _ _ _ _ _ _ _ _ _ _ _ _ _ _ _ _ _ _ _ _ _ _ _ _ _ _ _ _ _ _ _ _ _ _ _ _ _ _ _ _ _ _ _ _ _ _ _ _ _ _ _ _ _ _ _ _ _ _ _ _ _ _ _ _ _ _ _ _ _ _ _ _ _ _ _ _ _ _ _ _ _ _ _ _ _ _ _ w0 Y hE hF hK hS hL hk hn hR hq Q hN hX
 replace hq:(Pl.gl xs k).k=5:=hq
 have wE:Hid _:=hN
 have wW:Hid _:=hX
 have HE:Hid (pX lo xs Y F R a len cap la ll lc aa ac):=hE
 have hxl:xs.length=len:=hE.ln.len.1
 have lM:Hid (xs.length=len):=hxl
 have hK1:=hK k (by omega)
 have GG:Hid (nA (Pl.gl xs k)):=hK1
 obtain⟨a6,y6,hv6⟩:=aT hF.od
 subst hv6
 have HF:Hid (aZ w0 Y g vc (.slice a6 (Pl.aH xs k).length y6) (Pl.aL bI xs k) (Pl.aH xs k)):=hF
 have rC:Hid ((Pl.ins xs k).any (fun y=>!y.ok || (Pl.jT (Pl.gl xs k).k && Pl.rJ xs (Pl.gl xs k).s))=Pl.dQ xs k):=Pl.jQ xs k hK1.i
 have mR:Hid (Pl.ins xs k=Pl.bM (Pl.gl xs k) (Pl.cu xs k).at (Pl.gT xs (Pl.gl xs k).s)):=rfl
 have uS:=oI hK (by omega) (Pl.gl xs k).s
 have yS:=oJ hK (by omega) (k:=k) (by omega)
 have vS:Hid (Pl.aL bI xs (k+1)=Pl.aL bI xs k ++ (Pl.ins xs k).map bI):=Pl.dH _ _ _
 have uI:Hid (Pl.aH xs (k+1)=Pl.aH xs k ++ Pl.dat xs k):=Pl.dZ _ _
 have gM:=Pl.eB bI xs (fun i hi=>(hK i hi).b) hS k (by omega)
 have hcb:=Pl.jO xs (fun i hi=>(hK i hi).b) k (by omega)
 have hcl:(Pl.aL bI xs k).length<=100000:=by omega
 have hdl:(Pl.aH xs k).length<=1310720000:=by omega
 have HB0:Hid (((Pl.aH xs k).length:Int)=(Pl.cu xs k).b):=gM.2
 have hg0:=hF.hg
 have hgY:g<Y.heap.size:=hF.lt
 have hsn:¬ (Pl.gl xs k).s=⟨#[]⟩:=fun c=>hK1.sym (by omega) (by rw[c];rfl)
 have hlb:Pl.lb xs (Pl.gl xs k).s≠none:=fun c=>by
  have:=hL
  unfold Pl.lost at this
  rw[c]at this
  simp[hsn]at this
 obtain⟨p,bl,ol,hla,hp,GH,ca,cd,hbl⟩:=hE.sym hlb
 subst hla
 have HW:Hid (∀ u,Below Y.heap.size Y u->Calls Tryz.prog 26 #[.slice (some ⟨bl,ol,none⟩) ll lc,.string (Pl.gl xs k).s] u fun e w'=>e=.returned (.int .i64 (p:Nat))/\w'=u):=fun u hu=>by rw[<- GH];exact jV _ _ _ xs _ _ u (HE.out.keep hu).lb
 have GI:Hid (∀ u,Below Y.heap.size Y u->u.cell? ⟨bl,ol+p*4+2,none⟩=some (.int .i64 (Pl.gT xs (Pl.gl xs k).s))/\u.cell? ⟨bl,ol+p*4+3,none⟩=some (.bool (!Pl.rJ xs (Pl.gl xs k).s))):=fun u hu=>⟨aF hu ca,aF hu cd⟩
 have hpl:(p:Int)<(ll:Int):=by omega
 have hll:(ll:Int)<=20000:=by
  have h1:=hE.lb.1
  have h2:(Pl.cZ xs xs.length).length<=xs.length:=by unfold Pl.cZ;refine Nat.le_trans (List.length_filter_le _ _) (by simp)
  omega
 have se:(Pl.gl xs k).s.toList.isEmpty=false:=by rw[<- Pl.jU];simpa using hsn
 clear GH
 have wG:Hid (Pl.aH xs (k+1)=Pl.aH xs k):=by show _=_;rw[uI.out,Pl.pQ xs k (by omega),List.append_nil]
 have HZ:Hid (Pl.fK (Pl.gl xs k) 0=0):=Pl.nG _ _ (by omega)
 have HIS:Hid (∀ u,bV (Pl.gl xs k) (Pl.cu xs k).at (Pl.gT xs (Pl.gl xs k).s) u):=fun u=>gV _ _ _ u hK1.b.k (by omega) (by omega) hK1.i.w4 (fun q=>by have:=hK1.far (.inl q);omega)
 have hat:=hE.ats hk
 obtain⟨ba,oa,yT,TY,cat⟩:=hat
 subst yT
 obtain⟨b0,off,wH,hlo,hb1,hsz,z0,z1,z2,z3,z4,z5,z6,z7⟩:=hE.ln.at k hk
 subst wH
 have hi:(k:Int)<(len:Int):=by omega
 have wI:Hid (Pl.sG (Pl.gl xs k)):=hK1.b
 have hf0:=hE.f0
 have TZ:F<Y.heap.size:=block_lt_of_cell hf0
 clear hE hF hN hX hK hS hL hK1 gM hcb hsz
 conv=>arg 2;whnf
 dsimp only
 generalize hx:Pl.gl xs k=x at *
 have sU:Hid (Pl.gl xs k=x):=hx
 clear hx
 have hkk:x.k=5:=hq
 have HKK:Hid (x.k=5):=hkk
 rw[hkk]at z0
 clear hq hkk
 have Mg:=(GI.out (Y.alloc (.cells #[.int .i64 5,.int .i64 x.op,.int .i64 x.rd,.int .i64 x.r1,.int .i64 x.r2,.int .i64 x.im,.string x.s,.int .i64 x.n] 51)) (aB _ _)).1
 have Mh:=(GI.out (Y.alloc (.cells #[.int .i64 5,.int .i64 x.op,.int .i64 x.rd,.int .i64 x.r1,.int .i64 x.r2,.int .i64 x.im,.string x.s,.int .i64 x.n] 51)) (aB _ _)).2
 have UA:(Y.alloc (.cells #[.int .i64 5,.int .i64 x.op,.int .i64 x.rd,.int .i64 x.r1,.int .i64 x.r2,.int .i64 x.im,.string x.s,.int .i64 x.n] 51)).cell? ⟨F,0,none⟩=some (.slice (some ⟨bl,ol,none⟩) ll lc):=aF (aB _ _) hf0
 go_upto_region 12 with (go_at_call 26;refine (HW.out _ (aB _ _)).mono ?_;rintro e u9 ⟨rfl,rfl⟩)
 have hrow:(Y.alloc (.cells #[.int .i64 5,.int .i64 x.op,.int .i64 x.rd,.int .i64 x.r1,.int .i64 x.r2,.int .i64 x.im,.string x.s,.int .i64 x.n] 51)).heap[Y.heap.size]?=some (.cells #[.int .i64 5,.int .i64 x.op,.int .i64 x.rd,.int .i64 x.r1,.int .i64 x.r2,.int .i64 x.im,.string x.s,.int .i64 x.n] 51 (0,0)):=heap_alloc_new Y _
 have aX:Hid (∀ w1:World,w1.heap[Y.heap.size]?=some (.cells #[.int .i64 5,.int .i64 x.op,.int .i64 x.rd,.int .i64 x.r1,.int .i64 x.r2,.int .i64 x.im,.string x.s,.int .i64 x.n] 51 (0,0))->∀ j,w1.cell? ⟨Y.heap.size,j,none⟩=(#[.int .i64 5,.int .i64 x.op,.int .i64 x.rd,.int .i64 x.r1,.int .i64 x.r2,.int .i64 x.im,.string x.s,.int .i64 x.n]:Array Value)[j]?):=fun w1 hw1 j=>cell_of_row _ _ j _ 51 (0,0) hw1
 have HRW:Hid ((Y.alloc (.cells #[.int .i64 5,.int .i64 x.op,.int .i64 x.rd,.int .i64 x.r1,.int .i64 x.r2,.int .i64 x.im,.string x.s,.int .i64 x.n] 51)).heap[Y.heap.size]?=some (.cells #[.int .i64 5,.int .i64 x.op,.int .i64 x.rd,.int .i64 x.r1,.int .i64 x.r2,.int .i64 x.im,.string x.s,.int .i64 x.n] 51 (0,0))):=hrow
 refine rV F Y.heap.size k ba oa len ac x (Pl.cu xs k).at (Pl.gT xs x.s) (Y.alloc (.cells #[.int .i64 5,.int .i64 x.op,.int .i64 x.rd,.int .i64 x.r1,.int .i64 x.r2,.int .i64 x.im,.string x.s,.int .i64 x.n] 51)) (aF (aB _ _) HE.out.f1) hk hn (aF (aB _ _) cat) (by rw[HKK.out];exact aX.out _ HRW.out 0) (aX.out _ HRW.out 1) (aX.out _ HRW.out 2) (aX.out _ HRW.out 3) (aX.out _ HRW.out 4) (aX.out _ HRW.out 5) (aX.out _ HRW.out 6) (aX.out _ HRW.out 7) (HIS.out _) ?_
 intro ai ni ci w1 hI hw1
 have HI:Hid (aY (Y.alloc (.cells #[.int .i64 5,.int .i64 x.op,.int .i64 x.rd,.int .i64 x.r1,.int .i64 x.r2,.int .i64 x.im,.string x.s,.int .i64 x.n] 51)).heap.size w1 ai ni (Pl.bM x (Pl.cu xs k).at (Pl.gT xs x.s))):=hI
 have HW1:Hid (Below (Y.alloc (.cells #[.int .i64 5,.int .i64 x.op,.int .i64 x.rd,.int .i64 x.r1,.int .i64 x.r2,.int .i64 x.im,.string x.s,.int .i64 x.n] 51)).heap.size (Y.alloc (.cells #[.int .i64 5,.int .i64 x.op,.int .i64 x.rd,.int .i64 x.r1,.int .i64 x.r2,.int .i64 x.im,.string x.s,.int .i64 x.n] 51)) w1):=hw1
 have HR1:Hid (w1.heap[Y.heap.size]?=some (.cells #[.int .i64 5,.int .i64 x.op,.int .i64 x.rd,.int .i64 x.r1,.int .i64 x.r2,.int .i64 x.im,.string x.s,.int .i64 x.n] 51 (0,0))):=(hw1.block Y.heap.size (by simp)).trans hrow
 have tV:Hid (aZ w0 w1 g vc (.slice a6 (Pl.aH xs k).length y6) (Pl.aL bI xs k) (Pl.aH xs k)):=(HF.out.keep (aB _ _)).keep hw1
 have k0:=aX.out _ HR1.out 0
 simp only[List.getElem?_toArray,List.getElem?_cons_zero]at k0
 clear hI hw1 hrow
 go_upto_block 2 with fail
 refine kG k g R false (!Pl.rJ xs x.s) (Pl.bM x (Pl.cu xs k).at (Pl.gT xs x.s)) ai ni ci vc _ (Pl.aL bI xs k) (Pl.aH xs k) w0 w1 tV.out HI.out ((HE.out.keep (Below.trans (aB Y _) (HW1.out.mono (by simp)))).r) hR (by simp;omega) hcl ?N ?X
 case X=>
  intros
  rename_i hany hrw hbe
  refine wW.out _ _ _ _ _ _ _ _ _ _ _ _ _ _ _ _ _ _ _ _ _ _ _ _ _ _ _ _ _ _ _ _ _ _ _ _ _ _ _ _ _ _ _ _ _ _ _ _ _ _ _ _ _ _ _ _ _ _ _ _ _ _ _ _ _ _ _ _ _ _ _ _ _ _ _ _ _ _ _ _ _ _ _ _ _ _ _ _ _ _ _ _ _ _ _ _ _ _ _ _ _ _ _ _ _ _ _ _ _ _ _ _ _ _ _ _ _ _ _ _ _ _ _ _ _ _ _ _ _ _ _ _ _ _ ?_ hrw hbe
  rw[<- rC.out,mR.out]
  simpa [Pl.jT,HKK.out] using hany
 case N=>
  intro v5 v14 v15 v16 v71 v72 v73 v74 v75 v76 v77 v78 v79 v80 v81 v82 v83 v84 v85 v86 v87 OZ v89 PD v91 PE v93 PG PH PI PK PL PM wJ wK u rW hany hs2 hby
  have HS2:Hid (aZ w0 u g rW (.slice a6 (Pl.aH xs k).length y6) (Pl.aL bI xs (k+1)) (Pl.aH xs k)):=by show aZ _ _ _ _ _ _ _;rw[vS.out,mR.out];exact hs2
  have vE:Hid (Pl.dQ xs k=false):=by
   show _=_
   rw[<- rC.out,mR.out]
   simpa [Pl.jT,HKK.out] using hany
  have HR2:Hid (u.heap[Y.heap.size]?=some (.cells #[.int .i64 5,.int .i64 x.op,.int .i64 x.rd,.int .i64 x.r1,.int .i64 x.r2,.int .i64 x.im,.string x.s,.int .i64 x.n] 51 (0,0))):=hby.block _ _ (by omega) HR1.out (fun c q=>by injection q with _ q2 _;exact absurd q2 (by decide))
  have l0:=aX.out _ HR2.out 0;have l6:=aX.out _ HR2.out 6
  simp only[List.getElem?_toArray,List.getElem?_cons_zero,List.getElem?_cons_succ]at l0 l6
  clear hany hs2 hby k0
  go_upto_region 25 with fail
  refine vD g Y.heap.size (Pl.aH xs k).length _ x 0 a6 y6 (iD w0 (Pl.aH xs k)) u HS2.out.c1 (by rw[HKK.out];exact aX.out _ HR2.out 0) (aX.out _ HR2.out 1) (aX.out _ HR2.out 2) (aX.out _ HR2.out 3) (aX.out _ HR2.out 4) (aX.out _ HR2.out 5) (aX.out _ HR2.out 6) (aX.out _ HR2.out 7) (fun _ _ _ _ h1 h2=>iD.old HS2.out h1 h2) (fun u3=>by have h5:=eO x 0 wI.out (by omega) u3;rw[HZ.out]at h5;exact h5) (fun u3 h3=>wF (HS2.out.keep h3) x.n) ?_
  intro a2 y2 u3 u4 h3 h4
  have vT:Hid (aZ w0 (u4.setCell ⟨g,1,none⟩ (.slice a2 (Pl.aH xs k).length y2)) g rW (.slice a2 (Pl.aH xs k).length y2) (Pl.aL bI xs (k+1)) (Pl.aH xs (k+1))):=by show aZ _ _ _ _ _ _ _;rw[wG.out];exact iD.fin HS2.out h3 h4
  clear h3 h4
  go_wp2_with fail
  have hfn:=vT.out
  exact wE.out _ _ _ _ _ _ _ _ _ _ _ _ _ _ _ _ _ _ _ _ _ _ _ _ _ _ _ _ _ _ _ _ _ _ _ _ _ _ _ _ _ _ _ _ _ _ _ _ _ _ _ _ _ _ _ _ _ _ _ _ _ _ _ _ _ _ _ _ _ _ _ _ _ _ _ _ _ _ _ _ _ _ _ _ _ _ _ _ _ _ _ _ _ _ _ _ _ _ _ _ _ _ _ _ _ _ _ _ _ _ _ _ _ _ _ _ _ _ _ _ _ _ _ _ _ _ _ _ _ _ _ vE.out hfn
set_option maxRecDepth 100000 in
theorem Mk:xE fun xs k=>(Pl.gl xs k).k=7:=by
 intro lo xs F R g k a len cap la ll lc aa ac vc vd _ _ _ _ _ _ _ _ _ _ _ _ _ _ _ _ _ _ _ _ _ _ _ _ _ _ _ _ _ _ _ _ _ _ _ _ _ _ _ _ _ _ _ _ _ _ _ _ _ _ _ _ _ _ _ _ _ _ _ _ _ _ _ _ _ _ _ _ _ _ _ _ _ _ _ _ _ _ _ _ _ _ _ _ _ _ _ _ _ _ _ _ _ _ _ _ _ _ _ _ _ _ _ _ _ _ _ _ _ _ _ _ _ _ _ _ _ _ _ _ _ _ _ _ _ _ _ _ _ _ _ _ _ _ _ _ _ _ _ _ w0 Y hE hF hK hS hL hk hn hR hq Q hN hX
 replace hq:(Pl.gl xs k).k=7:=hq
 have wE:Hid _:=hN
 have wW:Hid _:=hX
 have HE:Hid (pX lo xs Y F R a len cap la ll lc aa ac):=hE
 have hxl:xs.length=len:=hE.ln.len.1
 have lM:Hid (xs.length=len):=hxl
 have hK1:=hK k (by omega)
 have GG:Hid (nA (Pl.gl xs k)):=hK1
 obtain⟨a6,y6,hv6⟩:=aT hF.od
 subst hv6
 have HF:Hid (aZ w0 Y g vc (.slice a6 (Pl.aH xs k).length y6) (Pl.aL bI xs k) (Pl.aH xs k)):=hF
 have rC:Hid ((Pl.ins xs k).any (fun y=>!y.ok || (Pl.jT (Pl.gl xs k).k && Pl.rJ xs (Pl.gl xs k).s))=Pl.dQ xs k):=Pl.jQ xs k hK1.i
 have mR:Hid (Pl.ins xs k=Pl.bM (Pl.gl xs k) (Pl.cu xs k).at (Pl.gT xs (Pl.gl xs k).s)):=rfl
 have uS:=oI hK (by omega) (Pl.gl xs k).s
 have yS:=oJ hK (by omega) (k:=k) (by omega)
 have vS:Hid (Pl.aL bI xs (k+1)=Pl.aL bI xs k ++ (Pl.ins xs k).map bI):=Pl.dH _ _ _
 have uI:Hid (Pl.aH xs (k+1)=Pl.aH xs k ++ Pl.dat xs k):=Pl.dZ _ _
 have gM:=Pl.eB bI xs (fun i hi=>(hK i hi).b) hS k (by omega)
 have hcb:=Pl.jO xs (fun i hi=>(hK i hi).b) k (by omega)
 have hcl:(Pl.aL bI xs k).length<=100000:=by omega
 have hdl:(Pl.aH xs k).length<=1310720000:=by omega
 have HB0:Hid (((Pl.aH xs k).length:Int)=(Pl.cu xs k).b):=gM.2
 have hg0:=hF.hg
 have hgY:g<Y.heap.size:=hF.lt
 have hsn:¬ (Pl.gl xs k).s=⟨#[]⟩:=fun c=>hK1.sym (by omega) (by rw[c];rfl)
 have hlb:Pl.lb xs (Pl.gl xs k).s≠none:=fun c=>by
  have:=hL
  unfold Pl.lost at this
  rw[c]at this
  simp[hsn]at this
 obtain⟨p,bl,ol,hla,hp,GH,ca,cd,hbl⟩:=hE.sym hlb
 subst hla
 have HW:Hid (∀ u,Below Y.heap.size Y u->Calls Tryz.prog 26 #[.slice (some ⟨bl,ol,none⟩) ll lc,.string (Pl.gl xs k).s] u fun e w'=>e=.returned (.int .i64 (p:Nat))/\w'=u):=fun u hu=>by rw[<- GH];exact jV _ _ _ xs _ _ u (HE.out.keep hu).lb
 have GI:Hid (∀ u,Below Y.heap.size Y u->u.cell? ⟨bl,ol+p*4+2,none⟩=some (.int .i64 (Pl.gT xs (Pl.gl xs k).s))/\u.cell? ⟨bl,ol+p*4+3,none⟩=some (.bool (!Pl.rJ xs (Pl.gl xs k).s))):=fun u hu=>⟨aF hu ca,aF hu cd⟩
 have hpl:(p:Int)<(ll:Int):=by omega
 have hll:(ll:Int)<=20000:=by
  have h1:=hE.lb.1
  have h2:(Pl.cZ xs xs.length).length<=xs.length:=by unfold Pl.cZ;refine Nat.le_trans (List.length_filter_le _ _) (by simp)
  omega
 have se:(Pl.gl xs k).s.toList.isEmpty=false:=by rw[<- Pl.jU];simpa using hsn
 clear GH
 have wG:Hid (Pl.aH xs (k+1)=Pl.aH xs k):=by show _=_;rw[uI.out,Pl.pQ xs k (by omega),List.append_nil]
 have HZ:Hid (Pl.fK (Pl.gl xs k) 0=0):=Pl.nG _ _ (by omega)
 have HIS:Hid (∀ u,bV (Pl.gl xs k) (Pl.cu xs k).at (Pl.gT xs (Pl.gl xs k).s) u):=fun u=>gV _ _ _ u hK1.b.k (by omega) (by omega) hK1.i.w4 (fun q=>by have:=hK1.far (.inl q);omega)
 have hat:=hE.ats hk
 obtain⟨ba,oa,yT,TY,cat⟩:=hat
 subst yT
 obtain⟨b0,off,wH,hlo,hb1,hsz,z0,z1,z2,z3,z4,z5,z6,z7⟩:=hE.ln.at k hk
 subst wH
 have hi:(k:Int)<(len:Int):=by omega
 have wI:Hid (Pl.sG (Pl.gl xs k)):=hK1.b
 have hf0:=hE.f0
 have TZ:F<Y.heap.size:=block_lt_of_cell hf0
 clear hE hF hN hX hK hS hL hK1 gM hcb hsz
 conv=>arg 2;whnf
 dsimp only
 generalize hx:Pl.gl xs k=x at *
 have sU:Hid (Pl.gl xs k=x):=hx
 clear hx
 have hkk:x.k=7:=hq
 have HKK:Hid (x.k=7):=hkk
 rw[hkk]at z0
 clear hq hkk
 have Mg:=(GI.out (Y.alloc (.cells #[.int .i64 7,.int .i64 x.op,.int .i64 x.rd,.int .i64 x.r1,.int .i64 x.r2,.int .i64 x.im,.string x.s,.int .i64 x.n] 51)) (aB _ _)).1
 have Mh:=(GI.out (Y.alloc (.cells #[.int .i64 7,.int .i64 x.op,.int .i64 x.rd,.int .i64 x.r1,.int .i64 x.r2,.int .i64 x.im,.string x.s,.int .i64 x.n] 51)) (aB _ _)).2
 have UA:(Y.alloc (.cells #[.int .i64 7,.int .i64 x.op,.int .i64 x.rd,.int .i64 x.r1,.int .i64 x.r2,.int .i64 x.im,.string x.s,.int .i64 x.n] 51)).cell? ⟨F,0,none⟩=some (.slice (some ⟨bl,ol,none⟩) ll lc):=aF (aB _ _) hf0
 go_upto_region 12 with (go_at_call 26;refine (HW.out _ (aB _ _)).mono ?_;rintro e u9 ⟨rfl,rfl⟩)
 have hrow:(Y.alloc (.cells #[.int .i64 7,.int .i64 x.op,.int .i64 x.rd,.int .i64 x.r1,.int .i64 x.r2,.int .i64 x.im,.string x.s,.int .i64 x.n] 51)).heap[Y.heap.size]?=some (.cells #[.int .i64 7,.int .i64 x.op,.int .i64 x.rd,.int .i64 x.r1,.int .i64 x.r2,.int .i64 x.im,.string x.s,.int .i64 x.n] 51 (0,0)):=heap_alloc_new Y _
 have aX:Hid (∀ w1:World,w1.heap[Y.heap.size]?=some (.cells #[.int .i64 7,.int .i64 x.op,.int .i64 x.rd,.int .i64 x.r1,.int .i64 x.r2,.int .i64 x.im,.string x.s,.int .i64 x.n] 51 (0,0))->∀ j,w1.cell? ⟨Y.heap.size,j,none⟩=(#[.int .i64 7,.int .i64 x.op,.int .i64 x.rd,.int .i64 x.r1,.int .i64 x.r2,.int .i64 x.im,.string x.s,.int .i64 x.n]:Array Value)[j]?):=fun w1 hw1 j=>cell_of_row _ _ j _ 51 (0,0) hw1
 have HRW:Hid ((Y.alloc (.cells #[.int .i64 7,.int .i64 x.op,.int .i64 x.rd,.int .i64 x.r1,.int .i64 x.r2,.int .i64 x.im,.string x.s,.int .i64 x.n] 51)).heap[Y.heap.size]?=some (.cells #[.int .i64 7,.int .i64 x.op,.int .i64 x.rd,.int .i64 x.r1,.int .i64 x.r2,.int .i64 x.im,.string x.s,.int .i64 x.n] 51 (0,0))):=hrow
 refine rV F Y.heap.size k ba oa len ac x (Pl.cu xs k).at (Pl.gT xs x.s) (Y.alloc (.cells #[.int .i64 7,.int .i64 x.op,.int .i64 x.rd,.int .i64 x.r1,.int .i64 x.r2,.int .i64 x.im,.string x.s,.int .i64 x.n] 51)) (aF (aB _ _) HE.out.f1) hk hn (aF (aB _ _) cat) (by rw[HKK.out];exact aX.out _ HRW.out 0) (aX.out _ HRW.out 1) (aX.out _ HRW.out 2) (aX.out _ HRW.out 3) (aX.out _ HRW.out 4) (aX.out _ HRW.out 5) (aX.out _ HRW.out 6) (aX.out _ HRW.out 7) (HIS.out _) ?_
 intro ai ni ci w1 hI hw1
 have HI:Hid (aY (Y.alloc (.cells #[.int .i64 7,.int .i64 x.op,.int .i64 x.rd,.int .i64 x.r1,.int .i64 x.r2,.int .i64 x.im,.string x.s,.int .i64 x.n] 51)).heap.size w1 ai ni (Pl.bM x (Pl.cu xs k).at (Pl.gT xs x.s))):=hI
 have HW1:Hid (Below (Y.alloc (.cells #[.int .i64 7,.int .i64 x.op,.int .i64 x.rd,.int .i64 x.r1,.int .i64 x.r2,.int .i64 x.im,.string x.s,.int .i64 x.n] 51)).heap.size (Y.alloc (.cells #[.int .i64 7,.int .i64 x.op,.int .i64 x.rd,.int .i64 x.r1,.int .i64 x.r2,.int .i64 x.im,.string x.s,.int .i64 x.n] 51)) w1):=hw1
 have HR1:Hid (w1.heap[Y.heap.size]?=some (.cells #[.int .i64 7,.int .i64 x.op,.int .i64 x.rd,.int .i64 x.r1,.int .i64 x.r2,.int .i64 x.im,.string x.s,.int .i64 x.n] 51 (0,0))):=(hw1.block Y.heap.size (by simp)).trans hrow
 have tV:Hid (aZ w0 w1 g vc (.slice a6 (Pl.aH xs k).length y6) (Pl.aL bI xs k) (Pl.aH xs k)):=(HF.out.keep (aB _ _)).keep hw1
 have k0:=aX.out _ HR1.out 0
 simp only[List.getElem?_toArray,List.getElem?_cons_zero]at k0
 clear hI hw1 hrow
 go_upto_block 2 with fail
 refine kG k g R true (!Pl.rJ xs x.s) (Pl.bM x (Pl.cu xs k).at (Pl.gT xs x.s)) ai ni ci vc _ (Pl.aL bI xs k) (Pl.aH xs k) w0 w1 tV.out HI.out ((HE.out.keep (Below.trans (aB Y _) (HW1.out.mono (by simp)))).r) hR (by simp;omega) hcl ?N ?X
 case X=>
  intros
  rename_i hany hrw hbe
  refine wW.out _ _ _ _ _ _ _ _ _ _ _ _ _ _ _ _ _ _ _ _ _ _ _ _ _ _ _ _ _ _ _ _ _ _ _ _ _ _ _ _ _ _ _ _ _ _ _ _ _ _ _ _ _ _ _ _ _ _ _ _ _ _ _ _ _ _ _ _ _ _ _ _ _ _ _ _ _ _ _ _ _ _ _ _ _ _ _ _ _ _ _ _ _ _ _ _ _ _ _ _ _ _ _ _ _ _ _ _ _ _ _ _ _ _ _ _ _ _ _ _ _ _ _ _ _ _ _ _ _ _ _ _ _ _ ?_ hrw hbe
  rw[<- rC.out,mR.out]
  simpa [Pl.jT,HKK.out] using hany
 case N=>
  intro v5 v14 v15 v16 v71 v72 v73 v74 v75 v76 v77 v78 v79 v80 v81 v82 v83 v84 v85 v86 v87 OZ v89 PD v91 PE v93 PG PH PI PK PL PM wJ wK u rW hany hs2 hby
  have HS2:Hid (aZ w0 u g rW (.slice a6 (Pl.aH xs k).length y6) (Pl.aL bI xs (k+1)) (Pl.aH xs k)):=by show aZ _ _ _ _ _ _ _;rw[vS.out,mR.out];exact hs2
  have vE:Hid (Pl.dQ xs k=false):=by
   show _=_
   rw[<- rC.out,mR.out]
   simpa [Pl.jT,HKK.out] using hany
  have HR2:Hid (u.heap[Y.heap.size]?=some (.cells #[.int .i64 7,.int .i64 x.op,.int .i64 x.rd,.int .i64 x.r1,.int .i64 x.r2,.int .i64 x.im,.string x.s,.int .i64 x.n] 51 (0,0))):=hby.block _ _ (by omega) HR1.out (fun c q=>by injection q with _ q2 _;exact absurd q2 (by decide))
  have l0:=aX.out _ HR2.out 0;have l6:=aX.out _ HR2.out 6
  simp only[List.getElem?_toArray,List.getElem?_cons_zero,List.getElem?_cons_succ]at l0 l6
  clear hany hs2 hby k0
  go_upto_region 25 with fail
  refine vD g Y.heap.size (Pl.aH xs k).length _ x 0 a6 y6 (iD w0 (Pl.aH xs k)) u HS2.out.c1 (by rw[HKK.out];exact aX.out _ HR2.out 0) (aX.out _ HR2.out 1) (aX.out _ HR2.out 2) (aX.out _ HR2.out 3) (aX.out _ HR2.out 4) (aX.out _ HR2.out 5) (aX.out _ HR2.out 6) (aX.out _ HR2.out 7) (fun _ _ _ _ h1 h2=>iD.old HS2.out h1 h2) (fun u3=>by have h5:=eO x 0 wI.out (by omega) u3;rw[HZ.out]at h5;exact h5) (fun u3 h3=>wF (HS2.out.keep h3) x.n) ?_
  intro a2 y2 u3 u4 h3 h4
  have vT:Hid (aZ w0 (u4.setCell ⟨g,1,none⟩ (.slice a2 (Pl.aH xs k).length y2)) g rW (.slice a2 (Pl.aH xs k).length y2) (Pl.aL bI xs (k+1)) (Pl.aH xs (k+1))):=by show aZ _ _ _ _ _ _ _;rw[wG.out];exact iD.fin HS2.out h3 h4
  clear h3 h4
  go_wp2_with fail
  have hfn:=vT.out
  exact wE.out _ _ _ _ _ _ _ _ _ _ _ _ _ _ _ _ _ _ _ _ _ _ _ _ _ _ _ _ _ _ _ _ _ _ _ _ _ _ _ _ _ _ _ _ _ _ _ _ _ _ _ _ _ _ _ _ _ _ _ _ _ _ _ _ _ _ _ _ _ _ _ _ _ _ _ _ _ _ _ _ _ _ _ _ _ _ _ _ _ _ _ _ _ _ _ _ _ _ _ _ _ _ _ _ _ _ _ _ _ _ _ _ _ _ _ _ _ _ _ _ _ _ _ _ _ _ _ _ _ _ _ vE.out hfn
set_option maxRecDepth 100000 in
theorem Ml:xE fun xs k=>(Pl.gl xs k).k=8:=by
 intro lo xs F R g k a len cap la ll lc aa ac vc vd _ _ _ _ _ _ _ _ _ _ _ _ _ _ _ _ _ _ _ _ _ _ _ _ _ _ _ _ _ _ _ _ _ _ _ _ _ _ _ _ _ _ _ _ _ _ _ _ _ _ _ _ _ _ _ _ _ _ _ _ _ _ _ _ _ _ _ _ _ _ _ _ _ _ _ _ _ _ _ _ _ _ _ _ _ _ _ _ _ _ _ _ _ _ _ _ _ _ _ _ _ _ _ _ _ _ _ _ _ _ _ _ _ _ _ _ _ _ _ _ _ _ _ _ _ _ _ _ _ _ _ _ _ _ _ _ _ _ _ _ w0 Y hE hF hK hS hL hk hn hR hq Q hN hX
 replace hq:(Pl.gl xs k).k=8:=hq
 have wE:Hid _:=hN
 have wW:Hid _:=hX
 have HE:Hid (pX lo xs Y F R a len cap la ll lc aa ac):=hE
 have hxl:xs.length=len:=hE.ln.len.1
 have lM:Hid (xs.length=len):=hxl
 have hK1:=hK k (by omega)
 have GG:Hid (nA (Pl.gl xs k)):=hK1
 obtain⟨a6,y6,hv6⟩:=aT hF.od
 subst hv6
 have HF:Hid (aZ w0 Y g vc (.slice a6 (Pl.aH xs k).length y6) (Pl.aL bI xs k) (Pl.aH xs k)):=hF
 have rC:Hid ((Pl.ins xs k).any (fun y=>!y.ok || (Pl.jT (Pl.gl xs k).k && Pl.rJ xs (Pl.gl xs k).s))=Pl.dQ xs k):=Pl.jQ xs k hK1.i
 have mR:Hid (Pl.ins xs k=Pl.bM (Pl.gl xs k) (Pl.cu xs k).at (Pl.gT xs (Pl.gl xs k).s)):=rfl
 have uS:=oI hK (by omega) (Pl.gl xs k).s
 have yS:=oJ hK (by omega) (k:=k) (by omega)
 have vS:Hid (Pl.aL bI xs (k+1)=Pl.aL bI xs k ++ (Pl.ins xs k).map bI):=Pl.dH _ _ _
 have uI:Hid (Pl.aH xs (k+1)=Pl.aH xs k ++ Pl.dat xs k):=Pl.dZ _ _
 have gM:=Pl.eB bI xs (fun i hi=>(hK i hi).b) hS k (by omega)
 have hcb:=Pl.jO xs (fun i hi=>(hK i hi).b) k (by omega)
 have hcl:(Pl.aL bI xs k).length<=100000:=by omega
 have hdl:(Pl.aH xs k).length<=1310720000:=by omega
 have HB0:Hid (((Pl.aH xs k).length:Int)=(Pl.cu xs k).b):=gM.2
 have hg0:=hF.hg
 have hgY:g<Y.heap.size:=hF.lt
 have hsn:¬ (Pl.gl xs k).s=⟨#[]⟩:=fun c=>hK1.sym (by omega) (by rw[c];rfl)
 have hlb:Pl.lb xs (Pl.gl xs k).s≠none:=fun c=>by
  have:=hL
  unfold Pl.lost at this
  rw[c]at this
  simp[hsn]at this
 obtain⟨p,bl,ol,hla,hp,GH,ca,cd,hbl⟩:=hE.sym hlb
 subst hla
 have HW:Hid (∀ u,Below Y.heap.size Y u->Calls Tryz.prog 26 #[.slice (some ⟨bl,ol,none⟩) ll lc,.string (Pl.gl xs k).s] u fun e w'=>e=.returned (.int .i64 (p:Nat))/\w'=u):=fun u hu=>by rw[<- GH];exact jV _ _ _ xs _ _ u (HE.out.keep hu).lb
 have GI:Hid (∀ u,Below Y.heap.size Y u->u.cell? ⟨bl,ol+p*4+2,none⟩=some (.int .i64 (Pl.gT xs (Pl.gl xs k).s))/\u.cell? ⟨bl,ol+p*4+3,none⟩=some (.bool (!Pl.rJ xs (Pl.gl xs k).s))):=fun u hu=>⟨aF hu ca,aF hu cd⟩
 have hpl:(p:Int)<(ll:Int):=by omega
 have hll:(ll:Int)<=20000:=by
  have h1:=hE.lb.1
  have h2:(Pl.cZ xs xs.length).length<=xs.length:=by unfold Pl.cZ;refine Nat.le_trans (List.length_filter_le _ _) (by simp)
  omega
 have se:(Pl.gl xs k).s.toList.isEmpty=false:=by rw[<- Pl.jU];simpa using hsn
 clear GH
 have wG:Hid (Pl.aH xs (k+1)=Pl.aH xs k):=by show _=_;rw[uI.out,Pl.pQ xs k (by omega),List.append_nil]
 have HZ:Hid (Pl.fK (Pl.gl xs k) 0=0):=Pl.nG _ _ (by omega)
 have HIS:Hid (∀ u,bV (Pl.gl xs k) (Pl.cu xs k).at (Pl.gT xs (Pl.gl xs k).s) u):=fun u=>gV _ _ _ u hK1.b.k (by omega) (by omega) hK1.i.w4 (fun q=>by have:=hK1.far (.inl q);omega)
 have hat:=hE.ats hk
 obtain⟨ba,oa,yT,TY,cat⟩:=hat
 subst yT
 obtain⟨b0,off,wH,hlo,hb1,hsz,z0,z1,z2,z3,z4,z5,z6,z7⟩:=hE.ln.at k hk
 subst wH
 have hi:(k:Int)<(len:Int):=by omega
 have wI:Hid (Pl.sG (Pl.gl xs k)):=hK1.b
 have hf0:=hE.f0
 have TZ:F<Y.heap.size:=block_lt_of_cell hf0
 clear hE hF hN hX hK hS hL hK1 gM hcb hsz
 conv=>arg 2;whnf
 dsimp only
 generalize hx:Pl.gl xs k=x at *
 have sU:Hid (Pl.gl xs k=x):=hx
 clear hx
 have hkk:x.k=8:=hq
 have HKK:Hid (x.k=8):=hkk
 rw[hkk]at z0
 clear hq hkk
 have Mg:=(GI.out (Y.alloc (.cells #[.int .i64 8,.int .i64 x.op,.int .i64 x.rd,.int .i64 x.r1,.int .i64 x.r2,.int .i64 x.im,.string x.s,.int .i64 x.n] 51)) (aB _ _)).1
 have Mh:=(GI.out (Y.alloc (.cells #[.int .i64 8,.int .i64 x.op,.int .i64 x.rd,.int .i64 x.r1,.int .i64 x.r2,.int .i64 x.im,.string x.s,.int .i64 x.n] 51)) (aB _ _)).2
 have UA:(Y.alloc (.cells #[.int .i64 8,.int .i64 x.op,.int .i64 x.rd,.int .i64 x.r1,.int .i64 x.r2,.int .i64 x.im,.string x.s,.int .i64 x.n] 51)).cell? ⟨F,0,none⟩=some (.slice (some ⟨bl,ol,none⟩) ll lc):=aF (aB _ _) hf0
 go_upto_region 12 with (go_at_call 26;refine (HW.out _ (aB _ _)).mono ?_;rintro e u9 ⟨rfl,rfl⟩)
 have hrow:(Y.alloc (.cells #[.int .i64 8,.int .i64 x.op,.int .i64 x.rd,.int .i64 x.r1,.int .i64 x.r2,.int .i64 x.im,.string x.s,.int .i64 x.n] 51)).heap[Y.heap.size]?=some (.cells #[.int .i64 8,.int .i64 x.op,.int .i64 x.rd,.int .i64 x.r1,.int .i64 x.r2,.int .i64 x.im,.string x.s,.int .i64 x.n] 51 (0,0)):=heap_alloc_new Y _
 have aX:Hid (∀ w1:World,w1.heap[Y.heap.size]?=some (.cells #[.int .i64 8,.int .i64 x.op,.int .i64 x.rd,.int .i64 x.r1,.int .i64 x.r2,.int .i64 x.im,.string x.s,.int .i64 x.n] 51 (0,0))->∀ j,w1.cell? ⟨Y.heap.size,j,none⟩=(#[.int .i64 8,.int .i64 x.op,.int .i64 x.rd,.int .i64 x.r1,.int .i64 x.r2,.int .i64 x.im,.string x.s,.int .i64 x.n]:Array Value)[j]?):=fun w1 hw1 j=>cell_of_row _ _ j _ 51 (0,0) hw1
 have HRW:Hid ((Y.alloc (.cells #[.int .i64 8,.int .i64 x.op,.int .i64 x.rd,.int .i64 x.r1,.int .i64 x.r2,.int .i64 x.im,.string x.s,.int .i64 x.n] 51)).heap[Y.heap.size]?=some (.cells #[.int .i64 8,.int .i64 x.op,.int .i64 x.rd,.int .i64 x.r1,.int .i64 x.r2,.int .i64 x.im,.string x.s,.int .i64 x.n] 51 (0,0))):=hrow
 refine rV F Y.heap.size k ba oa len ac x (Pl.cu xs k).at (Pl.gT xs x.s) (Y.alloc (.cells #[.int .i64 8,.int .i64 x.op,.int .i64 x.rd,.int .i64 x.r1,.int .i64 x.r2,.int .i64 x.im,.string x.s,.int .i64 x.n] 51)) (aF (aB _ _) HE.out.f1) hk hn (aF (aB _ _) cat) (by rw[HKK.out];exact aX.out _ HRW.out 0) (aX.out _ HRW.out 1) (aX.out _ HRW.out 2) (aX.out _ HRW.out 3) (aX.out _ HRW.out 4) (aX.out _ HRW.out 5) (aX.out _ HRW.out 6) (aX.out _ HRW.out 7) (HIS.out _) ?_
 intro ai ni ci w1 hI hw1
 have HI:Hid (aY (Y.alloc (.cells #[.int .i64 8,.int .i64 x.op,.int .i64 x.rd,.int .i64 x.r1,.int .i64 x.r2,.int .i64 x.im,.string x.s,.int .i64 x.n] 51)).heap.size w1 ai ni (Pl.bM x (Pl.cu xs k).at (Pl.gT xs x.s))):=hI
 have HW1:Hid (Below (Y.alloc (.cells #[.int .i64 8,.int .i64 x.op,.int .i64 x.rd,.int .i64 x.r1,.int .i64 x.r2,.int .i64 x.im,.string x.s,.int .i64 x.n] 51)).heap.size (Y.alloc (.cells #[.int .i64 8,.int .i64 x.op,.int .i64 x.rd,.int .i64 x.r1,.int .i64 x.r2,.int .i64 x.im,.string x.s,.int .i64 x.n] 51)) w1):=hw1
 have HR1:Hid (w1.heap[Y.heap.size]?=some (.cells #[.int .i64 8,.int .i64 x.op,.int .i64 x.rd,.int .i64 x.r1,.int .i64 x.r2,.int .i64 x.im,.string x.s,.int .i64 x.n] 51 (0,0))):=(hw1.block Y.heap.size (by simp)).trans hrow
 have tV:Hid (aZ w0 w1 g vc (.slice a6 (Pl.aH xs k).length y6) (Pl.aL bI xs k) (Pl.aH xs k)):=(HF.out.keep (aB _ _)).keep hw1
 have k0:=aX.out _ HR1.out 0
 simp only[List.getElem?_toArray,List.getElem?_cons_zero]at k0
 clear hI hw1 hrow
 go_upto_block 2 with fail
 refine kG k g R true (!Pl.rJ xs x.s) (Pl.bM x (Pl.cu xs k).at (Pl.gT xs x.s)) ai ni ci vc _ (Pl.aL bI xs k) (Pl.aH xs k) w0 w1 tV.out HI.out ((HE.out.keep (Below.trans (aB Y _) (HW1.out.mono (by simp)))).r) hR (by simp;omega) hcl ?N ?X
 case X=>
  intros
  rename_i hany hrw hbe
  refine wW.out _ _ _ _ _ _ _ _ _ _ _ _ _ _ _ _ _ _ _ _ _ _ _ _ _ _ _ _ _ _ _ _ _ _ _ _ _ _ _ _ _ _ _ _ _ _ _ _ _ _ _ _ _ _ _ _ _ _ _ _ _ _ _ _ _ _ _ _ _ _ _ _ _ _ _ _ _ _ _ _ _ _ _ _ _ _ _ _ _ _ _ _ _ _ _ _ _ _ _ _ _ _ _ _ _ _ _ _ _ _ _ _ _ _ _ _ _ _ _ _ _ _ _ _ _ _ _ _ _ _ _ _ _ _ ?_ hrw hbe
  rw[<- rC.out,mR.out]
  simpa [Pl.jT,HKK.out] using hany
 case N=>
  intro v5 v14 v15 v16 v71 v72 v73 v74 v75 v76 v77 v78 v79 v80 v81 v82 v83 v84 v85 v86 v87 OZ v89 PD v91 PE v93 PG PH PI PK PL PM wJ wK u rW hany hs2 hby
  have HS2:Hid (aZ w0 u g rW (.slice a6 (Pl.aH xs k).length y6) (Pl.aL bI xs (k+1)) (Pl.aH xs k)):=by show aZ _ _ _ _ _ _ _;rw[vS.out,mR.out];exact hs2
  have vE:Hid (Pl.dQ xs k=false):=by
   show _=_
   rw[<- rC.out,mR.out]
   simpa [Pl.jT,HKK.out] using hany
  have HR2:Hid (u.heap[Y.heap.size]?=some (.cells #[.int .i64 8,.int .i64 x.op,.int .i64 x.rd,.int .i64 x.r1,.int .i64 x.r2,.int .i64 x.im,.string x.s,.int .i64 x.n] 51 (0,0))):=hby.block _ _ (by omega) HR1.out (fun c q=>by injection q with _ q2 _;exact absurd q2 (by decide))
  have l0:=aX.out _ HR2.out 0;have l6:=aX.out _ HR2.out 6
  simp only[List.getElem?_toArray,List.getElem?_cons_zero,List.getElem?_cons_succ]at l0 l6
  clear hany hs2 hby k0
  go_upto_region 25 with fail
  refine vD g Y.heap.size (Pl.aH xs k).length _ x 0 a6 y6 (iD w0 (Pl.aH xs k)) u HS2.out.c1 (by rw[HKK.out];exact aX.out _ HR2.out 0) (aX.out _ HR2.out 1) (aX.out _ HR2.out 2) (aX.out _ HR2.out 3) (aX.out _ HR2.out 4) (aX.out _ HR2.out 5) (aX.out _ HR2.out 6) (aX.out _ HR2.out 7) (fun _ _ _ _ h1 h2=>iD.old HS2.out h1 h2) (fun u3=>by have h5:=eO x 0 wI.out (by omega) u3;rw[HZ.out]at h5;exact h5) (fun u3 h3=>wF (HS2.out.keep h3) x.n) ?_
  intro a2 y2 u3 u4 h3 h4
  have vT:Hid (aZ w0 (u4.setCell ⟨g,1,none⟩ (.slice a2 (Pl.aH xs k).length y2)) g rW (.slice a2 (Pl.aH xs k).length y2) (Pl.aL bI xs (k+1)) (Pl.aH xs (k+1))):=by show aZ _ _ _ _ _ _ _;rw[wG.out];exact iD.fin HS2.out h3 h4
  clear h3 h4
  go_wp2_with fail
  have hfn:=vT.out
  exact wE.out _ _ _ _ _ _ _ _ _ _ _ _ _ _ _ _ _ _ _ _ _ _ _ _ _ _ _ _ _ _ _ _ _ _ _ _ _ _ _ _ _ _ _ _ _ _ _ _ _ _ _ _ _ _ _ _ _ _ _ _ _ _ _ _ _ _ _ _ _ _ _ _ _ _ _ _ _ _ _ _ _ _ _ _ _ _ _ _ _ _ _ _ _ _ _ _ _ _ _ _ _ _ _ _ _ _ _ _ _ _ _ _ _ _ _ _ _ _ _ _ _ _ _ _ _ _ _ _ _ _ _ vE.out hfn
set_option maxRecDepth 100000 in
theorem Mm:xE fun xs k=>(Pl.gl xs k).k=2\/(Pl.gl xs k).k=4\/(Pl.gl xs k).k=6\/(Pl.gl xs k).k=9\/(Pl.gl xs k).k=10\/(Pl.gl xs k).k=11:=by
 intro lo xs F R g k a len cap la ll lc aa ac vc vd _ _ _ _ _ _ _ _ _ _ _ _ _ _ _ _ _ _ _ _ _ _ _ _ _ _ _ _ _ _ _ _ _ _ _ _ _ _ _ _ _ _ _ _ _ _ _ _ _ _ _ _ _ _ _ _ _ _ _ _ _ _ _ _ _ _ _ _ _ _ _ _ _ _ _ _ _ _ _ _ _ _ _ _ _ _ _ _ _ _ _ _ _ _ _ _ _ _ _ _ _ _ _ _ _ _ _ _ _ _ _ _ _ _ _ _ _ _ _ _ _ _ _ _ _ _ _ _ _ _ _ _ _ _ _ _ _ _ _ _ w0 Y hE hF hK hS hL hk hn hR hq Q hN hX
 replace hq:(Pl.gl xs k).k=2\/(Pl.gl xs k).k=4\/(Pl.gl xs k).k=6\/(Pl.gl xs k).k=9\/(Pl.gl xs k).k=10\/(Pl.gl xs k).k=11:=hq
 have wE:Hid _:=hN
 have wW:Hid _:=hX
 have HE:Hid (pX lo xs Y F R a len cap la ll lc aa ac):=hE
 have hxl:xs.length=len:=hE.ln.len.1
 have lM:Hid (xs.length=len):=hxl
 have hK1:=hK k (by omega)
 have GG:Hid (nA (Pl.gl xs k)):=hK1
 obtain⟨a6,y6,hv6⟩:=aT hF.od
 subst hv6
 have HF:Hid (aZ w0 Y g vc (.slice a6 (Pl.aH xs k).length y6) (Pl.aL bI xs k) (Pl.aH xs k)):=hF
 have rC:Hid ((Pl.ins xs k).any (fun y=>!y.ok || (Pl.jT (Pl.gl xs k).k && Pl.rJ xs (Pl.gl xs k).s))=Pl.dQ xs k):=Pl.jQ xs k hK1.i
 have mR:Hid (Pl.ins xs k=Pl.bM (Pl.gl xs k) (Pl.cu xs k).at (Pl.gT xs (Pl.gl xs k).s)):=rfl
 have uS:=oI hK (by omega) (Pl.gl xs k).s
 have yS:=oJ hK (by omega) (k:=k) (by omega)
 have vS:Hid (Pl.aL bI xs (k+1)=Pl.aL bI xs k ++ (Pl.ins xs k).map bI):=Pl.dH _ _ _
 have uI:Hid (Pl.aH xs (k+1)=Pl.aH xs k ++ Pl.dat xs k):=Pl.dZ _ _
 have gM:=Pl.eB bI xs (fun i hi=>(hK i hi).b) hS k (by omega)
 have hcb:=Pl.jO xs (fun i hi=>(hK i hi).b) k (by omega)
 have hcl:(Pl.aL bI xs k).length<=100000:=by omega
 have hdl:(Pl.aH xs k).length<=1310720000:=by omega
 have HB0:Hid (((Pl.aH xs k).length:Int)=(Pl.cu xs k).b):=gM.2
 have hg0:=hF.hg
 have hgY:g<Y.heap.size:=hF.lt
 have hs0:(Pl.gl xs k).s=⟨#[]⟩:=rA (hK1.XD (by omega) (by omega) (by omega) (by omega) (by omega) (by omega))
 have ha0:Pl.gT xs (Pl.gl xs k).s=0/\Pl.rJ xs (Pl.gl xs k).s=false:=by rw[hs0];exact pI hK
 have se:(Pl.gl xs k).s.toList.isEmpty=true:=by rw[<- Pl.jU];simpa using hs0
 have wG:Hid (Pl.aH xs (k+1)=Pl.aH xs k):=by show _=_;rw[uI.out,Pl.pQ xs k (by omega),List.append_nil]
 have HZ:Hid (Pl.fK (Pl.gl xs k) 0=0):=Pl.nG _ _ (by omega)
 have HIS:Hid (∀ u,bV (Pl.gl xs k) (Pl.cu xs k).at (Pl.gT xs (Pl.gl xs k).s) u):=fun u=>gV _ _ _ u hK1.b.k (by omega) (by omega) hK1.i.w4 (fun q=>by have:=hK1.far (.inl q);omega)
 have hat:=hE.ats hk
 obtain⟨ba,oa,yT,TY,cat⟩:=hat
 subst yT
 obtain⟨b0,off,wH,hlo,hb1,hsz,z0,z1,z2,z3,z4,z5,z6,z7⟩:=hE.ln.at k hk
 subst wH
 have hi:(k:Int)<(len:Int):=by omega
 have wI:Hid (Pl.sG (Pl.gl xs k)):=hK1.b
 have hf0:=hE.f0
 have TZ:F<Y.heap.size:=block_lt_of_cell hf0
 clear hE hF hN hX hK hS hL hK1 gM hcb hsz
 conv=>arg 2;whnf
 dsimp only
 rw[ha0.2]at rC
 rw[ha0.1]at mR HIS
 generalize hx:Pl.gl xs k=x at *
 have sU:Hid (Pl.gl xs k=x):=hx
 clear hx
 have e3:(x.k == 3)=false:=by simp;omega
 have e7:(x.k == 7)=false:=by simp;omega
 have e8:(x.k == 8)=false:=by simp;omega
 have e14:(x.k == 14)=false:=by simp;omega
 have e15:(x.k == 15)=false:=by simp;omega
 have e16:(x.k == 16)=false:=by simp;omega
 have HKV:Hid ((x.k == 3)=false/\(x.k == 7)=false/\(x.k == 8)=false):=⟨e3,e7,e8⟩
 clear hq
 clear ha0 hs0
 go_upto_region 12 with fail
 have hrow:(Y.alloc (.cells #[.int .i64 x.k,.int .i64 x.op,.int .i64 x.rd,.int .i64 x.r1,.int .i64 x.r2,.int .i64 x.im,.string x.s,.int .i64 x.n] 51)).heap[Y.heap.size]?=some (.cells #[.int .i64 x.k,.int .i64 x.op,.int .i64 x.rd,.int .i64 x.r1,.int .i64 x.r2,.int .i64 x.im,.string x.s,.int .i64 x.n] 51 (0,0)):=heap_alloc_new Y _
 have aX:Hid (∀ w1:World,w1.heap[Y.heap.size]?=some (.cells #[.int .i64 x.k,.int .i64 x.op,.int .i64 x.rd,.int .i64 x.r1,.int .i64 x.r2,.int .i64 x.im,.string x.s,.int .i64 x.n] 51 (0,0))->∀ j,w1.cell? ⟨Y.heap.size,j,none⟩=(#[.int .i64 x.k,.int .i64 x.op,.int .i64 x.rd,.int .i64 x.r1,.int .i64 x.r2,.int .i64 x.im,.string x.s,.int .i64 x.n]:Array Value)[j]?):=fun w1 hw1 j=>cell_of_row _ _ j _ 51 (0,0) hw1
 have HRW:Hid ((Y.alloc (.cells #[.int .i64 x.k,.int .i64 x.op,.int .i64 x.rd,.int .i64 x.r1,.int .i64 x.r2,.int .i64 x.im,.string x.s,.int .i64 x.n] 51)).heap[Y.heap.size]?=some (.cells #[.int .i64 x.k,.int .i64 x.op,.int .i64 x.rd,.int .i64 x.r1,.int .i64 x.r2,.int .i64 x.im,.string x.s,.int .i64 x.n] 51 (0,0))):=hrow
 refine rV F Y.heap.size k ba oa len ac x (Pl.cu xs k).at 0 (Y.alloc (.cells #[.int .i64 x.k,.int .i64 x.op,.int .i64 x.rd,.int .i64 x.r1,.int .i64 x.r2,.int .i64 x.im,.string x.s,.int .i64 x.n] 51)) (aF (aB _ _) HE.out.f1) hk hn (aF (aB _ _) cat) (aX.out _ HRW.out 0) (aX.out _ HRW.out 1) (aX.out _ HRW.out 2) (aX.out _ HRW.out 3) (aX.out _ HRW.out 4) (aX.out _ HRW.out 5) (aX.out _ HRW.out 6) (aX.out _ HRW.out 7) (HIS.out _) ?_
 intro ai ni ci w1 hI hw1
 have HI:Hid (aY (Y.alloc (.cells #[.int .i64 x.k,.int .i64 x.op,.int .i64 x.rd,.int .i64 x.r1,.int .i64 x.r2,.int .i64 x.im,.string x.s,.int .i64 x.n] 51)).heap.size w1 ai ni (Pl.bM x (Pl.cu xs k).at 0)):=hI
 have HW1:Hid (Below (Y.alloc (.cells #[.int .i64 x.k,.int .i64 x.op,.int .i64 x.rd,.int .i64 x.r1,.int .i64 x.r2,.int .i64 x.im,.string x.s,.int .i64 x.n] 51)).heap.size (Y.alloc (.cells #[.int .i64 x.k,.int .i64 x.op,.int .i64 x.rd,.int .i64 x.r1,.int .i64 x.r2,.int .i64 x.im,.string x.s,.int .i64 x.n] 51)) w1):=hw1
 have HR1:Hid (w1.heap[Y.heap.size]?=some (.cells #[.int .i64 x.k,.int .i64 x.op,.int .i64 x.rd,.int .i64 x.r1,.int .i64 x.r2,.int .i64 x.im,.string x.s,.int .i64 x.n] 51 (0,0))):=(hw1.block Y.heap.size (by simp)).trans hrow
 have tV:Hid (aZ w0 w1 g vc (.slice a6 (Pl.aH xs k).length y6) (Pl.aL bI xs k) (Pl.aH xs k)):=(HF.out.keep (aB _ _)).keep hw1
 have k0:=aX.out _ HR1.out 0
 simp only[List.getElem?_toArray,List.getElem?_cons_zero]at k0
 clear hI hw1 hrow
 go_upto_block 2 with fail
 refine kG k g R false true (Pl.bM x (Pl.cu xs k).at 0) ai ni ci vc _ (Pl.aL bI xs k) (Pl.aH xs k) w0 w1 tV.out HI.out ((HE.out.keep (Below.trans (aB Y _) (HW1.out.mono (by simp)))).r) hR (by simp;omega) hcl ?N ?X
 case X=>
  intros
  rename_i hany hrw hbe
  refine wW.out _ _ _ _ _ _ _ _ _ _ _ _ _ _ _ _ _ _ _ _ _ _ _ _ _ _ _ _ _ _ _ _ _ _ _ _ _ _ _ _ _ _ _ _ _ _ _ _ _ _ _ _ _ _ _ _ _ _ _ _ _ _ _ _ _ _ _ _ _ _ _ _ _ _ _ _ _ _ _ _ _ _ _ _ _ _ _ _ _ _ _ _ _ _ _ _ _ _ _ _ _ _ _ _ _ _ _ _ _ _ _ _ _ _ _ _ _ _ _ _ _ _ _ _ _ _ _ _ _ _ _ _ _ _ ?_ hrw hbe
  rw[<- rC.out,mR.out]
  simpa [Pl.jT,e3,e7,e8] using hany
 case N=>
  intro v5 v14 v15 v16 v71 v72 v73 v74 v75 v76 v77 v78 v79 v80 v81 v82 v83 v84 v85 v86 v87 OZ v89 PD v91 PE v93 PG PH PI PK PL PM wJ wK u rW hany hs2 hby
  have HS2:Hid (aZ w0 u g rW (.slice a6 (Pl.aH xs k).length y6) (Pl.aL bI xs (k+1)) (Pl.aH xs k)):=by show aZ _ _ _ _ _ _ _;rw[vS.out,mR.out];exact hs2
  have vE:Hid (Pl.dQ xs k=false):=by
   show _=_
   rw[<- rC.out,mR.out]
   simpa [Pl.jT,e3,e7,e8] using hany
  have HR2:Hid (u.heap[Y.heap.size]?=some (.cells #[.int .i64 x.k,.int .i64 x.op,.int .i64 x.rd,.int .i64 x.r1,.int .i64 x.r2,.int .i64 x.im,.string x.s,.int .i64 x.n] 51 (0,0))):=hby.block _ _ (by omega) HR1.out (fun c q=>by injection q with _ q2 _;exact absurd q2 (by decide))
  have l0:=aX.out _ HR2.out 0;have l6:=aX.out _ HR2.out 6
  simp only[List.getElem?_toArray,List.getElem?_cons_zero,List.getElem?_cons_succ]at l0 l6
  clear hany hs2 hby k0
  go_upto_region 25 with fail
  refine vD g Y.heap.size (Pl.aH xs k).length _ x 0 a6 y6 (iD w0 (Pl.aH xs k)) u HS2.out.c1 (aX.out _ HR2.out 0) (aX.out _ HR2.out 1) (aX.out _ HR2.out 2) (aX.out _ HR2.out 3) (aX.out _ HR2.out 4) (aX.out _ HR2.out 5) (aX.out _ HR2.out 6) (aX.out _ HR2.out 7) (fun _ _ _ _ h1 h2=>iD.old HS2.out h1 h2) (fun u3=>by have h5:=eO x 0 wI.out (by omega) u3;rw[HZ.out]at h5;exact h5) (fun u3 h3=>wF (HS2.out.keep h3) x.n) ?_
  intro a2 y2 u3 u4 h3 h4
  have vT:Hid (aZ w0 (u4.setCell ⟨g,1,none⟩ (.slice a2 (Pl.aH xs k).length y2)) g rW (.slice a2 (Pl.aH xs k).length y2) (Pl.aL bI xs (k+1)) (Pl.aH xs (k+1))):=by show aZ _ _ _ _ _ _ _;rw[wG.out];exact iD.fin HS2.out h3 h4
  clear h3 h4
  go_wp2_with fail
  have hfn:=vT.out
  exact wE.out _ _ _ _ _ _ _ _ _ _ _ _ _ _ _ _ _ _ _ _ _ _ _ _ _ _ _ _ _ _ _ _ _ _ _ _ _ _ _ _ _ _ _ _ _ _ _ _ _ _ _ _ _ _ _ _ _ _ _ _ _ _ _ _ _ _ _ _ _ _ _ _ _ _ _ _ _ _ _ _ _ _ _ _ _ _ _ _ _ _ _ _ _ _ _ _ _ _ _ _ _ _ _ _ _ _ _ _ _ _ _ _ _ _ _ _ _ _ _ _ _ _ _ _ _ _ _ _ _ _ _ vE.out hfn
set_option maxRecDepth 100000 in
theorem YZ:xE fun xs k=>(Pl.gl xs k).k=14/\¬ (Pl.gl xs k).s=⟨#[]⟩:=by
 intro lo xs F R g k a len cap la ll lc aa ac vc vd _ _ _ _ _ _ _ _ _ _ _ _ _ _ _ _ _ _ _ _ _ _ _ _ _ _ _ _ _ _ _ _ _ _ _ _ _ _ _ _ _ _ _ _ _ _ _ _ _ _ _ _ _ _ _ _ _ _ _ _ _ _ _ _ _ _ _ _ _ _ _ _ _ _ _ _ _ _ _ _ _ _ _ _ _ _ _ _ _ _ _ _ _ _ _ _ _ _ _ _ _ _ _ _ _ _ _ _ _ _ _ _ _ _ _ _ _ _ _ _ _ _ _ _ _ _ _ _ _ _ _ _ _ _ _ _ _ _ _ _ w0 Y hE hF hK hS hL hk hn hR hq Q hN hX
 replace hq:(Pl.gl xs k).k=14/\¬ (Pl.gl xs k).s=⟨#[]⟩:=hq
 have wE:Hid _:=hN
 have wW:Hid _:=hX
 have HE:Hid (pX lo xs Y F R a len cap la ll lc aa ac):=hE
 have hxl:xs.length=len:=hE.ln.len.1
 have lM:Hid (xs.length=len):=hxl
 have hK1:=hK k (by omega)
 have GG:Hid (nA (Pl.gl xs k)):=hK1
 obtain⟨a6,y6,hv6⟩:=aT hF.od
 subst hv6
 have HF:Hid (aZ w0 Y g vc (.slice a6 (Pl.aH xs k).length y6) (Pl.aL bI xs k) (Pl.aH xs k)):=hF
 have rC:Hid ((Pl.ins xs k).any (fun y=>!y.ok || (Pl.jT (Pl.gl xs k).k && Pl.rJ xs (Pl.gl xs k).s))=Pl.dQ xs k):=Pl.jQ xs k hK1.i
 have mR:Hid (Pl.ins xs k=Pl.bM (Pl.gl xs k) (Pl.cu xs k).at (Pl.gT xs (Pl.gl xs k).s)):=rfl
 have uS:=oI hK (by omega) (Pl.gl xs k).s
 have yS:=oJ hK (by omega) (k:=k) (by omega)
 have vS:Hid (Pl.aL bI xs (k+1)=Pl.aL bI xs k ++ (Pl.ins xs k).map bI):=Pl.dH _ _ _
 have uI:Hid (Pl.aH xs (k+1)=Pl.aH xs k ++ Pl.dat xs k):=Pl.dZ _ _
 have gM:=Pl.eB bI xs (fun i hi=>(hK i hi).b) hS k (by omega)
 have hcb:=Pl.jO xs (fun i hi=>(hK i hi).b) k (by omega)
 have hcl:(Pl.aL bI xs k).length<=100000:=by omega
 have hdl:(Pl.aH xs k).length<=1310720000:=by omega
 have HB0:Hid (((Pl.aH xs k).length:Int)=(Pl.cu xs k).b):=gM.2
 have hg0:=hF.hg
 have hgY:g<Y.heap.size:=hF.lt
 have hsn:¬ (Pl.gl xs k).s=⟨#[]⟩:=hq.2
 have hlb:Pl.lb xs (Pl.gl xs k).s≠none:=fun c=>by
  have:=hL
  unfold Pl.lost at this
  rw[c]at this
  simp[hsn]at this
 obtain⟨p,bl,ol,hla,hp,GH,ca,cd,hbl⟩:=hE.sym hlb
 subst hla
 have HW:Hid (∀ u,Below Y.heap.size Y u->Calls Tryz.prog 26 #[.slice (some ⟨bl,ol,none⟩) ll lc,.string (Pl.gl xs k).s] u fun e w'=>e=.returned (.int .i64 (p:Nat))/\w'=u):=fun u hu=>by rw[<- GH];exact jV _ _ _ xs _ _ u (HE.out.keep hu).lb
 have GI:Hid (∀ u,Below Y.heap.size Y u->u.cell? ⟨bl,ol+p*4+2,none⟩=some (.int .i64 (Pl.gT xs (Pl.gl xs k).s))/\u.cell? ⟨bl,ol+p*4+3,none⟩=some (.bool (!Pl.rJ xs (Pl.gl xs k).s))):=fun u hu=>⟨aF hu ca,aF hu cd⟩
 have hpl:(p:Int)<(ll:Int):=by omega
 have hll:(ll:Int)<=20000:=by
  have h1:=hE.lb.1
  have h2:(Pl.cZ xs xs.length).length<=xs.length:=by unfold Pl.cZ;refine Nat.le_trans (List.length_filter_le _ _) (by simp)
  omega
 have se:(Pl.gl xs k).s.toList.isEmpty=false:=by rw[<- Pl.jU];simpa using hsn
 clear GH
 have wG:Hid (Pl.aH xs (k+1)=Pl.aH xs k ++ Pl.nD (Pl.wd (Pl.gT xs (Pl.gl xs k).s+(Pl.gl xs k).n)) 4):=by show _=_;rw[uI.out,Pl.YY xs k hq.1 hsn]
 have Vv:=hK1.far (.inr ⟨hq.1,fun c=>hsn (rA c)⟩)
 have hwd:=Pl.Eg (Pl.gT xs (Pl.gl xs k).s+(Pl.gl xs k).n)
 have HIS:Hid (∀ u,bV (Pl.gl xs k) (Pl.cu xs k).at (Pl.gT xs (Pl.gl xs k).s) u):=fun u=>gV _ _ _ u hK1.b.k (by omega) (by omega) hK1.i.w4 (fun q=>by have:=hK1.far (.inl q);omega)
 have hat:=hE.ats hk
 obtain⟨ba,oa,yT,TY,cat⟩:=hat
 subst yT
 obtain⟨b0,off,wH,hlo,hb1,hsz,z0,z1,z2,z3,z4,z5,z6,z7⟩:=hE.ln.at k hk
 subst wH
 have hi:(k:Int)<(len:Int):=by omega
 have wI:Hid (Pl.sG (Pl.gl xs k)):=hK1.b
 have hf0:=hE.f0
 have TZ:F<Y.heap.size:=block_lt_of_cell hf0
 clear hE hF hN hX hK hS hL hK1 gM hcb hsz
 conv=>arg 2;whnf
 dsimp only
 generalize hx:Pl.gl xs k=x at *
 have sU:Hid (Pl.gl xs k=x):=hx
 clear hx
 have hkk:x.k=14:=hq.1
 have HKK:Hid (x.k=14):=hkk
 rw[hkk]at z0
 clear hq hkk
 have Mg:=(GI.out (Y.alloc (.cells #[.int .i64 14,.int .i64 x.op,.int .i64 x.rd,.int .i64 x.r1,.int .i64 x.r2,.int .i64 x.im,.string x.s,.int .i64 x.n] 51)) (aB _ _)).1
 have Mh:=(GI.out (Y.alloc (.cells #[.int .i64 14,.int .i64 x.op,.int .i64 x.rd,.int .i64 x.r1,.int .i64 x.r2,.int .i64 x.im,.string x.s,.int .i64 x.n] 51)) (aB _ _)).2
 have UA:(Y.alloc (.cells #[.int .i64 14,.int .i64 x.op,.int .i64 x.rd,.int .i64 x.r1,.int .i64 x.r2,.int .i64 x.im,.string x.s,.int .i64 x.n] 51)).cell? ⟨F,0,none⟩=some (.slice (some ⟨bl,ol,none⟩) ll lc):=aF (aB _ _) hf0
 go_upto_region 12 with (go_at_call 26;refine (HW.out _ (aB _ _)).mono ?_;rintro e u9 ⟨rfl,rfl⟩)
 have hrow:(Y.alloc (.cells #[.int .i64 14,.int .i64 x.op,.int .i64 x.rd,.int .i64 x.r1,.int .i64 x.r2,.int .i64 x.im,.string x.s,.int .i64 x.n] 51)).heap[Y.heap.size]?=some (.cells #[.int .i64 14,.int .i64 x.op,.int .i64 x.rd,.int .i64 x.r1,.int .i64 x.r2,.int .i64 x.im,.string x.s,.int .i64 x.n] 51 (0,0)):=heap_alloc_new Y _
 have aX:Hid (∀ w1:World,w1.heap[Y.heap.size]?=some (.cells #[.int .i64 14,.int .i64 x.op,.int .i64 x.rd,.int .i64 x.r1,.int .i64 x.r2,.int .i64 x.im,.string x.s,.int .i64 x.n] 51 (0,0))->∀ j,w1.cell? ⟨Y.heap.size,j,none⟩=(#[.int .i64 14,.int .i64 x.op,.int .i64 x.rd,.int .i64 x.r1,.int .i64 x.r2,.int .i64 x.im,.string x.s,.int .i64 x.n]:Array Value)[j]?):=fun w1 hw1 j=>cell_of_row _ _ j _ 51 (0,0) hw1
 have HRW:Hid ((Y.alloc (.cells #[.int .i64 14,.int .i64 x.op,.int .i64 x.rd,.int .i64 x.r1,.int .i64 x.r2,.int .i64 x.im,.string x.s,.int .i64 x.n] 51)).heap[Y.heap.size]?=some (.cells #[.int .i64 14,.int .i64 x.op,.int .i64 x.rd,.int .i64 x.r1,.int .i64 x.r2,.int .i64 x.im,.string x.s,.int .i64 x.n] 51 (0,0))):=hrow
 refine rV F Y.heap.size k ba oa len ac x (Pl.cu xs k).at (Pl.gT xs x.s) (Y.alloc (.cells #[.int .i64 14,.int .i64 x.op,.int .i64 x.rd,.int .i64 x.r1,.int .i64 x.r2,.int .i64 x.im,.string x.s,.int .i64 x.n] 51)) (aF (aB _ _) HE.out.f1) hk hn (aF (aB _ _) cat) (by rw[HKK.out];exact aX.out _ HRW.out 0) (aX.out _ HRW.out 1) (aX.out _ HRW.out 2) (aX.out _ HRW.out 3) (aX.out _ HRW.out 4) (aX.out _ HRW.out 5) (aX.out _ HRW.out 6) (aX.out _ HRW.out 7) (HIS.out _) ?_
 intro ai ni ci w1 hI hw1
 have HI:Hid (aY (Y.alloc (.cells #[.int .i64 14,.int .i64 x.op,.int .i64 x.rd,.int .i64 x.r1,.int .i64 x.r2,.int .i64 x.im,.string x.s,.int .i64 x.n] 51)).heap.size w1 ai ni (Pl.bM x (Pl.cu xs k).at (Pl.gT xs x.s))):=hI
 have HW1:Hid (Below (Y.alloc (.cells #[.int .i64 14,.int .i64 x.op,.int .i64 x.rd,.int .i64 x.r1,.int .i64 x.r2,.int .i64 x.im,.string x.s,.int .i64 x.n] 51)).heap.size (Y.alloc (.cells #[.int .i64 14,.int .i64 x.op,.int .i64 x.rd,.int .i64 x.r1,.int .i64 x.r2,.int .i64 x.im,.string x.s,.int .i64 x.n] 51)) w1):=hw1
 have HR1:Hid (w1.heap[Y.heap.size]?=some (.cells #[.int .i64 14,.int .i64 x.op,.int .i64 x.rd,.int .i64 x.r1,.int .i64 x.r2,.int .i64 x.im,.string x.s,.int .i64 x.n] 51 (0,0))):=(hw1.block Y.heap.size (by simp)).trans hrow
 have tV:Hid (aZ w0 w1 g vc (.slice a6 (Pl.aH xs k).length y6) (Pl.aL bI xs k) (Pl.aH xs k)):=(HF.out.keep (aB _ _)).keep hw1
 have k0:=aX.out _ HR1.out 0
 simp only[List.getElem?_toArray,List.getElem?_cons_zero]at k0
 clear hI hw1 hrow
 go_upto_block 2 with fail
 refine kG k g R false (!Pl.rJ xs x.s) (Pl.bM x (Pl.cu xs k).at (Pl.gT xs x.s)) ai ni ci vc _ (Pl.aL bI xs k) (Pl.aH xs k) w0 w1 tV.out HI.out ((HE.out.keep (Below.trans (aB Y _) (HW1.out.mono (by simp)))).r) hR (by simp;omega) hcl ?N ?X
 case X=>
  intros
  rename_i hany hrw hbe
  refine wW.out _ _ _ _ _ _ _ _ _ _ _ _ _ _ _ _ _ _ _ _ _ _ _ _ _ _ _ _ _ _ _ _ _ _ _ _ _ _ _ _ _ _ _ _ _ _ _ _ _ _ _ _ _ _ _ _ _ _ _ _ _ _ _ _ _ _ _ _ _ _ _ _ _ _ _ _ _ _ _ _ _ _ _ _ _ _ _ _ _ _ _ _ _ _ _ _ _ _ _ _ _ _ _ _ _ _ _ _ _ _ _ _ _ _ _ _ _ _ _ _ _ _ _ _ _ _ _ _ _ _ _ _ _ _ ?_ hrw hbe
  rw[<- rC.out,mR.out]
  simpa [Pl.jT,HKK.out] using hany
 case N=>
  intro v5 v14 v15 v16 v71 v72 v73 v74 v75 v76 v77 v78 v79 v80 v81 v82 v83 v84 v85 v86 v87 OZ v89 PD v91 PE v93 PG PH PI PK PL PM wJ wK u rW hany hs2 hby
  have HS2:Hid (aZ w0 u g rW (.slice a6 (Pl.aH xs k).length y6) (Pl.aL bI xs (k+1)) (Pl.aH xs k)):=by show aZ _ _ _ _ _ _ _;rw[vS.out,mR.out];exact hs2
  have vE:Hid (Pl.dQ xs k=false):=by
   show _=_
   rw[<- rC.out,mR.out]
   simpa [Pl.jT,HKK.out] using hany
  have HR2:Hid (u.heap[Y.heap.size]?=some (.cells #[.int .i64 14,.int .i64 x.op,.int .i64 x.rd,.int .i64 x.r1,.int .i64 x.r2,.int .i64 x.im,.string x.s,.int .i64 x.n] 51 (0,0))):=hby.block _ _ (by omega) HR1.out (fun c q=>by injection q with _ q2 _;exact absurd q2 (by decide))
  have l0:=aX.out _ HR2.out 0;have l6:=aX.out _ HR2.out 6
  simp only[List.getElem?_toArray,List.getElem?_cons_zero,List.getElem?_cons_succ]at l0 l6
  clear hany hs2 hby k0
  go_upto_region 22 with fail
  refine Lx g Y.heap.size ((Pl.aH xs k) ++ Pl.nD (Pl.wd (Pl.gT xs x.s+x.n)) 4).length x (Pl.gT xs x.s) (Pl.wd (Pl.gT xs x.s+x.n)) _ (iD w0 ((Pl.aH xs k) ++ Pl.nD (Pl.wd (Pl.gT xs x.s+x.n)) 4) u.drew) u HS2.out.c1 (aX.out _ HR2.out 7) (fun _ _ _ h2=>iD.old HS2.out (Below.drew (Below.refl _ _)) h2) (fun u3=>kR _ u3) (MU (HS2.out.keep (Below.drew (Below.refl _ _))) _ 4 (by omega) (by omega) (by omega)) (by omega) ?_
  intro a2 y2 u4 h4
  have vT:Hid (aZ w0 (u4.setCell ⟨g,1,none⟩ (.slice a2 ((Pl.aH xs k) ++ Pl.nD (Pl.wd (Pl.gT xs x.s+x.n)) 4).length y2)) g rW (.slice a2 ((Pl.aH xs k) ++ Pl.nD (Pl.wd (Pl.gT xs x.s+x.n)) 4).length y2) (Pl.aL bI xs (k+1)) (Pl.aH xs (k+1))):=by show aZ _ _ _ _ _ _ _;rw[wG.out];exact iD.fin HS2.out (Below.drew (Below.refl _ _)) h4
  clear h4
  go_wp2_with fail
  have hfn:=vT.out
  exact wE.out _ _ _ _ _ _ _ _ _ _ _ _ _ _ _ _ _ _ _ _ _ _ _ _ _ _ _ _ _ _ _ _ _ _ _ _ _ _ _ _ _ _ _ _ _ _ _ _ _ _ _ _ _ _ _ _ _ _ _ _ _ _ _ _ _ _ _ _ _ _ _ _ _ _ _ _ _ _ _ _ _ _ _ _ _ _ _ _ _ _ _ _ _ _ _ _ _ _ _ _ _ _ _ _ _ _ _ _ _ _ _ _ _ _ _ _ _ _ _ _ _ _ _ _ _ _ _ _ _ _ _ vE.out hfn
set_option maxRecDepth 100000 in
theorem Gy:xE fun xs k=>(Pl.gl xs k).k=12/\(Pl.gl xs k).s=⟨#[]⟩:=by
 intro lo xs F R g k a len cap la ll lc aa ac vc vd _ _ _ _ _ _ _ _ _ _ _ _ _ _ _ _ _ _ _ _ _ _ _ _ _ _ _ _ _ _ _ _ _ _ _ _ _ _ _ _ _ _ _ _ _ _ _ _ _ _ _ _ _ _ _ _ _ _ _ _ _ _ _ _ _ _ _ _ _ _ _ _ _ _ _ _ _ _ _ _ _ _ _ _ _ _ _ _ _ _ _ _ _ _ _ _ _ _ _ _ _ _ _ _ _ _ _ _ _ _ _ _ _ _ _ _ _ _ _ _ _ _ _ _ _ _ _ _ _ _ _ _ _ _ _ _ _ _ _ _ w0 Y hE hF hK hS hL hk hn hR hq Q hN hX
 replace hq:(Pl.gl xs k).k=12/\(Pl.gl xs k).s=⟨#[]⟩:=hq
 have wE:Hid _:=hN
 have wW:Hid _:=hX
 have HE:Hid (pX lo xs Y F R a len cap la ll lc aa ac):=hE
 have hxl:xs.length=len:=hE.ln.len.1
 have lM:Hid (xs.length=len):=hxl
 have hK1:=hK k (by omega)
 have GG:Hid (nA (Pl.gl xs k)):=hK1
 obtain⟨a6,y6,hv6⟩:=aT hF.od
 subst hv6
 have HF:Hid (aZ w0 Y g vc (.slice a6 (Pl.aH xs k).length y6) (Pl.aL bI xs k) (Pl.aH xs k)):=hF
 have rC:Hid ((Pl.ins xs k).any (fun y=>!y.ok || (Pl.jT (Pl.gl xs k).k && Pl.rJ xs (Pl.gl xs k).s))=Pl.dQ xs k):=Pl.jQ xs k hK1.i
 have mR:Hid (Pl.ins xs k=Pl.bM (Pl.gl xs k) (Pl.cu xs k).at (Pl.gT xs (Pl.gl xs k).s)):=rfl
 have uS:=oI hK (by omega) (Pl.gl xs k).s
 have yS:=oJ hK (by omega) (k:=k) (by omega)
 have vS:Hid (Pl.aL bI xs (k+1)=Pl.aL bI xs k ++ (Pl.ins xs k).map bI):=Pl.dH _ _ _
 have uI:Hid (Pl.aH xs (k+1)=Pl.aH xs k ++ Pl.dat xs k):=Pl.dZ _ _
 have gM:=Pl.eB bI xs (fun i hi=>(hK i hi).b) hS k (by omega)
 have hcb:=Pl.jO xs (fun i hi=>(hK i hi).b) k (by omega)
 have hcl:(Pl.aL bI xs k).length<=100000:=by omega
 have hdl:(Pl.aH xs k).length<=1310720000:=by omega
 have HB0:Hid (((Pl.aH xs k).length:Int)=(Pl.cu xs k).b):=gM.2
 have hg0:=hF.hg
 have hgY:g<Y.heap.size:=hF.lt
 have hs0:(Pl.gl xs k).s=⟨#[]⟩:=hq.2
 have ha0:Pl.gT xs (Pl.gl xs k).s=0/\Pl.rJ xs (Pl.gl xs k).s=false:=by rw[hs0];exact pI hK
 have se:(Pl.gl xs k).s.toList.isEmpty=true:=by rw[<- Pl.jU];simpa using hs0
 have wG:Hid (Pl.aH xs (k+1)=Pl.aH xs k ++ Pl.nD (Pl.gl xs k).n (Pl.fK (Pl.gl xs k) 0).toNat):=by show _=_;rw[uI.out,Pl.CR xs k (by omega) hs0]
 have ZA:0<=Pl.fK (Pl.gl xs k) 0/\Pl.fK (Pl.gl xs k) 0<=4:=by unfold Pl.fK;rcases (show (Pl.gl xs k).k=12\/(Pl.gl xs k).k=13\/(Pl.gl xs k).k=14 by omega) with e | e | e <;> simp[e]
 have ZB:Hid (((Pl.fK (Pl.gl xs k) 0).toNat:Int)=Pl.fK (Pl.gl xs k) 0):=by show _=_;omega
 have Vv:0<=(Pl.gl xs k).n/\(Pl.gl xs k).n<=4294967295:=by
  rcases (show (Pl.gl xs k).k=12\/(Pl.gl xs k).k=13\/(Pl.gl xs k).k=14 by omega) with e | e | e
  ·have:=hK1.n12 e;omega
  ·have:=hK1.n13 e;omega
  ·exact hK1.Kc e (by rw[hs0];rfl)
 have HIS:Hid (∀ u,bV (Pl.gl xs k) (Pl.cu xs k).at (Pl.gT xs (Pl.gl xs k).s) u):=fun u=>gV _ _ _ u hK1.b.k (by omega) (by omega) hK1.i.w4 (fun q=>by have:=hK1.far (.inl q);omega)
 have hat:=hE.ats hk
 obtain⟨ba,oa,yT,TY,cat⟩:=hat
 subst yT
 obtain⟨b0,off,wH,hlo,hb1,hsz,z0,z1,z2,z3,z4,z5,z6,z7⟩:=hE.ln.at k hk
 subst wH
 have hi:(k:Int)<(len:Int):=by omega
 have wI:Hid (Pl.sG (Pl.gl xs k)):=hK1.b
 have hf0:=hE.f0
 have TZ:F<Y.heap.size:=block_lt_of_cell hf0
 clear hE hF hN hX hK hS hL hK1 gM hcb hsz
 conv=>arg 2;whnf
 dsimp only
 rw[ha0.2]at rC
 rw[ha0.1]at mR HIS
 generalize hx:Pl.gl xs k=x at *
 have sU:Hid (Pl.gl xs k=x):=hx
 clear hx
 have hkk:x.k=12:=hq.1
 have HKK:Hid (x.k=12):=hkk
 rw[hkk]at z0
 clear hq hkk
 clear ha0 hs0
 go_upto_region 12 with fail
 have hrow:(Y.alloc (.cells #[.int .i64 12,.int .i64 x.op,.int .i64 x.rd,.int .i64 x.r1,.int .i64 x.r2,.int .i64 x.im,.string x.s,.int .i64 x.n] 51)).heap[Y.heap.size]?=some (.cells #[.int .i64 12,.int .i64 x.op,.int .i64 x.rd,.int .i64 x.r1,.int .i64 x.r2,.int .i64 x.im,.string x.s,.int .i64 x.n] 51 (0,0)):=heap_alloc_new Y _
 have aX:Hid (∀ w1:World,w1.heap[Y.heap.size]?=some (.cells #[.int .i64 12,.int .i64 x.op,.int .i64 x.rd,.int .i64 x.r1,.int .i64 x.r2,.int .i64 x.im,.string x.s,.int .i64 x.n] 51 (0,0))->∀ j,w1.cell? ⟨Y.heap.size,j,none⟩=(#[.int .i64 12,.int .i64 x.op,.int .i64 x.rd,.int .i64 x.r1,.int .i64 x.r2,.int .i64 x.im,.string x.s,.int .i64 x.n]:Array Value)[j]?):=fun w1 hw1 j=>cell_of_row _ _ j _ 51 (0,0) hw1
 have HRW:Hid ((Y.alloc (.cells #[.int .i64 12,.int .i64 x.op,.int .i64 x.rd,.int .i64 x.r1,.int .i64 x.r2,.int .i64 x.im,.string x.s,.int .i64 x.n] 51)).heap[Y.heap.size]?=some (.cells #[.int .i64 12,.int .i64 x.op,.int .i64 x.rd,.int .i64 x.r1,.int .i64 x.r2,.int .i64 x.im,.string x.s,.int .i64 x.n] 51 (0,0))):=hrow
 refine rV F Y.heap.size k ba oa len ac x (Pl.cu xs k).at 0 (Y.alloc (.cells #[.int .i64 12,.int .i64 x.op,.int .i64 x.rd,.int .i64 x.r1,.int .i64 x.r2,.int .i64 x.im,.string x.s,.int .i64 x.n] 51)) (aF (aB _ _) HE.out.f1) hk hn (aF (aB _ _) cat) (by rw[HKK.out];exact aX.out _ HRW.out 0) (aX.out _ HRW.out 1) (aX.out _ HRW.out 2) (aX.out _ HRW.out 3) (aX.out _ HRW.out 4) (aX.out _ HRW.out 5) (aX.out _ HRW.out 6) (aX.out _ HRW.out 7) (HIS.out _) ?_
 intro ai ni ci w1 hI hw1
 have HI:Hid (aY (Y.alloc (.cells #[.int .i64 12,.int .i64 x.op,.int .i64 x.rd,.int .i64 x.r1,.int .i64 x.r2,.int .i64 x.im,.string x.s,.int .i64 x.n] 51)).heap.size w1 ai ni (Pl.bM x (Pl.cu xs k).at 0)):=hI
 have HW1:Hid (Below (Y.alloc (.cells #[.int .i64 12,.int .i64 x.op,.int .i64 x.rd,.int .i64 x.r1,.int .i64 x.r2,.int .i64 x.im,.string x.s,.int .i64 x.n] 51)).heap.size (Y.alloc (.cells #[.int .i64 12,.int .i64 x.op,.int .i64 x.rd,.int .i64 x.r1,.int .i64 x.r2,.int .i64 x.im,.string x.s,.int .i64 x.n] 51)) w1):=hw1
 have HR1:Hid (w1.heap[Y.heap.size]?=some (.cells #[.int .i64 12,.int .i64 x.op,.int .i64 x.rd,.int .i64 x.r1,.int .i64 x.r2,.int .i64 x.im,.string x.s,.int .i64 x.n] 51 (0,0))):=(hw1.block Y.heap.size (by simp)).trans hrow
 have tV:Hid (aZ w0 w1 g vc (.slice a6 (Pl.aH xs k).length y6) (Pl.aL bI xs k) (Pl.aH xs k)):=(HF.out.keep (aB _ _)).keep hw1
 have k0:=aX.out _ HR1.out 0
 simp only[List.getElem?_toArray,List.getElem?_cons_zero]at k0
 clear hI hw1 hrow
 go_upto_block 2 with fail
 refine kG k g R false true (Pl.bM x (Pl.cu xs k).at 0) ai ni ci vc _ (Pl.aL bI xs k) (Pl.aH xs k) w0 w1 tV.out HI.out ((HE.out.keep (Below.trans (aB Y _) (HW1.out.mono (by simp)))).r) hR (by simp;omega) hcl ?N ?X
 case X=>
  intros
  rename_i hany hrw hbe
  refine wW.out _ _ _ _ _ _ _ _ _ _ _ _ _ _ _ _ _ _ _ _ _ _ _ _ _ _ _ _ _ _ _ _ _ _ _ _ _ _ _ _ _ _ _ _ _ _ _ _ _ _ _ _ _ _ _ _ _ _ _ _ _ _ _ _ _ _ _ _ _ _ _ _ _ _ _ _ _ _ _ _ _ _ _ _ _ _ _ _ _ _ _ _ _ _ _ _ _ _ _ _ _ _ _ _ _ _ _ _ _ _ _ _ _ _ _ _ _ _ _ _ _ _ _ _ _ _ _ _ _ _ _ _ _ _ ?_ hrw hbe
  rw[<- rC.out,mR.out]
  simpa [Pl.jT,HKK.out] using hany
 case N=>
  intro v5 v14 v15 v16 v71 v72 v73 v74 v75 v76 v77 v78 v79 v80 v81 v82 v83 v84 v85 v86 v87 OZ v89 PD v91 PE v93 PG PH PI PK PL PM wJ wK u rW hany hs2 hby
  have HS2:Hid (aZ w0 u g rW (.slice a6 (Pl.aH xs k).length y6) (Pl.aL bI xs (k+1)) (Pl.aH xs k)):=by show aZ _ _ _ _ _ _ _;rw[vS.out,mR.out];exact hs2
  have vE:Hid (Pl.dQ xs k=false):=by
   show _=_
   rw[<- rC.out,mR.out]
   simpa [Pl.jT,HKK.out] using hany
  have HR2:Hid (u.heap[Y.heap.size]?=some (.cells #[.int .i64 12,.int .i64 x.op,.int .i64 x.rd,.int .i64 x.r1,.int .i64 x.r2,.int .i64 x.im,.string x.s,.int .i64 x.n] 51 (0,0))):=hby.block _ _ (by omega) HR1.out (fun c q=>by injection q with _ q2 _;exact absurd q2 (by decide))
  have l0:=aX.out _ HR2.out 0;have l6:=aX.out _ HR2.out 6
  simp only[List.getElem?_toArray,List.getElem?_cons_zero,List.getElem?_cons_succ]at l0 l6
  clear hany hs2 hby k0
  go_upto_region 25 with fail
  refine vD g Y.heap.size ((Pl.aH xs k) ++ Pl.nD x.n (Pl.fK x 0).toNat).length _ x (Pl.fK x 0) a6 y6 (iD w0 ((Pl.aH xs k) ++ Pl.nD x.n (Pl.fK x 0).toNat)) u HS2.out.c1 (by rw[HKK.out];exact aX.out _ HR2.out 0) (aX.out _ HR2.out 1) (aX.out _ HR2.out 2) (aX.out _ HR2.out 3) (aX.out _ HR2.out 4) (aX.out _ HR2.out 5) (aX.out _ HR2.out 6) (aX.out _ HR2.out 7) (fun _ _ _ _ h1 h2=>iD.old HS2.out h1 h2) (fun u3=>eO x 0 wI.out (by omega) u3) (fun u3 h3=>by have h5:=MU (HS2.out.keep h3) x.n (Pl.fK x 0).toNat (by omega) (by omega) (by omega);rw[ZB.out]at h5;exact h5) ?_
  intro a2 y2 u3 u4 h3 h4
  have vT:Hid (aZ w0 (u4.setCell ⟨g,1,none⟩ (.slice a2 ((Pl.aH xs k) ++ Pl.nD x.n (Pl.fK x 0).toNat).length y2)) g rW (.slice a2 ((Pl.aH xs k) ++ Pl.nD x.n (Pl.fK x 0).toNat).length y2) (Pl.aL bI xs (k+1)) (Pl.aH xs (k+1))):=by show aZ _ _ _ _ _ _ _;rw[wG.out];exact iD.fin HS2.out h3 h4
  clear h3 h4
  go_wp2_with fail
  have hfn:=vT.out
  simp only[List.length_append]at hfn
  exact wE.out _ _ _ _ _ _ _ _ _ _ _ _ _ _ _ _ _ _ _ _ _ _ _ _ _ _ _ _ _ _ _ _ _ _ _ _ _ _ _ _ _ _ _ _ _ _ _ _ _ _ _ _ _ _ _ _ _ _ _ _ _ _ _ _ _ _ _ _ _ _ _ _ _ _ _ _ _ _ _ _ _ _ _ _ _ _ _ _ _ _ _ _ _ _ _ _ _ _ _ _ _ _ _ _ _ _ _ _ _ _ _ _ _ _ _ _ _ _ _ _ _ _ _ _ _ _ _ _ _ _ _ vE.out hfn
end Go.Proofs.YtlbomnnldkeocaaGreat.W
