import Derived.Test.YtjcdiegfnoaedaaGreatDoorZ47
set_option linter.unusedVariables false
set_option linter.unusedSimpArgs false
set_option maxHeartbeats 16000000
namespace Go.Proofs.YtjcdiegfnoaedaaGreatDoor
namespace W
open Go.RowKit Go.Shelf
attribute [local go_sem] Oper.semAt_some
def nA (st:List Nat):Array Value:=(st.map fun n:Nat=>Value.int .i64 (n:Int)).toArray
def dpT (xs:List Pl.Nd) (n a:Nat):Prop:=∀c d,a<=c->Pl.yT xs n c d->d<=200
structure TT (w:World) (a:Option Addr) (len cap:Nat) (st:List Nat) (W:World):Prop where
 jR:Bw w W
 res:W.heap[w.heap.size]?=some (.cells #[.bool false] 4 (0,0))
 Tm:W.heap[w.heap.size+1]?=some (.cells (nA st) 3 (0,0))
 box:W.heap[w.heap.size+1+1]?=some (.cells #[.slice (some ⟨w.heap.size+1,0,none⟩) len len] 43 (0,0))
 ZR:W.heap[w.heap.size+1+1+1]?=some (.cells #[.slice a len cap] 29 (0,0))
structure TX (w:World) (xs:List Pl.Nd) (n:Nat) (W:World):Prop where
 jR:Bw w W
 res:W.heap[w.heap.size]?=some (.cells #[.bool true] 4 (0,0))
 deep:∃c d,Pl.yT xs n c d/\200<d
theorem TT.put {w:World}{a:Option Addr}{len cap:Nat}{st:List Nat}{W:World}(h:TT w a len cap st W){r:Nat}{o o':Obj}(hr:w.heap.size<=r) (ho:W.heap[r]?=some o') (hc:o'.isCells=false):TT w a len cap st (W.putObj r o):=
 ⟨pO h.jR hr _,(World.putObj_heap_other (kN h.res ho hc)).trans h.res,(World.putObj_heap_other (kN h.Tm ho hc)).trans h.Tm,(World.putObj_heap_other (kN h.box ho hc)).trans h.box,(World.putObj_heap_other (kN h.ZR ho hc)).trans h.ZR⟩
theorem TX.put {w:World}{xs:List Pl.Nd}{n:Nat}{W:World}(h:TX w xs n W){r:Nat}{o o':Obj}(hr:w.heap.size<=r) (ho:W.heap[r]?=some o') (hc:o'.isCells=false):TX w xs n (W.putObj r o):=
 ⟨pO h.jR hr _,(World.putObj_heap_other (kN h.res ho hc)).trans h.res,h.deep⟩
theorem TT.keep {w:World}{a:Option Addr}{len cap:Nat}{st:List Nat}{W W':World}(h:TT w a len cap st W) (hb:Bw W W'):TT w a len cap st W':=by
 have lt:∀ {b:Nat} {o:Obj},W.heap[b]?=some o->b<W.heap.size:=fun q=>(Array.getElem?_eq_some_iff.1 q).1;exact⟨h.jR.trans (hb.mono h.jR.size),(hb.block _ (lt h.res)).trans h.res,(hb.block _ (lt h.Tm)).trans h.Tm,(hb.block _ (lt h.box)).trans h.box,(hb.block _ (lt h.ZR)).trans h.ZR⟩
theorem sM.lower {lo lo2:Nat}{w:World}{a:Option Addr}{len cap:Nat}{xs:List Pl.Nd}{V:Nat->SV}(h:sM lo w a len cap xs V) (hl:lo2<=lo):sM lo2 w a len cap xs V:=by
 obtain⟨h1,h2,h3,h4⟩:=h;refine⟨h1,h2,h3,?_⟩;rcases h4 with h4|⟨b,off,ha,hlo,hlt,hc⟩
 ·exact .inl h4
 ·exact .inr ⟨b,off,ha,Nat.le_trans hl hlo,hlt,fun i hi=>⟨(hc i hi).1,(hc i hi).2.lower hl⟩⟩
theorem sM.kids {lo:Nat}{w:World}{a:Option Addr}{len cap:Nat}{xs:List Pl.Nd}{V:Nat->SV}(h:sM lo w a len cap xs V){i:Nat}(hi:i<len):Row .i64 lo w (V i).a (V i).len (V i).cap (Pl.nd xs i).kids:=by
 obtain⟨h1,h2,h3,h4⟩:=h;rcases h4 with h4|⟨b,off,ha,hlo,hlt,hc⟩
 ·omega
 ·exact (hc i hi).2
theorem Sj {W:World}{b:Nat}{st:List Nat}(h:W.heap[b]?=some (.cells (nA st) 3 (0,0))){p:Nat}(hp:p<st.length):W.cell? ⟨b,p,none⟩=some (.int .i64 ((st.getD p 0:Nat):Int)):=by
 refine (cell_of_row W b p _ 3 (0,0) h).trans ?_;unfold nA;simp[List.getElem?_eq_getElem hp]
theorem aDA (st:List Nat) (k z:Nat):(nA st).setIfInBounds k (.int .i64 ((z:Nat):Int))=nA (st.set k z):=by
 unfold nA;simp[List.map_set]
theorem TT.set {w:World}{a:Option Addr}{len cap:Nat}{st:List Nat}{W:World}(h:TT w a len cap st W) (k z:Nat) (v:Int) (hv:v=(z:Int)):TT w a len cap (st.set k z) (W.setCell ⟨w.heap.size+1,k,none⟩ (.int .i64 v)):=by
 subst hv;have ot:∀ {b:Nat},b≠w.heap.size+1->(W.setCell ⟨w.heap.size+1,k,none⟩ (.int .i64 (z:Int))).heap[b]?=W.heap[b]?:=fun hb=>heap_setCell_other W ⟨w.heap.size+1,k,none⟩ _ _ hb;refine⟨h.jR.setCell (by show w.heap.size<=w.heap.size+1;omega) _,(ot (by omega)).trans h.res,?_,(ot (by omega)).trans h.box,(ot (by omega)).trans h.ZR⟩;rw[heap_setCell_same W _ k _ 3 _ h.Tm,aDA]
theorem TT.drew {w:World}{a:Option Addr}{len cap:Nat}{st:List Nat}{W:World}(h:TT w a len cap st W):TT w a len cap st W.drew:=⟨h.jR.drew,h.res,h.Tm,h.box,h.ZR⟩
theorem wrap_small {z:Nat}(h:(z:Int)<=200):IntKind.i64.wrap ((z:Int)+1)=((z+1:Nat):Int):=by
 unfold IntKind.wrap;simp[IntKind.bits,IntKind.signed];omega
theorem aA0 (n:Nat):madeCells #[Value.int .i64 0] n=nA (List.replicate n 0):=by
 apply Array.ext';rw[toList_madeCells_one];unfold nA;simp
set_option maxRecDepth 100000 in
theorem OP {lo:Nat}(a:Option Addr) (len cap:Nat) (xs:List Pl.Nd) (w:World) (h:aT lo w a len cap xs) (hl1:1<=len) (hl4:len<=4000) (l:List Nat) (O:Pl.qQ xs len l) (R:Bool) (Si:∀c d,Pl.yT xs len c d->200<d->R=true) (hno:(∀c d,Pl.yT xs len c d->d<=200)->R=false) :
  Calls Tryz.prog 37 #[.slice a len cap] w fun e w'=>e=.returned (.bool R)/\Bw w w':=by
 have HR:Hid (aT lo w a len cap xs):=h;have hm:(len:Int)<=9223372036854775807:=by omega
 obtain⟨V,hV⟩:=h.named;have HV:Hid (sM lo w a len cap xs V):=hV;have HYE:Hid (∀c d,Pl.yT xs len c d->200<d->R=true):=Si;have ZJ:Hid ((∀c d,Pl.yT xs len c d->d<=200)->R=false):=hno;have HOR:Hid (Pl.qQ xs len l):=O;clear h hV Si hno O;refine (callsIn_wide (n:=4)).1 ?_;refine callsIn_of_wp_marks Tryz.func37 rfl trivial ?_ rfl;simp only[Tryz.ntmps37,List.size_toArray,List.length_cons,List.length_nil,Nat.reduceAdd,Nat.reduceSub,Array.replicate_succ,Array.replicate_zero,List.push_toArray,List.append_toArray,List.nil_append,List.cons_append];obtain⟨j0,hj0,hy0,hy1,hy2⟩:=info_parts Tryz.infoi64;have hmk:∀u:World,(Instr.makeSlice 43 (.int .i64 (len:Int)) (.int .i64 (len:Int))).run Tryz.prog u=.ok (.slice (some ⟨u.heap.size,0,none⟩) len len) (u.alloc (.cells (madeCells (Value.int .i64 0).cells (len*1)) 3)):=fun u=>by
  have:=run_makeSlice u 43 3 j0 _ Tryz.underlying43 hj0 hy0 .i64 .i64 (len:Int) (len:Int) (by omega) (by omega) (by rw[hy1];simp;omega) (by rw[hy2];omega) (by omega);rw[hy1]at this;simpa using this
 clear hj0 hy0 hy1 hy2
 gi_wp2_with (refine⟨trivial,?_⟩;gi_at_call 62;refine (callsIn_wide.2 (OM a len cap _)).mono ?_;rintro e u1 ⟨rfl,hu1⟩;rw[hu1];clear hu1 u1)
 obtain⟨W,hW⟩:∃W,W=((((w.alloc (.cells #[.bool false] 4)).alloc (.cells (madeCells #[Value.int IntKind.i64 0] len) 3)).alloc (.cells #[Value.slice (some ⟨w.heap.size+1,0,none⟩) len len] 43)).alloc (.cells #[Value.slice a len cap] 29)):=⟨_,rfl⟩;have hTT:TT w a len cap (List.replicate len 0) W:=by
  rw[hW,aA0];refine⟨((((Below.refl _ _).alloc (Nat.le_refl _) _).alloc (by simp) _).alloc (by simp;try omega) _).alloc (by simp;try omega) _,?_,?_,?_,?_⟩
  ·rw[Below.heap_alloc _ _ _ (by simp <;> omega),Below.heap_alloc _ _ _ (by simp <;> omega),Below.heap_alloc _ _ _ (by simp)];exact heap_alloc_new w _
  ·rw[Below.heap_alloc _ _ _ (by simp <;> omega),Below.heap_alloc _ _ _ (by simp)];have:=heap_alloc_new (w.alloc (.cells #[.bool false] 4)) (.cells (nA (List.replicate len 0)) 3);simpa using this
  ·rw[Below.heap_alloc _ _ _ (by simp)];have:=heap_alloc_new ((w.alloc (.cells #[.bool false] 4)).alloc (.cells (nA (List.replicate len 0)) 3)) (.cells #[Value.slice (some ⟨w.heap.size+1,0,none⟩) len len] 43);simpa using this
  ·have:=heap_alloc_new (((w.alloc (.cells #[.bool false] 4)).alloc (.cells (nA (List.replicate len 0)) 3)).alloc (.cells #[Value.slice (some ⟨w.heap.size+1,0,none⟩) len len] 43)) (.cells #[Value.slice a len cap] 29);simpa using this
 rw[<- hW];have hWz:W.heap.size=w.heap.size+4:=by rw[hW];simp
 have ZK:Hid (W.heap.size=w.heap.size+4):=hWz;have IZ:Hid (TT w a len cap (List.replicate len 0) W):=hTT;clear hW hTT hWz hmk;refine UZ 4 (w.heap.size+1+1+1) (by decide) rfl rfl a len cap xs V hm (fun j A=>∃st,TT w a len cap st A/\Pl.Kq xs len (len-j) st/\dpT xs len (len-j)) (TX w xs len) ?hJ ?h0 ?Ca ?yF (fun q A a' A'=>a' = { tmps:=#[.slice a len cap,undef,.pointer (some ⟨w.heap.size,0,none⟩),.pointer (some ⟨w.heap.size+1+1,0,none⟩),.int .i64 (q:Int),.pointer (some ⟨A.heap.size,0,none⟩),undef,undef,.slice a len cap,.int .i64 (len:Int),.slice (some ⟨w.heap.size+1,0,none⟩) len len,.slice a len cap,.func (.func 92) #[] #[.pointer (some ⟨w.heap.size+1+1+1,0,none⟩)],.int .i64 (q:Int),.agg #[.int .i64 (Pl.nd xs q).k,.int .i64 (Pl.nd xs q).m,.int .i64 (Pl.nd xs q).n,.string (Pl.nd xs q).s,.slice (V q).a (V q).len (V q).cap,.int .i64 (Pl.nd xs q).line,.int .i64 (Pl.nd xs q).aQ],undef,undef,undef,undef,undef,undef,undef,undef,undef,undef,undef,undef,undef,undef,undef,undef,undef,undef,undef,undef,undef],defers:=[] }/\A'=A.alloc (.cells #[.int .i64 (Pl.nd xs q).k,.int .i64 (Pl.nd xs q).m,.int .i64 (Pl.nd xs q).n,.string (Pl.nd xs q).s,.slice (V q).a (V q).len (V q).cap,.int .i64 (Pl.nd xs q).line,.int .i64 (Pl.nd xs q).aQ] 45)) ?hassign ?hbody ?hdone ?hstop
 case hJ=>rintro j A ⟨st,h,_⟩;exact⟨cell_of_row A _ 0 _ 29 (0,0) h.ZR,(HV.o.keep h.jR).lower (Nat.zero_le _)⟩
 case h0=>intro A hA _;exact⟨_,IZ.o.keep hA,Pl.Kq.init xs len,fun c d h1 h2=>absurd h2.lt (by omega)⟩
 case Ca=>rintro j A r o o' ⟨st,h,hs⟩ h1 h2 h3 h4;exact⟨st,h.put (by have:=ZK.o;omega) h3 h4,hs⟩
 case yF=>intro A r o o' h h1 h2 h3 h4;exact h.put (by have:=ZK.o;omega) h3 h4
 case hassign=>
  intro r q A K hK;unfold Pl.Nd.cells
  gi_wp2
  exact hK _ _ ((Below.refl _ _).alloc (Nat.le_refl _) _) ⟨rfl,rfl⟩
 case hbody=>
  rintro r j A a' A1 o hj hr1 hr2 ⟨st,VP,hst,hdp⟩ hbk hb1 ⟨rfl,rfl⟩;obtain⟨o',ho',hoc⟩:=hbk r hr1 hr2;obtain⟨q,hq⟩:∃q,q=len-1-j:=⟨_,rfl⟩;rw[<- hq];have KN:q<len:=by omega
  have hqj:len-j=q+1:=by omega
  have aFf:len-(j+1)=q:=by omega
  rw[hqj]at hst hdp;have HDT:Hid (dpT xs len (q+1)):=hdp;clear hdp;rw[aFf];have hrA:r<A.heap.size:=(Array.getElem?_eq_some_iff.1 ho').1;have VE:=(VP.keep (aA A (.cells #[.int .i64 (Pl.nd xs q).k,.int .i64 (Pl.nd xs q).m,.int .i64 (Pl.nd xs q).n,.string (Pl.nd xs q).s,.slice (V q).a (V q).len (V q).cap,.int .i64 (Pl.nd xs q).line,.int .i64 (Pl.nd xs q).aQ] 45))).put (o:=o) (by have:=ZK.o;omega) ((Below.heap_alloc _ _ _ hrA).trans ho') hoc;have hnb:=heap_alloc_new A (.cells #[.int .i64 (Pl.nd xs q).k,.int .i64 (Pl.nd xs q).m,.int .i64 (Pl.nd xs q).n,.string (Pl.nd xs q).s,.slice (V q).a (V q).len (V q).cap,.int .i64 (Pl.nd xs q).line,.int .i64 (Pl.nd xs q).aQ] 45);obtain⟨U,hU⟩:∃U,U=(A.alloc (.cells #[.int .i64 (Pl.nd xs q).k,.int .i64 (Pl.nd xs q).m,.int .i64 (Pl.nd xs q).n,.string (Pl.nd xs q).s,.slice (V q).a (V q).len (V q).cap,.int .i64 (Pl.nd xs q).line,.int .i64 (Pl.nd xs q).aQ] 45)).putObj r o:=⟨_,rfl⟩;rw[<- hU]at VE ⊢;have hnU:U.heap[A.heap.size]?=some (.cells #[.int .i64 (Pl.nd xs q).k,.int .i64 (Pl.nd xs q).m,.int .i64 (Pl.nd xs q).n,.string (Pl.nd xs q).s,.slice (V q).a (V q).len (V q).cap,.int .i64 (Pl.nd xs q).line,.int .i64 (Pl.nd xs q).aQ] 45 (0,0)):=by
   rw[hU,World.putObj_heap_other (by omega)];exact hnb
  have k5:U.cell? ⟨A.heap.size,4,none⟩=some (.slice (V q).a (V q).len (V q).cap):=cell_of_row U _ 4 _ 45 (0,0) hnU;have HU:Hid (TT w a len cap st U):=VE;have HST:Hid (Pl.Kq xs len (q+1) st):=hst;have hWA:W.heap.size+2<=A.heap.size:=by
   obtain⟨o2,ho2,_⟩:=hbk (W.heap.size+1) (by omega) (by omega);have:=(Array.getElem?_eq_some_iff.1 ho2).1;omega
  have hkr:Row .i64 0 U (V q).a (V q).len (V q).cap (Pl.nd xs q).kids:=((HV.o.kids KN).lower (Nat.zero_le _)).keep VE.jR;have HKR:Hid (Row .i64 lo w (V q).a (V q).len (V q).cap (Pl.nd xs q).kids):=HV.o.kids KN;have xJ:Hid ((Pl.nd xs q).kids.length=(V q).len):=(HV.o.kids KN).1;have hvl:((V q).len:Int)<=9223372036854775807:=by have:=(HV.o.kids KN).small;first|omega|(simp only at this;omega)
  obtain⟨⟨va,vl,vc⟩,hVq⟩:∃v,v=V q:=⟨_,rfl⟩;rw[<- hVq]at k5 HKR xJ hvl ⊢;have t3:U.cell? ⟨w.heap.size+1+1,0,none⟩=some (.slice (some ⟨w.heap.size+1,0,none⟩) len len):=cell_of_row U _ 0 _ 43 (0,0) VE.box;have t2:U.cell? ⟨w.heap.size,0,none⟩=some (.bool false):=cell_of_row U _ 0 _ 4 (0,0) VE.res;have f2:U.frozen? ⟨w.heap.size,0,none⟩=false:=frozen_of_row U _ 0 _ 4 VE.res;have ts:=Sj VE.Tm (p:=q) (by rw[hst.1];exact KN);have HWA:Hid (W.heap.size+2<=A.heap.size):=hWA;have HBL:Hid (∀(c:Nat) (v:Value) (k:Nat),c<W.heap.size->∀bb,W.heap.size<=bb->bb<W.heap.size+2->(U.setCell ⟨c,k,none⟩ v).heap[bb]?=U.heap[bb]?):=fun c v k hc bb h1 h2=>heap_setCell_other U ⟨c,k,none⟩ bb v (by show bb≠c;omega);have HDP:Hid (Pl.yT xs len q (st.getD q 0)):=hst.dep HOR.o KN;have hqi:(q:Int)<(len:Int):=by omega
  clear hnb hnU hbk hb1 ho' hq hU hWA hkr VE VP hst hVq hqj aFf hoc hr1 hr2 hrA;obtain⟨z,hz⟩:∃z,z=st.getD q 0:=⟨_,rfl⟩;have HZ:Hid (z=st.getD q 0):=hz;rw[<- hz]at ts HDP;clear hz;by_cases aFg:200<z
  ·have hdi:decide ((200:Int)<(z:Int))=true:=decide_eq_true (by omega);have Cq:Hid (TX w xs len (U.setCell ⟨w.heap.size,0,none⟩ (.bool true))):=by
    refine⟨HU.o.jR.setCell (Nat.le_refl _) _,?_,_,_,HDP.o,aFg⟩;rw[heap_setCell_same U w.heap.size 0 _ 4 _ HU.o.res];rfl
   gi_wp2
   exact⟨HBL.o _ _ _ (by have:=ZK.o;omega),Cq.o⟩
  have hdi:decide ((200:Int)<(z:Int))=false:=decide_eq_false (by omega);have HDQ:Hid (dpT xs len q):=fun c d h1 h2=>by
   by_cases e:c=q
   ·subst e;have:=Pl.yT.fn HOR.o h2 HDP.o;omega
   ·exact HDT.o c d (by omega) h2
  have HKD:Hid (∀i,i<vl->∃k:Nat,(Pl.nd xs q).kids.getD i 0=(k:Int)/\k<q):=fun i hi=>by
   obtain⟨k,r1,r2,_⟩:=HOR.o.kid q KN _ (Pl.nN (ks:=(Pl.nd xs q).kids) (q:=i) (by rw[xJ.o];exact hi));exact⟨k,r1,r2⟩
  have HSL:Hid (st.length=len):=HST.o.1
  gi_wp2
  clear t3 t2 f2 ts k5 hdi
  gi_loopw [23] (fun v wr=>∃(i:Nat) (s2:List Nat),i<=vl/\v=.int .i64 (i:Int)/\TT w a len cap s2 wr/\Pl.Iw (Pl.nd xs q).kids q i st s2/\(∀bb,W.heap.size<=bb->bb<W.heap.size+2->wr.heap[bb]?=U.heap[bb]?)) (fun v _=>vl-(intOf v).toNat)
  case atStart=>exact⟨0,st,Nat.zero_le _,rfl,HU.o,Pl.Iw.init _ _ _,fun _ _ _=>rfl⟩
  case round=>
   obtain⟨i,s2,hi,rfl,VP,hsk,hbl⟩:=hrel;have HTW:Hid (TT w a len cap s2 wr):=VP;have HSK:Hid (Pl.Iw (Pl.nd xs q).kids q i st s2):=hsk;have nJ:Hid (∀bb,W.heap.size<=bb->bb<W.heap.size+2->wr.heap[bb]?=U.heap[bb]?):=hbl;clear hbl;by_cases hlt:i<vl
   rotate_left
   ·obtain rfl:i=vl:=by omega
    have hin:¬((i:Int)<(i:Int)):=(by omega);have HSN:Hid (Pl.Kq xs len q s2):=HST.o.next HOR.o KN (by rw[xJ.o];exact HSK.o);clear VP hsk
    gi_wp2
    exact⟨nJ.o,s2,HTW.o,HSN.o,HDQ.o⟩
   obtain⟨k,hk,hkq⟩:=HKD.o i hlt;have hii:(i:Int)<(vl:Int):=(by omega);have hself:s2.getD q 0=z:=(by rw[HZ.o];exact hsk.self HOR.o KN (by rw[xJ.o];omega));have hl2:s2.length=len:=hsk.1.trans HSL.o;have t3:wr.cell? ⟨w.heap.size+1+1,0,none⟩=some (.slice (some ⟨w.heap.size+1,0,none⟩) len len):=cell_of_row wr _ 0 _ 43 (0,0) VP.box;have ts:=Sj VP.Tm (p:=q) (by omega);rw[hself]at ts;have tk:=Sj VP.Tm (p:=k) (by omega);have fk:wr.frozen? ⟨w.heap.size+1,k,none⟩=false:=frozen_of_row wr _ k _ 3 VP.Tm;have hkl:(k:Int)<(len:Int):=(by omega);obtain⟨b,off,hab,_,hb,hcz⟩:=(HKR.o.keep VP.jR).2.2.2.2.resolve_left (by omega);subst hab;have cz:=hcz i hlt;rw[hk]at cz;have hz2:(z:Int)<=200:=(by omega);have WQ:Hid (Pl.Iw (Pl.nd xs q).kids q (i+1) st (s2.set k (z+1))):=by
    have:=hsk.step hk (by omega) (by rw[hself,HZ.o]);rw[hself]at this;exact this
   have HTS:Hid (TT w a len cap (s2.set k (z+1)) (wr.setCell ⟨w.heap.size+1,k,none⟩ (.int .i64 ((z:Int)+1)))):=HTW.o.set k (z+1) _ (by omega);have HBS:Hid (∀bb,W.heap.size<=bb->bb<W.heap.size+2->(wr.setCell ⟨w.heap.size+1,k,none⟩ (.int .i64 ((z:Int)+1))).heap[bb]?=U.heap[bb]?):=fun bb h1 h2=>(heap_setCell_other wr ⟨w.heap.size+1,k,none⟩ bb _ (by show bb≠w.heap.size+1;have:=ZK.o;omega)).trans (nJ.o bb h1 h2);clear VP hsk hcz hk hself hl2 HKD HSK
   gi_wp2
   have PD:Hid (∀(v:Value) (bb:Nat),W.heap.size<=bb->bb<W.heap.size+2->(wr.setCell ⟨w.heap.size+1,k,none⟩ v).heap[bb]?=U.heap[bb]?):=fun v bb h1 h2=>(heap_setCell_other wr ⟨w.heap.size+1,k,none⟩ bb _ (by show bb≠w.heap.size+1;have:=ZK.o;omega)).trans (nJ.o bb h1 h2)
   gi_region
   all_goals (gi_wp2;go_roundw;(case rel=>exact⟨i+1,s2.set k (z+1),by omega,by first|rfl|go_num,(HTW.o.set k (z+1) _ (by first|exact wrap_small hz2|omega)).drew,WQ.o,fun bb h1 h2=>PD.o _ bb h1 h2⟩);(case measure=>simp[intOf];omega))
 case hdone=>
  rintro A ⟨st,VP,hst,hdp⟩ hD;have HU:Hid (TT w a len cap st A):=VP;have HD:Hid (A.heap[W.heap.size]?=some (.deferred (some []))):=hD;have f2:A.frozen? ⟨w.heap.size,0,none⟩=false:=frozen_of_row A _ 0 _ 4 VP.res;have t2:A.cell? ⟨w.heap.size,0,none⟩=some (.bool false):=cell_of_row A _ 0 _ 4 (0,0) VP.res;have HF:Hid (R=false):=ZJ.o fun c d h=>hdp c d (by omega) h;clear hdp;clear VP hst hD
  gi_wp2
  refine oU (lo:=w.heap.size) [W.heap.size] _ (by simp) (fun D hD=>?_) fun w' hs=>?_
  ·rcases List.mem_cons.1 hD with e|e
   ·subst e;refine⟨by have:=ZK.o;omega,?_⟩;rw[heap_setCell_other A ⟨w.heap.size,0,none⟩ _ _ (by show W.heap.size≠w.heap.size;have:=ZK.o;omega)];exact HD.o
   ·cases e
  ·have hres:(A.setCell ⟨w.heap.size,0,none⟩ (.bool false)).heap[w.heap.size]?=some (.cells #[.bool false] 4 (0,0)):=by
    rw[heap_setCell_same A w.heap.size 0 _ 4 _ HU.o.res];rfl
   exact⟨.bool false,(uR (p:=2) rfl rfl (HU.o.jR.setCell (Nat.le_refl _) _) hres hs).1,aC HF.o.symm,yN (HU.o.jR.setCell (Nat.le_refl _) _) hs⟩
 case hstop=>
  intro A hix hD;have Cq:Hid (TX w xs len A):=hix;have HD:Hid (A.heap[W.heap.size]?=some (.deferred (some []))):=hD;have HT:Hid (R=true):=by obtain⟨c,d,h1,h2⟩:=hix.deep;exact HYE.o c d h1 h2
  clear hix hD
  gi_wp2
  refine oU (lo:=w.heap.size) [W.heap.size] A (by simp) (fun D hD=>?_) fun w' hs=>?_
  ·rcases List.mem_cons.1 hD with e|e
   ·subst e;exact⟨by have:=ZK.o;omega,HD.o⟩
   ·cases e
  ·exact⟨.bool true,(uR (p:=2) rfl rfl Cq.o.jR Cq.o.res hs).1,aC HT.o.symm,yN Cq.o.jR hs⟩
end W
end Go.Proofs.YtjcdiegfnoaedaaGreatDoor
