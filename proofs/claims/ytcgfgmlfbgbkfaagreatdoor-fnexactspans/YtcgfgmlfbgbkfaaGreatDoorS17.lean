import Derived.Test.YtcgfgmlfbgbkfaaGreatDoorS10
import Derived.Test.YtcgfgmlfbgbkfaaGreatDoorS14
import Derived.Test.YtcgfgmlfbgbkfaaGreatDoorS16
import Derived.Test.YtcgfgmlfbgbkfaaGreatDoorS00
import Derived.Test.YtcgfgmlfbgbkfaaGreatDoorS02
import Derived.Laws.BytesString
import Derived.Laws.Cells
import Derived.BigQuiet
set_option linter.unusedVariables false
set_option linter.unusedSimpArgs false
set_option maxHeartbeats 16000000
namespace Go.Proofs.YtcgfgmlfbgbkfaaGreatDoor.Pl
theorem allW_head {ws:List Nat} {q:Nat} {rest:List Nat} (h:allW ws=q :: rest):inW ws q=true/\∀ m,inW ws m=true->q<=m:=by
 have hs:(allW ws).Pairwise (· < ·):=by unfold allW;exact List.Pairwise.filter _ List.pairwise_lt_range
 refine⟨(mem_allW ws q).1 (by rw[h];exact List.mem_cons_self),fun m hm=>?_⟩
 have hm2:=(mem_allW ws m).2 hm
 rw[h]at hs hm2
 rcases List.mem_cons.1 hm2 with e | e
 ·omega
 ·exact Nat.le_of_lt ((List.pairwise_cons.1 hs).1 m e)
theorem Bd.ofW {ws:List Nat} {P:Nat->Prop} {n:Nat} {z:Int} (hP:∀ i,inW ws i=true↔i<n/\P i) (hz:LastW ws (-1) z):Bd P n (firstW ws 0) z:=by
 rcases hz with ⟨h1,h2⟩ | ⟨b,h1,h2,h3⟩
 ·refine .inl ⟨h1,?_,fun i hi hp=>absurd ((hP i).2 ⟨hi,hp⟩) (by rw[h2 i];decide)⟩
  unfold firstW
  cases e:allW ws with
  | nil=>rfl
  | cons q rest=>exact absurd (allW_head e).1 (by rw[h2 q];decide)
 ·unfold firstW
  cases e:allW ws with
  | nil=>exact absurd ((mem_allW ws b).2 h2) (by rw[e];exact List.not_mem_nil)
  | cons q rest=>
   obtain⟨k1,k2⟩:=allW_head e
   exact .inr ⟨q,b,rfl,h1,((hP q).1 k1).1,((hP b).1 h2).1,((hP q).1 k1).2,((hP b).1 h2).2,fun i hi hp=>⟨k2 i ((hP i).2 ⟨hi,hp⟩),h3 i ((hP i).2 ⟨hi,hp⟩)⟩⟩
end Go.Proofs.YtcgfgmlfbgbkfaaGreatDoor.Pl
namespace Go.Proofs.YtcgfgmlfbgbkfaaGreatDoor.W
open Go.RowKit
def SpI (w:World) (f:Pl.IrF) (R:Nat) (e:Ending) (w':World):Prop:=∃ (go:Nat) (S:Nat->Pl.Sp),e=.returned (.slice (some ⟨go,0,none⟩) R R)/\w'.ownsRow w.heap.size 73 3 (.slice (some ⟨go,0,none⟩) R R) R (Pl.spV R S)/\(∀ r,r<R->Pl.SpanIs f r (S r))/\Below w.heap.size w w'
theorem nat_list (xs:List Int) (h:∀ x∈xs,0<=x):∃ ns:List Nat,xs=ns.map fun n:Nat=>(n:Int):=by
 refine⟨xs.map Int.toNat,?_⟩
 rw[List.map_map]
 conv=>lhs;rw[<- List.map_id xs]
 exact List.map_congr_left fun x hx=>by have:=h x hx;simp;omega
theorem set3_block {U:World} {b:Nat} {cs:Array Value} {t:TypeId} (h:U.heap[b]?=some (.cells cs t (0,0))) (o:Nat) (x y z:Value):(((U.setCell ⟨b,o,none⟩ x).setCell ⟨b,o+1,none⟩ y).setCell ⟨b,o+2,none⟩ z).heap[b]?=some (.cells (((cs.setIfInBounds o x).setIfInBounds (o+1) y).setIfInBounds (o+2) z) t (0,0)):=
 heap_setCell_same _ b (o+2) _ t _ (heap_setCell_same _ b (o+1) _ t _ (heap_setCell_same _ b o _ t _ h))
theorem set3_at {cs:Array Value} {r:Nat} {S:Nat->Pl.Sp} {fr tt:Int} {b:Bool} (hs:r*3+3<=cs.size) (h:∀ q,q<r->∀ j,j<3->cs[q*3+j]?=(S q).cells[j]?) {q j:Nat} (hq:q<r+1) (hj:j<3):(((cs.setIfInBounds (r*3) (.int .i64 fr)).setIfInBounds (r*3+1) (.int .i64 tt)).setIfInBounds (r*3+2) (.bool b))[q*3+j]?=(Pl.Sp.cells (if q=r then ⟨fr,tt,b⟩ else S q))[j]?:=by
 by_cases e:q=r
 ·subst e
  rw[if_pos rfl]
  rcases (show j=0\/j=1\/j=2 by omega) with rfl | rfl | rfl
  ·rw[Array.getElem?_setIfInBounds_ne (by omega),Array.getElem?_setIfInBounds_ne (by omega),Nat.add_zero,Array.getElem?_setIfInBounds_self_of_lt (by omega)];rfl
  ·rw[Array.getElem?_setIfInBounds_ne (by omega),Array.getElem?_setIfInBounds_self_of_lt (by simp;omega)];rfl
  ·rw[Array.getElem?_setIfInBounds_self_of_lt (by simp;omega)];rfl
 ·rw[if_neg e,Array.getElem?_setIfInBounds_ne (by omega),Array.getElem?_setIfInBounds_ne (by omega),Array.getElem?_setIfInBounds_ne (by omega)]
  exact h q (by omega) j hj
set_option maxRecDepth 100000 in
theorem spans_is (w:World) (gr g n c R:Nat) (f:Pl.IrF) (Y:Nat->SV) (hlen:f.code.length=n) (c5:w.cell? ⟨gr,5,none⟩=some (.slice (some ⟨g,0,none⟩) n c)) (c1:w.cell? ⟨gr,1,none⟩=some (.int .i64 f.params)) (c2:w.cell? ⟨gr,2,none⟩=some (.int .i64 (R:Int))) (hg:g<w.heap.size) (cz:∀ i,i<n->w.cell? ⟨g,i,none⟩=some (stV (f.code.getD i Pl.IrI.zero).op.toNat (f.code.getD i Pl.IrI.zero) (Y i))) (ho:∀ i,i<n->1<=(f.code.getD i Pl.IrI.zero).op/\(f.code.getD i Pl.IrI.zero).op<=16) (hn:1<=n/\n<=8000) (hR:R<=2000) (hT:TabT w)
  (hNL:∀ u,Below w.heap.size w u->Calls Tryz.prog 62 #[.pointer (some ⟨gr,0,none⟩)] u fun e u'=>∃ (gl gb gs gu gt:Nat) (B U S:Gd) (ss:List Int) (T:Nat->Nat),e=.returned (.pointer (some ⟨gl,0,none⟩))/\Lv u u' gl gb gs gu gt n R B U S ss T/\LvF f.code n B U S ss) :
  Calls Tryz.prog 41 #[.pointer (some ⟨gr,0,none⟩)] w fun e w'=>SpI w f R e w':=by
 have hgr:=block_lt_of_cell c5
 have hTl:=block_lt_of_cell (hT 0 (by decide))
 have HNL:Hid _:=hNL
 have HCP:Hid (∀ u,Below w.heap.size w u->Calls Tryz.prog 71 #[.pointer (some ⟨gr,0,none⟩)] u fun e u'=>CpSaid u f.code e u'):=fun u hu=>callPlaces_is gr g n c f.code Y u hlen.symm hn.2 (Nat.lt_of_lt_of_le hgr hu.size) (Nat.lt_of_lt_of_le hg hu.size) ((hu.cell (p:=⟨gr,5,none⟩) hgr).trans c5) (fun i hi=>(hu.cell (p:=⟨g,i,none⟩) hg).trans (cz i hi)) ho
 have HNE:Hid (n=f.code.length):=hlen.symm
 have HC:Hid (∀ u,Below w.heap.size w u->u.cell? ⟨gr,1,none⟩=some (.int .i64 f.params)/\u.cell? ⟨gr,2,none⟩=some (.int .i64 (R:Int))/\TabT u):=fun u hu=>⟨(hu.cell (p:=⟨gr,1,none⟩) hgr).trans c1,(hu.cell (p:=⟨gr,2,none⟩) hgr).trans c2,hT.keep hTl hu⟩
 obtain⟨i0,hi0,hz0,hz1,hz2⟩:=info_parts Tryz.infospanL
 have hmk:∀ u:World,(Instr.makeSlice 38 (.int .i64 (R:Int)) (.int .i64 (R:Int))).run Tryz.prog u=.ok (.slice (some ⟨u.heap.size,0,none⟩) R R) (u.alloc (.cells (madeCells (Value.agg #[.int .i64 0,.int .i64 0,.bool false]).cells (R*3)) 73)):=fun u=>by
  have:=run_makeSlice u 38 73 i0 _ Tryz.underlying38 hi0 hz0 .i64 .i64 (R:Int) (R:Int) (by omega) (by omega) (by rw[hz1];simp;omega) (by rw[hz2];omega) (by omega)
  rw[hz1]at this
  simpa using this
 obtain⟨cs0,hcs0⟩:∃ cs,cs=madeCells (Value.agg #[.int .i64 0,.int .i64 0,.bool false]).cells (R*3):=⟨_,rfl⟩
 have HCS:Hid (cs0.size=R*3):=by rw[hcs0];exact size_madeCells _ _
 rw[<- hcs0]at hmk
 clear hcs0 hi0 hz0 hz1 hz2 c5 c1 c2 cz ho hT hNL hlen hTl hg
 go_enter Tryz.func41,Tryz.ntmps41
 go_wp2_with fail
 refine (HNL.out w (Below.refl _ _)).mono ?_
 rintro e u1 ⟨gl,gb,gs,gu,gt,B,U,S0,ss,T,rfl,hLv,hLF⟩
 have H1:Hid (Lv w u1 gl gb gs gu gt n R B U S0 ss T/\LvF f.code n B U S0 ss):=⟨hLv,hLF⟩
 clear hLv hLF HNL
 go_wp2_with fail
 refine (HCP.out u1 H1.out.1.bel).mono ?_
 rintro e U2 ⟨xs,gc,m,cc,rfl,hm,hmn,oc,hcl,d2⟩
 have HCL:Hid (m=xs.length/\(∀ i,i<m->U2.cell? ⟨gc,i,none⟩=some (.int .i64 (xs.getD i 0)))/\Pl.CallL f.code xs/\gc<U2.heap.size):=by
  refine⟨hm,fun i hi=>?_,hcl,(oc.lt gc rfl).2⟩
  rw[oc.cellAt i (by omega),List.getElem?_map,List.getD_eq_getElem?_getD,List.getElem?_eq_getElem (by omega)];rfl
 have H2:Hid (Lv w U2 gl gb gs gu gt n R B U S0 ss T/\LvF f.code n B U S0 ss/\Below w.heap.size w U2):=⟨H1.out.1.later d2,H1.out.2,H1.out.1.bel.trans (d2.mono H1.out.1.bel.size)⟩
 have hmn2:m<=8000:=by have:=HNE.out;omega
 obtain⟨a1,a2,_⟩:=HC.out U2 H2.out.2.2
 have hgr2:gr<U2.heap.size:=Nat.lt_of_lt_of_le hgr H2.out.2.2.size
 clear oc hcl d2 hm hmn H1 HCP
 go_wp2_with fail
 clear a1 a2
 go_loopw [22] (fun t X=>∃ r:Nat,r<=R/\t=.int .i64 (r:Int)/\Hid (∃ (cs:Array Value) (S:Nat->Pl.Sp),Below U2.heap.size U2 X/\X.heap[U2.heap.size]?=some (.cells cs 73 (0,0))/\cs.size=R*3/\(∀ q,q<r->∀ j,j<3->cs[q*3+j]?=(S q).cells[j]?)/\∀ q,q<r->Pl.SpanIs f q (S q))) (fun t _=>R-(intOf t).toNat)
 case atStart=>exact⟨0,Nat.zero_le _,rfl,cs0,fun _=>⟨0,0,false⟩,below_alloc U2 _,heap_alloc_new U2 _,HCS.out,fun q hq=>absurd hq (Nat.not_lt_zero _),fun q hq=>absurd hq (Nat.not_lt_zero _)⟩
 case round=>
  rename World=>X
  obtain⟨r,hrR,rfl,SX⟩:=hrel
  obtain⟨cs,S,hB,hblk,hcs,hdone,hsp⟩:=SX.out
  have HX:Hid (Below U2.heap.size U2 X/\X.heap[U2.heap.size]?=some (.cells cs 73 (0,0))/\cs.size=R*3/\(∀ q,q<r->∀ j,j<3->cs[q*3+j]?=(S q).cells[j]?)/\∀ q,q<r->Pl.SpanIs f q (S q)):=⟨hB,hblk,hcs,hdone,hsp⟩
  have hgX:U2.heap.size<X.heap.size:=(Array.getElem?_eq_some_iff.1 hblk).1
  clear SX hB hblk hcs hdone hsp
  by_cases hlt:r<R
  rotate_left
  ·have hri:¬ (r:Int)<(R:Int):=by omega
   have hre:r=R:=by omega
   have HE:Hid (SpI w f R (.returned (.slice (some ⟨U2.heap.size,0,none⟩) R R)) X):=by
    subst hre
    obtain⟨q1,q2,q3,q4,q5⟩:=HX.out
    refine⟨U2.heap.size,S,rfl,⟨Pl.spV_len r S,.inr ⟨U2.heap.size,r,cs,rfl,H2.out.2.2.size,q2,Nat.le_refl _,by unfold maxLen;omega,q3,?_⟩⟩,q5,H2.out.2.2.trans (q1.mono H2.out.2.2.size)⟩
    refine List.ext_getElem? fun i=>?_
    by_cases hi:i<r*3
    ·rw[List.getElem?_take_of_lt hi]
     have:=q4 (i / 3) (by omega) (i % 3) (by omega)
     rw[show i / 3*3+i % 3=i by omega]at this
     have h2:=Pl.spV_at S (r:=i / 3) (j:=i % 3) (n:=r) (by omega) (by omega)
     rw[show i / 3*3+i % 3=i by omega]at h2
     rw[h2,<- this];simp
    ·rw[List.getElem?_eq_none (by simp;omega),List.getElem?_eq_none (by rw[Pl.spV_len];omega)]
   clear hre
   go_wp2_with fail
   go_ret
   exact HE.out
  have hri:(r:Int)<(R:Int):=by omega
  obtain⟨k,hk⟩:∃ k,k=(n+63) / 64:=⟨_,rfl⟩
  have hk9:k<=1000:=by omega
  have hk0:0<k:=by omega
  have HLA:Hid (Calls Tryz.prog 63 #[.pointer (some ⟨gl,0,none⟩),.int .i64 (r:Int)] X fun e w'=>∃ ws,e=.returned (.slice (some ⟨X.heap.size,0,none⟩) k k)/\w'.ownsRow X.heap.size 110 1 (.slice (some ⟨X.heap.size,0,none⟩) k k) k (Pl.wsV ws)/\Pl.smallW ws/\ws.length=k/\(∀ q,Pl.inW ws q=true↔Pl.Live f.code (r:Int) q)/\Below X.heap.size X w'):=by
   have:=liveAt_is (H2.out.1.later HX.out.1) f.code HNE.out.symm H2.out.2.1 hn r hlt hR
   unfold LaSaid at this
   rw[<- hk]at this
   exact this
  have HK:Hid (k=(n+63) / 64):=hk
  clear hk
  go_wp2_with fail
  refine (HLA.out).mono ?_
  rintro e u1 ⟨ws,rfl,o1,sm1,ln1,lv1,b1⟩
  have HU1:Hid (u1.ownsRow X.heap.size 110 1 (.slice (some ⟨X.heap.size,0,none⟩) k k) k (Pl.wsV ws)/\Pl.smallW ws/\ws.length=k/\(∀ q,Pl.inW ws q=true↔Pl.Live f.code (r:Int) q)/\Below X.heap.size X u1/\Below U2.heap.size U2 u1):=⟨o1,sm1,ln1,lv1,b1,HX.out.1.trans (b1.mono (by omega))⟩
  have HHA:Hid (Calls Tryz.prog 72 #[.slice (some ⟨X.heap.size,0,none⟩) k k,.int .i64 0] u1 fun e w'=>e=.returned (.bool (Pl.inW ws 0))/\w'=u1):=hasS_is X.heap.size k k 0 ws u1 o1 sm1 ln1 (by omega) (by omega)
  clear o1 sm1 ln1 lv1 b1 HLA
  have hbw:Below w.heap.size w u1:=H2.out.2.2.trans (HU1.out.2.2.2.2.2.mono H2.out.2.2.size)
  obtain⟨a1,a2,_⟩:=HC.out u1 hbw
  have hL1:=H2.out.1.later HU1.out.2.2.2.2.2
  have d3:u1.cell? ⟨gl,3,none⟩=some (.slice (some ⟨gt,0,none⟩) R R):=hL1.cell 3
  obtain⟨ns,hns⟩:=nat_list (S0.N r) (fun x hx=>by
   rcases (((H2.out.2.1.s r).2 x).1 hx) with ⟨p,e,_⟩ | ⟨_,q⟩
   ·omega
   ·cases q)
  obtain⟨ad,had⟩:∃ a,a=S0.A r:=⟨_,rfl⟩
  obtain⟨cd,hcd⟩:∃ c,c=S0.C r:=⟨_,rfl⟩
  obtain⟨ln,hln⟩:∃ l,l=(S0.N r).length:=⟨_,rfl⟩
  have dr:u1.cell? ⟨gt,r,none⟩=some (.slice ad ln cd):=by rw[had,hcd,hln,<- Gd.len_L];exact hL1.rt.cell hlt
  have hlnb:ln<=8000:=by rw[hln];have:=(H2.out.2.1.s r).1;omega
  have HNS:Hid (∀ q:Nat,q∈ns↔q<n/\Pl.Se f.code q (r:Int)):=fun q=>by
   have h1:=(H2.out.2.1.s r).2 (q:Int)
   rw[hns]at h1
   constructor
   ·intro hq
    rcases h1.1 (List.mem_map.2 ⟨q,hq,rfl⟩) with ⟨p,e,h2,h3⟩ | ⟨_,c⟩
    ·obtain rfl:q=p:=by omega
     exact⟨h2,h3⟩
    ·cases c
   ·rintro⟨h2,h3⟩
    obtain⟨q2,h4,h5⟩:=List.mem_map.1 (h1.2 (.inl ⟨q,rfl,h2,h3⟩))
    obtain rfl:q2=q:=by omega
    exact h4
  have HPU:Hid (Calls Tryz.prog 73 #[.slice (some ⟨X.heap.size,0,none⟩) k k,.slice ad ln cd] u1 fun e w'=>(∃ v,e=.returned v)/\w'.ownsRow X.heap.size 110 1 (.slice (some ⟨X.heap.size,0,none⟩) k k) k (Pl.wsV (Pl.putsW ws ns))/\OnlyG X.heap.size u1 w'):=by
   have hr0:=hL1.rt.nr r hlt
   have hr2:=(H2.out.1.rt.nr r hlt)
   rw[Gd.len_L,<- had,<- hcd,<- hln]at hr0 hr2
   have hlen2:ns.length=ln:=by rw[hln,hns];simp
   refine putS_is (lo':=0) X.heap.size k k ws ad ln cd ns u1 HU1.out.1 HU1.out.2.1 HU1.out.2.2.1 (fun q hq=>by have:=((HNS.out q).1 hq).1;have:=HK.out;omega) (by omega) ?_ (fun b off e=>?_)
   ·rcases hr0.2 with ⟨e1,e2⟩ | ⟨g',cap',cur,e1,e2,e3,e4,e5,e6,e7⟩
    ·injection e1 with z1 z2 z3
     exact⟨by simp;exact hlen2,by omega,by rw[z3];exact Nat.zero_le _,(fun q hq=>by rw[List.length_eq_zero_iff.1 (show ns.length=0 by omega)]at hq;cases hq),.inl e2⟩
    ·injection e1 with z1 z2 z3
     refine⟨by simp;exact hlen2,by omega,by omega,fun q hq=>?_,.inr ⟨g',0,z1,Nat.zero_le _,(hr0.lt g' (by rw[z1];rfl)).2,fun i hi=>?_⟩⟩
     ·obtain⟨q2,h1,rfl⟩:=List.mem_map.1 hq
      have:=((HNS.out q2).1 h1).1
      have h0:(0:Int)<=(q2:Int)/\(q2:Int)<=8000:=by omega
      simp[Lit.wf,IntKind.min,IntKind.max,IntKind.signed,IntKind.bits]
      omega
     ·rw[Nat.zero_add]
      have hr3:=hr0
      rw[z1]at hr3
      rw[hr3.cellAt i (by omega),Gd.L,hns,List.map_map,List.getElem?_map,List.getD_eq_getElem?_getD,List.getElem?_map,List.getElem?_eq_getElem (by omega)];rfl
   ·have:=(hr2.lt b (by rw[e];rfl)).2
    omega
  have HPP:Hid (∀ i,Pl.inW (Pl.putsW ws ns) i=true↔i<n/\Pl.Sd f.code (r:Int) i):=fun i=>by
   rw[Pl.inW_puts ws ns i (fun q hq=>by have:=((HNS.out q).1 hq).1;have:=HK.out;have:=HU1.out.2.2.1;omega),HU1.out.2.2.2.1 i,HNS.out i]
   unfold Pl.Sd
   constructor
   ·rintro (h1 | h1)
    ·exact⟨by have:=h1.lt;have:=HNE.out;omega,.inl h1⟩
    ·exact⟨h1.1,.inr h1.2⟩
   ·rintro⟨h1,h2 | h2⟩
    ·exact .inl h2
    ·exact .inr ⟨h1,h2⟩
  obtain⟨ps,hps⟩:∃ ps,ps=Pl.putsW ws ns:=⟨_,rfl⟩
  have HPS:Hid (Pl.smallW ps/\ps.length=k):=by rw[hps];exact⟨HU1.out.2.1.puts ns,(Pl.putsW_len ws ns).trans HU1.out.2.2.1⟩
  rw[<- hps]at HPU HPP
  have HG0:Hid (Pl.inW ws 0=true↔Pl.Live f.code (r:Int) 0):=HU1.out.2.2.2.1 0
  obtain⟨gv,hgv⟩:∃ gv,gv=Pl.inW ws 0:=⟨_,rfl⟩
  rw[<- hgv]at HG0 HHA
  clear hps hgv
  clear hns had hcd hln hbw hL1
  by_cases hp:(r:Int)<f.params
  ·cases gv with
   | true=>
    go_wp2_with fail
    refine (HHA.out).mono ?_
    rintro e w1 ⟨rfl,hw1⟩
    rw[hw1]
    clear hw1 w1 HHA
    go_wp2_with fail
    refine (HPU.out).mono ?_
    rintro e u2 ⟨⟨vx,rfl⟩,o2,g2⟩
    have HU2:Hid (u2.ownsRow X.heap.size 110 1 (.slice (some ⟨X.heap.size,0,none⟩) k k) k (Pl.wsV ps)/\Below U2.heap.size U2 u2/\u2.heap[U2.heap.size]?=X.heap[U2.heap.size]?):=⟨o2,HU1.out.2.2.2.2.2.trans (g2.below (by omega)),(g2.block _ (by omega)).trans (HU1.out.2.2.2.2.1.block _ hgX)⟩
    clear o2 g2 HPU a1 a2 d3 dr
    have hbw2:Below w.heap.size w u2:=H2.out.2.2.trans (HU2.out.2.1.mono H2.out.2.2.size)
    have hT2:=(HC.out u2 hbw2).2.2
    go_wp2_with fail
    refine (first_is X.heap.size k k ps HPS.out.1 HPS.out.2 hk9 0 u2 HU2.out.1 hT2 (block_lt_of_cell (hT2 0 (by decide)))).mono ?_
    rintro e u3 ⟨rfl,d3⟩
    obtain⟨fr0,hfr0⟩:∃ fr0,fr0=Pl.firstW ps 0:=⟨_,rfl⟩
    have HFR:Hid (fr0=Pl.firstW ps 0):=hfr0
    rw[<- hfr0]
    have HU3:Hid (u3.ownsRow X.heap.size 110 1 (.slice (some ⟨X.heap.size,0,none⟩) k k) k (Pl.wsV ps)/\Below U2.heap.size U2 u3/\u3.heap[U2.heap.size]?=X.heap[U2.heap.size]?):=⟨own_eqL HU2.out.1 fun g hg=>d3.block g (HU2.out.1.lt g hg).2,HU2.out.2.1.trans (d3.mono HU2.out.2.1.size),(d3.block _ (by have:=(HU2.out.1.lt X.heap.size rfl).2;omega)).trans HU2.out.2.2⟩
    have hT3:=hT2.keep (block_lt_of_cell (hT2 0 (by decide))) d3
    clear d3 hT2 hbw2 hfr0
    go_wp2_with fail
    refine (last_is X.heap.size k k ps HPS.out.1 HPS.out.2 hk9 (-1) u3 HU3.out.1 hT3 (block_lt_of_cell (hT3 0 (by decide)))).mono ?_
    rintro e u4 ⟨tt,rfl,hlast,d4⟩
    have HBD:Hid (Pl.Bd (Pl.Sd f.code (r:Int)) n fr0 tt):=by rw[HFR.out];exact Pl.Bd.ofW HPP.out hlast
    have hbd:=HBD.out.bound
    have HU4:Hid (Below U2.heap.size U2 u4/\u4.heap[U2.heap.size]?=X.heap[U2.heap.size]?):=⟨HU3.out.2.1.trans (d4.mono HU3.out.2.1.size),(d4.block _ (by have:=(HU3.out.1.lt X.heap.size rfl).2;omega)).trans HU3.out.2.2⟩
    have hU4:U2.heap.size<u4.heap.size:=by have:=(HU3.out.1.lt X.heap.size rfl).2;have:=d4.size;omega
    have HGI:Hid ((-1)=(open Classical in if (r:Int)<f.params/\Pl.Live f.code (r:Int) 0 then -1 else fr0)):=by show (-1:Int)=_;rw[if_pos ⟨hp,HG0.out.1 (by trivial)⟩]
    clear d4 hlast hT3 HU3 HU2
    go_wp2_with fail
    obtain⟨y4,hy4⟩:∃ y4,y4=u4.alloc (.cells #[.int .i64 (-1),.int .i64 tt,.bool false] 73):=⟨_,rfl⟩
    rw[<- hy4]
    have H4:Hid (Below U2.heap.size U2 y4/\y4.heap[u4.heap.size]?=some (.cells #[.int .i64 (-1),.int .i64 tt,.bool false] 73 (0,0))/\y4.heap[U2.heap.size]?=X.heap[U2.heap.size]?/\u4.heap.size<y4.heap.size):=by
     rw[hy4]
     exact⟨HU4.out.1.alloc HU4.out.1.size _,heap_alloc_new u4 _,((below_alloc u4 _).block _ (by omega)).trans HU4.out.2,by simp⟩
    clear hy4
    refine (crosses_is gc m cc xs (-1) tt false y4 HCL.out.1 (by omega) (fun i hi=>(H4.out.1.cell (p:=⟨gc,i,none⟩) HCL.out.2.2.2).trans (HCL.out.2.1 i hi)) (Nat.lt_of_lt_of_le HCL.out.2.2.2 H4.out.1.size) (fun i j hij hj=>HCL.out.2.2.1.asc i j hij (by rw[<- HCL.out.1];exact hj)) (by omega) (by omega)).mono ?_
    rintro e u5 ⟨⟨kq,b,rfl,hk1,hk2,hk3,hk4⟩,d5⟩
    have HSP:Hid (Pl.SpanIs f r ⟨(-1),tt,b⟩):=by
     refine⟨fr0,by rw[<- HNE.out];exact HBD.out,HGI.out,?_⟩
     have e1:=HCL.out.1
     exact HCL.out.2.2.1.crs (by rw[<- e1];exact hk1) (show tt<=(f.code.length:Int) by have:=HNE.out;omega) hk2 (fun i h1 h2=>hk3 i h1 (by omega)) b (hk4.trans (by rw[e1]))
    have H5:Hid (Below U2.heap.size U2 (u5.setCell ⟨u4.heap.size,2,none⟩ (.bool b))/\(u5.setCell ⟨u4.heap.size,2,none⟩ (.bool b)).heap[u4.heap.size]?=some (.cells #[.int .i64 (-1),.int .i64 tt,.bool b] 73 (0,0))/\(u5.setCell ⟨u4.heap.size,2,none⟩ (.bool b)).heap[U2.heap.size]?=some (.cells cs 73 (0,0))):=by
     have hb5:=(d5.block _ H4.out.2.2.2).trans H4.out.2.1
     refine⟨(H4.out.1.trans (d5.mono H4.out.1.size)).setCell HU4.out.1.size _,bx2 hb5,?_⟩
     rw[heap_setCell_other _ ⟨u4.heap.size,2,none⟩ _ _ (show U2.heap.size≠u4.heap.size by omega),d5.block _ (by have:=H4.out.2.2.2;omega),H4.out.2.2.1]
     exact HX.out.2.1
    have hbx5:u5.heap[u4.heap.size]?=some (.cells #[.int .i64 (-1),.int .i64 tt,.bool false] 73 (0,0)):=(d5.block _ H4.out.2.2.2).trans H4.out.2.1
    have w0:u5.cell? ⟨u4.heap.size,0,none⟩=some (.int .i64 ((-1))):=by rw[cell_of_row u5 _ 0 _ _ (0,0) hbx5];rfl
    have w1:u5.cell? ⟨u4.heap.size,1,none⟩=some (.int .i64 tt):=by rw[cell_of_row u5 _ 1 _ _ (0,0) hbx5];rfl
    have w2:u5.cell? ⟨u4.heap.size,2,none⟩=some (.bool false):=by rw[cell_of_row u5 _ 2 _ _ (0,0) hbx5];rfl
    have w3:∀ q,u5.frozen? ⟨u4.heap.size,q,none⟩=false:=fun q=>frozen_of_row u5 _ q _ _ hbx5
    have hgs5:u5.heap[U2.heap.size]?=some (.cells cs 73 (0,0)):=by rw[d5.block _ (by have:=H4.out.2.2.2;omega),H4.out.2.2.1];exact HX.out.2.1
    obtain⟨v0,hv0⟩:∃ v,u5.cell? ⟨U2.heap.size,r*3,none⟩=some v:=by rw[cell_of_row u5 _ (r*3) _ _ (0,0) hgs5];exact⟨_,Array.getElem?_eq_getElem (by have:=HX.out.2.2.1;omega)⟩
    obtain⟨v1,hv1⟩:∃ v,u5.cell? ⟨U2.heap.size,r*3+1,none⟩=some v:=by rw[cell_of_row u5 _ (r*3+1) _ _ (0,0) hgs5];exact⟨_,Array.getElem?_eq_getElem (by have:=HX.out.2.2.1;omega)⟩
    obtain⟨v4,hv4⟩:∃ v,u5.cell? ⟨U2.heap.size,r*3+2,none⟩=some v:=by rw[cell_of_row u5 _ (r*3+2) _ _ (0,0) hgs5];exact⟨_,Array.getElem?_eq_getElem (by have:=HX.out.2.2.1;omega)⟩
    have fz5:∀ q,u5.frozen? ⟨U2.heap.size,q,none⟩=false:=fun q=>frozen_of_row u5 _ q _ _ hgs5
    have hne5:¬ U2.heap.size=u4.heap.size:=by omega
    have hne6:¬ u4.heap.size=U2.heap.size:=by omega
    clear hbx5 hgs5 d5 hk1 hk2 hk3 hk4
    go_wp2_with fail
    refine⟨⟨r+1,by omega,by go_num,((cs.setIfInBounds (r*3) (.int .i64 ((-1)))).setIfInBounds (r*3+1) (.int .i64 tt)).setIfInBounds (r*3+2) (.bool b),fun q=>if q=r then ⟨(-1),tt,b⟩ else S q,((H5.out.1.setCell (Nat.le_refl _) _).setCell (Nat.le_refl _) _).setCell (Nat.le_refl _) _,set3_block H5.out.2.2 _ _ _ _,by simp;exact HX.out.2.2.1,fun q hq j hj=>?_,fun q hq=>?_⟩,by simp[intOf];omega⟩
    ·exact set3_at (by have:=HX.out.2.2.1;omega) (HX.out.2.2.2.1) hq hj
    ·show Pl.SpanIs f q (if q=r then _ else S q)
     by_cases e:q=r
     ·subst e;rw[if_pos rfl];exact HSP.out
     ·rw[if_neg e];exact HX.out.2.2.2.2 q (by omega)
   | false=>
    go_wp2_with fail
    refine (HHA.out).mono ?_
    rintro e w1 ⟨rfl,hw1⟩
    rw[hw1]
    clear hw1 w1 HHA
    go_wp2_with fail
    refine (HPU.out).mono ?_
    rintro e u2 ⟨⟨vx,rfl⟩,o2,g2⟩
    have HU2:Hid (u2.ownsRow X.heap.size 110 1 (.slice (some ⟨X.heap.size,0,none⟩) k k) k (Pl.wsV ps)/\Below U2.heap.size U2 u2/\u2.heap[U2.heap.size]?=X.heap[U2.heap.size]?):=⟨o2,HU1.out.2.2.2.2.2.trans (g2.below (by omega)),(g2.block _ (by omega)).trans (HU1.out.2.2.2.2.1.block _ hgX)⟩
    clear o2 g2 HPU a1 a2 d3 dr
    have hbw2:Below w.heap.size w u2:=H2.out.2.2.trans (HU2.out.2.1.mono H2.out.2.2.size)
    have hT2:=(HC.out u2 hbw2).2.2
    go_wp2_with fail
    refine (first_is X.heap.size k k ps HPS.out.1 HPS.out.2 hk9 0 u2 HU2.out.1 hT2 (block_lt_of_cell (hT2 0 (by decide)))).mono ?_
    rintro e u3 ⟨rfl,d3⟩
    obtain⟨fr0,hfr0⟩:∃ fr0,fr0=Pl.firstW ps 0:=⟨_,rfl⟩
    have HFR:Hid (fr0=Pl.firstW ps 0):=hfr0
    rw[<- hfr0]
    have HU3:Hid (u3.ownsRow X.heap.size 110 1 (.slice (some ⟨X.heap.size,0,none⟩) k k) k (Pl.wsV ps)/\Below U2.heap.size U2 u3/\u3.heap[U2.heap.size]?=X.heap[U2.heap.size]?):=⟨own_eqL HU2.out.1 fun g hg=>d3.block g (HU2.out.1.lt g hg).2,HU2.out.2.1.trans (d3.mono HU2.out.2.1.size),(d3.block _ (by have:=(HU2.out.1.lt X.heap.size rfl).2;omega)).trans HU2.out.2.2⟩
    have hT3:=hT2.keep (block_lt_of_cell (hT2 0 (by decide))) d3
    clear d3 hT2 hbw2 hfr0
    go_wp2_with fail
    refine (last_is X.heap.size k k ps HPS.out.1 HPS.out.2 hk9 (-1) u3 HU3.out.1 hT3 (block_lt_of_cell (hT3 0 (by decide)))).mono ?_
    rintro e u4 ⟨tt,rfl,hlast,d4⟩
    have HBD:Hid (Pl.Bd (Pl.Sd f.code (r:Int)) n fr0 tt):=by rw[HFR.out];exact Pl.Bd.ofW HPP.out hlast
    have hbd:=HBD.out.bound
    have HU4:Hid (Below U2.heap.size U2 u4/\u4.heap[U2.heap.size]?=X.heap[U2.heap.size]?):=⟨HU3.out.2.1.trans (d4.mono HU3.out.2.1.size),(d4.block _ (by have:=(HU3.out.1.lt X.heap.size rfl).2;omega)).trans HU3.out.2.2⟩
    have hU4:U2.heap.size<u4.heap.size:=by have:=(HU3.out.1.lt X.heap.size rfl).2;have:=d4.size;omega
    have HGI:Hid (fr0=(open Classical in if (r:Int)<f.params/\Pl.Live f.code (r:Int) 0 then -1 else fr0)):=by show fr0=_;rw[if_neg (fun c=>absurd (HG0.out.2 c.2) (by decide))]
    clear d4 hlast hT3 HU3 HU2
    go_wp2_with fail
    obtain⟨y4,hy4⟩:∃ y4,y4=u4.alloc (.cells #[.int .i64 fr0,.int .i64 tt,.bool false] 73):=⟨_,rfl⟩
    rw[<- hy4]
    have H4:Hid (Below U2.heap.size U2 y4/\y4.heap[u4.heap.size]?=some (.cells #[.int .i64 fr0,.int .i64 tt,.bool false] 73 (0,0))/\y4.heap[U2.heap.size]?=X.heap[U2.heap.size]?/\u4.heap.size<y4.heap.size):=by
     rw[hy4]
     exact⟨HU4.out.1.alloc HU4.out.1.size _,heap_alloc_new u4 _,((below_alloc u4 _).block _ (by omega)).trans HU4.out.2,by simp⟩
    clear hy4
    refine (crosses_is gc m cc xs fr0 tt false y4 HCL.out.1 (by omega) (fun i hi=>(H4.out.1.cell (p:=⟨gc,i,none⟩) HCL.out.2.2.2).trans (HCL.out.2.1 i hi)) (Nat.lt_of_lt_of_le HCL.out.2.2.2 H4.out.1.size) (fun i j hij hj=>HCL.out.2.2.1.asc i j hij (by rw[<- HCL.out.1];exact hj)) (by omega) (by omega)).mono ?_
    rintro e u5 ⟨⟨kq,b,rfl,hk1,hk2,hk3,hk4⟩,d5⟩
    have HSP:Hid (Pl.SpanIs f r ⟨fr0,tt,b⟩):=by
     refine⟨fr0,by rw[<- HNE.out];exact HBD.out,HGI.out,?_⟩
     have e1:=HCL.out.1
     exact HCL.out.2.2.1.crs (by rw[<- e1];exact hk1) (show tt<=(f.code.length:Int) by have:=HNE.out;omega) hk2 (fun i h1 h2=>hk3 i h1 (by omega)) b (hk4.trans (by rw[e1]))
    have H5:Hid (Below U2.heap.size U2 (u5.setCell ⟨u4.heap.size,2,none⟩ (.bool b))/\(u5.setCell ⟨u4.heap.size,2,none⟩ (.bool b)).heap[u4.heap.size]?=some (.cells #[.int .i64 fr0,.int .i64 tt,.bool b] 73 (0,0))/\(u5.setCell ⟨u4.heap.size,2,none⟩ (.bool b)).heap[U2.heap.size]?=some (.cells cs 73 (0,0))):=by
     have hb5:=(d5.block _ H4.out.2.2.2).trans H4.out.2.1
     refine⟨(H4.out.1.trans (d5.mono H4.out.1.size)).setCell HU4.out.1.size _,bx2 hb5,?_⟩
     rw[heap_setCell_other _ ⟨u4.heap.size,2,none⟩ _ _ (show U2.heap.size≠u4.heap.size by omega),d5.block _ (by have:=H4.out.2.2.2;omega),H4.out.2.2.1]
     exact HX.out.2.1
    have hbx5:u5.heap[u4.heap.size]?=some (.cells #[.int .i64 fr0,.int .i64 tt,.bool false] 73 (0,0)):=(d5.block _ H4.out.2.2.2).trans H4.out.2.1
    have w0:u5.cell? ⟨u4.heap.size,0,none⟩=some (.int .i64 (fr0)):=by rw[cell_of_row u5 _ 0 _ _ (0,0) hbx5];rfl
    have w1:u5.cell? ⟨u4.heap.size,1,none⟩=some (.int .i64 tt):=by rw[cell_of_row u5 _ 1 _ _ (0,0) hbx5];rfl
    have w2:u5.cell? ⟨u4.heap.size,2,none⟩=some (.bool false):=by rw[cell_of_row u5 _ 2 _ _ (0,0) hbx5];rfl
    have w3:∀ q,u5.frozen? ⟨u4.heap.size,q,none⟩=false:=fun q=>frozen_of_row u5 _ q _ _ hbx5
    have hgs5:u5.heap[U2.heap.size]?=some (.cells cs 73 (0,0)):=by rw[d5.block _ (by have:=H4.out.2.2.2;omega),H4.out.2.2.1];exact HX.out.2.1
    obtain⟨v0,hv0⟩:∃ v,u5.cell? ⟨U2.heap.size,r*3,none⟩=some v:=by rw[cell_of_row u5 _ (r*3) _ _ (0,0) hgs5];exact⟨_,Array.getElem?_eq_getElem (by have:=HX.out.2.2.1;omega)⟩
    obtain⟨v1,hv1⟩:∃ v,u5.cell? ⟨U2.heap.size,r*3+1,none⟩=some v:=by rw[cell_of_row u5 _ (r*3+1) _ _ (0,0) hgs5];exact⟨_,Array.getElem?_eq_getElem (by have:=HX.out.2.2.1;omega)⟩
    obtain⟨v4,hv4⟩:∃ v,u5.cell? ⟨U2.heap.size,r*3+2,none⟩=some v:=by rw[cell_of_row u5 _ (r*3+2) _ _ (0,0) hgs5];exact⟨_,Array.getElem?_eq_getElem (by have:=HX.out.2.2.1;omega)⟩
    have fz5:∀ q,u5.frozen? ⟨U2.heap.size,q,none⟩=false:=fun q=>frozen_of_row u5 _ q _ _ hgs5
    have hne5:¬ U2.heap.size=u4.heap.size:=by omega
    have hne6:¬ u4.heap.size=U2.heap.size:=by omega
    clear hbx5 hgs5 d5 hk1 hk2 hk3 hk4
    go_wp2_with fail
    refine⟨⟨r+1,by omega,by go_num,((cs.setIfInBounds (r*3) (.int .i64 (fr0))).setIfInBounds (r*3+1) (.int .i64 tt)).setIfInBounds (r*3+2) (.bool b),fun q=>if q=r then ⟨fr0,tt,b⟩ else S q,((H5.out.1.setCell (Nat.le_refl _) _).setCell (Nat.le_refl _) _).setCell (Nat.le_refl _) _,set3_block H5.out.2.2 _ _ _ _,by simp;exact HX.out.2.2.1,fun q hq j hj=>?_,fun q hq=>?_⟩,by simp[intOf];omega⟩
    ·exact set3_at (by have:=HX.out.2.2.1;omega) (HX.out.2.2.2.1) hq hj
    ·show Pl.SpanIs f q (if q=r then _ else S q)
     by_cases e:q=r
     ·subst e;rw[if_pos rfl];exact HSP.out
     ·rw[if_neg e];exact HX.out.2.2.2.2 q (by omega)
  ·go_wp2_with fail
   refine (HPU.out).mono ?_
   rintro e u2 ⟨⟨vx,rfl⟩,o2,g2⟩
   have HU2:Hid (u2.ownsRow X.heap.size 110 1 (.slice (some ⟨X.heap.size,0,none⟩) k k) k (Pl.wsV ps)/\Below U2.heap.size U2 u2/\u2.heap[U2.heap.size]?=X.heap[U2.heap.size]?):=⟨o2,HU1.out.2.2.2.2.2.trans (g2.below (by omega)),(g2.block _ (by omega)).trans (HU1.out.2.2.2.2.1.block _ hgX)⟩
   clear o2 g2 HPU a1 a2 d3 dr
   have hbw2:Below w.heap.size w u2:=H2.out.2.2.trans (HU2.out.2.1.mono H2.out.2.2.size)
   have hT2:=(HC.out u2 hbw2).2.2
   go_wp2_with fail
   refine (first_is X.heap.size k k ps HPS.out.1 HPS.out.2 hk9 0 u2 HU2.out.1 hT2 (block_lt_of_cell (hT2 0 (by decide)))).mono ?_
   rintro e u3 ⟨rfl,d3⟩
   obtain⟨fr0,hfr0⟩:∃ fr0,fr0=Pl.firstW ps 0:=⟨_,rfl⟩
   have HFR:Hid (fr0=Pl.firstW ps 0):=hfr0
   rw[<- hfr0]
   have HU3:Hid (u3.ownsRow X.heap.size 110 1 (.slice (some ⟨X.heap.size,0,none⟩) k k) k (Pl.wsV ps)/\Below U2.heap.size U2 u3/\u3.heap[U2.heap.size]?=X.heap[U2.heap.size]?):=⟨own_eqL HU2.out.1 fun g hg=>d3.block g (HU2.out.1.lt g hg).2,HU2.out.2.1.trans (d3.mono HU2.out.2.1.size),(d3.block _ (by have:=(HU2.out.1.lt X.heap.size rfl).2;omega)).trans HU2.out.2.2⟩
   have hT3:=hT2.keep (block_lt_of_cell (hT2 0 (by decide))) d3
   clear d3 hT2 hbw2 hfr0
   go_wp2_with fail
   refine (last_is X.heap.size k k ps HPS.out.1 HPS.out.2 hk9 (-1) u3 HU3.out.1 hT3 (block_lt_of_cell (hT3 0 (by decide)))).mono ?_
   rintro e u4 ⟨tt,rfl,hlast,d4⟩
   have HBD:Hid (Pl.Bd (Pl.Sd f.code (r:Int)) n fr0 tt):=by rw[HFR.out];exact Pl.Bd.ofW HPP.out hlast
   have hbd:=HBD.out.bound
   have HU4:Hid (Below U2.heap.size U2 u4/\u4.heap[U2.heap.size]?=X.heap[U2.heap.size]?):=⟨HU3.out.2.1.trans (d4.mono HU3.out.2.1.size),(d4.block _ (by have:=(HU3.out.1.lt X.heap.size rfl).2;omega)).trans HU3.out.2.2⟩
   have hU4:U2.heap.size<u4.heap.size:=by have:=(HU3.out.1.lt X.heap.size rfl).2;have:=d4.size;omega
   have HGI:Hid (fr0=(open Classical in if (r:Int)<f.params/\Pl.Live f.code (r:Int) 0 then -1 else fr0)):=by show fr0=_;rw[if_neg (fun c=>by omega)]
   clear d4 hlast hT3 HU3 HU2
   go_wp2_with fail
   obtain⟨y4,hy4⟩:∃ y4,y4=u4.alloc (.cells #[.int .i64 fr0,.int .i64 tt,.bool false] 73):=⟨_,rfl⟩
   rw[<- hy4]
   have H4:Hid (Below U2.heap.size U2 y4/\y4.heap[u4.heap.size]?=some (.cells #[.int .i64 fr0,.int .i64 tt,.bool false] 73 (0,0))/\y4.heap[U2.heap.size]?=X.heap[U2.heap.size]?/\u4.heap.size<y4.heap.size):=by
    rw[hy4]
    exact⟨HU4.out.1.alloc HU4.out.1.size _,heap_alloc_new u4 _,((below_alloc u4 _).block _ (by omega)).trans HU4.out.2,by simp⟩
   clear hy4
   refine (crosses_is gc m cc xs fr0 tt false y4 HCL.out.1 (by omega) (fun i hi=>(H4.out.1.cell (p:=⟨gc,i,none⟩) HCL.out.2.2.2).trans (HCL.out.2.1 i hi)) (Nat.lt_of_lt_of_le HCL.out.2.2.2 H4.out.1.size) (fun i j hij hj=>HCL.out.2.2.1.asc i j hij (by rw[<- HCL.out.1];exact hj)) (by omega) (by omega)).mono ?_
   rintro e u5 ⟨⟨kq,b,rfl,hk1,hk2,hk3,hk4⟩,d5⟩
   have HSP:Hid (Pl.SpanIs f r ⟨fr0,tt,b⟩):=by
    refine⟨fr0,by rw[<- HNE.out];exact HBD.out,HGI.out,?_⟩
    have e1:=HCL.out.1
    exact HCL.out.2.2.1.crs (by rw[<- e1];exact hk1) (show tt<=(f.code.length:Int) by have:=HNE.out;omega) hk2 (fun i h1 h2=>hk3 i h1 (by omega)) b (hk4.trans (by rw[e1]))
   have H5:Hid (Below U2.heap.size U2 (u5.setCell ⟨u4.heap.size,2,none⟩ (.bool b))/\(u5.setCell ⟨u4.heap.size,2,none⟩ (.bool b)).heap[u4.heap.size]?=some (.cells #[.int .i64 fr0,.int .i64 tt,.bool b] 73 (0,0))/\(u5.setCell ⟨u4.heap.size,2,none⟩ (.bool b)).heap[U2.heap.size]?=some (.cells cs 73 (0,0))):=by
    have hb5:=(d5.block _ H4.out.2.2.2).trans H4.out.2.1
    refine⟨(H4.out.1.trans (d5.mono H4.out.1.size)).setCell HU4.out.1.size _,bx2 hb5,?_⟩
    rw[heap_setCell_other _ ⟨u4.heap.size,2,none⟩ _ _ (show U2.heap.size≠u4.heap.size by omega),d5.block _ (by have:=H4.out.2.2.2;omega),H4.out.2.2.1]
    exact HX.out.2.1
   have hbx5:u5.heap[u4.heap.size]?=some (.cells #[.int .i64 fr0,.int .i64 tt,.bool false] 73 (0,0)):=(d5.block _ H4.out.2.2.2).trans H4.out.2.1
   have w0:u5.cell? ⟨u4.heap.size,0,none⟩=some (.int .i64 (fr0)):=by rw[cell_of_row u5 _ 0 _ _ (0,0) hbx5];rfl
   have w1:u5.cell? ⟨u4.heap.size,1,none⟩=some (.int .i64 tt):=by rw[cell_of_row u5 _ 1 _ _ (0,0) hbx5];rfl
   have w2:u5.cell? ⟨u4.heap.size,2,none⟩=some (.bool false):=by rw[cell_of_row u5 _ 2 _ _ (0,0) hbx5];rfl
   have w3:∀ q,u5.frozen? ⟨u4.heap.size,q,none⟩=false:=fun q=>frozen_of_row u5 _ q _ _ hbx5
   have hgs5:u5.heap[U2.heap.size]?=some (.cells cs 73 (0,0)):=by rw[d5.block _ (by have:=H4.out.2.2.2;omega),H4.out.2.2.1];exact HX.out.2.1
   obtain⟨v0,hv0⟩:∃ v,u5.cell? ⟨U2.heap.size,r*3,none⟩=some v:=by rw[cell_of_row u5 _ (r*3) _ _ (0,0) hgs5];exact⟨_,Array.getElem?_eq_getElem (by have:=HX.out.2.2.1;omega)⟩
   obtain⟨v1,hv1⟩:∃ v,u5.cell? ⟨U2.heap.size,r*3+1,none⟩=some v:=by rw[cell_of_row u5 _ (r*3+1) _ _ (0,0) hgs5];exact⟨_,Array.getElem?_eq_getElem (by have:=HX.out.2.2.1;omega)⟩
   obtain⟨v4,hv4⟩:∃ v,u5.cell? ⟨U2.heap.size,r*3+2,none⟩=some v:=by rw[cell_of_row u5 _ (r*3+2) _ _ (0,0) hgs5];exact⟨_,Array.getElem?_eq_getElem (by have:=HX.out.2.2.1;omega)⟩
   have fz5:∀ q,u5.frozen? ⟨U2.heap.size,q,none⟩=false:=fun q=>frozen_of_row u5 _ q _ _ hgs5
   have hne5:¬ U2.heap.size=u4.heap.size:=by omega
   have hne6:¬ u4.heap.size=U2.heap.size:=by omega
   clear hbx5 hgs5 d5 hk1 hk2 hk3 hk4
   go_wp2_with fail
   refine⟨⟨r+1,by omega,by go_num,((cs.setIfInBounds (r*3) (.int .i64 (fr0))).setIfInBounds (r*3+1) (.int .i64 tt)).setIfInBounds (r*3+2) (.bool b),fun q=>if q=r then ⟨fr0,tt,b⟩ else S q,((H5.out.1.setCell (Nat.le_refl _) _).setCell (Nat.le_refl _) _).setCell (Nat.le_refl _) _,set3_block H5.out.2.2 _ _ _ _,by simp;exact HX.out.2.2.1,fun q hq j hj=>?_,fun q hq=>?_⟩,by simp[intOf];omega⟩
   ·exact set3_at (by have:=HX.out.2.2.1;omega) (HX.out.2.2.2.1) hq hj
   ·show Pl.SpanIs f q (if q=r then _ else S q)
    by_cases e:q=r
    ·subst e;rw[if_pos rfl];exact HSP.out
    ·rw[if_neg e];exact HX.out.2.2.2.2 q (by omega)
def SpP (w:World) (f:Pl.IrF) (R:Nat) (e:Ending) (w':World):Prop:=Below w.heap.size w w'/\((¬ Pl.funOk f/\e=.returned (.slice none 0 0))\/(Pl.funOk f/\∃ (go:Nat) (S:Nat->Pl.Sp),e=.returned (.slice (some ⟨go,0,none⟩) R R)/\w'.ownsRow w.heap.size 73 3 (.slice (some ⟨go,0,none⟩) R R) R (Pl.spV R S)/\∀ r,r<R->Pl.SpanIs f r (S r)))
set_option maxRecDepth 100000 in
theorem implSp_no {lo:Nat} (f:Pl.IrF) (v s:SV) (R:Nat) (w:World) (h:FIs lo w v s f) (hal:∀ i,i<f.code.length->(f.code.getD i Pl.IrI.zero).args.length<=1048576) (hwf:∀ i,i<f.code.length->(Lit.int .i64 (f.code.getD i Pl.IrI.zero).n).wf=true) (hf:¬ Pl.funOk f):Calls Tryz.prog 16 #[.agg #[.string f.name,.int .i64 f.params,.int .i64 f.regs,.slice v.a v.len v.cap,.slice s.a s.len s.cap]] w fun e w'=>SpP w f R e w':=by
 have HRR:Hid (∀ u,Below w.heap.size w u->Calls Tryz.prog 32 #[.agg #[.string f.name,.int .i64 f.params,.int .i64 f.regs,.slice v.a v.len v.cap,.slice s.a s.len s.cap]] u fun e u'=>e=.returned (.tuple #[.pointer none,.bool false])/\Below u.heap.size u u'):=fun u hu=>(readRoutine_is f v s u (h.keep hu) hal hwf).mono fun e u' q=>by
  rcases q.2 with ⟨_,z⟩ | ⟨z,_⟩
  ·exact⟨z,q.1⟩
  ·exact absurd ((Pl.rr_fun f).1 z) hf
 have HN:Hid (¬ Pl.funOk f):=hf
 clear h hal hwf hf
 go_enter Tryz.func16,Tryz.ntmps16
 go_wp2_with fail
 refine ty_at fun u0 hu0=>?_
 have H0:Hid (Below w.heap.size w u0):=by rw[hu0];exact below_alloc w _
 clear hu0
 refine (HRR.out u0 H0.out).mono ?_
 rintro e u1 ⟨rfl,d1⟩
 have H1:Hid (Below w.heap.size w u1):=H0.out.trans (d1.mono H0.out.size)
 clear d1 H0 HRR
 go_wp2_with fail
 go_ret
 exact⟨H1.out,.inl ⟨HN.out,rfl⟩⟩
set_option maxRecDepth 100000 in
theorem implSp_yes {lo:Nat} (f:Pl.IrF) (v s:SV) (R:Nat) (w:World) (h:FIs lo w v s f) (hal:∀ i,i<f.code.length->(f.code.getD i Pl.IrI.zero).args.length<=1048576) (hwf:∀ i,i<f.code.length->(Lit.int .i64 (f.code.getD i Pl.IrI.zero).n).wf=true) (hT:TabT w) (hf:Pl.funOk f) (hR:f.regs=R):Calls Tryz.prog 16 #[.agg #[.string f.name,.int .i64 f.params,.int .i64 f.regs,.slice v.a v.len v.cap,.slice s.a s.len s.cap]] w fun e w'=>SpP w f R e w':=by
 have HRR:Hid (∀ u,Below w.heap.size w u->Calls Tryz.prog 32 #[.agg #[.string f.name,.int .i64 f.params,.int .i64 f.regs,.slice v.a v.len v.cap,.slice s.a s.len s.cap]] u fun e u'=>∃ gr gm nm g c P lab Y,e=.returned (.tuple #[.pointer (some ⟨gr,0,none⟩),.bool true])/\Below u.heap.size u u'/\Pl.LabK f.code f.code.length lab/\(∀ i,i<f.code.length->Row .i64 0 u' (Y i).a (Y i).len (Y i).cap (f.code.getD i Pl.IrI.zero).args)/\Rt u gr gm nm f v s (.slice (some ⟨g,0,none⟩) f.code.length c) (stepsV f Y f.code.length) lab P ((List.range f.slots.length).map (Pl.rooms f.slots)) (Pl.upM (Pl.rooms f.slots f.slots.length) 16) u'):=fun u hu=>(readRoutine_is f v s u (h.keep hu) hal hwf).mono fun e u' q=>by
  rcases q.2 with ⟨z,_⟩ | ⟨_,gr,gm,nm,S,P,lab,Y,e1,e2,e3,e4⟩
  ·exact absurd ((Pl.rr_fun f).2 hf) z
  ·have hsl:(stepsV f Y f.code.length).length=f.code.length:=by simp[stepsV]
   have hst:=e4.st
   rw[hsl]at hst
   obtain⟨g,c,rfl,_,_⟩:=hst.form (by have:=hf.1.2.2.2.1.1;omega)
   exact⟨gr,gm,nm,g,c,P,lab,Y,e1,q.1,e2,fun i hi=>(e3 i hi).keep q.1,e4⟩
 have HF:Hid (Pl.funOk f/\f.regs=R/\TabT w/\∀ i,i<f.code.length->(Lit.int .i64 (f.code.getD i Pl.IrI.zero).n).wf=true):=⟨hf,hR,hT,hwf⟩
 have hR2:R<=2000:=by have:=hf.1.2.1.2;omega
 obtain⟨n,hn⟩:∃ n,n=f.code.length:=⟨_,rfl⟩
 have hn8:1<=n/\n<=8000:=by rw[hn];exact hf.1.2.2.2.1
 clear h hal hwf hf hR hT
 go_enter Tryz.func16,Tryz.ntmps16
 go_wp2_with fail
 refine ty_at fun u0 hu0=>?_
 have H0:Hid (Below w.heap.size w u0):=by rw[hu0];exact below_alloc w _
 clear hu0
 refine (HRR.out u0 H0.out).mono ?_
 rintro e u1 ⟨gr,gm,nm,g,c,P,lab,Y,rfl,d1,hlab,hrows,hRt⟩
 have H1:Hid (Below w.heap.size w u1/\TabT u1):=by
  have hb:=H0.out.trans (d1.mono H0.out.size)
  exact⟨hb,HF.out.2.2.1.keep (block_lt_of_cell (HF.out.2.2.1 0 (by decide))) hb⟩
 have HSP:Hid (Calls Tryz.prog 41 #[.pointer (some ⟨gr,0,none⟩)] u1 fun e w'=>SpI u1 f R e w'):=by
  have hsl:(stepsV f Y f.code.length).length=f.code.length:=by simp[stepsV]
  have hst:=hRt.st
  rw[hsl]at hst
  refine spans_is u1 gr g n c R f Y hn.symm (by rw[hn];exact hRt.cell 5) (hRt.cell 1) (by rw[<- HF.out.2.1];exact hRt.cell 2) (hst.lt g rfl).2 (fun i hi=>?_) (fun i hi=>((HF.out.1.2.2.1 i (by omega)).1).1) hn8 hR2 H1.out.2 fun u hu=>?_
  ·rw[hst.cellAt i (by omega)]
   unfold stepsV
   rw[List.getElem?_map,List.getElem?_range (by omega)];rfl
  ·have:=newLiveness_is u (hRt.keep hu) HF.out.1 hlab HF.out.2.2.2 (fun i hi=>(hrows i hi).keep hu) R HF.out.2.1
   unfold NlSaid at this
   rw[<- hn]at this
   exact this
 clear hlab hrows hRt d1 HRR hn
 go_wp2_with fail
 refine (HSP.out).mono ?_
 rintro e u3 ⟨go,S,rfl,ow,hs,d3⟩
 have HE:Hid (SpP w f R (.returned (.slice (some ⟨go,0,none⟩) R R)) u3):=⟨H1.out.1.trans (d3.mono H1.out.1.size),.inr ⟨HF.out.1,go,S,rfl,own_lowL ow H1.out.1.size,hs⟩⟩
 clear ow hs d3
 go_wp2_with fail
 go_ret
 exact HE.out
theorem implSp_is {lo:Nat} (f:Pl.IrF) (v s:SV) (R:Nat) (w:World) (h:FIs lo w v s f) (hal:∀ i,i<f.code.length->(f.code.getD i Pl.IrI.zero).args.length<=1048576) (hwf:∀ i,i<f.code.length->(Lit.int .i64 (f.code.getD i Pl.IrI.zero).n).wf=true) (hT:TabT w) (hR:f.regs=R\/¬ Pl.funOk f):Calls Tryz.prog 16 #[.agg #[.string f.name,.int .i64 f.params,.int .i64 f.regs,.slice v.a v.len v.cap,.slice s.a s.len s.cap]] w fun e w'=>SpP w f R e w':=by
 by_cases hf:Pl.funOk f
 ·exact implSp_yes f v s R w h hal hwf hT hf (hR.resolve_right (fun c=>c hf))
 ·exact implSp_no f v s R w h hal hwf hf
end Go.Proofs.YtcgfgmlfbgbkfaaGreatDoor.W
namespace Go.Proofs.YtcgfgmlfbgbkfaaGreatDoor.W
open Go.RowKit
structure Touch (a:Option Addr) (w w':World):Prop where
 os:w'.os=w.os
 tape:w'.tape=w.tape
 output:w'.output=w.output
 size:w'.heap.size=w.heap.size
 block:∀ k,(∀ ad,a=some ad->k≠ad.block)->w'.heap[k]?=w.heap[k]?
theorem Touch.refl (a:Option Addr) (w:World):Touch a w w:=⟨rfl,rfl,rfl,rfl,fun _ _=>rfl⟩
theorem Touch.setCell {a:Option Addr} {w u:World} (h:Touch a w u) {g:Nat} (hp:a=some ⟨g,0,none⟩) (x:Value) {i:Nat}:Touch a w (u.setCell ⟨g,i,none⟩ x):=
 ⟨h.os,h.tape,h.output,by simpa using h.size,fun k hk=>(Below.heap_setCell u ⟨g,i,none⟩ x k (show k≠g from hk ⟨g,0,none⟩ hp)).trans (h.block k hk)⟩
theorem mkIntS_wf (k:Int) (len:Nat) (hk:0<=k/\k+len<=4611686018427387904):∀ n∈(List.range len).map (fun (i:Nat)=>k+(i:Int)),(Lit.int .i64 n).wf=true:=by
 intro n hn
 obtain⟨i,hi,rfl⟩:=List.mem_map.1 hn
 have:=List.mem_range.1 hi
 have h1 : -9223372036854775808<=k+(i:Int):=by omega
 have h2:k+(i:Int)<=9223372036854775807:=by omega
 generalize k+(i:Int)=y at h1 h2
 simp[Lit.wf,IntKind.min,IntKind.max,IntKind.signed,IntKind.bits]
 omega
def mkIntS (k:Int) (len:Nat):List Int:=(List.range len).map fun (i:Nat)=>(k+(i:Int))
theorem mkIntS_length (k:Int) (len:Nat):(mkIntS k len).length=len:=by simp[mkIntS]
def mtIntS (k:Int) (zs:List Int) (j:Nat):List Int:=(mkIntS k zs.length).take j ++ zs.drop j
theorem mtIntS_zero (k:Int) (zs:List Int):mtIntS k zs 0=zs:=by simp[mtIntS]
theorem mtIntS_full (k:Int) (zs:List Int) {j:Nat} (h:zs.length<=j):mtIntS k zs j=mkIntS k zs.length:=by
 unfold mtIntS
 rw[List.take_of_length_le (by rw[mkIntS_length];exact h),List.drop_of_length_le h,List.append_nil]
theorem mtIntS_length (k:Int) (zs:List Int) (j:Nat):(mtIntS k zs j).length=zs.length:=by
 unfold mtIntS
 rw[List.length_append,List.length_take,List.length_drop,mkIntS_length];omega
theorem mtIntS_set (k:Int) (zs:List Int) {j:Nat} (h:j<zs.length):(mtIntS k zs j).set j ((k+(j:Int)))=mtIntS k zs (j+1):=by
 have hx:(mkIntS k zs.length)[j]?=some ((k+(j:Int))):=by simp[mkIntS,h]
 apply List.ext_getElem?
 intro i
 unfold mtIntS
 rw[List.getElem?_set,List.length_append,List.length_take,List.length_drop,mkIntS_length]
 by_cases h1:j=i
 ·subst h1
  rw[if_pos rfl,if_pos (by omega),List.getElem?_append_left (by rw[List.length_take,mkIntS_length];omega),List.getElem?_take,if_pos (by omega),hx]
 ·rw[if_neg h1]
  by_cases h2:i<j
  ·rw[List.getElem?_append_left (by rw[List.length_take,mkIntS_length];omega),List.getElem?_append_left (by rw[List.length_take,mkIntS_length];omega),List.getElem?_take,List.getElem?_take,if_pos h2,if_pos (by omega)]
  ·rw[List.getElem?_append_right (by rw[List.length_take,mkIntS_length];omega),List.getElem?_append_right (by rw[List.length_take,mkIntS_length];omega),List.length_take,List.length_take,mkIntS_length,List.getElem?_drop,List.getElem?_drop]
   congr 1
   omega
theorem markIntS_any {lo:Nat} (a:Option Addr) (len cap:Nat) (zs:List Int) (k:Int) (w:World) (h:Own .i64 3 lo w a len cap zs) (hk:0<=k/\k+len<=4611686018427387904) :
  Calls Tryz.prog 37 #[.slice a len cap,.int .i64 k] w fun e w'=>e=.returned (.int .i64 (k+len))/\Own .i64 3 lo w' a len cap (mkIntS k len)/\Touch a w w':=by
 have hsm:=h.row.small
 have hl:=h.row.1
 have HO:Hid (w.ownsRow lo 3 1 (.slice a len cap) len (zs.map (Value.int .i64))):=h.1
 have HL:Hid (zs.length=len):=hl
 have HF:Hid (len=0\/∃ g,a=some ⟨g,0,none⟩):=by
  rcases h.1.2 with ⟨h0,h1⟩ | ⟨g,_,_,h0,_⟩
  ·exact .inl h1
  ·simp only[Value.slice.injEq]at h0;exact .inr ⟨g,h0.1⟩
 clear h hl
 go_enter Tryz.func37,Tryz.ntmps37
 go_wp2
 go_loopw [1,5] (fun x i wr=>∃ j:Nat,j<=len/\i=.int .i64 j/\x=.int .i64 (k+(j:Int))/\wr.ownsRow lo 3 1 (.slice a len cap) len ((mtIntS k zs j).map (Value.int .i64))/\Touch a w wr) (fun _ i _=>len-(intOf i).toNat)
 case atStart=>exact⟨0,Nat.zero_le _,rfl,by simp,by rw[mtIntS_zero];exact HO.out,Touch.refl _ _⟩
 case round=>
  obtain⟨j,hj,rfl,rfl,ho,ht⟩:=hrel
  clear HO
  have HO:Hid (wr.ownsRow lo 3 1 (.slice a len cap) len ((mtIntS k zs j).map (Value.int .i64))):=ho
  have HT:Hid (Touch a w wr):=ht
  clear ho ht
  by_cases hlt:j<len
  ·obtain⟨g,rfl⟩:=HF.out.resolve_left (by omega)
   have hfz:wr.frozen? ⟨g,j,none⟩=false:=HO.out.frozenAt j
   obtain⟨y,hy⟩:∃ y,wr.cell? ⟨g,j,none⟩=some (.int .i64 y):=by
    have:=HO.out.cellAt j (by omega)
    rw[List.getElem?_map,List.getElem?_eq_getElem (by rw[mtIntS_length];have:=HL.out;omega)]at this
    exact⟨_,this⟩
   go_wp2
   go_roundw
   case rel=>
    have st:=HO.out.stored j (.int .i64 ((k+(j:Int))))
    refine⟨j+1,by omega,by go_num,congrArg (Value.int .i64) (by omega),?_,HT.out.setCell rfl _⟩
    rw[<- mtIntS_set k zs (by have:=HL.out;omega),List.map_set]
    exact st.1
   case measure=>simp[intOf];omega
  ·have hje:j=len:=by omega
   subst hje
   go_wp2
   go_ret
   refine⟨rfl,⟨?_,mkIntS_wf k _ hk⟩,HT.out⟩
   have:=HO.out
   rwa [mtIntS_full k zs (by have:=HL.out;omega),HL.out]at this
theorem Own.above {k:IntKind} {e:TypeId} {lo:Nat} {w w':World} {a:Option Addr} {len cap:Nat} {zs:List Int} (h:Own k e lo w a len cap zs) (hA:Above lo w w'):Own k e lo w' a len cap zs:=⟨own_eqL h.1 fun g hg=>hA.block g (h.1.lt g hg).1 (h.1.lt g hg).2,h.2⟩
theorem Own.low {k:IntKind} {e:TypeId} {lo lo':Nat} {w:World} {a:Option Addr} {len cap:Nat} {zs:List Int} (h:Own k e lo w a len cap zs) (hl:lo'<=lo):Own k e lo' w a len cap zs:=⟨own_lowL h.1 hl,h.2⟩
def IOw (g:Nat) (w:World) (len:Nat) (xs:List Pl.IrI):Prop:=xs.length=len/\(∀ q,w.frozen? ⟨g,q,none⟩=false)/\g<w.heap.size/\∃ V:Nat->SV,(∀ i,i<len->(∀ j,j<7->w.cell? ⟨g,i*7+j,none⟩=((xs.getD i Pl.IrI.zero).cells (V i))[j]?)/\Own .i64 3 (g+1) w (V i).a (V i).len (V i).cap (xs.getD i Pl.IrI.zero).args/\(xs.getD i Pl.IrI.zero).sym.size<=maxLen)/\∀ i j q,i<len->j<len->(Value.slice (V i).a (V i).len (V i).cap).ownBlock=some q->(Value.slice (V j).a (V j).len (V j).cap).ownBlock=some q->i=j
theorem IOw.above {g:Nat} {w w':World} {len:Nat} {xs:List Pl.IrI} (h:IOw g w len xs) {B:Nat} (hA:Above B w w') (hB:B<=g):IOw g w' len xs:=by
 obtain⟨h1,h2,h3,V,h4,h5⟩:=h
 have hbg:w'.heap[g]?=w.heap[g]?:=hA.block g hB h3
 refine⟨h1,fun q=>?_,Nat.lt_of_lt_of_le h3 hA.size,V,fun i hi=>?_,h5⟩
 ·have:=h2 q
  simp only[World.frozen?,hbg]at this ⊢
  exact this
 ·obtain⟨a1,a2,a3⟩:=h4 i hi
  refine⟨fun j hj=>?_,a2.above ⟨hA.size,fun q c1 c2=>hA.block q (by omega) c2⟩,a3⟩
  rw[<- a1 j hj]
  simp only[World.cell?,hbg]
theorem IOw.row {g:Nat} {w:World} {len:Nat} {xs:List Pl.IrI} (h:IOw g w len xs) (hl:len<=1048576):IRow g w (some ⟨g,0,none⟩) len len xs:=by
 obtain⟨h1,h2,h3,V,h4,h5⟩:=h
 refine⟨h1,Nat.le_refl _,by unfold maxLen;omega,.inr ⟨g,0,rfl,Nat.le_refl _,h3,fun i hi=>?_⟩⟩
 obtain⟨a1,a2,a3⟩:=h4 i hi
 exact⟨V i,fun j hj=>by rw[Nat.zero_add];exact a1 j hj,a2.row.lower (by omega),a3⟩
structure FOw (lo:Nat) (w:World) (v:SV) (gs n:Nat) (x:Pl.IrF):Prop where
 sl:Own .i64 3 lo w v.a v.len v.cap x.slots
 cd:IOw gs w n x.code
 lt:∀ q,(Value.slice v.a v.len v.cap).ownBlock=some q->q<gs
 lo_:lo<=gs
 nm:x.name.size<=maxLen
theorem FOw.is {lo:Nat} {w:World} {v:SV} {gs n:Nat} {x:Pl.IrF} (h:FOw lo w v gs n x) (hn:n<=1048576):FIs lo w v ⟨some ⟨gs,0,none⟩,n,n⟩ x:=⟨h.sl.row,(h.cd.row hn).lower h.lo_,h.nm⟩
def IMo (g len k:Nat) (wr:World) (xs:List Pl.IrI):Prop:=∃ V:Nat->SV,(∀ i,i<len->(∀ j,j<7->wr.cell? ⟨g,i*7+j,none⟩=((if i<k then xs.getD i Pl.IrI.zero else Pl.IrI.zero).cells (V i))[j]?)/\Own .i64 3 (g+1) wr (V i).a (V i).len (V i).cap (if i<k then xs.getD i Pl.IrI.zero else Pl.IrI.zero).args)/\∀ i j q,i<len->j<len->(Value.slice (V i).a (V i).len (V i).cap).ownBlock=some q->(Value.slice (V j).a (V j).len (V j).cap).ownBlock=some q->i=j
theorem IMo.keep {g len k:Nat} {w w':World} {xs:List Pl.IrI} (h:IMo g len k w xs) (hg:g<w.heap.size) (hb:Below w.heap.size w w'):IMo g len k w' xs:=by
 obtain⟨V,h1,h2⟩:=h
 refine⟨V,fun i hi=>?_,h2⟩
 obtain⟨a1,a2⟩:=h1 i hi
 exact⟨fun j hj=>(hb.cell (p:=⟨g,i*7+j,none⟩) hg).trans (a1 j hj),a2.above (Above.of_below hb)⟩
theorem set7_above {w u:World} {B g:Nat} (h:Above B w u) (hg:g<B) (o:Nat) (x:Pl.IrI) (v:SV):Above B w (set7 u g o x v):=by
 unfold set7
 exact ((((((h.setCell (p:=⟨g,o,none⟩) hg _).setCell (p:=⟨g,o+1,none⟩) hg _).setCell (p:=⟨g,o+2,none⟩) hg _).setCell (p:=⟨g,o+3,none⟩) hg _).setCell (p:=⟨g,o+4,none⟩) hg _).setCell (p:=⟨g,o+5,none⟩) hg _).setCell (p:=⟨g,o+6,none⟩) hg _
theorem IMo.put {g len k:Nat} {w u:World} {xs:List Pl.IrI} (h:IMo g len k w xs) (hg:g<w.heap.size) (hb:Below w.heap.size w u) (hk:k<len) (v:SV) (hr:Own .i64 3 w.heap.size u v.a v.len v.cap (xs.getD k Pl.IrI.zero).args):IMo g len (k+1) (set7 u g (k*7) (xs.getD k Pl.IrI.zero) v) xs:=by
 have hsm:∀ j,j<7->(u.cell? ⟨g,k*7+j,none⟩).isSome=true:=fun j hj=>by
  obtain⟨V,h1,_⟩:=h.keep hg hb
  rw[(h1 k hk).1 j hj]
  rcases (show j=0\/j=1\/j=2\/j=3\/j=4\/j=5\/j=6 by omega) with rfl | rfl | rfl | rfl | rfl | rfl | rfl <;> rfl
 obtain⟨V,h1,h2⟩:=h
 refine⟨upd V k v,fun i hi=>?_,fun i j q hi hj hq hq2=>?_⟩
 ·by_cases e:i=k
  ·subst e
   rw[upd_at,if_pos (Nat.lt_succ_self _)]
   refine⟨fun j hj=>set7_in _ _ hsm j hj,?_⟩
   exact Own.low (hr.above (set7_above (Above.refl _ _) hg _ _ _)) (by omega)
  ·rw[upd_ne e]
   obtain⟨a1,a2⟩:=h1 i hi
   have e1:(if i<k+1 then xs.getD i Pl.IrI.zero else Pl.IrI.zero)=(if i<k then xs.getD i Pl.IrI.zero else Pl.IrI.zero):=by
    by_cases e':i<k
    ·rw[if_pos e',if_pos (by omega)]
    ·rw[if_neg e',if_neg (by omega)]
   rw[e1]
   refine⟨fun j hj=>(set7_out _ _ (by omega)).trans ((hb.cell (p:=⟨g,i*7+j,none⟩) hg).trans (a1 j hj)),?_⟩
   exact (a2.above (Above.of_below hb)).above (set7_above (Above.refl _ _) (by omega) _ _ _)
 ·by_cases e1:i=k
  ·by_cases e2:j=k
   ·omega
   ·subst e1
    rw[upd_at]at hq
    rw[upd_ne e2]at hq2
    have:=(hr.1.lt q hq).1
    have:=((h1 j hj).2.1.lt q hq2).2
    omega
  ·by_cases e2:j=k
   ·subst e2
    rw[upd_at]at hq2
    rw[upd_ne e1]at hq
    have:=(hr.1.lt q hq2).1
    have:=((h1 i hi).2.1.lt q hq).2
    omega
   ·rw[upd_ne e1]at hq
    rw[upd_ne e2]at hq2
    exact h2 i j q hi hj hq hq2
theorem toIrIns_own {lo:Nat} (x:Pl.IrI) (v:SV) (w:World) (h:Row .i64 lo w v.a v.len v.cap x.args) (hl:v.len<=1048576) :
  Calls Tryz.prog 54 #[.agg #[.int .i64 x.op,.int .i64 x.d,.int .i64 x.a,.int .i64 x.b,.int .i64 x.n,.string x.sym,.slice v.a v.len v.cap]] w fun e w'=>∃ v':SV,e=.returned (.agg #[.int .i64 x.op,.int .i64 x.d,.int .i64 x.a,.int .i64 x.b,.int .i64 x.n,.string x.sym,.slice v'.a v'.len v'.cap])/\Own .i64 3 (w.heap.size+3) w' v'.a v'.len v'.cap x.args/\Below w.heap.size w w':=by
 have HR:Hid (Row .i64 lo w v.a v.len v.cap x.args):=h
 clear h
 go_enter Tryz.func54,Tryz.ntmps54
 go_wp2_with fail
 refine ty_at fun U1 hU1=>?_
 have z1:U1.heap.size=w.heap.size+3:=by rw[hU1];simp
 have q0:U1.heap[w.heap.size]?=some (.cells #[.int .i64 x.op,.int .i64 x.d,.int .i64 x.a,.int .i64 x.b,.int .i64 x.n,.string x.sym,.slice v.a v.len v.cap] 80):=by
  rw[hU1]
  rw[Below.heap_alloc _ _ _ (by simp;omega),Below.heap_alloc _ _ _ (by simp)]
  exact heap_alloc_new w _
 have q1:U1.heap[w.heap.size+1]?=some (.cells #[.int .i64 0,.int .i64 0,.int .i64 0,.int .i64 0,.int .i64 0,.string ⟨#[]⟩,.slice none 0 0] 81):=by
  rw[hU1]
  rw[Below.heap_alloc _ _ _ (by simp)]
  have:=heap_alloc_new (w.alloc (.cells #[.int .i64 x.op,.int .i64 x.d,.int .i64 x.a,.int .i64 x.b,.int .i64 x.n,.string x.sym,.slice v.a v.len v.cap] 80)) (.cells #[.int .i64 0,.int .i64 0,.int .i64 0,.int .i64 0,.int .i64 0,.string ⟨#[]⟩,.slice none 0 0] 81)
  simpa using this
 have q2:U1.heap[w.heap.size+1+1]?=some (.cells #[.int .i64 x.op,.int .i64 x.d,.int .i64 x.a,.int .i64 x.b,.int .i64 x.n,.string x.sym,.slice none 0 0] 81):=by
  rw[hU1]
  have:=heap_alloc_new ((w.alloc (.cells #[.int .i64 x.op,.int .i64 x.d,.int .i64 x.a,.int .i64 x.b,.int .i64 x.n,.string x.sym,.slice v.a v.len v.cap] 80)).alloc (.cells #[.int .i64 0,.int .i64 0,.int .i64 0,.int .i64 0,.int .i64 0,.string ⟨#[]⟩,.slice none 0 0] 81)) (.cells #[.int .i64 x.op,.int .i64 x.d,.int .i64 x.a,.int .i64 x.b,.int .i64 x.n,.string x.sym,.slice none 0 0] 81)
  simpa using this
 have b1:Below w.heap.size w U1:=by
  rw[hU1]
  repeat (first | exact Below.refl _ _ | refine Below.setCell ?_ (by simp;omega) _ | refine Below.alloc ?_ (by simp <;> omega) _)
 clear hU1
 refine (toIntS_any v.a v.len v.cap x.args U1 (HR.out.keep b1) hl).mono ?_
 rintro e u2 ⟨rfl,o1,d1⟩
 have R1:=(d1.block (w.heap.size+1) (by omega)).trans q1
 have R2:=(d1.block (w.heap.size+1+1) (by omega)).trans q2
 have hz1:w.heap.size+3<=u2.heap.size:=by have:=d1.size;omega
 have B2:Hid (Below w.heap.size w u2):=b1.trans (d1.mono (by omega))
 have O1:Hid (Own .i64 3 (w.heap.size+3) u2 (some ⟨U1.heap.size,0,none⟩) v.len v.len x.args):=⟨own_lowL o1.1 (by omega),o1.2⟩
 have k1:∀ j,u2.cell? ⟨w.heap.size+1,j,none⟩=(#[.int .i64 0,.int .i64 0,.int .i64 0,.int .i64 0,.int .i64 0,.string ⟨#[]⟩,.slice none 0 0]:Array Value)[j]?:=fun j=>cell_of_row u2 (w.heap.size+1) j _ 81 (0,0) R1
 have k2:∀ j,u2.cell? ⟨w.heap.size+1+1,j,none⟩=(#[.int .i64 x.op,.int .i64 x.d,.int .i64 x.a,.int .i64 x.b,.int .i64 x.n,.string x.sym,.slice none 0 0]:Array Value)[j]?:=fun j=>cell_of_row u2 (w.heap.size+1+1) j _ 81 (0,0) R2
 have f1:∀ j,u2.frozen? ⟨w.heap.size+1,j,none⟩=false:=fun j=>frozen_of_row u2 (w.heap.size+1) j _ 81 R1
 have f2:∀ j,u2.frozen? ⟨w.heap.size+1+1,j,none⟩=false:=fun j=>frozen_of_row u2 (w.heap.size+1+1) j _ 81 R2
 have HR1:Hid (u2.heap[w.heap.size+1]?=some (.cells #[.int .i64 0,.int .i64 0,.int .i64 0,.int .i64 0,.int .i64 0,.string ⟨#[]⟩,.slice none 0 0] 81)):=R1
 generalize (some ⟨U1.heap.size,0,none⟩:Option Addr)=A at O1
 clear R1 R2 q0 q1 q2 b1 o1 d1 z1
 go_wp2
 refine bodyPost_ret (v:=.agg #[.int .i64 x.op,.int .i64 x.d,.int .i64 x.a,.int .i64 x.b,.int .i64 x.n,.string x.sym,.slice A v.len v.len]) ?_ rfl ⟨⟨A,v.len,v.len⟩,rfl,?_,?_⟩
 ·refine results_cell_row Tryz.results54 _ _ (w.heap.size+1) 81 #[.int .i64 x.op,.int .i64 x.d,.int .i64 x.a,.int .i64 x.b,.int .i64 x.n,.string x.sym,.slice A v.len v.len] (0,0) _ ?hp ?hg Tryz.underlying81 ?hd ?hi
  case hp=>rfl
  case hd=>rfl
  case hi=>kernel_rfl
  case hg=>
   have h0:(u2.setCell ⟨w.heap.size+1+1,6,none⟩ (.slice A v.len v.len)).heap[w.heap.size+1]?=some (.cells #[.int .i64 0,.int .i64 0,.int .i64 0,.int .i64 0,.int .i64 0,.string ⟨#[]⟩,.slice none 0 0] 81):=by
    rw[heap_setCell_other _ _ _ _ (show w.heap.size+1≠w.heap.size+1+1 by omega)]
    exact HR1.out
   have h1:=ty_put (cs':=#[.int .i64 x.op,.int .i64 0,.int .i64 0,.int .i64 0,.int .i64 0,.string ⟨#[]⟩,.slice none 0 0]) h0 0 (.int .i64 x.op) rfl
   have h2:=ty_put (cs':=#[.int .i64 x.op,.int .i64 x.d,.int .i64 0,.int .i64 0,.int .i64 0,.string ⟨#[]⟩,.slice none 0 0]) h1 1 (.int .i64 x.d) rfl
   have h3:=ty_put (cs':=#[.int .i64 x.op,.int .i64 x.d,.int .i64 x.a,.int .i64 0,.int .i64 0,.string ⟨#[]⟩,.slice none 0 0]) h2 2 (.int .i64 x.a) rfl
   have h4:=ty_put (cs':=#[.int .i64 x.op,.int .i64 x.d,.int .i64 x.a,.int .i64 x.b,.int .i64 0,.string ⟨#[]⟩,.slice none 0 0]) h3 3 (.int .i64 x.b) rfl
   have h5:=ty_put (cs':=#[.int .i64 x.op,.int .i64 x.d,.int .i64 x.a,.int .i64 x.b,.int .i64 x.n,.string ⟨#[]⟩,.slice none 0 0]) h4 4 (.int .i64 x.n) rfl
   have h6:=ty_put (cs':=#[.int .i64 x.op,.int .i64 x.d,.int .i64 x.a,.int .i64 x.b,.int .i64 x.n,.string x.sym,.slice none 0 0]) h5 5 (.string x.sym) rfl
   have h7:=ty_put (cs':=#[.int .i64 x.op,.int .i64 x.d,.int .i64 x.a,.int .i64 x.b,.int .i64 x.n,.string x.sym,.slice A v.len v.len]) h6 6 (.slice A v.len v.len) rfl
   exact h7
 ·refine O1.out.above ?_
  repeat (first | with_reducible exact Above.refl _ _ | refine Above.setCell ?_ (by simp <;> omega) _)
 ·repeat (first | with_reducible exact B2.out | refine Below.setCell ?_ (by simp <;> omega) _)
theorem toIrInsS_own {lo:Nat} (a:Option Addr) (len cap:Nat) (xs:List Pl.IrI) (w:World) (h:IRow lo w a len cap xs) (hl:len<=1048576) (hks:∀ i,i<len->(xs.getD i Pl.IrI.zero).args.length<=1048576):Calls Tryz.prog 31 #[.slice a len cap] w fun e w'=>e=.returned (.slice (some ⟨w.heap.size,0,none⟩) len len)/\IOw w.heap.size w' len xs/\Below w.heap.size w w':=by
 have HR:Hid (IRow lo w a len cap xs):=h
 have HKS:Hid (∀ i,i<len->(xs.getD i Pl.IrI.zero).args.length<=1048576):=hks
 have HSY:Hid (∀ i,i<len->(xs.getD i Pl.IrI.zero).sym.size<=maxLen):=fun i hi=>by
  obtain⟨_,_,_,_,_,_,_,_,q⟩:=h.at hi
  exact q
 clear h hks
 have hinfo:(Tryz.prog.info? 81).map (fun i=>(i.zero,i.size,i.bytes))=some (some (.agg #[.int .i64 0,.int .i64 0,.int .i64 0,.int .i64 0,.int .i64 0,.string ⟨#[]⟩,.slice none 0 0]),7,80):=by kernel_rfl
 obtain⟨i0,hi0,hz0,hz1,hz2⟩:=info_parts hinfo
 have hm:∀ u:World,(Instr.makeSlice 29 (.int .i64 (len:Int)) (.int .i64 (len:Int))).run Tryz.prog u=.ok (.slice (some ⟨u.heap.size,0,none⟩) len len) (u.alloc (.cells (madeCells #[.int .i64 0,.int .i64 0,.int .i64 0,.int .i64 0,.int .i64 0,.string ⟨#[]⟩,.slice none 0 0] (len*7)) 81)):=fun u=>by
  have:=run_makeSlice u 29 81 i0 _ Tryz.underlying29 hi0 hz0 .i64 .i64 (len:Int) (len:Int) (by omega) (by omega) (by rw[hz1];simp;omega) (by rw[hz2];omega) (by omega)
  rw[hz1,Int.toNat_natCast]at this
  exact this
 clear hinfo hi0 hz0 hz1 hz2
 go_enter Tryz.func31,Tryz.ntmps31
 go_wp2_with fail
 clear hm
 go_loopw [4] (fun i wr=>∃ k:Nat,k<=len/\i=.int .i64 k/\w.heap.size<wr.heap.size/\(∀ q,wr.frozen? ⟨w.heap.size,q,none⟩=false)/\IMo w.heap.size len k wr xs/\Below w.heap.size w wr) (fun i _=>len-(intOf i).toNat)
 case atStart=>
  refine⟨0,Nat.zero_le _,rfl,by simp,fun q=>frozen_of_row _ _ _ _ _ (heap_alloc_new w _),⟨fun _=>⟨none,0,0⟩,fun i hi=>⟨fun j hj=>?_,?_⟩,fun i j q _ _ hq=>(by cases hq)⟩,below_alloc w _⟩
  ·rw[cell_of_row _ _ _ _ _ (0,0) (heap_alloc_new w _),if_neg (Nat.not_lt_zero _)]
   have e:(i*7+j) % 7=j:=by omega
   have hb:i*7+j<len*7:=by omega
   unfold madeCells
   rw[Array.getElem?_map,Array.getElem?_range,if_pos hb]
   simp only[Option.map_some,List.size_toArray,List.length_cons,List.length_nil,e]
   rcases (show j=0\/j=1\/j=2\/j=3\/j=4\/j=5\/j=6 by omega) with rfl | rfl | rfl | rfl | rfl | rfl | rfl <;> rfl
  ·rw[if_neg (Nat.not_lt_zero _)];exact⟨World.ownsRow_nil _ _ _ _,fun n hn=>(by cases hn)⟩
 case round=>
  obtain⟨k,hk,rfl,hz,hfr,hcs,hbel⟩:=hrel
  have HC:Hid (IMo w.heap.size len k wr xs):=hcs
  have HF:Hid (∀ q,wr.frozen? ⟨w.heap.size,q,none⟩=false):=hfr
  have HB:Hid (Below w.heap.size w wr):=hbel
  clear hcs hbel hfr
  by_cases hlt:k<len
  ·have hi:(k:Int)<(len:Int):=by omega
   obtain⟨b,off,v,rfl,hlo,hb1,hc,hrow,hy⟩:=(HR.out.keep HB.out).at hlt
   obtain⟨x,hx⟩:∃ x,x=xs.getD k Pl.IrI.zero:=⟨_,rfl⟩
   rw[<- hx]at hc hrow hy
   obtain⟨c0,c1,c2,c3,c4,c5,c6⟩:=iri_cells hc
   have hvl:v.len<=1048576:=by have h1:=hrow.1;have h2:=HKS.out k hlt;rw[<- hx]at h2;omega
   have HX:Hid (x=xs.getD k Pl.IrI.zero):=hx
   have HW:Hid (Row .i64 lo wr v.a v.len v.cap x.args):=hrow
   clear hc hx hrow hy
   go_wp2_with fail
   refine (toIrIns_own x v wr HW.out hvl).mono ?_
   rintro e u1 ⟨v',rfl,o1,d1⟩
   have hf1:∀ q,u1.frozen? ⟨w.heap.size,q,none⟩=false:=fun q=>(d1.frozen (p:=⟨w.heap.size,q,none⟩) hz).trans (HF.out q)
   have HC1:Hid (∀ (v':SV),Own .i64 3 wr.heap.size u1 v'.a v'.len v'.cap (xs.getD k Pl.IrI.zero).args->IMo w.heap.size len (k+1) (set7 u1 w.heap.size (k*7) (xs.getD k Pl.IrI.zero) v') xs):=fun v' ho=>HC.out.put hz d1 hlt v' ho
   obtain⟨VV,hVV,_⟩:=HC.out.keep hz d1
   obtain⟨hk1,_⟩:=hVV k hlt
   rw[if_neg (Nat.lt_irrefl _)]at hk1
   obtain⟨e0,e1,e2,e3,e4,e5,e6⟩:=iri_cells hk1
   have HD:Hid (Below w.heap.size w u1/\w.heap.size<u1.heap.size):=⟨HB.out.trans (d1.mono HB.out.size),Nat.lt_of_lt_of_le hz d1.size⟩
   have HO:Hid (Own .i64 3 wr.heap.size u1 v'.a v'.len v'.cap x.args):=⟨own_lowL o1.1 (by omega),o1.2⟩
   clear hk1 hVV d1 o1 c0 c1 c2 c3 c4 c5 c6 HC HF HB HW
   go_wp2_with fail
   go_roundw
   case rel=>
    refine⟨k+1,by omega,by go_num,?_,?_,?_,?_⟩
    ·simp only[World.size_setCell];exact HD.out.2
    ·intro q;simp only[World.frozen?_setCell];exact hf1 q
    ·have hn:=HC1.out v' (by rw[<- HX.out];exact HO.out)
     rw[<- HX.out]at hn
     exact hn
    ·exact set7_below HD.out.1 (Nat.le_refl _) (k*7) x v'
   case measure=>simp[intOf];omega
  ·have hkk:k=len:=by omega
   have hi:¬ ((k:Int)<(len:Int)):=by omega
   have HZ:Hid (w.heap.size<wr.heap.size):=hz
   go_wp2
   go_ret
   obtain⟨V,h1,h2⟩:=HC.out
   refine⟨rfl,⟨HR.out.1,HF.out,HZ.out,V,fun i hi=>?_,h2⟩,HB.out⟩
   obtain⟨q1,q2⟩:=h1 i hi
   rw[if_pos (by omega)]at q1 q2
   exact⟨q1,q2,HSY.out i hi⟩
theorem toIrFun_own {lo:Nat} (x:Pl.IrF) (v s:SV) (w:World) (h:FIs lo w v s x) (hz:x.sized) :
  Calls Tryz.prog 8 #[.agg #[.string x.name,.int .i64 x.params,.int .i64 x.regs,.slice v.a v.len v.cap,.slice s.a s.len s.cap]] w fun e w'=>∃ (v':SV) (gs:Nat),e=.returned (.agg #[.string x.name,.int .i64 x.params,.int .i64 x.regs,.slice v'.a v'.len v'.cap,.slice (some ⟨gs,0,none⟩) s.len s.len])/\FOw w.heap.size w' v' gs s.len x/\Below w.heap.size w w':=by
 have hl:v.len<=1048576:=by have:=h.1.1;have:=hz.2.1;omega
 have hl2:s.len<=1048576:=by have:=h.2.1.1;have:=hz.2.2.1;omega
 have HKS:Hid (∀ i,i<s.len->(x.code.getD i Pl.IrI.zero).args.length<=1048576):=fun i hi=>(hz.2.2.2 i (by have:=h.2.1.1;omega)).2
 have HR:Hid (Row .i64 lo w v.a v.len v.cap x.slots):=h.1
 have HS:Hid (IRow lo w s.a s.len s.cap x.code):=h.2.1
 have HNM:Hid (x.name.size<=maxLen):=h.2.2
 clear h hz
 go_enter Tryz.func8,Tryz.ntmps8
 go_wp2_with fail
 refine ty_at fun U1 hU1=>?_
 have z1:U1.heap.size=w.heap.size+3:=by rw[hU1];simp
 have q0:U1.heap[w.heap.size]?=some (.cells #[.string x.name,.int .i64 x.params,.int .i64 x.regs,.slice v.a v.len v.cap,.slice s.a s.len s.cap] 25):=by
  rw[hU1]
  rw[Below.heap_alloc _ _ _ (by simp;omega),Below.heap_alloc _ _ _ (by simp)]
  exact heap_alloc_new w _
 have q1:U1.heap[w.heap.size+1]?=some (.cells #[.string ⟨#[]⟩,.int .i64 0,.int .i64 0,.slice none 0 0,.slice none 0 0] 31):=by
  rw[hU1]
  rw[Below.heap_alloc _ _ _ (by simp)]
  have:=heap_alloc_new (w.alloc (.cells #[.string x.name,.int .i64 x.params,.int .i64 x.regs,.slice v.a v.len v.cap,.slice s.a s.len s.cap] 25)) (.cells #[.string ⟨#[]⟩,.int .i64 0,.int .i64 0,.slice none 0 0,.slice none 0 0] 31)
  simpa using this
 have q2:U1.heap[w.heap.size+1+1]?=some (.cells #[.string x.name,.int .i64 x.params,.int .i64 x.regs,.slice none 0 0,.slice none 0 0] 31):=by
  rw[hU1]
  have:=heap_alloc_new ((w.alloc (.cells #[.string x.name,.int .i64 x.params,.int .i64 x.regs,.slice v.a v.len v.cap,.slice s.a s.len s.cap] 25)).alloc (.cells #[.string ⟨#[]⟩,.int .i64 0,.int .i64 0,.slice none 0 0,.slice none 0 0] 31)) (.cells #[.string x.name,.int .i64 x.params,.int .i64 x.regs,.slice none 0 0,.slice none 0 0] 31)
  simpa using this
 have b1:Below w.heap.size w U1:=by
  rw[hU1]
  repeat (first | exact Below.refl _ _ | refine Below.setCell ?_ (by simp;omega) _ | refine Below.alloc ?_ (by simp <;> omega) _)
 clear hU1
 refine (toIntS_any v.a v.len v.cap x.slots U1 (HR.out.keep b1) hl).mono ?_
 rintro e u1 ⟨rfl,o1,d1⟩
 have Q0:=(d1.block w.heap.size (by omega)).trans q0
 have Q1:=(d1.block (w.heap.size+1) (by omega)).trans q1
 have Q2:=(d1.block (w.heap.size+1+1) (by omega)).trans q2
 have hz1:w.heap.size+3<=u1.heap.size:=by have:=d1.size;omega
 have B1:Hid (Below w.heap.size w u1):=b1.trans (d1.mono (by omega))
 have O1:Hid (Own .i64 3 (w.heap.size+3) u1 (some ⟨U1.heap.size,0,none⟩) v.len v.len x.slots):=⟨own_lowL o1.1 (by omega),o1.2⟩
 have k0:∀ j,u1.cell? ⟨w.heap.size,j,none⟩=(#[.string x.name,.int .i64 x.params,.int .i64 x.regs,.slice v.a v.len v.cap,.slice s.a s.len s.cap]:Array Value)[j]?:=fun j=>cell_of_row u1 w.heap.size j _ 25 (0,0) Q0
 have k2:∀ j,u1.cell? ⟨w.heap.size+1+1,j,none⟩=(#[.string x.name,.int .i64 x.params,.int .i64 x.regs,.slice none 0 0,.slice none 0 0]:Array Value)[j]?:=fun j=>cell_of_row u1 (w.heap.size+1+1) j _ 31 (0,0) Q2
 have f2:∀ j,u1.frozen? ⟨w.heap.size+1+1,j,none⟩=false:=fun j=>frozen_of_row u1 (w.heap.size+1+1) j _ 31 Q2
 have HQ0:Hid (u1.heap[w.heap.size]?=some (.cells #[.string x.name,.int .i64 x.params,.int .i64 x.regs,.slice v.a v.len v.cap,.slice s.a s.len s.cap] 25)):=Q0
 have HQ1:Hid (u1.heap[w.heap.size+1]?=some (.cells #[.string ⟨#[]⟩,.int .i64 0,.int .i64 0,.slice none 0 0,.slice none 0 0] 31)):=Q1
 have HQ2:Hid (u1.heap[w.heap.size+1+1]?=some (.cells #[.string x.name,.int .i64 x.params,.int .i64 x.regs,.slice none 0 0,.slice none 0 0] 31)):=Q2
 generalize (some ⟨U1.heap.size,0,none⟩:Option Addr)=A at O1
 clear Q0 Q1 Q2 q0 q1 q2 b1 o1 d1 z1
 go_wp2_with fail
 refine ty_at fun U2 hU2=>?_
 have z2:U2.heap.size=u1.heap.size:=by rw[hU2];simp
 have a2:Above (w.heap.size+3) u1 U2:=by
  rw[hU2]
  repeat (first | with_reducible exact Above.refl _ _ | refine Above.setCell ?_ (by simp <;> omega) _)
 have b2:Below w.heap.size w U2:=by
  rw[hU2]
  repeat (first | with_reducible exact B1.out | refine Below.setCell ?_ (by simp <;> omega) _)
 have r1:U2.heap[w.heap.size+1]?=some (.cells #[.string ⟨#[]⟩,.int .i64 0,.int .i64 0,.slice none 0 0,.slice none 0 0] 31):=by
  rw[hU2,heap_setCell_other _ _ _ _ (show w.heap.size+1≠w.heap.size+1+1 by omega)];exact HQ1.out
 have r2:U2.heap[w.heap.size+1+1]?=some (.cells #[.string x.name,.int .i64 x.params,.int .i64 x.regs,.slice A v.len v.len,.slice none 0 0] 31):=by
  rw[hU2];exact ty_put HQ2.out 3 _ rfl
 clear hU2 k0 k2 f2 HQ0 HQ1 HQ2
 refine (toIrInsS_own s.a s.len s.cap x.code U2 (HS.out.keep b2) hl2 HKS.out).mono ?_
 rintro e u2 ⟨rfl,o2,d2⟩
 have R1:=(d2.block (w.heap.size+1) (by omega)).trans r1
 have R2:=(d2.block (w.heap.size+1+1) (by omega)).trans r2
 have B2:Hid (Below w.heap.size w u2):=b2.trans (d2.mono (by omega))
 have O2:Hid (IOw U2.heap.size u2 s.len x.code):=o2
 have O3:Hid (Own .i64 3 (w.heap.size+3) u2 A v.len v.len x.slots):=(O1.out.above a2).above (Above.of_below d2)
 have OL:Hid (∀ q,(Value.slice A v.len v.len).ownBlock=some q->q<U2.heap.size):=fun q hq=>by have:=(O1.out.1.lt q hq).2;omega
 have OG:Hid (w.heap.size+3<=U2.heap.size):=by show _<=_;omega
 have k1:∀ j,u2.cell? ⟨w.heap.size+1,j,none⟩=(#[.string ⟨#[]⟩,.int .i64 0,.int .i64 0,.slice none 0 0,.slice none 0 0]:Array Value)[j]?:=fun j=>cell_of_row u2 (w.heap.size+1) j _ 31 (0,0) R1
 have k2:∀ j,u2.cell? ⟨w.heap.size+1+1,j,none⟩=(#[.string x.name,.int .i64 x.params,.int .i64 x.regs,.slice A v.len v.len,.slice none 0 0]:Array Value)[j]?:=fun j=>cell_of_row u2 (w.heap.size+1+1) j _ 31 (0,0) R2
 have f1:∀ j,u2.frozen? ⟨w.heap.size+1,j,none⟩=false:=fun j=>frozen_of_row u2 (w.heap.size+1) j _ 31 R1
 have f2:∀ j,u2.frozen? ⟨w.heap.size+1+1,j,none⟩=false:=fun j=>frozen_of_row u2 (w.heap.size+1+1) j _ 31 R2
 have HR1:Hid (u2.heap[w.heap.size+1]?=some (.cells #[.string ⟨#[]⟩,.int .i64 0,.int .i64 0,.slice none 0 0,.slice none 0 0] 31)):=R1
 generalize U2.heap.size=G2 at O2 OL OG ⊢
 clear R1 R2 r1 r2 b2 o2 d2 z2 a2
 go_wp2
 refine bodyPost_ret (v:=.agg #[.string x.name,.int .i64 x.params,.int .i64 x.regs,.slice A v.len v.len,.slice (some ⟨G2,0,none⟩) s.len s.len]) ?_ rfl ⟨⟨A,v.len,v.len⟩,G2,rfl,⟨?_,?_,OL.out,by have:=OG.out;omega,HNM.out⟩,?_⟩
 ·refine results_cell_row Tryz.results8 _ _ (w.heap.size+1) 31 #[.string x.name,.int .i64 x.params,.int .i64 x.regs,.slice A v.len v.len,.slice (some ⟨G2,0,none⟩) s.len s.len] (0,0) _ ?hp ?hg Tryz.underlying31 ?hd ?hi
  case hp=>rfl
  case hd=>rfl
  case hi=>kernel_rfl
  case hg=>
   have h0:(u2.setCell ⟨w.heap.size+1+1,4,none⟩ (.slice (some ⟨G2,0,none⟩) s.len s.len)).heap[w.heap.size+1]?=some (.cells #[.string ⟨#[]⟩,.int .i64 0,.int .i64 0,.slice none 0 0,.slice none 0 0] 31):=by
    rw[heap_setCell_other _ _ _ _ (show w.heap.size+1≠w.heap.size+1+1 by omega)]
    exact HR1.out
   have h1:=ty_put (cs':=#[.string x.name,.int .i64 0,.int .i64 0,.slice none 0 0,.slice none 0 0]) h0 0 (.string x.name) rfl
   have h2:=ty_put (cs':=#[.string x.name,.int .i64 x.params,.int .i64 0,.slice none 0 0,.slice none 0 0]) h1 1 (.int .i64 x.params) rfl
   have h3:=ty_put (cs':=#[.string x.name,.int .i64 x.params,.int .i64 x.regs,.slice none 0 0,.slice none 0 0]) h2 2 (.int .i64 x.regs) rfl
   have h4:=ty_put (cs':=#[.string x.name,.int .i64 x.params,.int .i64 x.regs,.slice A v.len v.len,.slice none 0 0]) h3 3 (.slice A v.len v.len) rfl
   have h5:=ty_put (cs':=#[.string x.name,.int .i64 x.params,.int .i64 x.regs,.slice A v.len v.len,.slice (some ⟨G2,0,none⟩) s.len s.len]) h4 4 (.slice (some ⟨G2,0,none⟩) s.len s.len) rfl
   exact h5
 ·refine Own.low (O3.out.above ?_) (by omega)
  repeat (first | with_reducible exact Above.refl _ _ | refine Above.setCell ?_ (by simp <;> omega) _)
 ·refine O2.out.above (B:=w.heap.size+3) ?_ OG.out
  repeat (first | with_reducible exact Above.refl _ _ | refine Above.setCell ?_ (by simp <;> omega) _)
 ·repeat (first | with_reducible exact B2.out | refine Below.setCell ?_ (by simp <;> omega) _)
end Go.Proofs.YtcgfgmlfbgbkfaaGreatDoor.W
namespace Go.Proofs.YtcgfgmlfbgbkfaaGreatDoor.Pl
def mtx:Nat->Int->ByteArray->ByteArray
 | 0,_,s=>s
 | f+1,n,s=>if n<=0 then s else mtx f (n / 10) (ByteArray.empty.push (UInt8.ofNat (48+n % 10).toNat) ++ s)
def mText (k:Int):ByteArray:=(⟨#[109]⟩:ByteArray) ++ mtx k.toNat k ⟨#[]⟩
theorem mtx_zero (f:Nat) (n:Int) (h:n<=0) (s:ByteArray):mtx f n s=s:=by
 cases f
 ·rfl
 ·exact if_pos h
end Go.Proofs.YtcgfgmlfbgbkfaaGreatDoor.Pl
namespace Go.Proofs.YtcgfgmlfbgbkfaaGreatDoor.W
open Go.RowKit
theorem conv_oneH (w:World) (c:Int):(convert 186 9 (.slice (some ⟨w.heap.size,0,none⟩) 1 1)).run Tryz.prog (w.alloc (.cells #[.int .u8 c] 5))=.ok (.string (ByteArray.empty.push (UInt8.ofNat c.toNat))) (w.alloc (.cells #[.int .u8 c] 5)):=by
 rw[run_convert_bytes_string _ 186 9 5 _ _ _ Tryz.underlying186 Tryz.underlying5 Tryz.underlying9]
 refine run_bytesToString _ _ 1 1 [c] ?_
 refine (run_loadCells_list _ _ [.int .u8 c] ?_).trans rfl
 intro j v hj
 rcases j with _ | j
 ·cases hj
  exact cell_of_row _ w.heap.size 0 _ 5 (0,0) (heap_alloc_new w _)
 ·simp at hj
set_option maxRecDepth 8000 in
theorem markText_is (k:Int) (hk:1<=k/\k<=4611686018427387904) (w:World):Calls Tryz.prog 70 #[.int .i64 k] w fun e w'=>e=.returned (.string (Pl.mText k))/\Below w.heap.size w w':=by
 have h0:¬ k<=0:=by omega
 go_enter Tryz.func70,Tryz.ntmps70
 go_wp2_with fail
 go_loopw [0,3] (fun x v wr=>∃ (n:Int) (s:ByteArray) (m f:Nat),x=.int .i64 n/\v=.string s/\0<=n/\n<=4611686018427387904/\n<10 ^ m/\s.size+m<=19/\n<=f/\Pl.mtx f n s=Pl.mtx k.toNat k ⟨#[]⟩/\Below w.heap.size w wr) (fun x _ _=>(intOf x).toNat)
 case atStart=>exact⟨k,⟨#[]⟩,19,k.toNat,rfl,rfl,by omega,hk.2,by omega,by decide,by omega,rfl,Below.refl _ _⟩
 case round=>
  obtain⟨n,s,m,f,rfl,rfl,hn0,hn1,hnm,hsm,hf,hmt,hbel⟩:=hrel
  have HB:Hid (Below w.heap.size w wr):=hbel
  have HM:Hid (n<10 ^ m):=hnm
  have HT:Hid (Pl.mtx f n s=Pl.mtx k.toNat k ⟨#[]⟩):=hmt
  have HF:Hid (n<=f):=hf
  clear hbel hnm hmt hf
  by_cases hp:0<n
  ·have hcv:=conv_oneH wr
   go_wp2
   go_roundw
   case rel=>
    obtain⟨m,rfl⟩:∃ m',m=m'+1:=by
     rcases m with _ | m
     ·have:=HM.out;simp at this;omega
     ·exact⟨m,rfl⟩
    obtain⟨f,rfl⟩:∃ f',f=f'+1:=by
     rcases f with _ | f
     ·have:=HF.out;omega
     ·exact⟨f,rfl⟩
    have hq:n / 10<10 ^ m:=by
     have:=HM.out
     rw[Int.pow_succ]at this
     omega
    have hff:=HF.out
    refine⟨n / 10,_,m,f,by go_num,rfl,by omega,by omega,hq,by simp;omega,by omega,?_,HB.out.trans ((below_alloc wr _).mono HB.out.size)⟩
    rw[<- HT.out]
    show _=if n<=0 then s else _
    rw[if_neg (by omega)]
   case measure=>simp[intOf];omega
  ·go_wp2
   go_ret
   refine⟨?_,HB.out⟩
   unfold Pl.mText
   rw[<- HT.out,Pl.mtx_zero _ _ (by omega)]
   rfl
structure Tr (lo hi:Nat) (w w':World):Prop where
 os:w'.os=w.os
 tape:w'.tape=w.tape
 output:w'.output=w.output
 size:w.heap.size<=w'.heap.size
 block:∀ g,g<w.heap.size->g<lo\/hi<=g->w'.heap[g]?=w.heap[g]?
theorem Tr.refl (lo hi:Nat) (w:World):Tr lo hi w w:=⟨rfl,rfl,rfl,Nat.le_refl _,fun _ _ _=>rfl⟩
theorem Tr.trans {lo hi:Nat} {a b c:World} (h:Tr lo hi a b) (k:Tr lo hi b c):Tr lo hi a c:=⟨k.os.trans h.os,k.tape.trans h.tape,k.output.trans h.output,Nat.le_trans h.size k.size,fun g hg hq=>(k.block g (Nat.lt_of_lt_of_le hg h.size) hq).trans (h.block g hg hq)⟩
theorem Tr.of_below {lo hi:Nat} {w w':World} (h:Below w.heap.size w w'):Tr lo hi w w':=⟨h.os,h.tape,h.output,h.size,fun g hg _=>h.block g hg⟩
theorem Tr.of_touch {lo hi:Nat} {a:Option Addr} {w w':World} (h:Touch a w w') (ha:∀ ad,a=some ad->lo<=ad.block/\ad.block<hi):Tr lo hi w w':=⟨h.os,h.tape,h.output,Nat.le_of_eq h.size.symm,fun g _ hq=>h.block g fun ad e=>by have:=ha ad e;omega⟩
theorem Tr.setCell {lo hi:Nat} (w:World) {g:Nat} (h:lo<=g/\g<hi) (j:Nat) (v:Value):Tr lo hi w (w.setCell ⟨g,j,none⟩ v):=by
 have o:=OnlyG.setCell w g j v
 exact⟨o.os,o.tape,o.output,Nat.le_of_eq o.size.symm,fun q _ hq=>o.block q (by omega)⟩
structure WI (lo hi:Nat) (w:World) (g len:Nat) (V:Nat->SV):Prop where
 frz:∀ q,w.frozen? ⟨g,q,none⟩=false
 gl:lo<=g/\g<hi/\hi<=w.heap.size
 cel:∀ i,i<len->∀ j,j<7->(w.cell? ⟨g,i*7+j,none⟩).isSome=true
 arg:∀ i,i<len->w.cell? ⟨g,i*7+6,none⟩=some (.slice (V i).a (V i).len (V i).cap)
 row:∀ i,i<len->(∃ zs,Own .i64 3 lo w (V i).a (V i).len (V i).cap zs)/\(V i).len<=1048576
 rlt:∀ i,i<len->∀ q,(Value.slice (V i).a (V i).len (V i).cap).ownBlock=some q->q<hi/\g<q
 dis:∀ i j q,i<len->j<len->(Value.slice (V i).a (V i).len (V i).cap).ownBlock=some q->(Value.slice (V j).a (V j).len (V j).cap).ownBlock=some q->i=j
theorem IOw.wi {g:Nat} {w:World} {len:Nat} {xs:List Pl.IrI} (h:IOw g w len xs) {lo:Nat} (hlo:lo<=g) (hx:∀ i,i<len->(xs.getD i Pl.IrI.zero).args.length<=1048576):∃ V,WI lo w.heap.size w g len V:=by
 obtain⟨h1,h2,h3,V,h4,h5⟩:=h
 refine⟨V,h2,⟨hlo,h3,Nat.le_refl _⟩,fun i hi j hj=>?_,fun i hi=>(h4 i hi).1 6 (by decide),fun i hi=>⟨⟨_,Own.low (h4 i hi).2.1 (by omega)⟩,?_⟩,fun i hi q hq=>?_,h5⟩
 ·rw[(h4 i hi).1 j hj]
  rcases (show j=0\/j=1\/j=2\/j=3\/j=4\/j=5\/j=6 by omega) with rfl | rfl | rfl | rfl | rfl | rfl | rfl <;> rfl
 ·have:=(h4 i hi).2.1.row.1;have:=hx i hi;omega
 ·have:=(h4 i hi).2.1.1.lt q hq;omega
section
variable {lo hi:Nat} {w w':World} {g len:Nat} {V:Nat->SV}
theorem WI.later (h:WI lo hi w g len V) (hb:Below w.heap.size w w'):WI lo hi w' g len V:=by
 have hg:g<w.heap.size:=by have:=h.gl;omega
 refine⟨fun q=>(hb.frozen (p:=⟨g,q,none⟩) hg).trans (h.frz q),⟨h.gl.1,h.gl.2.1,Nat.le_trans h.gl.2.2 hb.size⟩,fun i hi j hj=>?_,fun i hi=>(hb.cell (p:=⟨g,i*7+6,none⟩) hg).trans (h.arg i hi),fun i hi=>?_,h.rlt,h.dis⟩
 ·rw[hb.cell (p:=⟨g,i*7+j,none⟩) hg];exact h.cel i hi j hj
 ·obtain⟨⟨zs,hz⟩,hl⟩:=h.row i hi
  exact⟨⟨zs,hz.above (Above.of_below hb)⟩,hl⟩
theorem WI.set (h:WI lo hi w g len V) {i j:Nat} (hi':i<len) (hj:j<6) (v:Value):WI lo hi (w.setCell ⟨g,i*7+j,none⟩ v) g len V:=by
 have hsame:=h.cel i hi' j (by omega)
 refine⟨fun q=>by rw[World.frozen?_setCell];exact h.frz q,?_,fun p hp q hq=>?_,fun p hp=>?_,fun p hp=>?_,h.rlt,h.dis⟩
 ·have:=h.gl;rw[World.size_setCell];exact this
 ·by_cases e:p*7+q=i*7+j
  ·rw[e,World.cell?_setCell_same' _ _ _ hsame];rfl
  ·rw[World.cell?_setCell_other _ _ _ _ (ty_ne (fun q=>e q.symm))];exact h.cel p hp q hq
 ·rw[World.cell?_setCell_other _ _ _ _ (ty_ne (by omega))];exact h.arg p hp
 ·obtain⟨⟨zs,hz⟩,hl⟩:=h.row p hp
  exact⟨⟨zs,own_eqL hz.1 fun q hq=>heap_setCell_other w ⟨g,i*7+j,none⟩ q v (by have:=(h.rlt p hp q hq).2;show q≠g;omega),hz.2⟩,hl⟩
theorem WI.high (h:WI lo hi w g len V) (hb:∀ q,g<=q->w'.heap[q]?=w.heap[q]?) (hs:w.heap.size<=w'.heap.size):WI lo hi w' g len V:=by
 have hgb:=hb g (Nat.le_refl _)
 refine⟨fun q=>?_,⟨h.gl.1,h.gl.2.1,Nat.le_trans h.gl.2.2 hs⟩,fun p hp q hq=>?_,fun p hp=>?_,fun p hp=>?_,h.rlt,h.dis⟩
 ·have:=h.frz q;simp only[World.frozen?,hgb]at this ⊢; exact this
 ·have:=h.cel p hp q hq;simp only[World.cell?,hgb]at this ⊢; exact this
 ·have:=h.arg p hp;simp only[World.cell?,hgb]at this ⊢; exact this
 ·obtain⟨⟨z2,hz⟩,hl⟩:=h.row p hp
  exact⟨⟨z2,own_eqL hz.1 fun q hq=>hb q (by have:=(h.rlt p hp q hq).2;omega),hz.2⟩,hl⟩
theorem WI.mark (h:WI lo hi w g len V) {i:Nat} (hi':i<len) (ht:Touch (V i).a w w') {zs:List Int} (ho:Own .i64 3 lo w' (V i).a (V i).len (V i).cap zs):WI lo hi w' g len V:=by
 have hkb:∀ q,(Value.slice (V i).a (V i).len (V i).cap).ownBlock≠some q->w'.heap[q]?=w.heap[q]?:=fun q hq=>ht.block q fun ad e=>by
  rcases ho.1.2 with ⟨z,_⟩ | ⟨g',cap',cur,z,_⟩
  ·injection z with z1 z2 z3;rw[z1]at e;cases e
  ·injection z with z1 z2 z3
   rw[z1]at e
   injection e with e
   subst e
   rw[z1]at hq
   simpa [Value.ownBlock,eq_comm] using hq
 have hgb:w'.heap[g]?=w.heap[g]?:=hkb g fun e=>Nat.lt_irrefl _ (h.rlt i hi' g e).2
 refine⟨fun q=>?_,by rw[ht.size];exact h.gl,fun p hp q hq=>?_,fun p hp=>?_,fun p hp=>?_,h.rlt,h.dis⟩
 ·have:=h.frz q;simp only[World.frozen?,hgb]at this ⊢; exact this
 ·have:=h.cel p hp q hq;simp only[World.cell?,hgb]at this ⊢; exact this
 ·have:=h.arg p hp;simp only[World.cell?,hgb]at this ⊢; exact this
 ·obtain⟨⟨z2,hz⟩,hl⟩:=h.row p hp
  by_cases e:p=i
  ·subst e;exact⟨⟨zs,ho⟩,hl⟩
  ·exact⟨⟨z2,own_eqL hz.1 fun q hq=>hkb q fun c=>e (h.dis p i q hp hi' hq c),hz.2⟩,hl⟩
end
theorem own_touch {lo hi:Nat} {w w':World} {a:Option Addr} {n c:Nat} {zs:List Int} (ho:Own .i64 3 lo w a n c zs) (hr:∀ q,(Value.slice a n c).ownBlock=some q->q<hi) (ht:Touch a w w'):Tr lo hi w w':=Tr.of_touch ht fun ad e=>by
 rcases ho.1.2 with ⟨z,_⟩ | ⟨g',cap',cur,z,hlo,_⟩
 ·injection z with z1 z2 z3;rw[z1]at e;cases e
 ·injection z with z1 z2 z3
  rw[z1]at e
  injection e with e
  subst e
  exact⟨hlo,hr g' (by rw[z1];rfl)⟩
def MkA (e:Ending):Prop:=∃ k:Int,0<=k/\e=.returned (.int .i64 k)
set_option maxRecDepth 100000 in
theorem markIrInsS_any {lo hi:Nat} (w:World) (g len:Nat) (V:Nat->SV) (h:WI lo hi w g len V) (hlen:len<=1048576) (k0:Int) (hk:1<=k0/\k0<=2000000):Calls Tryz.prog 38 #[.slice (some ⟨g,0,none⟩) len len,.int .i64 k0] w fun e w'=>MkA e/\Tr lo hi w w':=by
 have HW:Hid (WI lo hi w g len V):=h
 clear h
 have hlm:(len:Int)<=1048576:=by omega
 go_enter Tryz.func38,Tryz.ntmps38
 go_wp2_with fail
 go_loopw [1,5] (fun kv t wr=>∃ (i:Nat) (k:Int),i<=len/\t=.int .i64 (i:Int)/\kv=.int .i64 k/\1<=k/\k<=2000000+1048582*(i:Int)/\Hid (WI lo hi wr g len V/\Tr lo hi w wr)) (fun _ t _=>len-(intOf t).toNat)
 case atStart=>exact⟨0,k0,Nat.zero_le _,rfl,rfl,hk.1,by omega,HW.out,Tr.refl _ _ _⟩
 case round=>
  obtain⟨i,k,hi',rfl,rfl,hk1,hk2,HS⟩:=hrel
  by_cases hlt:i<len
  rotate_left
  ·have hii:¬ ((i:Int)<(len:Int)):=by omega
   go_wp2_with fail
   go_ret
   exact⟨⟨k,by omega,rfl⟩,HS.out.2⟩
  have hii:(i:Int)<(len:Int):=by omega
  have hkb:k<=2000000000000:=by omega
  have HKB:Hid (k<=2000000+1048582*(i:Int)):=hk2
  obtain⟨z0,c0⟩:=Option.isSome_iff_exists.1 (HS.out.1.cel i hlt 0 (by decide))
  obtain⟨z1,c1⟩:=Option.isSome_iff_exists.1 (HS.out.1.cel i hlt 1 (by decide))
  obtain⟨z2,c2⟩:=Option.isSome_iff_exists.1 (HS.out.1.cel i hlt 2 (by decide))
  obtain⟨z3,c3⟩:=Option.isSome_iff_exists.1 (HS.out.1.cel i hlt 3 (by decide))
  obtain⟨z4,c4⟩:=Option.isSome_iff_exists.1 (HS.out.1.cel i hlt 4 (by decide))
  rw[Nat.add_zero]at c0
  have f0:=HS.out.1.frz (i*7)
  have f1:=HS.out.1.frz (i*7+1)
  have f2:=HS.out.1.frz (i*7+2)
  have f3:=HS.out.1.frz (i*7+3)
  have f4:=HS.out.1.frz (i*7+4)
  clear hk2
  go_wp2_with fail
  refine ty_at fun U hU=>?_
  have H1:Hid (WI lo hi U g len V/\Tr lo hi w U):=by
   have gg:=HS.out.1.gl
   rw[hU]
   refine⟨((((HS.out.1.set (j:=0) hlt (by decide) _).set (j:=1) hlt (by decide) _).set (j:=2) hlt (by decide) _).set (j:=3) hlt (by decide) _).set (j:=4) hlt (by decide) _,?_⟩
   exact ((((HS.out.2.trans (Tr.setCell _ ⟨gg.1,gg.2.1⟩ _ _)).trans (Tr.setCell _ ⟨gg.1,gg.2.1⟩ _ _)).trans (Tr.setCell _ ⟨gg.1,gg.2.1⟩ _ _)).trans (Tr.setCell _ ⟨gg.1,gg.2.1⟩ _ _)).trans (Tr.setCell _ ⟨gg.1,gg.2.1⟩ _ _)
  clear hU c0 c1 c2 c3 c4 f0 f1 f2 f3 f4 HS
  refine (markText_is _ (by omega) U).mono ?_
  rintro e u1 ⟨rfl,d1⟩
  have H2:Hid (WI lo hi u1 g len V/\Tr lo hi w u1):=⟨H1.out.1.later d1,H1.out.2.trans (Tr.of_below d1)⟩
  obtain⟨z5,c5⟩:=Option.isSome_iff_exists.1 (H2.out.1.cel i hlt 5 (by decide))
  have f5:=H2.out.1.frz (i*7+5)
  have c6:=H2.out.1.arg i hlt
  obtain⟨⟨zs,hzs⟩,hvl⟩:=H2.out.1.row i hlt
  have hrlt:=H2.out.1.rlt i hlt
  obtain⟨vv,hvi⟩:∃ vv,V i=vv:=⟨_,rfl⟩
  obtain⟨va,vl,vc⟩:=vv
  rw[hvi]at c6 hzs hvl hrlt
  clear d1 H1
  go_wp2_with fail
  refine ty_at fun U hU=>?_
  have H3:Hid (WI lo hi U g len V/\Tr lo hi w U):=by
   have gg:=H2.out.1.gl
   rw[hU]
   exact⟨H2.out.1.set (j:=5) hlt (by decide) _,H2.out.2.trans (Tr.setCell _ ⟨gg.1,gg.2.1⟩ _ _)⟩
  obtain⟨⟨zt,hzt⟩,_⟩:=H3.out.1.row i hlt
  rw[hvi]at hzt
  clear hU c5 f5 c6 hzs H2
  refine (markIntS_any va vl vc zt _ U hzt (by first | omega | (simp only at hvl;omega))).mono ?_
  rintro e u2 ⟨rfl,o2,t2⟩
  have H4:Hid (WI lo hi u2 g len V/\Tr lo hi w u2):=⟨H3.out.1.mark hlt (by rw[hvi];exact t2) (by rw[hvi];exact o2),H3.out.2.trans (own_touch hzt (fun q hq=>(hrlt q hq).1) t2)⟩
  have HVL:Hid (vl<=1048576):=hvl
  clear o2 t2 hzt H3 hrlt hvl
  have hvl2:(vl:Int)<=1048576:=by have:=HVL.out;omega
  go_wp2_with fail
  refine⟨⟨i+1,_,by omega,by go_num,rfl,by omega,by have:=HKB.out;omega,H4⟩,by simp[intOf];omega⟩
set_option maxRecDepth 100000 in
theorem markIrFun_any {lo:Nat} (x:Pl.IrF) (v:SV) (gs n:Nat) (u w:World) (h:FOw lo u v gs n x) (hx:x.sized) (hb:Below u.heap.size u w):Calls Tryz.prog 12 #[.agg #[.string x.name,.int .i64 x.params,.int .i64 x.regs,.slice v.a v.len v.cap,.slice (some ⟨gs,0,none⟩) n n],.int .i64 1] w fun e w'=>MkA e/\Tr lo u.heap.size w w':=by
 obtain⟨V,hV⟩:=h.cd.wi h.lo_ (fun i hi=>(hx.2.2.2 i (by have:=h.cd.1;omega)).2)
 have hn:n<=1048576:=by have:=h.cd.1;have:=hx.2.2.1;omega
 have hvl:v.len<=1048576:=by have:=h.sl.row.1;have:=hx.2.1;omega
 have hlu:∀ q,(Value.slice v.a v.len v.cap).ownBlock=some q->q<u.heap.size/\q<gs:=fun q hq=>⟨(h.sl.1.lt q hq).2,h.lt q hq⟩
 obtain⟨w1,hw1⟩:∃ w1,w1=w.alloc (.cells #[.string x.name,.int .i64 x.params,.int .i64 x.regs,.slice v.a v.len v.cap,.slice (some ⟨gs,0,none⟩) n n] 31):=⟨_,rfl⟩
 have hbw:Below w.heap.size w w1:=by rw[hw1];exact below_alloc _ _
 have hb1:Below u.heap.size u w1:=hb.trans (hbw.mono hb.size)
 have k3:w1.cell? ⟨w.heap.size,3,none⟩=some (.slice v.a v.len v.cap):=by rw[hw1,cell_of_row _ w.heap.size 3 _ 31 (0,0) (heap_alloc_new w _)];rfl
 have k4:w1.cell? ⟨w.heap.size,4,none⟩=some (.slice (some ⟨gs,0,none⟩) n n):=by rw[hw1,cell_of_row _ w.heap.size 4 _ 31 (0,0) (heap_alloc_new w _)];rfl
 have H1:Hid (Own .i64 3 lo w1 v.a v.len v.cap x.slots/\WI lo u.heap.size w1 gs n V/\Tr lo u.heap.size w w1/\∀ q,(Value.slice v.a v.len v.cap).ownBlock=some q->q<u.heap.size/\q<gs):=⟨h.sl.above (Above.of_below hb1),hV.later hb1,Tr.of_below hbw,hlu⟩
 have huw:=hb.size
 have HW1:Hid (w.alloc (.cells #[.string x.name,.int .i64 x.params,.int .i64 x.regs,.slice v.a v.len v.cap,.slice (some ⟨gs,0,none⟩) n n] 31)=w1):=hw1.symm
 obtain⟨va,vl,vc⟩:=v
 simp only at hvl k3 k4 H1 HW1 ⊢
 have hvl2:(vl:Int)<=1048576:=by omega
 clear h hV hlu hb1 hb hw1 hbw
 go_enter Tryz.func12,Tryz.ntmps12
 go_wp2_with fail
 rw[HW1.out]
 refine (markIntS_any va vl vc x.slots 1 w1 H1.out.1 (by omega)).mono ?_
 rintro e u2 ⟨rfl,o2,t2⟩
 have hge:∀ ad,va=some ad->ad.block<u.heap.size/\ad.block<gs:=fun ad e=>by
  rcases H1.out.1.1.2 with ⟨z,_⟩ | ⟨g',cap',cur,z,_⟩
  ·injection z with z1 z2 z3;rw[z1]at e;cases e
  ·injection z with z1 z2 z3
   rw[z1]at e
   injection e with e
   subst e
   exact H1.out.2.2.2 g' (by rw[z1];rfl)
 have hkb:∀ g,gs<=g\/u.heap.size<=g->u2.heap[g]?=w1.heap[g]?:=fun g hg=>t2.block g fun ad e=>by have:=hge ad e;omega
 have k4':u2.cell? ⟨w.heap.size,4,none⟩=some (.slice (some ⟨gs,0,none⟩) n n):=by
  have:=k4
  simp only[World.cell?,hkb w.heap.size (.inr huw)]at this ⊢
  exact this
 have H2:Hid (WI lo u.heap.size u2 gs n V/\Tr lo u.heap.size w u2):=by
  refine⟨?_,H1.out.2.2.1.trans (own_touch H1.out.1 (fun q hq=>(H1.out.2.2.2 q hq).1) t2)⟩
  exact H1.out.2.1.high (fun q hq=>hkb q (.inl hq)) (Nat.le_of_eq t2.size.symm)
 clear o2 t2 hge hkb k3 k4
 go_wp2_with fail
 refine (markIrInsS_any u2 gs n V H2.out.1 hn _ (by omega)).mono ?_
 rintro e u3 ⟨⟨k,hk,rfl⟩,t3⟩
 have H3:Hid (Tr lo u.heap.size w u3):=H2.out.2.trans t3
 clear t3
 go_wp2_with fail
 go_ret
 exact⟨⟨k,hk,rfl⟩,H3.out⟩
end Go.Proofs.YtcgfgmlfbgbkfaaGreatDoor.W
namespace Go.Proofs.YtcgfgmlfbgbkfaaGreatDoor.Pl
def mkS (i:Nat):Sp:=⟨3*(i:Int)+1,3*(i:Int)+2,true⟩
end Go.Proofs.YtcgfgmlfbgbkfaaGreatDoor.Pl
namespace Go.Proofs.YtcgfgmlfbgbkfaaGreatDoor.W
open Go.RowKit
theorem OnlyG.tr {g lo hi:Nat} {w w':World} (h:OnlyG g w w') (h1:lo<=g) (h2:g<hi):Tr lo hi w w':=⟨h.os,h.tape,h.output,Nat.le_of_eq h.size.symm,fun q hq hz=>h.block q (by omega)⟩
def RS (w:World) (a:Option Addr) (n:Nat) (S:Nat->Pl.Sp):Prop:=n<=8000/\(n=0\/∃ g,a=some ⟨g,0,none⟩/\g<w.heap.size/\∀ i,i<n->∀ j,j<3->w.cell? ⟨g,i*3+j,none⟩=(S i).cells[j]?)
theorem RS.keep {w w':World} {a:Option Addr} {n:Nat} {S:Nat->Pl.Sp} (h:RS w a n S) (hb:Below w.heap.size w w'):RS w' a n S:=by
 rcases h with ⟨h0,h | ⟨g,e,hg,h⟩⟩
 ·exact⟨h0,.inl h⟩
 ·exact⟨h0,.inr ⟨g,e,Nat.lt_of_lt_of_le hg hb.size,fun i hi j hj=>(hb.cell (p:=⟨g,i*3+j,none⟩) hg).trans (h i hi j hj)⟩⟩
set_option maxRecDepth 100000 in
theorem eqSpan_same (fr tt:Int) (cr:Bool) (w:World):Calls Tryz.prog 42 #[.agg #[.int .i64 fr,.int .i64 tt,.bool cr],.agg #[.int .i64 fr,.int .i64 tt,.bool cr]] w fun e w'=>e=.returned (.bool true)/\Below w.heap.size w w':=by
 have h1:(fr != fr)=false:=by simp
 have h2:(tt != tt)=false:=by simp
 have h3:(cr != cr)=false:=by simp
 go_enter Tryz.func42,Tryz.ntmps42
 go_wp2
 go_ret
 exact⟨rfl,(below_alloc w _).trans ((below_alloc _ _).mono (by simp))⟩
set_option maxRecDepth 100000 in
theorem eqSpanS_same (a a':Option Addr) (n cap cap':Nat) (S:Nat->Pl.Sp) (w:World) (h:RS w a n S) (h':RS w a' n S):Calls Tryz.prog 17 #[.slice a n cap,.slice a' n cap'] w fun e w'=>e=.returned (.bool true)/\Below w.heap.size w w':=by
 have HR:Hid (RS w a n S/\RS w a' n S):=⟨h,h'⟩
 have hnm:(n:Int)<=8000:=by have:=h.1;omega
 clear h h'
 go_enter Tryz.func17,Tryz.ntmps17
 go_wp2_with fail
 go_loopw [5] (fun t wr=>∃ (i:Nat),i<=n/\t=.int .i64 (i:Int)/\Hid (Below w.heap.size w wr)) (fun t _=>n-(intOf t).toNat)
 case atStart=>exact⟨0,Nat.zero_le _,rfl,Below.refl _ _⟩
 case round=>
  obtain⟨i,hi,rfl,HB⟩:=hrel
  by_cases hlt:i<n
  rotate_left
  ·have hii:¬ ((i:Int)<(n:Int)):=by omega
   go_wp2_with fail
   go_ret
   exact⟨rfl,HB.out⟩
  have hii:(i:Int)<(n:Int):=by omega
  obtain⟨g,rfl,hg,hA⟩:=(HR.out.1.keep HB.out).2.resolve_left (by omega)
  obtain⟨g',rfl,hg',hA'⟩:=(HR.out.2.keep HB.out).2.resolve_left (by omega)
  obtain⟨fr,tt,cr,hS⟩:∃ fr tt cr,S i=⟨fr,tt,cr⟩:=⟨_,_,_,rfl⟩
  have c0:wr.cell? ⟨g,i*3,none⟩=some (.int .i64 fr):=by have:=hA i hlt 0 (by omega);rw[hS]at this;exact this
  have c1:wr.cell? ⟨g,i*3+1,none⟩=some (.int .i64 tt):=by have:=hA i hlt 1 (by omega);rw[hS]at this;exact this
  have c2:wr.cell? ⟨g,i*3+2,none⟩=some (.bool cr):=by have:=hA i hlt 2 (by omega);rw[hS]at this;exact this
  have e0:wr.cell? ⟨g',i*3,none⟩=some (.int .i64 fr):=by have:=hA' i hlt 0 (by omega);rw[hS]at this;exact this
  have e1:wr.cell? ⟨g',i*3+1,none⟩=some (.int .i64 tt):=by have:=hA' i hlt 1 (by omega);rw[hS]at this;exact this
  have e2:wr.cell? ⟨g',i*3+2,none⟩=some (.bool cr):=by have:=hA' i hlt 2 (by omega);rw[hS]at this;exact this
  clear hA hA' hS
  go_upto_region 6 with fail
  go_region_with (go_at_call 42;refine (eqSpan_same fr tt cr _).mono ?_;rintro e u1 ⟨rfl,d1⟩; have HD:Hid (Below wr.heap.size wr u1):=(Below.drew (Below.refl _ _)).trans d1;clear d1)
  all_goals (
   have HN:Hid (Below w.heap.size w u1):=HB.out.trans (HD.out.mono HB.out.size)
   clear HD
   go_wp2_with fail
   go_roundw
   (case rel=>exact⟨i+1,by omega,by go_num,HN⟩)
   (case measure=>simp[intOf];omega))
def RO (lo:Nat) (w:World) (a:Option Addr) (n:Nat) (S:Nat->Pl.Sp):Prop:=n=0\/∃ go cs,a=some ⟨go,0,none⟩/\lo<=go/\w.heap[go]?=some (.cells cs 73 (0,0))/\n*3<=cs.size/\∀ i,i<n->∀ j,j<3->cs[i*3+j]?=(S i).cells[j]?
theorem RO.rs {lo:Nat} {w:World} {a:Option Addr} {n:Nat} {S:Nat->Pl.Sp} (h:RO lo w a n S) (hn:n<=8000):RS w a n S:=by
 refine⟨hn,?_⟩
 rcases h with h | ⟨go,cs,e,hlo,hb,hs,h⟩
 ·exact .inl h
 ·exact .inr ⟨go,e,(Array.getElem?_eq_some_iff.1 hb).1,fun i hi j hj=>(cell_of_row w go _ _ _ (0,0) hb).trans (h i hi j hj)⟩
theorem RO.later {lo:Nat} {w w':World} {a:Option Addr} {n:Nat} {S:Nat->Pl.Sp} (h:RO lo w a n S) (hb:Below w.heap.size w w'):RO lo w' a n S:=by
 rcases h with h | ⟨go,cs,e,hlo,hk,hs,h⟩
 ·exact .inl h
 ·exact .inr ⟨go,cs,e,hlo,(hb.block _ (Array.getElem?_eq_some_iff.1 hk).1).trans hk,hs,h⟩
theorem RO.tr {lo l h':Nat} {w w':World} {a:Option Addr} {n:Nat} {S:Nat->Pl.Sp} (h:RO lo w a n S) (ht:Tr l h' w w') (hl:h'<=lo):RO lo w' a n S:=by
 rcases h with h | ⟨go,cs,e,hlo,hk,hs,h⟩
 ·exact .inl h
 ·exact .inr ⟨go,cs,e,hlo,(ht.block _ (Array.getElem?_eq_some_iff.1 hk).1 (.inr (by omega))).trans hk,hs,h⟩
theorem RO.own {lo:Nat} {w:World} {go n cap:Nat} {S:Nat->Pl.Sp} (h:w.ownsRow lo 73 3 (.slice (some ⟨go,0,none⟩) n cap) n (Pl.spV n S)):RO lo w (some ⟨go,0,none⟩) n S:=by
 rcases h.2 with ⟨e,_⟩ | ⟨g,c,cur,e,hlo,hb,h1,h2,h3,h4⟩
 ·cases e
 ·injection e with e1 e2 e3
  injection e1 with e1
  injection e1 with e1
  subst e1
  refine .inr ⟨go,cur,rfl,hlo,hb,by omega,fun i hi j hj=>?_⟩
  rw[<- Pl.spV_at S hi hj,<- h4,List.getElem?_take_of_lt (by omega)]
  simp
set_option maxRecDepth 100000 in
theorem markSpanS_any {lo:Nat} (a:Option Addr) (n cap:Nat) (S:Nat->Pl.Sp) (w:World) (h:RO lo w a n S) (hn:n<=8000):Calls Tryz.prog 18 #[.slice a n cap,.int .i64 1] w fun e w'=>e=.returned (.int .i64 (3*(n:Int)+1))/\RO lo w' a n Pl.mkS/\Tr lo w.heap.size w w':=by
 have HR:Hid (RO lo w a n S):=h
 have hnm:(n:Int)<=8000:=by omega
 clear h
 go_enter Tryz.func18,Tryz.ntmps18
 go_wp2_with fail
 go_loopw [1,5] (fun kv t wr=>∃ (i:Nat),i<=n/\t=.int .i64 (i:Int)/\kv=.int .i64 (3*(i:Int)+1)/\Hid ((n=0\/∃ go cs,a=some ⟨go,0,none⟩/\lo<=go/\go<w.heap.size/\wr.heap[go]?=some (.cells cs 73 (0,0))/\n*3<=cs.size/\∀ q,q<i->∀ j,j<3->cs[q*3+j]?=(Pl.mkS q).cells[j]?)/\Tr lo w.heap.size w wr/\wr.heap.size=w.heap.size)) (fun _ t _=>n-(intOf t).toNat)
 case atStart=>
  refine⟨0,Nat.zero_le _,rfl,by go_num,?_,Tr.refl _ _ _,rfl⟩
  rcases HR.out with h | ⟨go,cs,e,hlo,hb,hs,h⟩
  ·exact .inl h
  ·exact .inr ⟨go,cs,e,hlo,(Array.getElem?_eq_some_iff.1 hb).1,hb,hs,fun q hq=>absurd hq (Nat.not_lt_zero _)⟩
 case round=>
  obtain⟨i,hi,rfl,rfl,HS⟩:=hrel
  by_cases hlt:i<n
  rotate_left
  ·have hii:¬ ((i:Int)<(n:Int)):=by omega
   have hie:i=n:=by omega
   have HE:Hid (3*(i:Int)+1=3*(n:Int)+1/\RO lo wr a n Pl.mkS/\Tr lo w.heap.size w wr):=by
    subst hie
    refine⟨rfl,?_,HS.out.2.1⟩
    rcases HS.out.1 with h | ⟨go,cs,e,hlo,_,hb,hs,h⟩
    ·exact .inl h
    ·exact .inr ⟨go,cs,e,hlo,hb,hs,h⟩
   clear hie HS
   go_wp2_with fail
   go_ret
   exact⟨by rw[<- HE.out.1];rfl,HE.out.2⟩
  have hii:(i:Int)<(n:Int):=by omega
  obtain⟨go,cs,rfl,hlo,hgo,hb,hs,hc⟩:=HS.out.1.resolve_left (by omega)
  have HB:Hid (wr.heap[go]?=some (.cells cs 73 (0,0))/\n*3<=cs.size/\(∀ q,q<i->∀ j,j<3->cs[q*3+j]?=(Pl.mkS q).cells[j]?)/\Tr lo w.heap.size w wr/\wr.heap.size=w.heap.size):=⟨hb,hs,hc,HS.out.2⟩
  obtain⟨v0,hv0⟩:∃ v,wr.cell? ⟨go,i*3,none⟩=some v:=by rw[cell_of_row wr _ (i*3) _ _ (0,0) hb];exact⟨_,Array.getElem?_eq_getElem (by omega)⟩
  obtain⟨v1,hv1⟩:∃ v,wr.cell? ⟨go,i*3+1,none⟩=some v:=by rw[cell_of_row wr _ (i*3+1) _ _ (0,0) hb];exact⟨_,Array.getElem?_eq_getElem (by omega)⟩
  obtain⟨v2,hv2⟩:∃ v,wr.cell? ⟨go,i*3+2,none⟩=some v:=by rw[cell_of_row wr _ (i*3+2) _ _ (0,0) hb];exact⟨_,Array.getElem?_eq_getElem (by omega)⟩
  have fz:∀ q,wr.frozen? ⟨go,q,none⟩=false:=fun q=>frozen_of_row wr _ q _ _ hb
  obtain⟨k,hk⟩:∃ k:Int,k=3*(i:Int)+1:=⟨_,rfl⟩
  rw[<- hk]
  have hkb:1<=k/\k<=24001:=by omega
  have hm3:(k+1+1).tmod 3=0:=by rw[Int.tmod_eq_emod_of_nonneg (by omega)];omega
  have hm4:(k+2).tmod 3=0:=by rw[Int.tmod_eq_emod_of_nonneg (by omega)];omega
  have HK:Hid (k=3*(i:Int)+1):=hk
  clear hb hs hc HS hk
  go_wp2_with fail
  have HO:Hid (OnlyG go wr (((wr.setCell ⟨go,i*3,none⟩ (.int .i64 k)).setCell ⟨go,i*3+1,none⟩ (.int .i64 (k+1))).setCell ⟨go,i*3+2,none⟩ (.bool true))):=((OnlyG.setCell wr go _ _).trans (OnlyG.setCell _ go _ _)).trans (OnlyG.setCell _ go _ _)
  refine⟨⟨i+1,by omega,by go_num,congrArg (Value.int .i64) (by have:=HK.out;omega),.inr ⟨go,_,rfl,hlo,hgo,set3_block HB.out.1 _ _ _ _,by simp;exact HB.out.2.1,fun q hq j hj=>?_⟩,HB.out.2.2.2.1.trans (HO.out.tr hlo hgo),HO.out.size.trans HB.out.2.2.2.2⟩,by simp[intOf];omega⟩
  have:=set3_at (S:=Pl.mkS) (fr:=k) (tt:=k+1) (b:=true) (by have:=HB.out.2.1;omega) HB.out.2.2.1 hq hj
  rw[this]
  by_cases e:q=i
  ·subst e;rw[if_pos rfl,HK.out];unfold Pl.mkS;rw[show 3*(q:Int)+1+1=3*(q:Int)+2 by omega]
  ·rw[if_neg e]
set_option maxRecDepth 100000 in
theorem heldSpanS_any {lo:Nat} (a:Option Addr) (n cap:Nat) (w:World) (h:RO lo w a n Pl.mkS) (hn:n<=8000):Calls Tryz.prog 19 #[.slice a n cap,.int .i64 1] w fun e w'=>e=.returned (.int .i64 (3*(n:Int)+1))/\Below w.heap.size w w':=by
 have HR:Hid (RS w a n Pl.mkS):=h.rs hn
 have hnm:(n:Int)<=8000:=by omega
 clear h
 go_enter Tryz.func19,Tryz.ntmps19
 go_wp2_with fail
 go_loopw [1,5] (fun kv t wr=>∃ (i:Nat),i<=n/\t=.int .i64 (i:Int)/\kv=.int .i64 (3*(i:Int)+1)/\wr=w) (fun _ t _=>n-(intOf t).toNat)
 case atStart=>exact⟨0,Nat.zero_le _,rfl,by go_num,rfl⟩
 case round=>
  obtain⟨i,hi,rfl,rfl,rfl⟩:=hrel
  by_cases hlt:i<n
  rotate_left
  ·have hii:¬ ((i:Int)<(n:Int)):=by omega
   have HE:Hid (3*(i:Int)+1=3*(n:Int)+1):=by show _=_;omega
   go_wp2_with fail
   go_ret
   exact⟨by rw[<- HE.out];rfl,Below.refl _ _⟩
  have hii:(i:Int)<(n:Int):=by omega
  obtain⟨g,rfl,hg,hA⟩:=HR.out.2.resolve_left (by omega)
  obtain⟨k,hk⟩:∃ k:Int,k=3*(i:Int)+1:=⟨_,rfl⟩
  have hkb:1<=k/\k<=24001:=by omega
  have c0:wr.cell? ⟨g,i*3,none⟩=some (.int .i64 k):=by have:=hA i hlt 0 (by omega);rw[hk];exact this
  have c1:wr.cell? ⟨g,i*3+1,none⟩=some (.int .i64 (k+1)):=by have:=hA i hlt 1 (by omega);rw[hk,show 3*(i:Int)+1+1=3*(i:Int)+2 by omega];exact this
  have c2:wr.cell? ⟨g,i*3+2,none⟩=some (.bool true):=hA i hlt 2 (by omega)
  rw[<- hk]
  have h1:(k != k)=false:=by simp
  have h2:(k+1 != k+1)=false:=by simp
  have hm3:(k+1+1).tmod 3=0:=by rw[Int.tmod_eq_emod_of_nonneg (by omega)];omega
  have hm4:(k+2).tmod 3=0:=by rw[Int.tmod_eq_emod_of_nonneg (by omega)];omega
  have HK:Hid (k=3*(i:Int)+1):=hk
  clear hA hk
  go_wp2_with fail
  exact⟨⟨i+1,by omega,by go_num,congrArg (Value.int .i64) (by have:=HK.out;omega),trivial⟩,by simp[intOf];omega⟩
end Go.Proofs.YtcgfgmlfbgbkfaaGreatDoor.W
namespace Go.Proofs.YtcgfgmlfbgbkfaaGreatDoor.Pl
open Classical in
noncomputable def spN (f:IrF):Nat:=if funOk f then f.regs.toNat else 0
open Classical in
noncomputable def spS (f:IrF) (r:Nat):Sp:=if h:∃ s,SpanIs f r s then Classical.choose h else ⟨0,0,false⟩
theorem spS_is {f:IrF} {r:Nat} {s:Sp} (h:SpanIs f r s):spS f r=s:=by
 have hx:∃ s,SpanIs f r s:=⟨s,h⟩
 unfold spS
 rw[dif_pos hx]
 exact (Classical.choose_spec hx).fn h
theorem spN_le (f:IrF):spN f<=8000:=by
 unfold spN
 split
 ·rename_i h;have:=h.1.2.1.2;omega
 ·omega
theorem spR (f:IrF):f.regs=(f.regs.toNat:Int)\/¬ funOk f:=by
 by_cases h:funOk f
 ·have h1:=h.1.1.1;have h2:=h.1.2.1.1;exact .inl (by omega)
 ·exact .inr h
end Go.Proofs.YtcgfgmlfbgbkfaaGreatDoor.Pl
namespace Go.Proofs.YtcgfgmlfbgbkfaaGreatDoor.W
open Go.RowKit
theorem Tr.belowS {l h' B:Nat} {u w w':World} (ht:Tr l h' w w') (hb:Below B u w) (hB:B<=l) (hu:B<=u.heap.size):Below B u w':=⟨ht.os.trans hb.os,ht.tape.trans hb.tape,ht.output.trans hb.output,Nat.le_trans hb.size ht.size,fun g hg=>(ht.block g (by have:=hb.size;omega) (.inl (by omega))).trans (hb.block g hg)⟩
theorem specSp_c {lo:Nat} (f:Pl.IrF) (v s:SV) (w:World) (h:FIs lo w v s f):Calls Tryz.prog 15 #[.agg #[.string f.name,.int .i64 f.params,.int .i64 f.regs,.slice v.a v.len v.cap,.slice s.a s.len s.cap]] w fun e w'=>(∃ a c,e=.returned (.slice a (Pl.spN f) c)/\RS w' a (Pl.spN f) (Pl.spS f))/\Below w.heap.size w w':=by
 refine (specSp_is f v s f.regs.toNat w h (Pl.spR f)).mono fun e w' q=>?_
 obtain⟨go,co,n,S,rfl,hr,hc,hb⟩:=q
 have hn:n=Pl.spN f:=by
  unfold Pl.spN
  rcases hc with ⟨h1,h2⟩ | ⟨h1,h2,_⟩
  ·rw[if_neg h1];exact h2
  ·rw[if_pos h1];exact h2
 have hS:∀ r,r<n->S r=Pl.spS f r:=fun r hr=>by
  rcases hc with ⟨_,h2⟩ | ⟨_,_,h3⟩
  ·omega
  ·exact (Pl.spS_is (h3 r hr)).symm
 rw[Pl.spV_congr hS]at hr
 subst hn
 exact⟨⟨some ⟨go,0,none⟩,co,rfl,(RO.own hr).rs (Pl.spN_le f)⟩,hb⟩
theorem implSp_c {lo:Nat} (f:Pl.IrF) (v s:SV) (w:World) (h:FIs lo w v s f) (hz:f.sized) (hwf:∀ i,i<f.code.length->(Lit.int .i64 (f.code.getD i Pl.IrI.zero).n).wf=true) (hT:TabT w):Calls Tryz.prog 16 #[.agg #[.string f.name,.int .i64 f.params,.int .i64 f.regs,.slice v.a v.len v.cap,.slice s.a s.len s.cap]] w fun e w'=>(∃ a c,e=.returned (.slice a (Pl.spN f) c)/\RO w.heap.size w' a (Pl.spN f) (Pl.spS f))/\Below w.heap.size w w':=by
 refine (implSp_is f v s f.regs.toNat w h (fun i hi=>(hz.2.2.2 i hi).2) hwf hT (Pl.spR f)).mono fun e w' q=>?_
 obtain⟨hb,⟨h1,rfl⟩ | ⟨h1,go,S,rfl,hr,h2⟩⟩:=q
 ·have hn:Pl.spN f=0:=by unfold Pl.spN;rw[if_neg h1]
  exact⟨⟨none,0,by rw[hn],.inl hn⟩,hb⟩
 ·have hn:Pl.spN f=f.regs.toNat:=by unfold Pl.spN;rw[if_pos h1]
  refine⟨⟨some ⟨go,0,none⟩,f.regs.toNat,by rw[hn],?_⟩,hb⟩
  rw[Pl.spV_congr (fun r hr=>(Pl.spS_is (h2 r hr)).symm)]at hr
  rw[hn]
  exact RO.own hr
end Go.Proofs.YtcgfgmlfbgbkfaaGreatDoor.W
