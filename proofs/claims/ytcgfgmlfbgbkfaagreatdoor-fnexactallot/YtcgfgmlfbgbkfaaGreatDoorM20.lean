import Derived.Test.YtcgfgmlfbgbkfaaGreatDoorM13
import Derived.Test.YtcgfgmlfbgbkfaaGreatDoorM17
import Derived.Test.YtcgfgmlfbgbkfaaGreatDoorM19
import Derived.Test.YtcgfgmlfbgbkfaaGreatDoorM12
import Derived.Test.YtcgfgmlfbgbkfaaGreatDoorM11
import Derived.Deep.AppendLies
import Derived.Deep.QuietTactic
import Derived.BigQuiet
set_option linter.unusedVariables false
set_option linter.unusedSimpArgs false
set_option maxHeartbeats 16000000
namespace Go.Proofs.YtcgfgmlfbgbkfaaGreatDoor.Pl
theorem allW_head {ws:List Nat} {q:Nat} {rest:List Nat} (h:allW ws=q :: rest):inW ws q=true/\∀ m,inW ws m=true->q<=m:=by
 have hs:(allW ws).Pairwise (· < ·):=by unfold allW;exact List.Pairwise.filter _ List.pairwise_lt_range
 refine⟨(mem_allW ws q).1 (by rw[h];exact List.mem_cons_self),fun m hm=>?_⟩
 have hm2:=(mem_allW ws m).2 hm
 rw[h]at hs hm2
 rcases List.mem_cons.1 hm2 with e | e
 ·omega
 ·exact Nat.le_of_lt ((List.pairwise_cons.1 hs).1 m e)
theorem Bd.ofW {ws:List Nat} {P:Nat->Prop} {n:Nat} {z:Int} (hP:∀ i,inW ws i=true↔i<n/\P i) (hz:LastW ws (-1) z):Bd P n (firstW ws 0) z:=by
 rcases hz with ⟨h1,h2⟩ | ⟨b,h1,h2,h3⟩
 ·refine .inl ⟨h1,?_,fun i hi hp=>absurd ((hP i).2 ⟨hi,hp⟩) (by rw[h2 i];decide)⟩
  unfold firstW
  cases e:allW ws with
  | nil=>rfl
  | cons q rest=>exact absurd (allW_head e).1 (by rw[h2 q];decide)
 ·unfold firstW
  cases e:allW ws with
  | nil=>exact absurd ((mem_allW ws b).2 h2) (by rw[e];exact List.not_mem_nil)
  | cons q rest=>
   obtain⟨k1,k2⟩:=allW_head e
   exact .inr ⟨q,b,rfl,h1,((hP q).1 k1).1,((hP b).1 h2).1,((hP q).1 k1).2,((hP b).1 h2).2,fun i hi hp=>⟨k2 i ((hP i).2 ⟨hi,hp⟩),h3 i ((hP i).2 ⟨hi,hp⟩)⟩⟩
end Go.Proofs.YtcgfgmlfbgbkfaaGreatDoor.Pl
namespace Go.Proofs.YtcgfgmlfbgbkfaaGreatDoor.W
open Go.RowKit
def SpI (w:World) (f:Pl.IrF) (R:Nat) (e:Ending) (w':World):Prop:=∃ (go:Nat) (S:Nat->Pl.Sp),e=.returned (.slice (some ⟨go,0,none⟩) R R)/\w'.ownsRow w.heap.size 73 3 (.slice (some ⟨go,0,none⟩) R R) R (Pl.spV R S)/\(∀ r,r<R->Pl.SpanIs f r (S r))/\Below w.heap.size w w'
theorem nat_list (xs:List Int) (h:∀ x∈xs,0<=x):∃ ns:List Nat,xs=ns.map fun n:Nat=>(n:Int):=by
 refine⟨xs.map Int.toNat,?_⟩
 rw[List.map_map]
 conv=>lhs;rw[<- List.map_id xs]
 exact List.map_congr_left fun x hx=>by have:=h x hx;simp;omega
theorem set3_block {U:World} {b:Nat} {cs:Array Value} {t:TypeId} (h:U.heap[b]?=some (.cells cs t (0,0))) (o:Nat) (x y z:Value):(((U.setCell ⟨b,o,none⟩ x).setCell ⟨b,o+1,none⟩ y).setCell ⟨b,o+2,none⟩ z).heap[b]?=some (.cells (((cs.setIfInBounds o x).setIfInBounds (o+1) y).setIfInBounds (o+2) z) t (0,0)):=
 heap_setCell_same _ b (o+2) _ t _ (heap_setCell_same _ b (o+1) _ t _ (heap_setCell_same _ b o _ t _ h))
theorem set3_at {cs:Array Value} {r:Nat} {S:Nat->Pl.Sp} {fr tt:Int} {b:Bool} (hs:r*3+3<=cs.size) (h:∀ q,q<r->∀ j,j<3->cs[q*3+j]?=(S q).cells[j]?) {q j:Nat} (hq:q<r+1) (hj:j<3):(((cs.setIfInBounds (r*3) (.int .i64 fr)).setIfInBounds (r*3+1) (.int .i64 tt)).setIfInBounds (r*3+2) (.bool b))[q*3+j]?=(Pl.Sp.cells (if q=r then ⟨fr,tt,b⟩ else S q))[j]?:=by
 by_cases e:q=r
 ·subst e
  rw[if_pos rfl]
  rcases (show j=0\/j=1\/j=2 by omega) with rfl | rfl | rfl
  ·rw[Array.getElem?_setIfInBounds_ne (by omega),Array.getElem?_setIfInBounds_ne (by omega),Nat.add_zero,Array.getElem?_setIfInBounds_self_of_lt (by omega)];rfl
  ·rw[Array.getElem?_setIfInBounds_ne (by omega),Array.getElem?_setIfInBounds_self_of_lt (by simp;omega)];rfl
  ·rw[Array.getElem?_setIfInBounds_self_of_lt (by simp;omega)];rfl
 ·rw[if_neg e,Array.getElem?_setIfInBounds_ne (by omega),Array.getElem?_setIfInBounds_ne (by omega),Array.getElem?_setIfInBounds_ne (by omega)]
  exact h q (by omega) j hj
set_option maxRecDepth 100000 in
theorem spans_is (w:World) (gr g n c R:Nat) (f:Pl.IrF) (Y:Nat->SV) (hlen:f.code.length=n) (c5:w.cell? ⟨gr,5,none⟩=some (.slice (some ⟨g,0,none⟩) n c)) (c1:w.cell? ⟨gr,1,none⟩=some (.int .i64 f.params)) (c2:w.cell? ⟨gr,2,none⟩=some (.int .i64 (R:Int))) (hg:g<w.heap.size) (cz:∀ i,i<n->w.cell? ⟨g,i,none⟩=some (stV (f.code.getD i Pl.IrI.zero).op.toNat (f.code.getD i Pl.IrI.zero) (Y i))) (ho:∀ i,i<n->1<=(f.code.getD i Pl.IrI.zero).op/\(f.code.getD i Pl.IrI.zero).op<=16) (hn:1<=n/\n<=8000) (hR:R<=2000) (hT:TabT w)
  (hNL:∀ u,Below w.heap.size w u->Calls Tryz.prog 62 #[.pointer (some ⟨gr,0,none⟩)] u fun e u'=>∃ (gl gb gs gu gt:Nat) (B U S:Gd) (ss:List Int) (T:Nat->Nat),e=.returned (.pointer (some ⟨gl,0,none⟩))/\Lv u u' gl gb gs gu gt n R B U S ss T/\LvF f.code n B U S ss) :
  Calls Tryz.prog 41 #[.pointer (some ⟨gr,0,none⟩)] w fun e w'=>SpI w f R e w':=by
 have hgr:=block_lt_of_cell c5
 have hTl:=block_lt_of_cell (hT 0 (by decide))
 have HNL:Hid _:=hNL
 have HCP:Hid (∀ u,Below w.heap.size w u->Calls Tryz.prog 71 #[.pointer (some ⟨gr,0,none⟩)] u fun e u'=>CpSaid u f.code e u'):=fun u hu=>callPlaces_is gr g n c f.code Y u hlen.symm hn.2 (Nat.lt_of_lt_of_le hgr hu.size) (Nat.lt_of_lt_of_le hg hu.size) ((hu.cell (p:=⟨gr,5,none⟩) hgr).trans c5) (fun i hi=>(hu.cell (p:=⟨g,i,none⟩) hg).trans (cz i hi)) ho
 have HNE:Hid (n=f.code.length):=hlen.symm
 have HC:Hid (∀ u,Below w.heap.size w u->u.cell? ⟨gr,1,none⟩=some (.int .i64 f.params)/\u.cell? ⟨gr,2,none⟩=some (.int .i64 (R:Int))/\TabT u):=fun u hu=>⟨(hu.cell (p:=⟨gr,1,none⟩) hgr).trans c1,(hu.cell (p:=⟨gr,2,none⟩) hgr).trans c2,hT.keep hTl hu⟩
 obtain⟨i0,hi0,hz0,hz1,hz2⟩:=info_parts Tryz.infospanL
 have hmk:∀ u:World,(Instr.makeSlice 38 (.int .i64 (R:Int)) (.int .i64 (R:Int))).run Tryz.prog u=.ok (.slice (some ⟨u.heap.size,0,none⟩) R R) (u.alloc (.cells (madeCells (Value.agg #[.int .i64 0,.int .i64 0,.bool false]).cells (R*3)) 73)):=fun u=>by
  have:=run_makeSlice u 38 73 i0 _ Tryz.underlying38 hi0 hz0 .i64 .i64 (R:Int) (R:Int) (by omega) (by omega) (by rw[hz1];simp;omega) (by rw[hz2];omega) (by omega)
  rw[hz1]at this
  simpa using this
 obtain⟨cs0,hcs0⟩:∃ cs,cs=madeCells (Value.agg #[.int .i64 0,.int .i64 0,.bool false]).cells (R*3):=⟨_,rfl⟩
 have HCS:Hid (cs0.size=R*3):=by rw[hcs0];exact size_madeCells _ _
 rw[<- hcs0]at hmk
 clear hcs0 hi0 hz0 hz1 hz2 c5 c1 c2 cz ho hT hNL hlen hTl hg
 go_enter Tryz.func41,Tryz.ntmps41
 go_wp2_with fail
 refine (HNL.out w (Below.refl _ _)).mono ?_
 rintro e u1 ⟨gl,gb,gs,gu,gt,B,U,S0,ss,T,rfl,hLv,hLF⟩
 have H1:Hid (Lv w u1 gl gb gs gu gt n R B U S0 ss T/\LvF f.code n B U S0 ss):=⟨hLv,hLF⟩
 clear hLv hLF HNL
 go_wp2_with fail
 refine (HCP.out u1 H1.out.1.bel).mono ?_
 rintro e U2 ⟨xs,gc,m,cc,rfl,hm,hmn,oc,hcl,d2⟩
 have HCL:Hid (m=xs.length/\(∀ i,i<m->U2.cell? ⟨gc,i,none⟩=some (.int .i64 (xs.getD i 0)))/\Pl.CallL f.code xs/\gc<U2.heap.size):=by
  refine⟨hm,fun i hi=>?_,hcl,(oc.lt gc rfl).2⟩
  rw[oc.cellAt i (by omega),List.getElem?_map,List.getD_eq_getElem?_getD,List.getElem?_eq_getElem (by omega)];rfl
 have H2:Hid (Lv w U2 gl gb gs gu gt n R B U S0 ss T/\LvF f.code n B U S0 ss/\Below w.heap.size w U2):=⟨H1.out.1.later d2,H1.out.2,H1.out.1.bel.trans (d2.mono H1.out.1.bel.size)⟩
 have hmn2:m<=8000:=by have:=HNE.out;omega
 obtain⟨a1,a2,_⟩:=HC.out U2 H2.out.2.2
 have hgr2:gr<U2.heap.size:=Nat.lt_of_lt_of_le hgr H2.out.2.2.size
 clear oc hcl d2 hm hmn H1 HCP
 go_wp2_with fail
 clear a1 a2
 go_loopw [22] (fun t X=>∃ r:Nat,r<=R/\t=.int .i64 (r:Int)/\Hid (∃ (cs:Array Value) (S:Nat->Pl.Sp),Below U2.heap.size U2 X/\X.heap[U2.heap.size]?=some (.cells cs 73 (0,0))/\cs.size=R*3/\(∀ q,q<r->∀ j,j<3->cs[q*3+j]?=(S q).cells[j]?)/\∀ q,q<r->Pl.SpanIs f q (S q))) (fun t _=>R-(intOf t).toNat)
 case atStart=>exact⟨0,Nat.zero_le _,rfl,cs0,fun _=>⟨0,0,false⟩,below_alloc U2 _,heap_alloc_new U2 _,HCS.out,fun q hq=>absurd hq (Nat.not_lt_zero _),fun q hq=>absurd hq (Nat.not_lt_zero _)⟩
 case round=>
  rename World=>X
  obtain⟨r,hrR,rfl,SX⟩:=hrel
  obtain⟨cs,S,hB,hblk,hcs,hdone,hsp⟩:=SX.out
  have HX:Hid (Below U2.heap.size U2 X/\X.heap[U2.heap.size]?=some (.cells cs 73 (0,0))/\cs.size=R*3/\(∀ q,q<r->∀ j,j<3->cs[q*3+j]?=(S q).cells[j]?)/\∀ q,q<r->Pl.SpanIs f q (S q)):=⟨hB,hblk,hcs,hdone,hsp⟩
  have hgX:U2.heap.size<X.heap.size:=(Array.getElem?_eq_some_iff.1 hblk).1
  clear SX hB hblk hcs hdone hsp
  by_cases hlt:r<R
  rotate_left
  ·have hri:¬ (r:Int)<(R:Int):=by omega
   have hre:r=R:=by omega
   have HE:Hid (SpI w f R (.returned (.slice (some ⟨U2.heap.size,0,none⟩) R R)) X):=by
    subst hre
    obtain⟨q1,q2,q3,q4,q5⟩:=HX.out
    refine⟨U2.heap.size,S,rfl,⟨Pl.spV_len r S,.inr ⟨U2.heap.size,r,cs,rfl,H2.out.2.2.size,q2,Nat.le_refl _,by unfold maxLen;omega,q3,?_⟩⟩,q5,H2.out.2.2.trans (q1.mono H2.out.2.2.size)⟩
    refine List.ext_getElem? fun i=>?_
    by_cases hi:i<r*3
    ·rw[List.getElem?_take_of_lt hi]
     have:=q4 (i / 3) (by omega) (i % 3) (by omega)
     rw[show i / 3*3+i % 3=i by omega]at this
     have h2:=Pl.spV_at S (r:=i / 3) (j:=i % 3) (n:=r) (by omega) (by omega)
     rw[show i / 3*3+i % 3=i by omega]at h2
     rw[h2,<- this];simp
    ·rw[List.getElem?_eq_none (by simp;omega),List.getElem?_eq_none (by rw[Pl.spV_len];omega)]
   clear hre
   go_wp2_with fail
   go_ret
   exact HE.out
  have hri:(r:Int)<(R:Int):=by omega
  obtain⟨k,hk⟩:∃ k,k=(n+63) / 64:=⟨_,rfl⟩
  have hk9:k<=1000:=by omega
  have hk0:0<k:=by omega
  have HLA:Hid (Calls Tryz.prog 63 #[.pointer (some ⟨gl,0,none⟩),.int .i64 (r:Int)] X fun e w'=>∃ ws,e=.returned (.slice (some ⟨X.heap.size,0,none⟩) k k)/\w'.ownsRow X.heap.size 110 1 (.slice (some ⟨X.heap.size,0,none⟩) k k) k (Pl.wsV ws)/\Pl.smallW ws/\ws.length=k/\(∀ q,Pl.inW ws q=true↔Pl.Live f.code (r:Int) q)/\Below X.heap.size X w'):=by
   have:=liveAt_is (H2.out.1.later HX.out.1) f.code HNE.out.symm H2.out.2.1 hn r hlt hR
   unfold LaSaid at this
   rw[<- hk]at this
   exact this
  have HK:Hid (k=(n+63) / 64):=hk
  clear hk
  go_wp2_with fail
  refine (HLA.out).mono ?_
  rintro e u1 ⟨ws,rfl,o1,sm1,ln1,lv1,b1⟩
  have HU1:Hid (u1.ownsRow X.heap.size 110 1 (.slice (some ⟨X.heap.size,0,none⟩) k k) k (Pl.wsV ws)/\Pl.smallW ws/\ws.length=k/\(∀ q,Pl.inW ws q=true↔Pl.Live f.code (r:Int) q)/\Below X.heap.size X u1/\Below U2.heap.size U2 u1):=⟨o1,sm1,ln1,lv1,b1,HX.out.1.trans (b1.mono (by omega))⟩
  have HHA:Hid (Calls Tryz.prog 72 #[.slice (some ⟨X.heap.size,0,none⟩) k k,.int .i64 0] u1 fun e w'=>e=.returned (.bool (Pl.inW ws 0))/\w'=u1):=hasS_is X.heap.size k k 0 ws u1 o1 sm1 ln1 (by omega) (by omega)
  clear o1 sm1 ln1 lv1 b1 HLA
  have hbw:Below w.heap.size w u1:=H2.out.2.2.trans (HU1.out.2.2.2.2.2.mono H2.out.2.2.size)
  obtain⟨a1,a2,_⟩:=HC.out u1 hbw
  have hL1:=H2.out.1.later HU1.out.2.2.2.2.2
  have d3:u1.cell? ⟨gl,3,none⟩=some (.slice (some ⟨gt,0,none⟩) R R):=hL1.cell 3
  obtain⟨ns,hns⟩:=nat_list (S0.N r) (fun x hx=>by
   rcases (((H2.out.2.1.s r).2 x).1 hx) with ⟨p,e,_⟩ | ⟨_,q⟩
   ·omega
   ·cases q)
  obtain⟨ad,had⟩:∃ a,a=S0.A r:=⟨_,rfl⟩
  obtain⟨cd,hcd⟩:∃ c,c=S0.C r:=⟨_,rfl⟩
  obtain⟨ln,hln⟩:∃ l,l=(S0.N r).length:=⟨_,rfl⟩
  have dr:u1.cell? ⟨gt,r,none⟩=some (.slice ad ln cd):=by rw[had,hcd,hln,<- Gd.len_L];exact hL1.rt.cell hlt
  have hlnb:ln<=8000:=by rw[hln];have:=(H2.out.2.1.s r).1;omega
  have HNS:Hid (∀ q:Nat,q∈ns↔q<n/\Pl.Se f.code q (r:Int)):=fun q=>by
   have h1:=(H2.out.2.1.s r).2 (q:Int)
   rw[hns]at h1
   constructor
   ·intro hq
    rcases h1.1 (List.mem_map.2 ⟨q,hq,rfl⟩) with ⟨p,e,h2,h3⟩ | ⟨_,c⟩
    ·obtain rfl:q=p:=by omega
     exact⟨h2,h3⟩
    ·cases c
   ·rintro⟨h2,h3⟩
    obtain⟨q2,h4,h5⟩:=List.mem_map.1 (h1.2 (.inl ⟨q,rfl,h2,h3⟩))
    obtain rfl:q2=q:=by omega
    exact h4
  have HPU:Hid (Calls Tryz.prog 73 #[.slice (some ⟨X.heap.size,0,none⟩) k k,.slice ad ln cd] u1 fun e w'=>(∃ v,e=.returned v)/\w'.ownsRow X.heap.size 110 1 (.slice (some ⟨X.heap.size,0,none⟩) k k) k (Pl.wsV (Pl.putsW ws ns))/\OnlyG X.heap.size u1 w'):=by
   have hr0:=hL1.rt.nr r hlt
   have hr2:=(H2.out.1.rt.nr r hlt)
   rw[Gd.len_L,<- had,<- hcd,<- hln]at hr0 hr2
   have hlen2:ns.length=ln:=by rw[hln,hns];simp
   refine putS_is (lo':=0) X.heap.size k k ws ad ln cd ns u1 HU1.out.1 HU1.out.2.1 HU1.out.2.2.1 (fun q hq=>by have:=((HNS.out q).1 hq).1;have:=HK.out;omega) (by omega) ?_ (fun b off e=>?_)
   ·rcases hr0.2 with ⟨e1,e2⟩ | ⟨g',cap',cur,e1,e2,e3,e4,e5,e6,e7⟩
    ·injection e1 with z1 z2 z3
     exact⟨by simp;exact hlen2,by omega,by rw[z3];exact Nat.zero_le _,(fun q hq=>by rw[List.length_eq_zero_iff.1 (show ns.length=0 by omega)]at hq;cases hq),.inl e2⟩
    ·injection e1 with z1 z2 z3
     refine⟨by simp;exact hlen2,by omega,by omega,fun q hq=>?_,.inr ⟨g',0,z1,Nat.zero_le _,(hr0.lt g' (by rw[z1];rfl)).2,fun i hi=>?_⟩⟩
     ·obtain⟨q2,h1,rfl⟩:=List.mem_map.1 hq
      have:=((HNS.out q2).1 h1).1
      have h0:(0:Int)<=(q2:Int)/\(q2:Int)<=8000:=by omega
      simp[Lit.wf,IntKind.min,IntKind.max,IntKind.signed,IntKind.bits]
      omega
     ·rw[Nat.zero_add]
      have hr3:=hr0
      rw[z1]at hr3
      rw[hr3.cellAt i (by omega),Gd.L,hns,List.map_map,List.getElem?_map,List.getD_eq_getElem?_getD,List.getElem?_map,List.getElem?_eq_getElem (by omega)];rfl
   ·have:=(hr2.lt b (by rw[e];rfl)).2
    omega
  have HPP:Hid (∀ i,Pl.inW (Pl.putsW ws ns) i=true↔i<n/\Pl.Sd f.code (r:Int) i):=fun i=>by
   rw[Pl.inW_puts ws ns i (fun q hq=>by have:=((HNS.out q).1 hq).1;have:=HK.out;have:=HU1.out.2.2.1;omega),HU1.out.2.2.2.1 i,HNS.out i]
   unfold Pl.Sd
   constructor
   ·rintro (h1 | h1)
    ·exact⟨by have:=h1.lt;have:=HNE.out;omega,.inl h1⟩
    ·exact⟨h1.1,.inr h1.2⟩
   ·rintro⟨h1,h2 | h2⟩
    ·exact .inl h2
    ·exact .inr ⟨h1,h2⟩
  obtain⟨ps,hps⟩:∃ ps,ps=Pl.putsW ws ns:=⟨_,rfl⟩
  have HPS:Hid (Pl.smallW ps/\ps.length=k):=by rw[hps];exact⟨HU1.out.2.1.puts ns,(Pl.putsW_len ws ns).trans HU1.out.2.2.1⟩
  rw[<- hps]at HPU HPP
  have HG0:Hid (Pl.inW ws 0=true↔Pl.Live f.code (r:Int) 0):=HU1.out.2.2.2.1 0
  obtain⟨gv,hgv⟩:∃ gv,gv=Pl.inW ws 0:=⟨_,rfl⟩
  rw[<- hgv]at HG0 HHA
  clear hps hgv
  clear hns had hcd hln hbw hL1
  by_cases hp:(r:Int)<f.params
  ·cases gv with
   | true=>
    go_wp2_with fail
    refine (HHA.out).mono ?_
    rintro e w1 ⟨rfl,hw1⟩
    rw[hw1]
    clear hw1 w1 HHA
    go_wp2_with fail
    refine (HPU.out).mono ?_
    rintro e u2 ⟨⟨vx,rfl⟩,o2,g2⟩
    have HU2:Hid (u2.ownsRow X.heap.size 110 1 (.slice (some ⟨X.heap.size,0,none⟩) k k) k (Pl.wsV ps)/\Below U2.heap.size U2 u2/\u2.heap[U2.heap.size]?=X.heap[U2.heap.size]?):=⟨o2,HU1.out.2.2.2.2.2.trans (g2.below (by omega)),(g2.block _ (by omega)).trans (HU1.out.2.2.2.2.1.block _ hgX)⟩
    clear o2 g2 HPU a1 a2 d3 dr
    have hbw2:Below w.heap.size w u2:=H2.out.2.2.trans (HU2.out.2.1.mono H2.out.2.2.size)
    have hT2:=(HC.out u2 hbw2).2.2
    go_wp2_with fail
    refine (first_is X.heap.size k k ps HPS.out.1 HPS.out.2 hk9 0 u2 HU2.out.1 hT2 (block_lt_of_cell (hT2 0 (by decide)))).mono ?_
    rintro e u3 ⟨rfl,d3⟩
    obtain⟨fr0,hfr0⟩:∃ fr0,fr0=Pl.firstW ps 0:=⟨_,rfl⟩
    have HFR:Hid (fr0=Pl.firstW ps 0):=hfr0
    rw[<- hfr0]
    have HU3:Hid (u3.ownsRow X.heap.size 110 1 (.slice (some ⟨X.heap.size,0,none⟩) k k) k (Pl.wsV ps)/\Below U2.heap.size U2 u3/\u3.heap[U2.heap.size]?=X.heap[U2.heap.size]?):=⟨own_eqL HU2.out.1 fun g hg=>d3.block g (HU2.out.1.lt g hg).2,HU2.out.2.1.trans (d3.mono HU2.out.2.1.size),(d3.block _ (by have:=(HU2.out.1.lt X.heap.size rfl).2;omega)).trans HU2.out.2.2⟩
    have hT3:=hT2.keep (block_lt_of_cell (hT2 0 (by decide))) d3
    clear d3 hT2 hbw2 hfr0
    go_wp2_with fail
    refine (last_is X.heap.size k k ps HPS.out.1 HPS.out.2 hk9 (-1) u3 HU3.out.1 hT3 (block_lt_of_cell (hT3 0 (by decide)))).mono ?_
    rintro e u4 ⟨tt,rfl,hlast,d4⟩
    have HBD:Hid (Pl.Bd (Pl.Sd f.code (r:Int)) n fr0 tt):=by rw[HFR.out];exact Pl.Bd.ofW HPP.out hlast
    have hbd:=HBD.out.bound
    have HU4:Hid (Below U2.heap.size U2 u4/\u4.heap[U2.heap.size]?=X.heap[U2.heap.size]?):=⟨HU3.out.2.1.trans (d4.mono HU3.out.2.1.size),(d4.block _ (by have:=(HU3.out.1.lt X.heap.size rfl).2;omega)).trans HU3.out.2.2⟩
    have hU4:U2.heap.size<u4.heap.size:=by have:=(HU3.out.1.lt X.heap.size rfl).2;have:=d4.size;omega
    have HGI:Hid ((-1)=(open Classical in if (r:Int)<f.params/\Pl.Live f.code (r:Int) 0 then -1 else fr0)):=by show (-1:Int)=_;rw[if_pos ⟨hp,HG0.out.1 (by trivial)⟩]
    clear d4 hlast hT3 HU3 HU2
    go_wp2_with fail
    obtain⟨y4,hy4⟩:∃ y4,y4=u4.alloc (.cells #[.int .i64 (-1),.int .i64 tt,.bool false] 73):=⟨_,rfl⟩
    rw[<- hy4]
    have H4:Hid (Below U2.heap.size U2 y4/\y4.heap[u4.heap.size]?=some (.cells #[.int .i64 (-1),.int .i64 tt,.bool false] 73 (0,0))/\y4.heap[U2.heap.size]?=X.heap[U2.heap.size]?/\u4.heap.size<y4.heap.size):=by
     rw[hy4]
     exact⟨HU4.out.1.alloc HU4.out.1.size _,heap_alloc_new u4 _,((below_alloc u4 _).block _ (by omega)).trans HU4.out.2,by simp⟩
    clear hy4
    refine (crosses_is gc m cc xs (-1) tt false y4 HCL.out.1 (by omega) (fun i hi=>(H4.out.1.cell (p:=⟨gc,i,none⟩) HCL.out.2.2.2).trans (HCL.out.2.1 i hi)) (Nat.lt_of_lt_of_le HCL.out.2.2.2 H4.out.1.size) (fun i j hij hj=>HCL.out.2.2.1.asc i j hij (by rw[<- HCL.out.1];exact hj)) (by omega) (by omega)).mono ?_
    rintro e u5 ⟨⟨kq,b,rfl,hk1,hk2,hk3,hk4⟩,d5⟩
    have HSP:Hid (Pl.SpanIs f r ⟨(-1),tt,b⟩):=by
     refine⟨fr0,by rw[<- HNE.out];exact HBD.out,HGI.out,?_⟩
     have e1:=HCL.out.1
     exact HCL.out.2.2.1.crs (by rw[<- e1];exact hk1) (show tt<=(f.code.length:Int) by have:=HNE.out;omega) hk2 (fun i h1 h2=>hk3 i h1 (by omega)) b (hk4.trans (by rw[e1]))
    have H5:Hid (Below U2.heap.size U2 (u5.setCell ⟨u4.heap.size,2,none⟩ (.bool b))/\(u5.setCell ⟨u4.heap.size,2,none⟩ (.bool b)).heap[u4.heap.size]?=some (.cells #[.int .i64 (-1),.int .i64 tt,.bool b] 73 (0,0))/\(u5.setCell ⟨u4.heap.size,2,none⟩ (.bool b)).heap[U2.heap.size]?=some (.cells cs 73 (0,0))):=by
     have hb5:=(d5.block _ H4.out.2.2.2).trans H4.out.2.1
     refine⟨(H4.out.1.trans (d5.mono H4.out.1.size)).setCell HU4.out.1.size _,bx2 hb5,?_⟩
     rw[heap_setCell_other _ ⟨u4.heap.size,2,none⟩ _ _ (show U2.heap.size≠u4.heap.size by omega),d5.block _ (by have:=H4.out.2.2.2;omega),H4.out.2.2.1]
     exact HX.out.2.1
    have hbx5:u5.heap[u4.heap.size]?=some (.cells #[.int .i64 (-1),.int .i64 tt,.bool false] 73 (0,0)):=(d5.block _ H4.out.2.2.2).trans H4.out.2.1
    have w0:u5.cell? ⟨u4.heap.size,0,none⟩=some (.int .i64 ((-1))):=by rw[cell_of_row u5 _ 0 _ _ (0,0) hbx5];rfl
    have w1:u5.cell? ⟨u4.heap.size,1,none⟩=some (.int .i64 tt):=by rw[cell_of_row u5 _ 1 _ _ (0,0) hbx5];rfl
    have w2:u5.cell? ⟨u4.heap.size,2,none⟩=some (.bool false):=by rw[cell_of_row u5 _ 2 _ _ (0,0) hbx5];rfl
    have w3:∀ q,u5.frozen? ⟨u4.heap.size,q,none⟩=false:=fun q=>frozen_of_row u5 _ q _ _ hbx5
    have hgs5:u5.heap[U2.heap.size]?=some (.cells cs 73 (0,0)):=by rw[d5.block _ (by have:=H4.out.2.2.2;omega),H4.out.2.2.1];exact HX.out.2.1
    obtain⟨v0,hv0⟩:∃ v,u5.cell? ⟨U2.heap.size,r*3,none⟩=some v:=by rw[cell_of_row u5 _ (r*3) _ _ (0,0) hgs5];exact⟨_,Array.getElem?_eq_getElem (by have:=HX.out.2.2.1;omega)⟩
    obtain⟨v1,hv1⟩:∃ v,u5.cell? ⟨U2.heap.size,r*3+1,none⟩=some v:=by rw[cell_of_row u5 _ (r*3+1) _ _ (0,0) hgs5];exact⟨_,Array.getElem?_eq_getElem (by have:=HX.out.2.2.1;omega)⟩
    obtain⟨v4,hv4⟩:∃ v,u5.cell? ⟨U2.heap.size,r*3+2,none⟩=some v:=by rw[cell_of_row u5 _ (r*3+2) _ _ (0,0) hgs5];exact⟨_,Array.getElem?_eq_getElem (by have:=HX.out.2.2.1;omega)⟩
    have fz5:∀ q,u5.frozen? ⟨U2.heap.size,q,none⟩=false:=fun q=>frozen_of_row u5 _ q _ _ hgs5
    have hne5:¬ U2.heap.size=u4.heap.size:=by omega
    have hne6:¬ u4.heap.size=U2.heap.size:=by omega
    clear hbx5 hgs5 d5 hk1 hk2 hk3 hk4
    go_wp2_with fail
    refine⟨⟨r+1,by omega,by go_num,((cs.setIfInBounds (r*3) (.int .i64 ((-1)))).setIfInBounds (r*3+1) (.int .i64 tt)).setIfInBounds (r*3+2) (.bool b),fun q=>if q=r then ⟨(-1),tt,b⟩ else S q,((H5.out.1.setCell (Nat.le_refl _) _).setCell (Nat.le_refl _) _).setCell (Nat.le_refl _) _,set3_block H5.out.2.2 _ _ _ _,by simp;exact HX.out.2.2.1,fun q hq j hj=>?_,fun q hq=>?_⟩,by simp[intOf];omega⟩
    ·exact set3_at (by have:=HX.out.2.2.1;omega) (HX.out.2.2.2.1) hq hj
    ·show Pl.SpanIs f q (if q=r then _ else S q)
     by_cases e:q=r
     ·subst e;rw[if_pos rfl];exact HSP.out
     ·rw[if_neg e];exact HX.out.2.2.2.2 q (by omega)
   | false=>
    go_wp2_with fail
    refine (HHA.out).mono ?_
    rintro e w1 ⟨rfl,hw1⟩
    rw[hw1]
    clear hw1 w1 HHA
    go_wp2_with fail
    refine (HPU.out).mono ?_
    rintro e u2 ⟨⟨vx,rfl⟩,o2,g2⟩
    have HU2:Hid (u2.ownsRow X.heap.size 110 1 (.slice (some ⟨X.heap.size,0,none⟩) k k) k (Pl.wsV ps)/\Below U2.heap.size U2 u2/\u2.heap[U2.heap.size]?=X.heap[U2.heap.size]?):=⟨o2,HU1.out.2.2.2.2.2.trans (g2.below (by omega)),(g2.block _ (by omega)).trans (HU1.out.2.2.2.2.1.block _ hgX)⟩
    clear o2 g2 HPU a1 a2 d3 dr
    have hbw2:Below w.heap.size w u2:=H2.out.2.2.trans (HU2.out.2.1.mono H2.out.2.2.size)
    have hT2:=(HC.out u2 hbw2).2.2
    go_wp2_with fail
    refine (first_is X.heap.size k k ps HPS.out.1 HPS.out.2 hk9 0 u2 HU2.out.1 hT2 (block_lt_of_cell (hT2 0 (by decide)))).mono ?_
    rintro e u3 ⟨rfl,d3⟩
    obtain⟨fr0,hfr0⟩:∃ fr0,fr0=Pl.firstW ps 0:=⟨_,rfl⟩
    have HFR:Hid (fr0=Pl.firstW ps 0):=hfr0
    rw[<- hfr0]
    have HU3:Hid (u3.ownsRow X.heap.size 110 1 (.slice (some ⟨X.heap.size,0,none⟩) k k) k (Pl.wsV ps)/\Below U2.heap.size U2 u3/\u3.heap[U2.heap.size]?=X.heap[U2.heap.size]?):=⟨own_eqL HU2.out.1 fun g hg=>d3.block g (HU2.out.1.lt g hg).2,HU2.out.2.1.trans (d3.mono HU2.out.2.1.size),(d3.block _ (by have:=(HU2.out.1.lt X.heap.size rfl).2;omega)).trans HU2.out.2.2⟩
    have hT3:=hT2.keep (block_lt_of_cell (hT2 0 (by decide))) d3
    clear d3 hT2 hbw2 hfr0
    go_wp2_with fail
    refine (last_is X.heap.size k k ps HPS.out.1 HPS.out.2 hk9 (-1) u3 HU3.out.1 hT3 (block_lt_of_cell (hT3 0 (by decide)))).mono ?_
    rintro e u4 ⟨tt,rfl,hlast,d4⟩
    have HBD:Hid (Pl.Bd (Pl.Sd f.code (r:Int)) n fr0 tt):=by rw[HFR.out];exact Pl.Bd.ofW HPP.out hlast
    have hbd:=HBD.out.bound
    have HU4:Hid (Below U2.heap.size U2 u4/\u4.heap[U2.heap.size]?=X.heap[U2.heap.size]?):=⟨HU3.out.2.1.trans (d4.mono HU3.out.2.1.size),(d4.block _ (by have:=(HU3.out.1.lt X.heap.size rfl).2;omega)).trans HU3.out.2.2⟩
    have hU4:U2.heap.size<u4.heap.size:=by have:=(HU3.out.1.lt X.heap.size rfl).2;have:=d4.size;omega
    have HGI:Hid (fr0=(open Classical in if (r:Int)<f.params/\Pl.Live f.code (r:Int) 0 then -1 else fr0)):=by show fr0=_;rw[if_neg (fun c=>absurd (HG0.out.2 c.2) (by decide))]
    clear d4 hlast hT3 HU3 HU2
    go_wp2_with fail
    obtain⟨y4,hy4⟩:∃ y4,y4=u4.alloc (.cells #[.int .i64 fr0,.int .i64 tt,.bool false] 73):=⟨_,rfl⟩
    rw[<- hy4]
    have H4:Hid (Below U2.heap.size U2 y4/\y4.heap[u4.heap.size]?=some (.cells #[.int .i64 fr0,.int .i64 tt,.bool false] 73 (0,0))/\y4.heap[U2.heap.size]?=X.heap[U2.heap.size]?/\u4.heap.size<y4.heap.size):=by
     rw[hy4]
     exact⟨HU4.out.1.alloc HU4.out.1.size _,heap_alloc_new u4 _,((below_alloc u4 _).block _ (by omega)).trans HU4.out.2,by simp⟩
    clear hy4
    refine (crosses_is gc m cc xs fr0 tt false y4 HCL.out.1 (by omega) (fun i hi=>(H4.out.1.cell (p:=⟨gc,i,none⟩) HCL.out.2.2.2).trans (HCL.out.2.1 i hi)) (Nat.lt_of_lt_of_le HCL.out.2.2.2 H4.out.1.size) (fun i j hij hj=>HCL.out.2.2.1.asc i j hij (by rw[<- HCL.out.1];exact hj)) (by omega) (by omega)).mono ?_
    rintro e u5 ⟨⟨kq,b,rfl,hk1,hk2,hk3,hk4⟩,d5⟩
    have HSP:Hid (Pl.SpanIs f r ⟨fr0,tt,b⟩):=by
     refine⟨fr0,by rw[<- HNE.out];exact HBD.out,HGI.out,?_⟩
     have e1:=HCL.out.1
     exact HCL.out.2.2.1.crs (by rw[<- e1];exact hk1) (show tt<=(f.code.length:Int) by have:=HNE.out;omega) hk2 (fun i h1 h2=>hk3 i h1 (by omega)) b (hk4.trans (by rw[e1]))
    have H5:Hid (Below U2.heap.size U2 (u5.setCell ⟨u4.heap.size,2,none⟩ (.bool b))/\(u5.setCell ⟨u4.heap.size,2,none⟩ (.bool b)).heap[u4.heap.size]?=some (.cells #[.int .i64 fr0,.int .i64 tt,.bool b] 73 (0,0))/\(u5.setCell ⟨u4.heap.size,2,none⟩ (.bool b)).heap[U2.heap.size]?=some (.cells cs 73 (0,0))):=by
     have hb5:=(d5.block _ H4.out.2.2.2).trans H4.out.2.1
     refine⟨(H4.out.1.trans (d5.mono H4.out.1.size)).setCell HU4.out.1.size _,bx2 hb5,?_⟩
     rw[heap_setCell_other _ ⟨u4.heap.size,2,none⟩ _ _ (show U2.heap.size≠u4.heap.size by omega),d5.block _ (by have:=H4.out.2.2.2;omega),H4.out.2.2.1]
     exact HX.out.2.1
    have hbx5:u5.heap[u4.heap.size]?=some (.cells #[.int .i64 fr0,.int .i64 tt,.bool false] 73 (0,0)):=(d5.block _ H4.out.2.2.2).trans H4.out.2.1
    have w0:u5.cell? ⟨u4.heap.size,0,none⟩=some (.int .i64 (fr0)):=by rw[cell_of_row u5 _ 0 _ _ (0,0) hbx5];rfl
    have w1:u5.cell? ⟨u4.heap.size,1,none⟩=some (.int .i64 tt):=by rw[cell_of_row u5 _ 1 _ _ (0,0) hbx5];rfl
    have w2:u5.cell? ⟨u4.heap.size,2,none⟩=some (.bool false):=by rw[cell_of_row u5 _ 2 _ _ (0,0) hbx5];rfl
    have w3:∀ q,u5.frozen? ⟨u4.heap.size,q,none⟩=false:=fun q=>frozen_of_row u5 _ q _ _ hbx5
    have hgs5:u5.heap[U2.heap.size]?=some (.cells cs 73 (0,0)):=by rw[d5.block _ (by have:=H4.out.2.2.2;omega),H4.out.2.2.1];exact HX.out.2.1
    obtain⟨v0,hv0⟩:∃ v,u5.cell? ⟨U2.heap.size,r*3,none⟩=some v:=by rw[cell_of_row u5 _ (r*3) _ _ (0,0) hgs5];exact⟨_,Array.getElem?_eq_getElem (by have:=HX.out.2.2.1;omega)⟩
    obtain⟨v1,hv1⟩:∃ v,u5.cell? ⟨U2.heap.size,r*3+1,none⟩=some v:=by rw[cell_of_row u5 _ (r*3+1) _ _ (0,0) hgs5];exact⟨_,Array.getElem?_eq_getElem (by have:=HX.out.2.2.1;omega)⟩
    obtain⟨v4,hv4⟩:∃ v,u5.cell? ⟨U2.heap.size,r*3+2,none⟩=some v:=by rw[cell_of_row u5 _ (r*3+2) _ _ (0,0) hgs5];exact⟨_,Array.getElem?_eq_getElem (by have:=HX.out.2.2.1;omega)⟩
    have fz5:∀ q,u5.frozen? ⟨U2.heap.size,q,none⟩=false:=fun q=>frozen_of_row u5 _ q _ _ hgs5
    have hne5:¬ U2.heap.size=u4.heap.size:=by omega
    have hne6:¬ u4.heap.size=U2.heap.size:=by omega
    clear hbx5 hgs5 d5 hk1 hk2 hk3 hk4
    go_wp2_with fail
    refine⟨⟨r+1,by omega,by go_num,((cs.setIfInBounds (r*3) (.int .i64 (fr0))).setIfInBounds (r*3+1) (.int .i64 tt)).setIfInBounds (r*3+2) (.bool b),fun q=>if q=r then ⟨fr0,tt,b⟩ else S q,((H5.out.1.setCell (Nat.le_refl _) _).setCell (Nat.le_refl _) _).setCell (Nat.le_refl _) _,set3_block H5.out.2.2 _ _ _ _,by simp;exact HX.out.2.2.1,fun q hq j hj=>?_,fun q hq=>?_⟩,by simp[intOf];omega⟩
    ·exact set3_at (by have:=HX.out.2.2.1;omega) (HX.out.2.2.2.1) hq hj
    ·show Pl.SpanIs f q (if q=r then _ else S q)
     by_cases e:q=r
     ·subst e;rw[if_pos rfl];exact HSP.out
     ·rw[if_neg e];exact HX.out.2.2.2.2 q (by omega)
  ·go_wp2_with fail
   refine (HPU.out).mono ?_
   rintro e u2 ⟨⟨vx,rfl⟩,o2,g2⟩
   have HU2:Hid (u2.ownsRow X.heap.size 110 1 (.slice (some ⟨X.heap.size,0,none⟩) k k) k (Pl.wsV ps)/\Below U2.heap.size U2 u2/\u2.heap[U2.heap.size]?=X.heap[U2.heap.size]?):=⟨o2,HU1.out.2.2.2.2.2.trans (g2.below (by omega)),(g2.block _ (by omega)).trans (HU1.out.2.2.2.2.1.block _ hgX)⟩
   clear o2 g2 HPU a1 a2 d3 dr
   have hbw2:Below w.heap.size w u2:=H2.out.2.2.trans (HU2.out.2.1.mono H2.out.2.2.size)
   have hT2:=(HC.out u2 hbw2).2.2
   go_wp2_with fail
   refine (first_is X.heap.size k k ps HPS.out.1 HPS.out.2 hk9 0 u2 HU2.out.1 hT2 (block_lt_of_cell (hT2 0 (by decide)))).mono ?_
   rintro e u3 ⟨rfl,d3⟩
   obtain⟨fr0,hfr0⟩:∃ fr0,fr0=Pl.firstW ps 0:=⟨_,rfl⟩
   have HFR:Hid (fr0=Pl.firstW ps 0):=hfr0
   rw[<- hfr0]
   have HU3:Hid (u3.ownsRow X.heap.size 110 1 (.slice (some ⟨X.heap.size,0,none⟩) k k) k (Pl.wsV ps)/\Below U2.heap.size U2 u3/\u3.heap[U2.heap.size]?=X.heap[U2.heap.size]?):=⟨own_eqL HU2.out.1 fun g hg=>d3.block g (HU2.out.1.lt g hg).2,HU2.out.2.1.trans (d3.mono HU2.out.2.1.size),(d3.block _ (by have:=(HU2.out.1.lt X.heap.size rfl).2;omega)).trans HU2.out.2.2⟩
   have hT3:=hT2.keep (block_lt_of_cell (hT2 0 (by decide))) d3
   clear d3 hT2 hbw2 hfr0
   go_wp2_with fail
   refine (last_is X.heap.size k k ps HPS.out.1 HPS.out.2 hk9 (-1) u3 HU3.out.1 hT3 (block_lt_of_cell (hT3 0 (by decide)))).mono ?_
   rintro e u4 ⟨tt,rfl,hlast,d4⟩
   have HBD:Hid (Pl.Bd (Pl.Sd f.code (r:Int)) n fr0 tt):=by rw[HFR.out];exact Pl.Bd.ofW HPP.out hlast
   have hbd:=HBD.out.bound
   have HU4:Hid (Below U2.heap.size U2 u4/\u4.heap[U2.heap.size]?=X.heap[U2.heap.size]?):=⟨HU3.out.2.1.trans (d4.mono HU3.out.2.1.size),(d4.block _ (by have:=(HU3.out.1.lt X.heap.size rfl).2;omega)).trans HU3.out.2.2⟩
   have hU4:U2.heap.size<u4.heap.size:=by have:=(HU3.out.1.lt X.heap.size rfl).2;have:=d4.size;omega
   have HGI:Hid (fr0=(open Classical in if (r:Int)<f.params/\Pl.Live f.code (r:Int) 0 then -1 else fr0)):=by show fr0=_;rw[if_neg (fun c=>by omega)]
   clear d4 hlast hT3 HU3 HU2
   go_wp2_with fail
   obtain⟨y4,hy4⟩:∃ y4,y4=u4.alloc (.cells #[.int .i64 fr0,.int .i64 tt,.bool false] 73):=⟨_,rfl⟩
   rw[<- hy4]
   have H4:Hid (Below U2.heap.size U2 y4/\y4.heap[u4.heap.size]?=some (.cells #[.int .i64 fr0,.int .i64 tt,.bool false] 73 (0,0))/\y4.heap[U2.heap.size]?=X.heap[U2.heap.size]?/\u4.heap.size<y4.heap.size):=by
    rw[hy4]
    exact⟨HU4.out.1.alloc HU4.out.1.size _,heap_alloc_new u4 _,((below_alloc u4 _).block _ (by omega)).trans HU4.out.2,by simp⟩
   clear hy4
   refine (crosses_is gc m cc xs fr0 tt false y4 HCL.out.1 (by omega) (fun i hi=>(H4.out.1.cell (p:=⟨gc,i,none⟩) HCL.out.2.2.2).trans (HCL.out.2.1 i hi)) (Nat.lt_of_lt_of_le HCL.out.2.2.2 H4.out.1.size) (fun i j hij hj=>HCL.out.2.2.1.asc i j hij (by rw[<- HCL.out.1];exact hj)) (by omega) (by omega)).mono ?_
   rintro e u5 ⟨⟨kq,b,rfl,hk1,hk2,hk3,hk4⟩,d5⟩
   have HSP:Hid (Pl.SpanIs f r ⟨fr0,tt,b⟩):=by
    refine⟨fr0,by rw[<- HNE.out];exact HBD.out,HGI.out,?_⟩
    have e1:=HCL.out.1
    exact HCL.out.2.2.1.crs (by rw[<- e1];exact hk1) (show tt<=(f.code.length:Int) by have:=HNE.out;omega) hk2 (fun i h1 h2=>hk3 i h1 (by omega)) b (hk4.trans (by rw[e1]))
   have H5:Hid (Below U2.heap.size U2 (u5.setCell ⟨u4.heap.size,2,none⟩ (.bool b))/\(u5.setCell ⟨u4.heap.size,2,none⟩ (.bool b)).heap[u4.heap.size]?=some (.cells #[.int .i64 fr0,.int .i64 tt,.bool b] 73 (0,0))/\(u5.setCell ⟨u4.heap.size,2,none⟩ (.bool b)).heap[U2.heap.size]?=some (.cells cs 73 (0,0))):=by
    have hb5:=(d5.block _ H4.out.2.2.2).trans H4.out.2.1
    refine⟨(H4.out.1.trans (d5.mono H4.out.1.size)).setCell HU4.out.1.size _,bx2 hb5,?_⟩
    rw[heap_setCell_other _ ⟨u4.heap.size,2,none⟩ _ _ (show U2.heap.size≠u4.heap.size by omega),d5.block _ (by have:=H4.out.2.2.2;omega),H4.out.2.2.1]
    exact HX.out.2.1
   have hbx5:u5.heap[u4.heap.size]?=some (.cells #[.int .i64 fr0,.int .i64 tt,.bool false] 73 (0,0)):=(d5.block _ H4.out.2.2.2).trans H4.out.2.1
   have w0:u5.cell? ⟨u4.heap.size,0,none⟩=some (.int .i64 (fr0)):=by rw[cell_of_row u5 _ 0 _ _ (0,0) hbx5];rfl
   have w1:u5.cell? ⟨u4.heap.size,1,none⟩=some (.int .i64 tt):=by rw[cell_of_row u5 _ 1 _ _ (0,0) hbx5];rfl
   have w2:u5.cell? ⟨u4.heap.size,2,none⟩=some (.bool false):=by rw[cell_of_row u5 _ 2 _ _ (0,0) hbx5];rfl
   have w3:∀ q,u5.frozen? ⟨u4.heap.size,q,none⟩=false:=fun q=>frozen_of_row u5 _ q _ _ hbx5
   have hgs5:u5.heap[U2.heap.size]?=some (.cells cs 73 (0,0)):=by rw[d5.block _ (by have:=H4.out.2.2.2;omega),H4.out.2.2.1];exact HX.out.2.1
   obtain⟨v0,hv0⟩:∃ v,u5.cell? ⟨U2.heap.size,r*3,none⟩=some v:=by rw[cell_of_row u5 _ (r*3) _ _ (0,0) hgs5];exact⟨_,Array.getElem?_eq_getElem (by have:=HX.out.2.2.1;omega)⟩
   obtain⟨v1,hv1⟩:∃ v,u5.cell? ⟨U2.heap.size,r*3+1,none⟩=some v:=by rw[cell_of_row u5 _ (r*3+1) _ _ (0,0) hgs5];exact⟨_,Array.getElem?_eq_getElem (by have:=HX.out.2.2.1;omega)⟩
   obtain⟨v4,hv4⟩:∃ v,u5.cell? ⟨U2.heap.size,r*3+2,none⟩=some v:=by rw[cell_of_row u5 _ (r*3+2) _ _ (0,0) hgs5];exact⟨_,Array.getElem?_eq_getElem (by have:=HX.out.2.2.1;omega)⟩
   have fz5:∀ q,u5.frozen? ⟨U2.heap.size,q,none⟩=false:=fun q=>frozen_of_row u5 _ q _ _ hgs5
   have hne5:¬ U2.heap.size=u4.heap.size:=by omega
   have hne6:¬ u4.heap.size=U2.heap.size:=by omega
   clear hbx5 hgs5 d5 hk1 hk2 hk3 hk4
   go_wp2_with fail
   refine⟨⟨r+1,by omega,by go_num,((cs.setIfInBounds (r*3) (.int .i64 (fr0))).setIfInBounds (r*3+1) (.int .i64 tt)).setIfInBounds (r*3+2) (.bool b),fun q=>if q=r then ⟨fr0,tt,b⟩ else S q,((H5.out.1.setCell (Nat.le_refl _) _).setCell (Nat.le_refl _) _).setCell (Nat.le_refl _) _,set3_block H5.out.2.2 _ _ _ _,by simp;exact HX.out.2.2.1,fun q hq j hj=>?_,fun q hq=>?_⟩,by simp[intOf];omega⟩
   ·exact set3_at (by have:=HX.out.2.2.1;omega) (HX.out.2.2.2.1) hq hj
   ·show Pl.SpanIs f q (if q=r then _ else S q)
    by_cases e:q=r
    ·subst e;rw[if_pos rfl];exact HSP.out
    ·rw[if_neg e];exact HX.out.2.2.2.2 q (by omega)
theorem meth_Push (ga q:Nat) (u:World):(method 365 195 (.pointer (some ⟨ga,q,none⟩)) "Push").run Tryz.prog u=.ok (216,.pointer (some ⟨ga,q,none⟩)) u:=by kernel_rfl
theorem meth_Pop (ga q:Nat) (u:World):(method 365 195 (.pointer (some ⟨ga,q,none⟩)) "Pop").run Tryz.prog u=.ok (215,.pointer (some ⟨ga,q,none⟩)) u:=by kernel_rfl
theorem meth_Len (ga q:Nat) (u:World) (v:Value) (h:u.cell? ⟨ga,q,none⟩=some v):(method 365 195 (.pointer (some ⟨ga,q,none⟩)) "Len").run Tryz.prog u=.ok (108,v) u:=by
 have e:(method 365 195 (.pointer (some ⟨ga,q,none⟩)) "Len").run Tryz.prog u=(do let x <- loadVar 131 ⟨ga,q+0,none⟩; pure (108,x):Sem (FuncId × Value)).run Tryz.prog u:=by kernel_rfl
 rw[e]
 simp[go_sem,h]
theorem meth_Less (ga q:Nat) (u:World) (v:Value) (h:u.cell? ⟨ga,q,none⟩=some v):(method 365 195 (.pointer (some ⟨ga,q,none⟩)) "Less").run Tryz.prog u=.ok (149,v) u:=by
 have e:(method 365 195 (.pointer (some ⟨ga,q,none⟩)) "Less").run Tryz.prog u=(do let x <- loadVar 131 ⟨ga,q+0,none⟩; pure (149,x):Sem (FuncId × Value)).run Tryz.prog u:=by kernel_rfl
 rw[e]
 simp[go_sem,h]
theorem meth_Swap (ga q:Nat) (u:World) (v:Value) (h:u.cell? ⟨ga,q,none⟩=some v):(method 365 195 (.pointer (some ⟨ga,q,none⟩)) "Swap").run Tryz.prog u=.ok (151,v) u:=by
 have e:(method 365 195 (.pointer (some ⟨ga,q,none⟩)) "Swap").run Tryz.prog u=(do let x <- loadVar 131 ⟨ga,q+0,none⟩; pure (151,x):Sem (FuncId × Value)).run Tryz.prog u:=by kernel_rfl
 rw[e]
 simp[go_sem,h]
def iv (h:Nat->Nat) (m:Nat):List Value:=(List.range m).map fun i=>Value.int .i64 ((h i:Nat):Int)
theorem iv_len (h:Nat->Nat) (m:Nat):(iv h m).length=m:=by simp[iv]
theorem iv_at {h:Nat->Nat} {m i:Nat} (hi:i<m):(iv h m)[i]?=some (.int .i64 ((h i:Nat):Int)):=by unfold iv;rw[List.getElem?_map,List.getElem?_range hi];rfl
theorem iv_push (h:Nat->Nat) (m x:Nat):iv h m ++ [.int .i64 ((x:Nat):Int)]=iv (Pl.pushH h m x) (m+1):=by
 unfold iv
 rw[List.range_succ,List.map_append]
 congr 1
 ·refine List.map_congr_left fun i hi=>?_
  unfold Pl.pushH;rw[if_neg (by have:=List.mem_range.1 hi;omega)]
 ·simp[Pl.pushH]
theorem iv_swap (h:Nat->Nat) {m i j:Nat} (hi:i<m) (hj:j<m):((iv h m).set i (.int .i64 ((h j:Nat):Int))).set j (.int .i64 ((h i:Nat):Int))=iv (Pl.sw h i j) m:=by
 apply List.ext_getElem?
 intro k
 by_cases hk:k<m
 ·rw[iv_at hk]
  unfold Pl.sw
  by_cases e:k=j
  ·subst e
   rw[List.getElem?_set_self (by simp[iv_len];omega)]
   by_cases e2:k=i
   ·subst e2;rw[if_pos rfl]
   ·rw[if_neg e2,if_pos rfl]
  ·rw[List.getElem?_set_ne (by omega)]
   by_cases e2:k=i
   ·subst e2;rw[List.getElem?_set_self (by simp[iv_len];omega),if_pos rfl]
   ·rw[List.getElem?_set_ne (by omega),if_neg e2,if_neg e,iv_at hk]
 ·rw[List.getElem?_eq_none (by simp[iv_len];omega),List.getElem?_eq_none (by simp[iv_len];omega)]
def Hw (lo:Nat) (w:World) (g m c:Nat) (h:Nat->Nat):Prop:=w.ownsRow lo 3 1 (.slice (some ⟨g,0,none⟩) m c) m (iv h m)
theorem Hw.at_ {lo:Nat} {w:World} {g m c:Nat} {h:Nat->Nat} (H:Hw lo w g m c h) {i:Nat} (hi:i<m):w.cell? ⟨g,i,none⟩=some (.int .i64 ((h i:Nat):Int)):=by
 rw[World.ownsRow.cellAt H i (by omega)];exact iv_at hi
theorem Hw.lt {lo:Nat} {w:World} {g m c:Nat} {h:Nat->Nat} (H:Hw lo w g m c h):lo<=g/\g<w.heap.size:=World.ownsRow.lt H g rfl
theorem Hw.swap {lo:Nat} {w:World} {g m c:Nat} {h:Nat->Nat} (H:Hw lo w g m c h) {i j:Nat} (hi:i<m) (hj:j<m):Hw lo ((w.setCell ⟨g,i,none⟩ (.int .i64 ((h j:Nat):Int))).setCell ⟨g,j,none⟩ (.int .i64 ((h i:Nat):Int))) g m c (Pl.sw h i j):=by
 unfold Hw
 rw[<- iv_swap h hi hj]
 exact (World.ownsRow.stored (World.ownsRow.stored H i _).1 j _).1
theorem Hw.keep {lo:Nat} {w w':World} {g m c:Nat} {h:Nat->Nat} (H:Hw lo w g m c h) (hb:w'.heap[g]?=w.heap[g]?):Hw lo w' g m c h:=own_eqL H fun k hk=>by cases hk;exact hb
theorem Hw.cap {lo:Nat} {w:World} {g m c:Nat} {h:Nat->Nat} (H:Hw lo w g m c h):m<=c/\c<=9223372036854775807:=by
 rcases H.2 with ⟨e,_⟩ | ⟨g',c',cur,e,_,_,h1,h2,_⟩
 ·cases e
 ·injection e with _ _ e3
  subst e3
  exact⟨h1,by unfold maxLen at h2;omega⟩
theorem Hw.less {lo:Nat} {w:World} {g m c:Nat} {h:Nat->Nat} (H:Hw lo w g (m+1) c h):Hw lo w g m c h:=by
 rcases H.2 with ⟨e,_⟩ | ⟨g',c',cur,e,h0,hb,h1,h2,h3,h4⟩
 ·cases e
 ·injection e with e1 e2 e3
  injection e1 with e1
  injection e1 with e1
  subst e1 e3
  refine⟨by rw[iv_len];omega,.inr ⟨g,c,cur,rfl,h0,hb,by omega,h2,h3,?_⟩⟩
  apply List.ext_getElem?
  intro k
  by_cases hk:k<m
  ·rw[List.getElem?_take_of_lt (by omega),iv_at hk]
   have:=congrArg (fun l=>l[k]?) h4
   rw[List.getElem?_take_of_lt (by omega),iv_at (by omega)]at this
   exact this
  ·rw[List.getElem?_eq_none (by simp;omega),List.getElem?_eq_none (by rw[iv_len];omega)]
theorem len_is (v:Value) (a:Option Addr) (m c:Nat) (hv:v=.slice a m c) (hm:m<=100) (w:World):Calls Tryz.prog 108 #[v] w fun e w'=>e=.returned (.int .i64 (m:Int))/\w'=w:=by
 subst hv
 go_enter Tryz.func108,Tryz.ntmps108
 go_wp2_with fail
 go_ret
 exact⟨rfl,rfl⟩
theorem lessH_is {lo:Nat} {g m c:Nat} {h:Nat->Nat} (i j:Nat) (w:World) (H:Hw lo w g m c h) (hi:i<m) (hj:j<m) (hm:m<=100):Calls Tryz.prog 149 #[.slice (some ⟨g,0,none⟩) m c,.int .i64 (i:Int),.int .i64 (j:Int)] w fun e w'=>e=.returned (.bool (decide (h i<h j)))/\∃ k,w'=w.drewN k:=by
 have c1:=H.at_ hi
 have c2:=H.at_ hj
 obtain⟨x,hx⟩:∃ x,x=h i:=⟨_,rfl⟩
 obtain⟨y,hy⟩:∃ y,y=h j:=⟨_,rfl⟩
 rw[<- hx]at c1 ⊢
 rw[<- hy]at c2 ⊢
 have hii:(i:Int)<(m:Int):=by omega
 have hjj:(j:Int)<(m:Int):=by omega
 have hmm:(m:Int)<=100:=by omega
 have hcc:=H.cap
 clear H hx hy
 go_enter Tryz.func149,Tryz.ntmps149
 go_wp2_with fail
 go_quiet (fail)
 go_wp2_with fail
 go_ret
 exact⟨by simp,_,rfl⟩
theorem swapH_is {lo:Nat} {g m c:Nat} {h:Nat->Nat} (i j:Nat) (w:World) (H:Hw lo w g m c h) (hi:i<m) (hj:j<m) (hm:m<=100):Calls Tryz.prog 151 #[.slice (some ⟨g,0,none⟩) m c,.int .i64 (i:Int),.int .i64 (j:Int)] w fun e w'=>e=.returned (.tuple #[])/\Hw lo w' g m c (Pl.sw h i j)/\OnlyG g w w':=by
 have c1:=H.at_ hi
 have c2:=H.at_ hj
 obtain⟨x,hx⟩:∃ x,x=((h i:Nat):Int):=⟨_,rfl⟩
 obtain⟨y,hy⟩:∃ y,y=((h j:Nat):Int):=⟨_,rfl⟩
 rw[<- hx]at c1
 rw[<- hy]at c2
 have hii:(i:Int)<(m:Int):=by omega
 have hjj:(j:Int)<(m:Int):=by omega
 have hmm:(m:Int)<=100:=by omega
 have hcc:=H.cap
 have fz:∀ q,w.frozen? ⟨g,q,none⟩=false:=fun q=>World.ownsRow.frozenAt H q
 have HN:Hid (Hw lo ((w.setCell ⟨g,i,none⟩ (.int .i64 y)).setCell ⟨g,j,none⟩ (.int .i64 x)) g m c (Pl.sw h i j)):=by rw[hx,hy];exact H.swap hi hj
 clear H hx hy
 by_cases hij:i=j
 ·have hij':j=i:=hij.symm
  subst hij'
  have hxy:y=x:=by rw[c1]at c2;injection c2 with q;injection q with _ q;exact q.symm
  subst hxy
  clear c2
  go_enter Tryz.func151,Tryz.ntmps151
  go_upto_region 0 with fail
  go_region
  all_goals (
   go_wp2_with fail
   go_end0
   exact⟨rfl,HN.out.keep rfl,((OnlyG.setCell w g _ _).trans (OnlyG.setCell _ g _ _)).drew⟩)
 ·have h1:¬ j=i:=fun e=>hij e.symm
  go_enter Tryz.func151,Tryz.ntmps151
  go_upto_region 0 with fail
  go_region
  all_goals (
   go_wp2_with fail
   go_end0
   exact⟨rfl,HN.out.keep rfl,((OnlyG.setCell w g _ _).trans (OnlyG.setCell _ g _ _)).drew⟩)
end Go.Proofs.YtcgfgmlfbgbkfaaGreatDoor.W
