import Derived.Test.YtcgfgmlfbgbkfaaGreatDoorM11
import Derived.Deep.AppendLies
import Derived.Test.YtcgfgmlfbgbkfaaGreatDoorM06
import Derived.Test.YtcgfgmlfbgbkfaaGreatDoorM04
set_option linter.unusedVariables false
set_option linter.unusedSimpArgs false
set_option maxHeartbeats 16000000
namespace Go.Proofs.YtcgfgmlfbgbkfaaGreatDoor.W
open Go.RowKit
theorem news3 (w:World) (A B C:Value) (t:TypeId) (b:Nat) (hb:b=w.heap.size) (j:Nat) (u:Value) (hj:[A,B,C][j]?=some u):(w.alloc (.cells #[A,B,C] t)).cell? ((⟨b,0,none⟩:Addr).add j)=some u:=by
 subst hb
 exact World.news_of_block (heap_alloc_new w _) j u (by simpa using hj)
theorem bx0 {U:World} {b:Nat} {x y z v:Value} {t:TypeId} (h:U.heap[b]?=some (.cells #[x,y,z] t (0,0))):(U.setCell ⟨b,0,none⟩ v).heap[b]?=some (.cells #[v,y,z] t (0,0)):=by rw[heap_setCell_same U b 0 _ t _ h];rfl
theorem bx1 {U:World} {b:Nat} {x y z v:Value} {t:TypeId} (h:U.heap[b]?=some (.cells #[x,y,z] t (0,0))):(U.setCell ⟨b,1,none⟩ v).heap[b]?=some (.cells #[x,v,z] t (0,0)):=by rw[heap_setCell_same U b 1 _ t _ h];rfl
theorem bx2 {U:World} {b:Nat} {x y z v:Value} {t:TypeId} (h:U.heap[b]?=some (.cells #[x,y,z] t (0,0))):(U.setCell ⟨b,2,none⟩ v).heap[b]?=some (.cells #[x,y,v] t (0,0)):=by rw[heap_setCell_same U b 2 _ t _ h];rfl
theorem Tryz.infospanL:(Tryz.prog.info? 73).map (fun i=>(i.zero,i.size,i.bytes))=some (some (.agg #[.int .i64 0,.int .i64 0,.bool false]),3,24):=by kernel_rfl
def SpSaid (w:World) (f:Pl.IrF) (R:Nat) (e:Ending) (w':World):Prop:=∃ (go co:Nat) (S:Nat->Pl.Sp),e=.returned (.slice (some ⟨go,0,none⟩) R co)/\w'.ownsRow w.heap.size 73 3 (.slice (some ⟨go,0,none⟩) R co) R (Pl.spV R S)/\(∀ r,r<R->Pl.SpanIs f r (S r))/\Below w.heap.size w w'
set_option maxRecDepth 100000 in
theorem l11Spans_any {lo:Nat} (f:Pl.IrF) (v s:SV) (R:Nat) (w:World) (h:FIs lo w v s f) (hf:Pl.funOk f) (hR:f.regs=R):Calls Tryz.prog 40 #[.agg #[.string f.name,.int .i64 f.params,.int .i64 f.regs,.slice v.a v.len v.cap,.slice s.a s.len s.cap]] w fun e w'=>SpSaid w f R e w':=by
 have HLV:Hid (∀ u,Below w.heap.size w u->Calls Tryz.prog 28 #[.agg #[.string f.name,.int .i64 f.params,.int .i64 f.regs,.slice v.a v.len v.cap,.slice s.a s.len s.cap]] u fun e u'=>LiveM u f R e u'):=fun u hu=>l11Live_any f v s R u (h.keep hu) hf hR
 obtain⟨n,hn⟩:∃ n,n=f.code.length:=⟨_,rfl⟩
 have hn8:1<=n/\n<=8000:=by rw[hn];exact hf.1.2.2.2.1
 have hR2:R<=2000:=by have:=hf.1.2.1.2;omega
 have hsl:=h.2.1.1
 obtain⟨sa,sl,sc⟩:=s
 simp only at hsl HLV h ⊢
 obtain⟨sb,so,_,hsa,_⟩:=h.2.1.at (k:=0) (by show 0<sl;omega)
 simp only at hsa
 subst hsa
 obtain rfl:n=sl:=by omega
 have HIR:Hid (∀ u,Below w.heap.size w u->∀ i,i<n->∃ y:SV,sb<u.heap.size/\(∀ j,j<7->u.cell? ⟨sb,so+i*7+j,none⟩=((f.code.getD i Pl.IrI.zero).cells y)[j]?)):=fun u hu i hi=>by
  obtain⟨b',off',y,e,_,hb,hc,_,_⟩:=(h.2.1.keep hu).at hi
  simp only[Option.some.injEq,Addr.mk.injEq,and_true]at e
  obtain⟨e1,e2⟩:=e
  subst e1 e2
  exact⟨y,hb,hc⟩
 have HF:Hid (Pl.funOk f/\n=f.code.length/\f.regs=R):=⟨hf,hn,hR⟩
 have hpar:0<=f.params/\f.params<=8:=hf.1.1
 obtain⟨l0,hl0,hy0,hy1,hy2⟩:=info_parts Tryz.infospanL
 have HI:Hid (_/\_/\_/\_):=⟨hl0,hy0,hy1,hy2⟩
 clear hl0 hy0 hy1 hy2 h hf hR hsl hn
 go_enter Tryz.func40,Tryz.ntmps40
 go_wp2_with fail
 refine ty_at fun u0 hu0=>?_
 have H0:Hid (Below w.heap.size w u0/\u0.heap[w.heap.size]?=some (.cells #[.string f.name,.int .i64 f.params,.int .i64 f.regs,.slice v.a v.len v.cap,.slice (some ⟨sb,so,none⟩) n sc] 31 (0,0))/\u0.ownsRow w.heap.size 73 3 (.slice (some ⟨w.heap.size+1,0,none⟩) 0 0) 0 []):=by
  have x1:=heap_alloc_new w (.cells #[.string f.name,.int .i64 f.params,.int .i64 f.regs,.slice v.a v.len v.cap,.slice (some ⟨sb,so,none⟩) n sc] 31)
  have x2:=World.ownsRow_lit (w.alloc (.cells #[.string f.name,.int .i64 f.params,.int .i64 f.regs,.slice v.a v.len v.cap,.slice (some ⟨sb,so,none⟩) n sc] 31)) #[] 0 (base:=w.heap.size) (e:=73) (size:=3) (by simp) (Nat.zero_le _) rfl
  have x3:(w.alloc (.cells #[.string f.name,.int .i64 f.params,.int .i64 f.regs,.slice v.a v.len v.cap,.slice (some ⟨sb,so,none⟩) n sc] 31)).heap.size=w.heap.size+1:=by simp
  rw[x3]at x2
  rw[hu0]
  exact⟨(below_alloc w _).trans ((below_alloc _ _).mono (by simp)),((below_alloc _ _).block _ (by simp)).trans x1,x2⟩
 clear hu0
 refine (HLV.out u0 H0.out.1).mono ?_
 rintro e u2 ⟨go,co,G,m,rfl,oo,rr,hm,d2⟩
 have hnE:=HF.out.2.1
 rw[<- hnE]at oo rr hm ⊢
 obtain⟨z1,hz1⟩:∃ z1,z1=u0.heap.size+1:=⟨_,rfl⟩
 rw[<- hz1]at oo rr
 have HM:Hid (∀ i r,i<n->r<R->(m i r=true↔Pl.Live f.code (r:Int) i)):=hm
 have H2:Hid (u2.ownsRow z1 52 1 (.slice (some ⟨go,0,none⟩) n co) n (rowsV n R G)/\(∀ i,i<n->u2.ownsRow z1 4 1 (.slice (some ⟨G i,0,none⟩) R R) R (mkV R (m i)))/\u2.heap[w.heap.size]?=some (.cells #[.string f.name,.int .i64 f.params,.int .i64 f.regs,.slice v.a v.len v.cap,.slice (some ⟨sb,so,none⟩) n sc] 31 (0,0))/\u2.ownsRow w.heap.size 73 3 (.slice (some ⟨w.heap.size+1,0,none⟩) 0 0) 0 []/\Below w.heap.size w u2):=⟨oo,rr,(d2.block _ (Array.getElem?_eq_some_iff.1 H0.out.2.1).1).trans H0.out.2.1,own_eqL H0.out.2.2 fun g hg=>d2.block g (H0.out.2.2.lt g hg).2,H0.out.1.trans (d2.mono H0.out.1.size)⟩
 have HZ1:Hid (w.heap.size+2<=z1):=by have:=(H0.out.2.2.lt (w.heap.size+1) rfl).2;show _<=_;omega
 clear oo rr hm d2 HLV H0 hz1 hnE
 go_wp2_with fail
 go_loopw [3,5] (fun o t wr=>∃ r:Nat,r<=R/\t=.int .i64 (r:Int)/\∃ gq cq,o=.slice (some ⟨gq,0,none⟩) r cq/\Hid (∃ S,wr.ownsRow w.heap.size 73 3 (.slice (some ⟨gq,0,none⟩) r cq) r (Pl.spV r S)/\(∀ q,q<r->Pl.SpanIs f q (S q))/\(wr.ownsRow z1 52 1 (.slice (some ⟨go,0,none⟩) n co) n (rowsV n R G)/\(∀ i,i<n->wr.ownsRow z1 4 1 (.slice (some ⟨G i,0,none⟩) R R) R (mkV R (m i))))/\wr.heap[w.heap.size]?=some (.cells #[.string f.name,.int .i64 f.params,.int .i64 f.regs,.slice v.a v.len v.cap,.slice (some ⟨sb,so,none⟩) n sc] 31 (0,0))/\Below w.heap.size w wr/\gq≠go/\(∀ i,i<n->gq≠G i)/\gq≠w.heap.size)) (fun _ t _=>R-(intOf t).toNat)
 case atStart=>
  refine⟨0,Nat.zero_le _,rfl,_,_,rfl,fun _=>⟨0,0,false⟩,H2.out.2.2.2.1,fun i hi=>absurd hi (Nat.not_lt_zero _),⟨H2.out.1,H2.out.2.1⟩,H2.out.2.2.1,H2.out.2.2.2.2,?_,fun i hi=>?_,by omega⟩
  ·have:=(H2.out.1.lt go rfl).1;have:=HZ1.out;omega
  ·have:=((H2.out.2.1 i hi).lt (G i) rfl).1;have:=HZ1.out;omega
 case round=>
  rename World=>wo
  obtain⟨r,hrR,rfl,gq,cq,rfl,SX⟩:=hrel
  obtain⟨S,o3,s3,lv3,bx3,bw3,n1,n2,n3⟩:=SX.out
  have H3:Hid (wo.ownsRow w.heap.size 73 3 (.slice (some ⟨gq,0,none⟩) r cq) r (Pl.spV r S)/\(∀ q,q<r->Pl.SpanIs f q (S q))/\(wo.ownsRow z1 52 1 (.slice (some ⟨go,0,none⟩) n co) n (rowsV n R G)/\(∀ i,i<n->wo.ownsRow z1 4 1 (.slice (some ⟨G i,0,none⟩) R R) R (mkV R (m i))))/\wo.heap[w.heap.size]?=some (.cells #[.string f.name,.int .i64 f.params,.int .i64 f.regs,.slice v.a v.len v.cap,.slice (some ⟨sb,so,none⟩) n sc] 31 (0,0))/\Below w.heap.size w wo/\gq≠go/\(∀ i,i<n->gq≠G i)/\gq≠w.heap.size):=⟨o3,s3,lv3,bx3,bw3,n1,n2,n3⟩
  have ah:=bx3
  have a0:wo.cell? ⟨w.heap.size,0,none⟩=some (.string f.name):=by rw[cell_of_row wo _ 0 _ _ (0,0) ah];rfl
  have a1:wo.cell? ⟨w.heap.size,1,none⟩=some (.int .i64 f.params):=by rw[cell_of_row wo _ 1 _ _ (0,0) ah];rfl
  have a2:wo.cell? ⟨w.heap.size,2,none⟩=some (.int .i64 f.regs):=by rw[cell_of_row wo _ 2 _ _ (0,0) ah];rfl
  have a3:wo.cell? ⟨w.heap.size,3,none⟩=some (.slice v.a v.len v.cap):=by rw[cell_of_row wo _ 3 _ _ (0,0) ah];rfl
  have a4:wo.cell? ⟨w.heap.size,4,none⟩=some (.slice (some ⟨sb,so,none⟩) n sc):=by rw[cell_of_row wo _ 4 _ _ (0,0) ah];rfl
  have hwl:w.heap.size<wo.heap.size:=(Array.getElem?_eq_some_iff.1 bx3).1
  have hreg:f.regs=(R:Int):=HF.out.2.2
  rw[hreg]at a2
  clear hreg
  clear SX o3 s3 lv3 bx3 bw3 n1 n2 n3 ah
  by_cases hlt:r<R
  rotate_left
  ·have hri:¬ ((r:Int)<(R:Int)):=by omega
   have hre:r=R:=by omega
   have HE:Hid (SpSaid w f R (.returned (.slice (some ⟨gq,0,none⟩) r cq)) wo):=by
    rw[hre]
    obtain⟨q1,q2,_,_,q5,_⟩:=H3.out
    rw[hre]at q1 q2
    exact⟨gq,cq,S,rfl,q1,q2,q5⟩
   clear hre
   go_wp2_with fail
   go_ret
   exact HE.out
  have hri:(r:Int)<(R:Int):=by omega
  have HST:Hid (∀ W:World,Below wo.heap.size wo W->W.heap[w.heap.size]?=some (.cells #[.string f.name,.int .i64 f.params,.int .i64 f.regs,.slice v.a v.len v.cap,.slice (some ⟨sb,so,none⟩) n sc] 31 (0,0))/\∀ i,i<n->W.cell? ⟨go,i,none⟩=some (.slice (some ⟨G i,0,none⟩) R R)/\W.cell? ⟨G i,r,none⟩=some (.bool (m i r))/\go<wo.heap.size/\G i<wo.heap.size):=fun W hW=>by
   obtain⟨_,_,⟨oo,rr⟩,bx,_⟩:=H3.out
   refine⟨(hW.block _ hwl).trans bx,fun i hi=>⟨?_,?_,(oo.lt go rfl).2,((rr i hi).lt (G i) rfl).2⟩⟩
   ·rw[hW.cell (p:=⟨go,i,none⟩) (oo.lt go rfl).2,oo.cellAt i (by omega)];unfold rowsV;rw[List.getElem?_map,List.getElem?_range hi];rfl
   ·rw[hW.cell (p:=⟨G i,r,none⟩) ((rr i hi).lt (G i) rfl).2,(rr i hi).cellAt r (by omega)];unfold mkV;rw[List.getElem?_map,List.getElem?_range hlt];rfl
  have HLAST:Hid (∀ (W:World) (g4 c4:Nat) (y4:World) (sp:Pl.Sp),Below wo.heap.size wo W->y4.ownsRow w.heap.size 73 3 (.slice (some ⟨g4,0,none⟩) (r+1) c4) (r+1) (Pl.spV r S ++ sp.cells)->(W.alloc (.cells #[.int .i64 sp.fr,.int .i64 sp.tt,.bool sp.cr] 73)).grownBy y4 (some gq)->(some gq=some g4\/g4=W.heap.size+1)->Pl.SpanIs f r sp->(∃ r_1:Nat,r_1<=R/\Value.int .i64 ((r:Int)+1)=.int .i64 (r_1:Int)/\∃ gq cq,Value.slice (some ⟨g4,0,none⟩) (r+1) c4=.slice (some ⟨gq,0,none⟩) r_1 cq/\Hid (∃ S,y4.ownsRow w.heap.size 73 3 (.slice (some ⟨gq,0,none⟩) r_1 cq) r_1 (Pl.spV r_1 S)/\(∀ q,q<r_1->Pl.SpanIs f q (S q))/\(y4.ownsRow z1 52 1 (.slice (some ⟨go,0,none⟩) n co) n (rowsV n R G)/\(∀ i,i<n->y4.ownsRow z1 4 1 (.slice (some ⟨G i,0,none⟩) R R) R (mkV R (m i))))/\y4.heap[w.heap.size]?=some (.cells #[.string f.name,.int .i64 f.params,.int .i64 f.regs,.slice v.a v.len v.cap,.slice (some ⟨sb,so,none⟩) n sc] 31 (0,0))/\Below w.heap.size w y4/\gq≠go/\(∀ i,i<n->gq≠G i)/\gq≠w.heap.size))/\R-(intOf (.int .i64 ((r:Int)+1))).toNat<R-(intOf (.int .i64 (r:Int))).toNat):=fun W g4 c4 y4 sp b1 o5 gr hli hsp=>by
   obtain⟨o3,s3,⟨oo,rr⟩,bx3,bw3,n1,n2,n3⟩:=H3.out
   have hli:gq=g4\/g4=W.heap.size+1:=by rcases hli with e | e;exact .inl (by simpa using e);exact .inr e
   have hWz:=b1.size
   have hkeep:∀ g,g<wo.heap.size->g≠gq->y4.heap[g]?=wo.heap[g]?:=fun g hg hne=>by
    rw[gr.block g (by simp;omega) (by simp;exact hne),(below_alloc W _).block g (by omega),b1.block g hg]
   have hGl:∀ i,i<n->G i<wo.heap.size:=fun i hi=>((rr i hi).lt (G i) rfl).2
   have hgol:=(oo.lt go rfl).2
   refine⟨⟨r+1,by omega,by go_num,g4,c4,rfl,fun q=>if q=r then sp else S q,?_,fun q hq=>?_,⟨?_,fun i hi=>?_⟩,?_,?_,?_,fun i hi=>?_,?_⟩,by simp[intOf];omega⟩
   ·rw[Pl.spV_succ r _ sp (by simp),Pl.spV_congr (S':=S) (fun q hq=>by rw[if_neg (by omega)])];exact o5
   ·show Pl.SpanIs f q (if q=r then sp else S q)
    by_cases e:q=r
    ·subst e;rw[if_pos rfl];exact hsp
    ·rw[if_neg e];exact s3 q (by omega)
   ·refine own_eqL oo fun g hg=>?_
    simp only[Value.ownBlock,Option.some.injEq]at hg
    subst hg
    exact hkeep _ hgol (fun e=>n1 e.symm)
   ·refine own_eqL (rr i hi) fun g hg=>?_
    simp only[Value.ownBlock,Option.some.injEq]at hg
    subst hg
    exact hkeep _ (hGl i hi) (fun e=>n2 i hi e.symm)
   ·exact (hkeep _ hwl (fun e=>n3 e.symm)).trans bx3
   ·refine ((bw3.trans (b1.mono bw3.size)).trans ((below_alloc W _).mono (by omega))).grown gr (by simp;omega) (fun q hq=>?_)
    simp only[Option.some.injEq]at hq
    subst hq
    exact (o3.lt _ rfl).1
   ·rcases hli with e | e
    ·rw[<- e];exact n1
    ·omega
   ·have:=hGl i hi
    rcases hli with e | e
    ·rw[<- e];exact n2 i hi
    ·omega
   ·rcases hli with e | e
    ·rw[<- e];exact n3
    ·omega
  clear a0 a1 a3 a4
  go_wp2_with fail
  have hnb:wo.heap.size<wo.heap.size+1:=Nat.lt_succ_self _
  go_loopw [7] (fun t W=>∃ (i:Nat) (fr tt:Int),i<=n/\t=.int .i64 (i:Int)/\Hid (Below wo.heap.size wo W/\W.heap[wo.heap.size]?=some (.cells #[.int .i64 fr,.int .i64 tt,.bool false] 73 (0,0))/\Pl.Bd (Pl.Sd f.code (r:Int)) i fr tt)) (fun t _=>n-(intOf t).toNat)
  case atStart=>exact⟨0,0,-1,Nat.zero_le _,rfl,below_alloc wo _,heap_alloc_new wo _,Pl.Bd.nil _⟩
  case round=>
   obtain⟨i,fr,tt,hin,rfl,HB⟩:=hrel
   have hwq:wo.heap.size<wr.heap.size:=(Array.getElem?_eq_some_iff.1 HB.out.2.1).1
   have ah:=(HST.out wr HB.out.1).1
   have a0:wr.cell? ⟨w.heap.size,0,none⟩=some (.string f.name):=by rw[cell_of_row wr _ 0 _ _ (0,0) ah];rfl
   have a1:wr.cell? ⟨w.heap.size,1,none⟩=some (.int .i64 f.params):=by rw[cell_of_row wr _ 1 _ _ (0,0) ah];rfl
   have a2:wr.cell? ⟨w.heap.size,2,none⟩=some (.int .i64 f.regs):=by rw[cell_of_row wr _ 2 _ _ (0,0) ah];rfl
   have a3:wr.cell? ⟨w.heap.size,3,none⟩=some (.slice v.a v.len v.cap):=by rw[cell_of_row wr _ 3 _ _ (0,0) ah];rfl
   have a4:wr.cell? ⟨w.heap.size,4,none⟩=some (.slice (some ⟨sb,so,none⟩) n sc):=by rw[cell_of_row wr _ 4 _ _ (0,0) ah];rfl
   have hBd:=HB.out.2.2.bound
   clear ah
   by_cases hil:i<n
   rotate_left
   ·have hie:n=i:=by omega
    subst hie
    have hni:¬ ((n:Int)<(n:Int)):=by omega
    obtain⟨l0c,l1c,hgo,hG0⟩:=(HST.out wr HB.out.1).2 0 (by omega)
    have HLI:=HM.out 0 r (by omega) hlt
    have s0:wr.cell? ⟨wo.heap.size,0,none⟩=some (.int .i64 fr):=by rw[cell_of_row wr _ 0 _ _ (0,0) HB.out.2.1];rfl
    have s1:wr.cell? ⟨wo.heap.size,1,none⟩=some (.int .i64 tt):=by rw[cell_of_row wr _ 1 _ _ (0,0) HB.out.2.1];rfl
    have s2:wr.cell? ⟨wo.heap.size,2,none⟩=some (.bool false):=by rw[cell_of_row wr _ 2 _ _ (0,0) HB.out.2.1];rfl
    have fz:∀ q,wr.frozen? ⟨wo.heap.size,q,none⟩=false:=fun q=>frozen_of_row wr _ q _ _ HB.out.2.1
    by_cases hp:(r:Int)<f.params
    ·cases hm:m 0 r with
     | true=>
      rw[hm]at l1c HLI
      have hlv:=HLI.1 rfl
      have HX:Hid (Below wo.heap.size wo (wr.setCell ⟨wo.heap.size,0,none⟩ (.int .i64 (-1)))/\(wr.setCell ⟨wo.heap.size,0,none⟩ (.int .i64 (-1))).heap[wo.heap.size]?=some (.cells #[.int .i64 (-1),.int .i64 tt,.bool false] 73 (0,0))/\Pl.Bd (Pl.Sd f.code (r:Int)) n fr tt/\(-1:Int)=(open Classical in if (r:Int)<f.params/\Pl.Live f.code (r:Int) 0 then -1 else fr)):=⟨HB.out.1.setCell (Nat.le_refl _) _,bx0 HB.out.2.1,HB.out.2.2,by rw[if_pos ⟨hp,hlv⟩]⟩
      clear HLI hlv
      have hz9:(wr.setCell ⟨wo.heap.size,0,none⟩ (.int .i64 (-1))).cell? ⟨wo.heap.size,0,none⟩=some (.int .i64 (-1)):=by rw[cell_of_row _ _ 0 _ _ (0,0) HX.out.2.1];rfl
      go_wp2_with fail
      go_loopw [8] (fun t W=>∃ (j:Int) (cr:Bool),t=.int .i64 j/\(-1:Int)+1<=j/\(j=(-1:Int)+1\/j<=tt)/\Hid (Below wo.heap.size wo W/\W.heap[wo.heap.size]?=some (.cells #[.int .i64 (-1),.int .i64 tt,.bool cr] 73 (0,0))/\Pl.Crs f.code (-1) j cr)) (fun t _=>(8002-intOf t).toNat)
      case atStart=>exact⟨(-1:Int)+1,false,by go_num,by omega,.inl rfl,HX.out.1,HX.out.2.1,⟨(fun c=>(by cases c)),fun ⟨i,h1,h2,_⟩=>by omega⟩⟩
      case round=>
       obtain⟨j,cr,rfl,hj1,hj2,HC⟩:=hrel
       have hj0:0<=j:=by omega
       have hj9:j<=8001:=by omega
       have z0:wr.cell? ⟨wo.heap.size,0,none⟩=some (.int .i64 (-1)):=by rw[cell_of_row wr _ 0 _ _ (0,0) HC.out.2.1];rfl
       have z1:wr.cell? ⟨wo.heap.size,1,none⟩=some (.int .i64 tt):=by rw[cell_of_row wr _ 1 _ _ (0,0) HC.out.2.1];rfl
       have z2:wr.cell? ⟨wo.heap.size,2,none⟩=some (.bool cr):=by rw[cell_of_row wr _ 2 _ _ (0,0) HC.out.2.1];rfl
       have fz:∀ q,wr.frozen? ⟨wo.heap.size,q,none⟩=false:=fun q=>frozen_of_row wr _ q _ _ HC.out.2.1
       have hwq:wo.heap.size<wr.heap.size:=(Array.getElem?_eq_some_iff.1 HC.out.2.1).1
       by_cases hjt:j<tt
       ·obtain⟨k,rfl⟩:∃ k:Nat,j=k:=⟨j.toNat,by omega⟩
        have hkn:k<n:=by omega
        have hki:(k:Int)<(n:Int):=by omega
        have ah:=(HST.out wr HC.out.1).1
        have a4:wr.cell? ⟨w.heap.size,4,none⟩=some (.slice (some ⟨sb,so,none⟩) n sc):=by rw[cell_of_row wr _ 4 _ _ (0,0) ah];rfl
        clear ah
        obtain⟨y,hb4,hc4⟩:=HIR.out wr (H3.out.2.2.2.2.1.trans (HC.out.1.mono H3.out.2.2.2.2.1.size)) k hkn
        obtain⟨o,ho⟩:∃ o,o=(f.code.getD k Pl.IrI.zero).op:=⟨_,rfl⟩
        have k0:=(iri_cells hc4).1
        rw[<- ho]at k0
        have HO:Hid (o=(f.code.getD k Pl.IrI.zero).op):=ho
        clear hc4 ho
        by_cases ho9:o=9
        ·have HY:Hid (Pl.Crs f.code (-1) ((k:Int)+1) true):=Pl.Crs.yes (by omega) (.inl (HO.out.symm.trans ho9))
         subst ho9
         go_wp2_with fail
         exact⟨⟨(k:Int)+1,true,by go_num,by omega,.inr (by omega),HC.out.1.setCell (Nat.le_refl _) _,bx2 HC.out.2.1,HY.out⟩,by simp[intOf];omega⟩
        by_cases ho10:o=10
        ·have HY:Hid (Pl.Crs f.code (-1) ((k:Int)+1) true):=Pl.Crs.yes (by omega) (.inr (HO.out.symm.trans ho10))
         subst ho10
         go_wp2_with fail
         exact⟨⟨(k:Int)+1,true,by go_num,by omega,.inr (by omega),HC.out.1.setCell (Nat.le_refl _) _,bx2 HC.out.2.1,HY.out⟩,by simp[intOf];omega⟩
        have HY:Hid (Pl.Crs f.code (-1) ((k:Int)+1) cr):=HC.out.2.2.no (fun c=>c.elim (fun c=>ho9 (HO.out.trans c)) (fun c=>ho10 (HO.out.trans c)))
        have hb9:(o == 9)=false:=by simp[ho9]
        have hb10:(o == 10)=false:=by simp[ho10]
        go_wp2_with fail
        exact⟨⟨(k:Int)+1,cr,by go_num,by omega,.inr (by omega),HC.out.1,HC.out.2.1,HY.out⟩,by simp[intOf];omega⟩
       ·have HY:Hid (Pl.Crs f.code (-1) tt cr):=HC.out.2.2.end_ (by omega)
        have HS:Hid (Pl.SpanIs f r ⟨-1,tt,cr⟩):=by
         have e:=HF.out.2.1
         exact⟨fr,by rw[<- e];exact HX.out.2.2.1,HX.out.2.2.2,HY.out⟩
        have hwz:=H3.out.2.2.2.2.1.size
        have hwz2:=HC.out.1.size
        go_wp2_with (at_builtin;refine wpList_append_lies _ rfl (.tmp 89) (.tmp 91) 38 rfl w.heap.size 73 l0 (.agg #[.int .i64 0,.int .i64 0,.bool false]) 3 24 Tryz.underlying38 HI.out.1 HI.out.2.1 HI.out.2.2.1 HI.out.2.2.2 rfl (by decide) (.slice (some ⟨gq,0,none⟩) r cq) r (Pl.spV r S) rfl (World.ownsRow.alloc (own_eqL H3.out.1 fun g hg=>HC.out.1.block g (H3.out.1.lt g hg).2) _) ⟨wr.heap.size,0,none⟩ 1 1 [.int .i64 (-1),.int .i64 tt,.bool cr] rfl rfl (news3 _ _ _ _ _ _ rfl) (by intro u hu;simp at hu;rcases hu with e | e | e <;> subst e <;> rfl) (by decide) (by unfold maxLen;omega) (by omega) (by simp;omega) (wr.heap.size+1) (by simp) ?_;intro g4 c4 y4 hown hgr hli hlt2;have H5:Hid (y4.ownsRow w.heap.size 73 3 (.slice (some ⟨g4,0,none⟩) (r+1) c4) (r+1) (Pl.spV r S ++ [.int .i64 (-1),.int .i64 tt,.bool cr])/\(wr.alloc (.cells #[.int .i64 (-1),.int .i64 tt,.bool cr] 73)).grownBy y4 (some gq)/\(some gq=some g4\/g4=wr.heap.size+1)):=⟨hown,hgr,hli⟩; clear hown hgr hli hlt2)
        exact HLAST.out wr g4 c4 y4 ⟨-1,tt,cr⟩ HC.out.1 H5.out.1 H5.out.2.1 H5.out.2.2 HS.out
     | false=>
      rw[hm]at l1c HLI
      have hlv:¬ Pl.Live f.code (r:Int) 0:=fun c=>absurd (HLI.2 c) (by decide)
      have HX:Hid (Below wo.heap.size wo wr/\wr.heap[wo.heap.size]?=some (.cells #[.int .i64 fr,.int .i64 tt,.bool false] 73 (0,0))/\Pl.Bd (Pl.Sd f.code (r:Int)) n fr tt/\fr=(open Classical in if (r:Int)<f.params/\Pl.Live f.code (r:Int) 0 then -1 else fr)):=⟨HB.out.1,HB.out.2.1,HB.out.2.2,by rw[if_neg (fun c=>hlv c.2)]⟩
      clear HLI hlv
      go_wp2_with fail
      go_loopw [8] (fun t W=>∃ (j:Int) (cr:Bool),t=.int .i64 j/\fr+1<=j/\(j=fr+1\/j<=tt)/\Hid (Below wo.heap.size wo W/\W.heap[wo.heap.size]?=some (.cells #[.int .i64 fr,.int .i64 tt,.bool cr] 73 (0,0))/\Pl.Crs f.code fr j cr)) (fun t _=>(8002-intOf t).toNat)
      case atStart=>exact⟨fr+1,false,by go_num,by omega,.inl rfl,HX.out.1,HX.out.2.1,⟨(fun c=>(by cases c)),fun ⟨i,h1,h2,_⟩=>by omega⟩⟩
      case round=>
       obtain⟨j,cr,rfl,hj1,hj2,HC⟩:=hrel
       have hj0:0<=j:=by omega
       have hj9:j<=8001:=by omega
       have z0:wr.cell? ⟨wo.heap.size,0,none⟩=some (.int .i64 (fr)):=by rw[cell_of_row wr _ 0 _ _ (0,0) HC.out.2.1];rfl
       have z1:wr.cell? ⟨wo.heap.size,1,none⟩=some (.int .i64 tt):=by rw[cell_of_row wr _ 1 _ _ (0,0) HC.out.2.1];rfl
       have z2:wr.cell? ⟨wo.heap.size,2,none⟩=some (.bool cr):=by rw[cell_of_row wr _ 2 _ _ (0,0) HC.out.2.1];rfl
       have fz:∀ q,wr.frozen? ⟨wo.heap.size,q,none⟩=false:=fun q=>frozen_of_row wr _ q _ _ HC.out.2.1
       have hwq:wo.heap.size<wr.heap.size:=(Array.getElem?_eq_some_iff.1 HC.out.2.1).1
       by_cases hjt:j<tt
       ·obtain⟨k,rfl⟩:∃ k:Nat,j=k:=⟨j.toNat,by omega⟩
        have hkn:k<n:=by omega
        have hki:(k:Int)<(n:Int):=by omega
        have ah:=(HST.out wr HC.out.1).1
        have a4:wr.cell? ⟨w.heap.size,4,none⟩=some (.slice (some ⟨sb,so,none⟩) n sc):=by rw[cell_of_row wr _ 4 _ _ (0,0) ah];rfl
        clear ah
        obtain⟨y,hb4,hc4⟩:=HIR.out wr (H3.out.2.2.2.2.1.trans (HC.out.1.mono H3.out.2.2.2.2.1.size)) k hkn
        obtain⟨o,ho⟩:∃ o,o=(f.code.getD k Pl.IrI.zero).op:=⟨_,rfl⟩
        have k0:=(iri_cells hc4).1
        rw[<- ho]at k0
        have HO:Hid (o=(f.code.getD k Pl.IrI.zero).op):=ho
        clear hc4 ho
        by_cases ho9:o=9
        ·have HY:Hid (Pl.Crs f.code (fr) ((k:Int)+1) true):=Pl.Crs.yes (by omega) (.inl (HO.out.symm.trans ho9))
         subst ho9
         go_wp2_with fail
         exact⟨⟨(k:Int)+1,true,by go_num,by omega,.inr (by omega),HC.out.1.setCell (Nat.le_refl _) _,bx2 HC.out.2.1,HY.out⟩,by simp[intOf];omega⟩
        by_cases ho10:o=10
        ·have HY:Hid (Pl.Crs f.code (fr) ((k:Int)+1) true):=Pl.Crs.yes (by omega) (.inr (HO.out.symm.trans ho10))
         subst ho10
         go_wp2_with fail
         exact⟨⟨(k:Int)+1,true,by go_num,by omega,.inr (by omega),HC.out.1.setCell (Nat.le_refl _) _,bx2 HC.out.2.1,HY.out⟩,by simp[intOf];omega⟩
        have HY:Hid (Pl.Crs f.code (fr) ((k:Int)+1) cr):=HC.out.2.2.no (fun c=>c.elim (fun c=>ho9 (HO.out.trans c)) (fun c=>ho10 (HO.out.trans c)))
        have hb9:(o == 9)=false:=by simp[ho9]
        have hb10:(o == 10)=false:=by simp[ho10]
        go_wp2_with fail
        exact⟨⟨(k:Int)+1,cr,by go_num,by omega,.inr (by omega),HC.out.1,HC.out.2.1,HY.out⟩,by simp[intOf];omega⟩
       ·have HY:Hid (Pl.Crs f.code (fr) tt cr):=HC.out.2.2.end_ (by omega)
        have HS:Hid (Pl.SpanIs f r ⟨fr,tt,cr⟩):=by
         have e:=HF.out.2.1
         exact⟨fr,by rw[<- e];exact HX.out.2.2.1,HX.out.2.2.2,HY.out⟩
        have hwz:=H3.out.2.2.2.2.1.size
        have hwz2:=HC.out.1.size
        go_wp2_with (at_builtin;refine wpList_append_lies _ rfl (.tmp 89) (.tmp 91) 38 rfl w.heap.size 73 l0 (.agg #[.int .i64 0,.int .i64 0,.bool false]) 3 24 Tryz.underlying38 HI.out.1 HI.out.2.1 HI.out.2.2.1 HI.out.2.2.2 rfl (by decide) (.slice (some ⟨gq,0,none⟩) r cq) r (Pl.spV r S) rfl (World.ownsRow.alloc (own_eqL H3.out.1 fun g hg=>HC.out.1.block g (H3.out.1.lt g hg).2) _) ⟨wr.heap.size,0,none⟩ 1 1 [.int .i64 (fr),.int .i64 tt,.bool cr] rfl rfl (news3 _ _ _ _ _ _ rfl) (by intro u hu;simp at hu;rcases hu with e | e | e <;> subst e <;> rfl) (by decide) (by unfold maxLen;omega) (by omega) (by simp;omega) (wr.heap.size+1) (by simp) ?_;intro g4 c4 y4 hown hgr hli hlt2;have H5:Hid (y4.ownsRow w.heap.size 73 3 (.slice (some ⟨g4,0,none⟩) (r+1) c4) (r+1) (Pl.spV r S ++ [.int .i64 (fr),.int .i64 tt,.bool cr])/\(wr.alloc (.cells #[.int .i64 (fr),.int .i64 tt,.bool cr] 73)).grownBy y4 (some gq)/\(some gq=some g4\/g4=wr.heap.size+1)):=⟨hown,hgr,hli⟩; clear hown hgr hli hlt2)
        exact HLAST.out wr g4 c4 y4 ⟨fr,tt,cr⟩ HC.out.1 H5.out.1 H5.out.2.1 H5.out.2.2 HS.out
    ·have HX:Hid (Below wo.heap.size wo wr/\wr.heap[wo.heap.size]?=some (.cells #[.int .i64 fr,.int .i64 tt,.bool false] 73 (0,0))/\Pl.Bd (Pl.Sd f.code (r:Int)) n fr tt/\fr=(open Classical in if (r:Int)<f.params/\Pl.Live f.code (r:Int) 0 then -1 else fr)):=⟨HB.out.1,HB.out.2.1,HB.out.2.2,by rw[if_neg (fun c=>hp c.1)]⟩
     clear HLI
     go_wp2_with fail
     go_loopw [8] (fun t W=>∃ (j:Int) (cr:Bool),t=.int .i64 j/\fr+1<=j/\(j=fr+1\/j<=tt)/\Hid (Below wo.heap.size wo W/\W.heap[wo.heap.size]?=some (.cells #[.int .i64 fr,.int .i64 tt,.bool cr] 73 (0,0))/\Pl.Crs f.code fr j cr)) (fun t _=>(8002-intOf t).toNat)
     case atStart=>exact⟨fr+1,false,by go_num,by omega,.inl rfl,HX.out.1,HX.out.2.1,⟨(fun c=>(by cases c)),fun ⟨i,h1,h2,_⟩=>by omega⟩⟩
     case round=>
      obtain⟨j,cr,rfl,hj1,hj2,HC⟩:=hrel
      have hj0:0<=j:=by omega
      have hj9:j<=8001:=by omega
      have z0:wr.cell? ⟨wo.heap.size,0,none⟩=some (.int .i64 (fr)):=by rw[cell_of_row wr _ 0 _ _ (0,0) HC.out.2.1];rfl
      have z1:wr.cell? ⟨wo.heap.size,1,none⟩=some (.int .i64 tt):=by rw[cell_of_row wr _ 1 _ _ (0,0) HC.out.2.1];rfl
      have z2:wr.cell? ⟨wo.heap.size,2,none⟩=some (.bool cr):=by rw[cell_of_row wr _ 2 _ _ (0,0) HC.out.2.1];rfl
      have fz:∀ q,wr.frozen? ⟨wo.heap.size,q,none⟩=false:=fun q=>frozen_of_row wr _ q _ _ HC.out.2.1
      have hwq:wo.heap.size<wr.heap.size:=(Array.getElem?_eq_some_iff.1 HC.out.2.1).1
      by_cases hjt:j<tt
      ·obtain⟨k,rfl⟩:∃ k:Nat,j=k:=⟨j.toNat,by omega⟩
       have hkn:k<n:=by omega
       have hki:(k:Int)<(n:Int):=by omega
       have ah:=(HST.out wr HC.out.1).1
       have a4:wr.cell? ⟨w.heap.size,4,none⟩=some (.slice (some ⟨sb,so,none⟩) n sc):=by rw[cell_of_row wr _ 4 _ _ (0,0) ah];rfl
       clear ah
       obtain⟨y,hb4,hc4⟩:=HIR.out wr (H3.out.2.2.2.2.1.trans (HC.out.1.mono H3.out.2.2.2.2.1.size)) k hkn
       obtain⟨o,ho⟩:∃ o,o=(f.code.getD k Pl.IrI.zero).op:=⟨_,rfl⟩
       have k0:=(iri_cells hc4).1
       rw[<- ho]at k0
       have HO:Hid (o=(f.code.getD k Pl.IrI.zero).op):=ho
       clear hc4 ho
       by_cases ho9:o=9
       ·have HY:Hid (Pl.Crs f.code (fr) ((k:Int)+1) true):=Pl.Crs.yes (by omega) (.inl (HO.out.symm.trans ho9))
        subst ho9
        go_wp2_with fail
        exact⟨⟨(k:Int)+1,true,by go_num,by omega,.inr (by omega),HC.out.1.setCell (Nat.le_refl _) _,bx2 HC.out.2.1,HY.out⟩,by simp[intOf];omega⟩
       by_cases ho10:o=10
       ·have HY:Hid (Pl.Crs f.code (fr) ((k:Int)+1) true):=Pl.Crs.yes (by omega) (.inr (HO.out.symm.trans ho10))
        subst ho10
        go_wp2_with fail
        exact⟨⟨(k:Int)+1,true,by go_num,by omega,.inr (by omega),HC.out.1.setCell (Nat.le_refl _) _,bx2 HC.out.2.1,HY.out⟩,by simp[intOf];omega⟩
       have HY:Hid (Pl.Crs f.code (fr) ((k:Int)+1) cr):=HC.out.2.2.no (fun c=>c.elim (fun c=>ho9 (HO.out.trans c)) (fun c=>ho10 (HO.out.trans c)))
       have hb9:(o == 9)=false:=by simp[ho9]
       have hb10:(o == 10)=false:=by simp[ho10]
       go_wp2_with fail
       exact⟨⟨(k:Int)+1,cr,by go_num,by omega,.inr (by omega),HC.out.1,HC.out.2.1,HY.out⟩,by simp[intOf];omega⟩
      ·have HY:Hid (Pl.Crs f.code (fr) tt cr):=HC.out.2.2.end_ (by omega)
       have HS:Hid (Pl.SpanIs f r ⟨fr,tt,cr⟩):=by
        have e:=HF.out.2.1
        exact⟨fr,by rw[<- e];exact HX.out.2.2.1,HX.out.2.2.2,HY.out⟩
       have hwz:=H3.out.2.2.2.2.1.size
       have hwz2:=HC.out.1.size
       go_wp2_with (at_builtin;refine wpList_append_lies _ rfl (.tmp 89) (.tmp 91) 38 rfl w.heap.size 73 l0 (.agg #[.int .i64 0,.int .i64 0,.bool false]) 3 24 Tryz.underlying38 HI.out.1 HI.out.2.1 HI.out.2.2.1 HI.out.2.2.2 rfl (by decide) (.slice (some ⟨gq,0,none⟩) r cq) r (Pl.spV r S) rfl (World.ownsRow.alloc (own_eqL H3.out.1 fun g hg=>HC.out.1.block g (H3.out.1.lt g hg).2) _) ⟨wr.heap.size,0,none⟩ 1 1 [.int .i64 (fr),.int .i64 tt,.bool cr] rfl rfl (news3 _ _ _ _ _ _ rfl) (by intro u hu;simp at hu;rcases hu with e | e | e <;> subst e <;> rfl) (by decide) (by unfold maxLen;omega) (by omega) (by simp;omega) (wr.heap.size+1) (by simp) ?_;intro g4 c4 y4 hown hgr hli hlt2;have H5:Hid (y4.ownsRow w.heap.size 73 3 (.slice (some ⟨g4,0,none⟩) (r+1) c4) (r+1) (Pl.spV r S ++ [.int .i64 (fr),.int .i64 tt,.bool cr])/\(wr.alloc (.cells #[.int .i64 (fr),.int .i64 tt,.bool cr] 73)).grownBy y4 (some gq)/\(some gq=some g4\/g4=wr.heap.size+1)):=⟨hown,hgr,hli⟩; clear hown hgr hli hlt2)
       exact HLAST.out wr g4 c4 y4 ⟨fr,tt,cr⟩ HC.out.1 H5.out.1 H5.out.2.1 H5.out.2.2 HS.out
   have hii:(i:Int)<(n:Int):=by omega
   obtain⟨l0c,l1c,hgo,hG0⟩:=(HST.out wr HB.out.1).2 i hil
   obtain⟨y,hb4,hc4⟩:=HIR.out wr (H3.out.2.2.2.2.1.trans (HB.out.1.mono H3.out.2.2.2.2.1.size)) i hil
   obtain⟨x,hx⟩:∃ x,x=f.code.getD i Pl.IrI.zero:=⟨_,rfl⟩
   rw[<- hx]at hc4
   obtain⟨k0,k1,k2,k3,k4,k5,k6⟩:=iri_cells hc4
   have hok:Pl.insOk f.slots.length f.regs x:=by have:=(HF.out.1.2.2.1 i (by have:=HF.out.2.1;omega)).1;rw[<- hx]at this;exact this
   obtain⟨st,hst⟩:∃ st,st=Pl.setsD x:=⟨_,rfl⟩
   have HSE:Hid ((r:Int)=st↔Pl.Se f.code i (r:Int)):=by
    unfold Pl.Se
    rw[hst,<- hx]
    exact (Pl.same_us hok).2 r (by omega)
   have HLI:=HM.out i r hil hlt
   have HX:Hid (Below wo.heap.size wo wr/\wr.heap[wo.heap.size]?=some (.cells #[.int .i64 fr,.int .i64 tt,.bool false] 73 (0,0))):=⟨HB.out.1,HB.out.2.1⟩
   clear hx hc4
   cases hm:m i r with
   | true=>
    rw[hm]at l1c HLI
    have HSD:Hid (Pl.Sd f.code (r:Int) i):=.inl (HLI.1 rfl)
    clear HLI hok hst
    have s0:wr.cell? ⟨wo.heap.size,0,none⟩=some (.int .i64 fr):=by rw[cell_of_row wr _ 0 _ _ (0,0) HX.out.2];rfl
    have s1:wr.cell? ⟨wo.heap.size,1,none⟩=some (.int .i64 tt):=by rw[cell_of_row wr _ 1 _ _ (0,0) HX.out.2];rfl
    have s2:wr.cell? ⟨wo.heap.size,2,none⟩=some (.bool false):=by rw[cell_of_row wr _ 2 _ _ (0,0) HX.out.2];rfl
    have fz:∀ q,wr.frozen? ⟨wo.heap.size,q,none⟩=false:=fun q=>frozen_of_row wr _ q _ _ HX.out.2
    by_cases ht0:tt<0
    ·go_wp2_with fail
     exact⟨⟨i+1,(i:Int),(i:Int),by omega,by go_num,(HX.out.1.setCell (Nat.le_refl _) _).setCell (Nat.le_refl _) _,bx1 (bx0 HX.out.2),HB.out.2.2.first HSD.out (by omega)⟩,by simp[intOf];omega⟩
    ·go_wp2_with fail
     exact⟨⟨i+1,fr,(i:Int),by omega,by go_num,HX.out.1.setCell (Nat.le_refl _) _,bx1 HX.out.2,HB.out.2.2.more HSD.out (by omega)⟩,by simp[intOf];omega⟩
   | false=>
    rw[hm]at l1c HLI
    have HNL:Hid (¬ Pl.Live f.code (r:Int) i):=fun c=>absurd (HLI.2 c) (by decide)
    clear HLI
    go_wp2_with fail
    refine (l11Sets_any x y (by have:=hok.1;omega) (by have:=hok.1;omega) _).mono ?_
    clear hok
    rintro e u3 ⟨rfl,d3⟩
    rw[<- hst]
    have HX3:Hid (Below wo.heap.size wo u3/\u3.heap[wo.heap.size]?=some (.cells #[.int .i64 fr,.int .i64 tt,.bool false] 73 (0,0))):=⟨HX.out.1.trans (d3.mono HX.out.1.size),(d3.block _ hwq).trans HX.out.2⟩
    clear d3 hst a0 a1 a2 a3 a4 k0 k1 k2 k3 k4 k5 k6 l0c l1c
    by_cases hse:st=(r:Int)
    ·have HSD:Hid (Pl.Sd f.code (r:Int) i):=.inr (HSE.out.1 hse.symm)
     have s0:u3.cell? ⟨wo.heap.size,0,none⟩=some (.int .i64 fr):=by rw[cell_of_row u3 _ 0 _ _ (0,0) HX3.out.2];rfl
     have s1:u3.cell? ⟨wo.heap.size,1,none⟩=some (.int .i64 tt):=by rw[cell_of_row u3 _ 1 _ _ (0,0) HX3.out.2];rfl
     have s2:u3.cell? ⟨wo.heap.size,2,none⟩=some (.bool false):=by rw[cell_of_row u3 _ 2 _ _ (0,0) HX3.out.2];rfl
     have fz:∀ q,u3.frozen? ⟨wo.heap.size,q,none⟩=false:=fun q=>frozen_of_row u3 _ q _ _ HX3.out.2
     by_cases ht0:tt<0
     ·go_wp2_with fail
      exact⟨⟨i+1,(i:Int),(i:Int),by omega,by go_num,(HX3.out.1.setCell (Nat.le_refl _) _).setCell (Nat.le_refl _) _,bx1 (bx0 HX3.out.2),HB.out.2.2.first HSD.out (by omega)⟩,by simp[intOf];omega⟩
     ·go_wp2_with fail
      exact⟨⟨i+1,fr,(i:Int),by omega,by go_num,HX3.out.1.setCell (Nat.le_refl _) _,bx1 HX3.out.2,HB.out.2.2.more HSD.out (by omega)⟩,by simp[intOf];omega⟩
    ·have HSD:Hid (¬ Pl.Sd f.code (r:Int) i):=fun c=>c.elim HNL.out (fun c=>hse (HSE.out.2 c).symm)
     go_wp2_with fail
     exact⟨⟨i+1,fr,tt,by omega,by go_num,HX3.out.1,HX3.out.2,HB.out.2.2.no HSD.out⟩,by simp[intOf];omega⟩
end Go.Proofs.YtcgfgmlfbgbkfaaGreatDoor.W
namespace Go.Proofs.YtcgfgmlfbgbkfaaGreatDoor.Pl
def regsOk (regs:Int) (us:List Int):Prop:=∀ i,i<us.length->0<=us.getD i 0/\us.getD i 0<=regs-1
end Go.Proofs.YtcgfgmlfbgbkfaaGreatDoor.Pl
namespace Go.Proofs.YtcgfgmlfbgbkfaaGreatDoor.W
open Go.RowKit
theorem isWithin_ir (n a b:Int) (w:World):Calls Tryz.prog 55 #[.int .i64 n,.int .i64 a,.int .i64 b] w fun e w'=>e=.returned (.bool (decide (a<=n/\n<=b)))/\w'=w:=by
 obtain⟨R,hR⟩:∃ R,R=decide (a<=n/\n<=b):=⟨_,rfl⟩
 rw[<- hR]
 have HR:Hid (R=decide (a<=n/\n<=b)):=hR
 clear hR
 go_enter Tryz.func55,Tryz.ntmps55
 go_wp2
 all_goals (go_ret;refine⟨ret_bool ?_,rfl⟩; rw[HR.out,Bool.eq_iff_iff]; (try simp only[Bool.or_eq_true,Bool.and_eq_true,beq_iff_eq,decide_eq_true_eq,Bool.false_eq_true,true_iff,false_iff,iff_true,iff_false] at *);first | done | omega | (simp;omega) | simp_all)
theorem own_int {B:Nat} {u:World} {g n cap:Nat} {l:List Int} (h:u.ownsRow B 3 1 (.slice (some ⟨g,0,none⟩) n cap) n (l.map (Value.int .i64))) {p:Nat} (hp:p<n):u.cell? ⟨g,p,none⟩=some (.int .i64 (l.getD p 0)):=by
 have hl:l.length=n:=by have:=h.1;simpa using this
 rw[h.cellAt p (by omega),List.getElem?_map,List.getD_eq_getElem?_getD,List.getElem?_eq_getElem (by omega)]
 rfl
theorem own_news {B:Nat} {u:World} {g n cap:Nat} {l:List Int} (h:u.ownsRow B 3 1 (.slice (some ⟨g,0,none⟩) n cap) n (l.map (Value.int .i64))):∀ j z,(l.map (Value.int .i64))[j]?=some z->u.cell? ((⟨g,0,none⟩:Addr).add j)=some z:=fun j z hj=>by
 have hl:l.length=n:=by have:=h.1;simpa using this
 have hjl:j<n:=by have:=(List.getElem?_eq_some_iff.1 hj).1;rw[List.length_map]at this;omega
 have e1:(⟨g,0,none⟩:Addr).add j=⟨g,j,none⟩:=by simp only[Addr.add];split <;> simp_all
 rw[e1,own_int h hjl,<- hj,List.getElem?_map,List.getElem?_eq_getElem (by omega),List.getD_eq_getElem?_getD,List.getElem?_eq_getElem (by omega)]
 rfl
theorem own_keepI {base:Nat} {e:TypeId} {k:Nat} {v:Value} {n:Nat} {xs:List Value} {w w':World} (h:w.ownsRow base e k v n xs) (hb:Below w.heap.size w w'):w'.ownsRow base e k v n xs:=by
 refine⟨h.1,?_⟩
 rcases h.2 with q | ⟨g,cap,cur,h0,hlo,hg,r⟩
 ·exact .inl q
 ·exact .inr ⟨g,cap,cur,h0,hlo,(hb.block g (Array.getElem?_eq_some_iff.1 hg).1).trans hg,r⟩
theorem own_shape {base:Nat} {e:TypeId} {k:Nat} {v:Value} {n:Nat} {xs:List Value} {w:World} (h:w.ownsRow base e k v n xs):∃ (a:Option Addr) (c:Nat),v=.slice a n c:=by
 rcases h.2 with ⟨q,q2⟩ | ⟨g,cap,cur,h0,_⟩
 ·exact⟨none,0,by rw[q,q2]⟩
 ·exact⟨_,_,h0⟩
set_option maxRecDepth 100000 in
theorem hasRegs_is (gr:Nat) (regs:Int) (hrg:0<=regs/\regs<=2000) (v:Value) (us ss:List Int) (hul:us.length<=1048577) (hsl:ss.length<=1) (w:World) (h2:w.cell? ⟨gr,2,none⟩=some (.int .i64 regs))
  (hU:Says v "loop.example/s01681/impl.uses" [] w fun u e u'=>Ints u.heap.size us e u'/\Below u.heap.size u u') (hS:Says v "loop.example/s01681/impl.sets" [] w fun u e u'=>Ints u.heap.size ss e u'/\Below u.heap.size u u') :
  Calls Tryz.prog 60 #[.pointer (some ⟨gr,0,none⟩),v] w fun e w'=>IsB (Pl.regsOk regs (us ++ ss)) e/\Below w.heap.size w w':=by
 obtain⟨i0,hi,hz0,hz1,hz2⟩:=info_parts Tryz.infoi64
 obtain⟨zs,hzs⟩:∃ zs,zs=us ++ ss:=⟨_,rfl⟩
 have HZS:Hid (zs=us ++ ss):=hzs
 have hzl:zs.length=us.length+ss.length:=by rw[hzs,List.length_append]
 rw[<- hzs]
 clear hzs
 obtain⟨T,c,FU,rU,rfl,hmU,hfU,hcU⟩:=hU
 obtain⟨T',c',FSq,rS,hv',hmS,hfS,hcS⟩:=hS
 cases hv'
 have HCU:Hid (∀ u:World,Below w.heap.size w u->Calls Tryz.prog FU #[rU] u fun e u'=>Ints u.heap.size us e u'/\Below u.heap.size u u'):=fun u hu=>hcU u hu
 have HCS:Hid (∀ u:World,Below w.heap.size w u->Calls Tryz.prog FSq #[rS] u fun e u'=>Ints u.heap.size ss e u'/\Below u.heap.size u u'):=fun u hu=>hcS u hu
 have HI:Hid (Tryz.prog.info? 3=some i0/\i0.zero=some (.int .i64 0)/\i0.size=1/\i0.bytes=8):=⟨hi,hz0,hz1,hz2⟩
 have H2:Hid (w.cell? ⟨gr,2,none⟩=some (.int .i64 regs)):=h2
 have HWI:Hid (∀ (n a b:Int) (u:World),Calls Tryz.prog 55 #[.int .i64 n,.int .i64 a,.int .i64 b] u fun e w'=>e=.returned (.bool (decide (a<=n/\n<=b)))/\w'=u):=fun n a b u=>isWithin_ir n a b u
 have HP:Hid (∀ (g n c:Nat) (zs:List Int) (u:World),Below w.heap.size w u->u.ownsRow w.heap.size 3 1 (.slice (some ⟨g,0,none⟩) n c) n (zs.map (Value.int .i64))->∀ i,i<n->u.cell? ⟨g,i,none⟩=some (.int .i64 (zs.getD i 0))/\u.cell? ⟨gr,2,none⟩=some (.int .i64 regs)):=fun g n c zs u hu ho i hi=>⟨own_int ho hi,(hu.cell (p:=⟨gr,2,none⟩) (block_lt_of_cell H2.out)).trans H2.out⟩
 clear hcU hcS hi hz0 hz1 hz2 h2
 go_enter Tryz.func60,Tryz.ntmps60
 go_wp2_with fail
 refine (HCU.out _ (Below.refl _ _)).mono ?_
 rintro e u1 ⟨⟨a1,c1,rfl,o1⟩,d1⟩
 have D1:Hid (Below w.heap.size w u1):=d1
 have O1:Hid (u1.ownsRow w.heap.size 3 1 (.slice a1 us.length c1) us.length (us.map (Value.int .i64))):=o1
 clear d1 o1
 go_wp2_with fail
 refine (HCS.out _ D1.out).mono ?_
 rintro e u2 ⟨⟨a2,c2,rfl,o2⟩,d2⟩
 have O2:Hid (u2.ownsRow u1.heap.size 3 1 (.slice a2 ss.length c2) ss.length (ss.map (Value.int .i64))):=o2
 have O3:Hid (u2.ownsRow w.heap.size 3 1 (.slice a1 us.length c1) us.length (us.map (Value.int .i64))):=own_keepI O1.out d2
 have DB:Hid (Below w.heap.size w u2):=D1.out.trans (d2.mono D1.out.size)
 clear d2 o2 O1 D1 hmU hfU hmS hfS HCU HCS
 have hul2:((us.length:Nat):Int)<=9223372036854775807:=by omega
 cases a2 with
 | none=>
  have h0:ss.length=0/\c2=0:=by
   rcases O2.out.2 with ⟨q,q2⟩ | ⟨g,cp,cur,q,_⟩
   ·simp only[Value.slice.injEq,true_and]at q;exact q
   ·simp at q
  obtain⟨h0,rfl⟩:=h0
  have hs0:ss=[]:=List.length_eq_zero_iff.1 h0
  subst hs0
  have O4:Hid (u2.ownsRow w.heap.size 3 1 (.slice a1 us.length c1) us.length (zs.map (Value.int .i64))):=by rw[HZS.out,List.append_nil];exact O3.out
  have hzl2:zs.length=us.length:=by simpa using hzl
  clear hzl O2
  go_wp2_with (at_builtin;refine wpList_append_noneA rfl (.tmp 8) (.tmp 10) 22 rfl w.heap.size 3 i0 1 0 Tryz.underlying22 HI.out.1 _ us.length _ rfl O3.out rfl ?_)
  go_loopw [13] (fun t wr=>∃ k:Nat,k<=us.length/\t=.int .i64 (k:Int)/\wr=u2/\Hid (∀ i,i<k->0<=zs.getD i 0/\zs.getD i 0<=regs-1)) (fun t _=>us.length-(intOf t).toNat)
  case atStart=>exact⟨0,Nat.zero_le _,rfl,rfl,fun i hi=>absurd hi (Nat.not_lt_zero _)⟩
  case round=>
   obtain⟨k,hk,rfl,rfl,S⟩:=hrel
   by_cases hlt:k<us.length
   ·have hki:(k:Int)<((us.length:Nat):Int):=by omega
    obtain⟨g,cg,hg,_,hgz⟩:=O4.out.form (by omega)
    simp only[Value.slice.injEq,true_and]at hg
    obtain⟨rfl,rfl⟩:=hg
    obtain⟨cz,cr⟩:=HP.out _ _ _ _ _ DB.out O4.out k hlt
    have hww:IntKind.i64.wrap (regs-1)=regs-1:=by rw[IntKind.wrap_i64];omega
    have HZ:Hid (zs.getD k 0=zs.getD k 0):=rfl
    obtain⟨z,hz⟩:∃ z,z=zs.getD k 0:=⟨_,rfl⟩
    rw[<- hz]at cz
    by_cases hin:0<=z/\z<=regs-1
    ·have hib:decide (0<=z/\z<=regs-1)=true:=decide_eq_true hin
     have HIN:Hid (0<=zs.getD k 0/\zs.getD k 0<=regs-1):=by rw[<- hz];exact hin
     clear hin hz
     go_wp2_with (go_at_call 55;refine (HWI.out _ _ _ _).mono ?_;rintro e z1 ⟨rfl,g1⟩; rw[g1,hib];clear g1 z1)
     go_roundw
     case rel=>exact⟨k+1,by omega,by go_num,by first | trivial | rfl,fun i hi=>by
      by_cases e:i=k
      ·rw[e];exact HIN.out
      ·exact S.out i (by omega)⟩
     case measure=>simp[intOf];omega
    ·have hib:decide (0<=z/\z<=regs-1)=false:=decide_eq_false hin
     have HN:Hid (¬ Pl.regsOk regs zs):=fun q=>hin (by rw[hz];exact q k (by omega))
     clear hin hz
     go_wp2_with (go_at_call 55;refine (HWI.out _ _ _ _).mono ?_;rintro e z1 ⟨rfl,g1⟩; rw[g1,hib];clear g1 z1)
     go_ret
     exact⟨isB_no HN.out,DB.out⟩
   ·have hki:¬ ((k:Int)<((us.length:Nat):Int)):=by omega
    have HY:Hid (Pl.regsOk regs zs):=fun i hi=>S.out i (by omega)
    go_wp2_with fail
    go_ret
    exact⟨isB_yes HY.out,DB.out⟩
 | some ad=>
  obtain⟨g2,hg2⟩:∃ g2,ad=⟨g2,0,none⟩:=by
   rcases O2.out.2 with ⟨q,q2⟩ | ⟨g,cp,cur,q,_⟩
   ·simp at q
   ·simp only[Value.slice.injEq,Option.some.injEq]at q;exact⟨g,q.1⟩
  subst hg2
  have hwz:w.heap.size<=u2.heap.size:=DB.out.size
  go_wp2_with (at_builtin;refine wpList_append_own _ rfl (.tmp 8) (.tmp 10) 22 rfl w.heap.size 3 i0 (.int .i64 0) 1 8 Tryz.underlying22 HI.out.1 HI.out.2.1 HI.out.2.2.1 HI.out.2.2.2 rfl (by decide) _ us.length (us.map (Value.int .i64)) rfl O3.out ⟨g2,0,none⟩ ss.length c2 (ss.map (Value.int .i64)) rfl (by rw[List.length_map,Nat.mul_one]) (own_news O2.out) (by intro u hu;obtain⟨n,_,rfl⟩:=List.mem_map.1 hu;rfl) (by unfold maxLen;omega) (by omega) hwz ?_)
  intro v' u3 hown' hgr _
  have O4:Hid (u3.ownsRow w.heap.size 3 1 v' (us.length+ss.length) (zs.map (Value.int .i64))):=by rw[HZS.out,List.map_append];exact hown'
  have HG:Hid (Below w.heap.size w u3):=DB.out.grown hgr hwz (fun k hk=>(O3.out.lt k hk).1)
  clear DB
  have DB:Hid (Below w.heap.size w u3):=HG.out
  clear hown' hgr O2 O3 HG
  obtain⟨a4,c4,hv4⟩:=own_shape O4.out
  subst hv4
  obtain⟨n,hn⟩:∃ n,n=us.length+ss.length:=⟨_,rfl⟩
  rw[<- hn]at O4 hzl ⊢
  have hn2:((n:Nat):Int)<=9223372036854775807:=by omega
  clear hn hul2
  go_wp2_with fail
  go_loopw [13] (fun t wr=>∃ k:Nat,k<=n/\t=.int .i64 (k:Int)/\wr=u3/\Hid (∀ i,i<k->0<=zs.getD i 0/\zs.getD i 0<=regs-1)) (fun t _=>n-(intOf t).toNat)
  case atStart=>exact⟨0,Nat.zero_le _,rfl,rfl,fun i hi=>absurd hi (Nat.not_lt_zero _)⟩
  case round=>
   obtain⟨k,hk,rfl,rfl,S⟩:=hrel
   by_cases hlt:k<n
   ·have hki:(k:Int)<((n:Nat):Int):=by omega
    obtain⟨g,cg,hg,_,hgz⟩:=O4.out.form (by omega)
    simp only[Value.slice.injEq,true_and]at hg
    obtain⟨rfl,rfl⟩:=hg
    obtain⟨cz,cr⟩:=HP.out _ _ _ _ _ DB.out O4.out k hlt
    have hww:IntKind.i64.wrap (regs-1)=regs-1:=by rw[IntKind.wrap_i64];omega
    have HZ:Hid (zs.getD k 0=zs.getD k 0):=rfl
    obtain⟨z,hz⟩:∃ z,z=zs.getD k 0:=⟨_,rfl⟩
    rw[<- hz]at cz
    by_cases hin:0<=z/\z<=regs-1
    ·have hib:decide (0<=z/\z<=regs-1)=true:=decide_eq_true hin
     have HIN:Hid (0<=zs.getD k 0/\zs.getD k 0<=regs-1):=by rw[<- hz];exact hin
     clear hin hz
     go_wp2_with (go_at_call 55;refine (HWI.out _ _ _ _).mono ?_;rintro e z1 ⟨rfl,g1⟩; rw[g1,hib];clear g1 z1)
     go_roundw
     case rel=>exact⟨k+1,by omega,by go_num,by first | trivial | rfl,fun i hi=>by
      by_cases e:i=k
      ·rw[e];exact HIN.out
      ·exact S.out i (by omega)⟩
     case measure=>simp[intOf];omega
    ·have hib:decide (0<=z/\z<=regs-1)=false:=decide_eq_false hin
     have HN:Hid (¬ Pl.regsOk regs zs):=fun q=>hin (by rw[hz];exact q k (by omega))
     clear hin hz
     go_wp2_with (go_at_call 55;refine (HWI.out _ _ _ _).mono ?_;rintro e z1 ⟨rfl,g1⟩; rw[g1,hib];clear g1 z1)
     go_ret
     exact⟨isB_no HN.out,DB.out⟩
   ·have hki:¬ ((k:Int)<((n:Nat):Int)):=by omega
    have HY:Hid (Pl.regsOk regs zs):=fun i hi=>S.out i (by omega)
    go_wp2_with fail
    go_ret
    exact⟨isB_yes HY.out,DB.out⟩
end Go.Proofs.YtcgfgmlfbgbkfaaGreatDoor.W
