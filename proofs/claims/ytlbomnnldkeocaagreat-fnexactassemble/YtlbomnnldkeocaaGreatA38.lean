import Derived.Test.YtlbomnnldkeocaaGreatA37
set_option linter.unusedVariables false
set_option linter.unusedSimpArgs false
set_option maxHeartbeats 16000000
namespace Go.Proofs.YtlbomnnldkeocaaGreat.Pl
def nxt (xs:List Ln) (p:Nat):Nat:=if p=0 then 0 else (lbs xs xs.length).getD (p-1) 0
def dd (xs:List Ln) (p i:Nat):Bool:=decide (i∈(lbs xs xs.length).take p) && (cu xs i).d
def aa (xs:List Ln) (p i:Nat):Int:=if i∈(lbs xs xs.length).take p then (cu xs i).at else 0
theorem mem_lbs (xs:List Ln) (n i:Nat):i∈lbs xs n↔i<n/\(gl xs i).k=1:=by
 unfold lbs
 simp
theorem lbs_at (xs:List Ln) (p:Nat) (hp:p<(lbs xs xs.length).length):(lbs xs xs.length).getD p 0<xs.length/\(gl xs ((lbs xs xs.length).getD p 0)).k=1:=by
 refine (mem_lbs xs xs.length _).1 ?_
 rw[List.getD_eq_getElem?_getD,List.getElem?_eq_getElem hp]
 exact List.getElem_mem _
theorem nxt_le (xs:List Ln) (p:Nat) (hp:p<(lbs xs xs.length).length):nxt xs p<=(lbs xs xs.length).getD p 0:=by
 unfold nxt
 split
 ·exact Nat.zero_le _
 ·have:=List.pairwise_iff_getElem.1 (lbs_sorted xs xs.length) (p-1) p (by omega) hp (by omega)
  rw[List.getD_eq_getElem?_getD,List.getD_eq_getElem?_getD,List.getElem?_eq_getElem hp,List.getElem?_eq_getElem (by omega:p-1<_)]
  simp only[Option.getD_some]
  omega
theorem nxt_succ (xs:List Ln) (p:Nat):nxt xs (p+1)=(lbs xs xs.length).getD p 0:=by simp[nxt]
theorem nxt_all (xs:List Ln) (p:Nat) (hp:p<=(lbs xs xs.length).length):nxt xs p<=xs.length:=by
 unfold nxt
 split
 ·exact Nat.zero_le _
 ·exact Nat.le_of_lt (lbs_at xs (p-1) (by omega)).1
theorem mem_next (xs:List Ln) (p j:Nat) (hp:p<(lbs xs xs.length).length):j∈(lbs xs xs.length).take (p+1)↔j=(lbs xs xs.length).getD p 0\/j∈(lbs xs xs.length).take p:=by
 rw[List.take_succ_eq_append_getElem hp,List.mem_append,List.mem_singleton,List.getD_eq_getElem?_getD,List.getElem?_eq_getElem hp]
 simp only[Option.getD_some]
 exact Or.comm
theorem dd_next (xs:List Ln) (p j:Nat) (hp:p<(lbs xs xs.length).length):dd xs (p+1) j=if j=(lbs xs xs.length).getD p 0 then (cu xs ((lbs xs xs.length).getD p 0)).d else dd xs p j:=by
 unfold dd
 by_cases h:j=(lbs xs xs.length).getD p 0
 ·rw[if_pos h,decide_eq_true ((mem_next xs p j hp).2 (.inl h)),<- h];rfl
 ·rw[if_neg h]
  by_cases q:j∈(lbs xs xs.length).take p
  ·rw[decide_eq_true q,decide_eq_true ((mem_next xs p j hp).2 (.inr q))]
  ·rw[decide_eq_false q,decide_eq_false (fun c=>((mem_next xs p j hp).1 c).elim h q)]
theorem aa_next (xs:List Ln) (p j:Nat) (hp:p<(lbs xs xs.length).length):aa xs (p+1) j=if j=(lbs xs xs.length).getD p 0 then (cu xs ((lbs xs xs.length).getD p 0)).at else aa xs p j:=by
 unfold aa
 by_cases h:j=(lbs xs xs.length).getD p 0
 ·rw[if_pos h,if_pos ((mem_next xs p j hp).2 (.inl h)),<- h]
 ·rw[if_neg h]
  by_cases q:j∈(lbs xs xs.length).take p
  ·rw[if_pos q,if_pos ((mem_next xs p j hp).2 (.inr q))]
  ·rw[if_neg q,if_neg (fun c=>((mem_next xs p j hp).1 c).elim h q)]
theorem dd_all (xs:List Ln) (i:Nat) (hi:i<xs.length) (hk:(gl xs i).k=1):dd xs (lbs xs xs.length).length i=(cu xs i).d:=by
 unfold dd
 rw[List.take_length,decide_eq_true ((mem_lbs xs xs.length i).2 ⟨hi,hk⟩)]
 rfl
theorem aa_all (xs:List Ln) (i:Nat) (hi:i<xs.length) (hk:(gl xs i).k=1):aa xs (lbs xs xs.length).length i=(cu xs i).at:=by
 unfold aa
 rw[List.take_length,if_pos ((mem_lbs xs xs.length i).2 ⟨hi,hk⟩)]
end Go.Proofs.YtlbomnnldkeocaaGreat.Pl
namespace Go.Proofs.YtlbomnnldkeocaaGreat.W
open Go.RowKit Go.Shelf Go.Maps Go.WideMaps Go.Sort
theorem OnlyC.put (l:Nat) (A:World) (o:Obj):OnlyC l A (A.putObj l o):=⟨rfl,rfl,rfl,by simp[World.putObj],fun k _ hn=>World.putObj_heap_other hn⟩
theorem CurAt.block {w w':World} {g:Nat} {c:Pl.Cur} (h:CurAt w g c) (hb:w'.heap[g]?=w.heap[g]?) (hl:g<w'.heap.size):CurAt w' g c:=
 ⟨(World.cell?_of_block (a:=⟨g,0,none⟩) hb).trans h.d,(World.cell?_of_block (a:=⟨g,1,none⟩) hb).trans h.t,(World.cell?_of_block (a:=⟨g,2,none⟩) hb).trans h.b,fun j=>(World.frozen?_of_block (a:=⟨g,j,none⟩) hb).trans (h.fz j),hl,by obtain⟨cur,hr⟩:=h.row;exact⟨cur,hb.trans hr⟩⟩
variable {lo:Nat} {xs:List Pl.Ln} {w u u' A A':World} {ga gm:Nat} {a:Option Addr} {len cap:Nat} {stack:Int} {ec:Pl.Cur} {B k U0 p:Nat} {mb:Nat->Nat} {d:Nat->Bool} {ad:Nat->Int}
theorem Lbm.block (h:Lbm xs B u gm k mb d ad) (D:Nat) (hb:∀ b,b<D->u'.heap[b]?=u.heap[b]?) (hg:gm<D) (hm:∀ i,i<k->(Pl.gl xs i).k=1->mb i<D):Lbm xs B u' gm k mb d ad:=by
 obtain⟨D0,h1,⟨es,cl,q1,q2⟩,h3,h5⟩:=h.map
 exact⟨⟨D0,h1,⟨es,cl,(hb _ hg).trans q1,q2⟩,h3,h5⟩,fun i hi hk=>⟨(h.mks i hi hk).1,(hb _ (hm i hi hk)).trans (h.mks i hi hk).2⟩⟩
theorem Lbm.congr (h:Lbm xs B u gm k mb d ad) {d':Nat->Bool} {ad':Nat->Int} (hd:∀ i,i<k->(Pl.gl xs i).k=1->d' i=d i/\ad' i=ad i):Lbm xs B u gm k mb d' ad':=
 ⟨h.map,fun i hi hk=>by rw[(hd i hi hk).1,(hd i hi hk).2];exact h.mks i hi hk⟩
theorem Lbm.ne_map (h:Lbm xs B u gm k mb d ad) (i:Nat) (hi:i<k) (hk:(Pl.gl xs i).k=1):gm≠mb i:=fun e=>by
 obtain⟨D0,h1,⟨es,cl,q1,q2⟩,h3,h5⟩:=h.map
 have:=(h.mks i hi hk).2
 rw[<- e,q1]at this
 cases this
theorem Lbm.inj (h:Lbm xs B u gm k mb d ad) (i j:Nat) (hi:i<k) (hk:(Pl.gl xs i).k=1) (hj:j<k) (hkj:(Pl.gl xs j).k=1) (e:mb i=mb j):i=j:=by
 have h1:=(h.mks i hi hk).2
 rw[e,(h.mks j hj hkj).2]at h1
 simp at h1
 omega
theorem Lbm.setm (h:Lbm xs B u gm k mb d ad) (i:Nat) (hi:i<k) (hk:(Pl.gl xs i).k=1) (x:Bool) (y:Int) :
  Lbm xs B ((u.setCell ⟨mb i,1,none⟩ (.bool x)).setCell ⟨mb i,2,none⟩ (.int .i64 y)) gm k mb (fun j=>if j=i then x else d j) (fun j=>if j=i then y else ad j):=by
 have ho:OnlyC (mb i) u ((u.setCell ⟨mb i,1,none⟩ (.bool x)).setCell ⟨mb i,2,none⟩ (.int .i64 y)):=(OnlyC.set _ _ _ _).trans (OnlyC.set _ _ _ _)
 obtain⟨D0,h1,h2,h3,h5⟩:=h.map
 refine⟨⟨D0,h1,h2.kept ho.grown (fun c=>h.ne_map i hi hk (by injection c)),h3,h5⟩,fun j hj hkj=>⟨(h.mks j hj hkj).1,?_⟩⟩
 by_cases e:j=i
 ·subst e
  rw[if_pos rfl,if_pos rfl]
  have r1:=heap_setCell_same u (mb j) 1 _ _ (.bool x) (h.mks j hj hkj).2
  exact heap_setCell_same _ (mb j) 2 _ _ (.int .i64 y) r1
 ·rw[if_neg e,if_neg e]
  have r:=(h.mks j hj hkj).2
  exact (ho.block _ (Array.getElem?_eq_some_iff.1 r).1 (fun c=>e (h.inj j i hj hkj hi hk c))).trans r
structure LyS (xs:List Pl.Ln) (w:World) (ga gm len B U0:Nat) (mb:Nat->Nat):Prop where
 b:B<=U0
 ga:ga<U0
 gm:gm<U0
 mb:∀ i,i<len->(Pl.gl xs i).k=1->mb i<U0
 w:w.heap.size<=U0
structure LyI (lo:Nat) (xs:List Pl.Ln) (w:World) (ga gm:Nat) (a:Option Addr) (len cap:Nat) (stack:Int) (ec:Pl.Cur) (B:Nat) (mb:Nat->Nat) (u:World) (U0 p:Nat) (A:World):Prop where
 s:LyS xs w ga gm len B U0 mb
 bx:A.heap[U0]?=some (.cells #[.pointer (some ⟨ga,0,none⟩)] 112 (0,0))
 nx:A.heap[U0+2]?=some (.cells #[.int .i64 (Pl.nxt xs p:Nat)] 3 (0,0))
 cu:CurAt A (U0+1) (Pl.cu xs (Pl.nxt xs p))
 am:Aml lo xs w A ga gm a len cap stack ec B mb (Pl.dd xs p) (Pl.aa xs p)
 fr:∀ b,b<B->A.heap[b]?=u.heap[b]?
theorem LyI.sz (h:LyI lo xs w ga gm a len cap stack ec B mb u U0 p A):U0+3<=A.heap.size:=by
 have:=(Array.getElem?_eq_some_iff.1 h.nx).1;omega
theorem LyI.keep (h:LyI lo xs w ga gm a len cap stack ec B mb u U0 p A) (hb:Below A.heap.size A A'):LyI lo xs w ga gm a len cap stack ec B mb u U0 p A':=by
 have hz:=h.sz
 have h7:=h.s.b
 exact⟨h.s,(hb.block _ (by omega)).trans h.bx,(hb.block _ (by omega)).trans h.nx,h.cu.keep hb,h.am.keep hb,fun b hB=>(hb.block _ (by omega)).trans (h.fr b hB)⟩
theorem LyI.only (h:LyI lo xs w ga gm a len cap stack ec B mb u U0 p A) {g:Nat} (hb:OnlyC g A A') (hg:U0+3<=g):LyI lo xs w ga gm a len cap stack ec B mb u U0 p A':=by
 have hz:=h.sz
 have h1:=h.s.ga
 have h2:=h.s.gm
 have h4:=h.s.w
 have h7:=h.s.b
 refine⟨h.s,(hb.block _ (by omega) (by omega)).trans h.bx,(hb.block _ (by omega) (by omega)).trans h.nx,h.cu.block (hb.block _ (by omega) (by omega)) (by have:=hb.size;omega),⟨h.am.am.only hb (by omega) (by omega),h.am.lm.only hb (by omega) (fun i hi hk=>by have:=h.s.mb i hi hk;omega),h.am.hB,h.am.ga_lt,h.am.n⟩,fun b hB=>(hb.block _ (by omega) (by omega)).trans (h.fr b hB)⟩
theorem LyI.step (h:LyI lo xs w ga gm a len cap stack ec B mb u U0 p A) (hp:p<(Pl.lbs xs xs.length).length) (hb:OnlyC (U0+1) A A') (i:Nat) (hi:i=(Pl.lbs xs xs.length).getD p 0) (hc:CurAt A' (U0+1) (Pl.cu xs i)) :
  LyI lo xs w ga gm a len cap stack ec B mb u U0 (p+1) (((A'.setCell ⟨mb i,1,none⟩ (.bool (Pl.cu xs i).d)).setCell ⟨mb i,2,none⟩ (.int .i64 (Pl.cu xs i).at)).setCell ⟨U0+2,0,none⟩ (.int .i64 (i:Nat)))
  /\∀ b,U0+3<=b->b<A.heap.size->(((A'.setCell ⟨mb i,1,none⟩ (.bool (Pl.cu xs i).d)).setCell ⟨mb i,2,none⟩ (.int .i64 (Pl.cu xs i).at)).setCell ⟨U0+2,0,none⟩ (.int .i64 (i:Nat))).heap[b]?=A.heap[b]?:=by
 have hz:=h.sz
 have h1:=h.s.ga
 have h2:=h.s.gm
 have h4:=h.s.w
 have h7:=h.s.b
 have hla:=Pl.lbs_at xs p hp
 rw[<- hi]at hla
 rw[h.am.lenq]at hla
 have h3:=h.s.mb i hla.1 hla.2
 have hBm:=(h.am.lm.mks i hla.1 hla.2).1
 have hgB:=h.am.ga_lt
 have hwB:=h.am.hB
 have h5:=hb.size
 have ho:OnlyC (mb i) A' ((A'.setCell ⟨mb i,1,none⟩ (.bool (Pl.cu xs i).d)).setCell ⟨mb i,2,none⟩ (.int .i64 (Pl.cu xs i).at)):=(OnlyC.set _ _ _ _).trans (OnlyC.set _ _ _ _)
 have am1:Amb lo xs w A' ga gm a len cap stack ec:=h.am.am.only hb (by omega) (by omega)
 have lm1:Lbm xs B A' gm len mb (Pl.dd xs p) (Pl.aa xs p):=h.am.lm.only hb (by omega) (fun i hi hk=>by have:=h.s.mb i hi hk;omega)
 have lm2:=(lm1.setm i hla.1 hla.2 (Pl.cu xs i).d (Pl.cu xs i).at).congr (d':=Pl.dd xs (p+1)) (ad':=Pl.aa xs (p+1)) (fun j hj hkj=>by rw[Pl.dd_next xs p j hp,Pl.aa_next xs p j hp,<- hi];exact⟨rfl,rfl⟩)
 have am2:Amb lo xs w _ ga gm a len cap stack ec:=am1.only ho (by omega) (by omega)
 have hs2:A'.heap.size<=_:=ho.size
 obtain⟨A2,hA2⟩:∃ A2,A2=(A'.setCell ⟨mb i,1,none⟩ (.bool (Pl.cu xs i).d)).setCell ⟨mb i,2,none⟩ (.int .i64 (Pl.cu xs i).at):=⟨_,rfl⟩
 rw[<- hA2]at ho lm2 am2 hs2 ⊢
 have on:OnlyC (U0+2) A2 (A2.setCell ⟨U0+2,0,none⟩ (.int .i64 (i:Nat))):=OnlyC.set _ _ _ _
 have hs3:=on.size
 have bk:∀ b,b<A.heap.size->b≠U0+1->b≠mb i->b≠U0+2->(A2.setCell ⟨U0+2,0,none⟩ (.int .i64 (i:Nat))).heap[b]?=A.heap[b]?:=fun b q1 q2 q3 q4=>(on.block b (by omega) q4).trans ((ho.block b (by omega) q3).trans (hb.block b q1 q2))
 refine⟨⟨h.s,(bk _ (by omega) (by omega) (by omega) (by omega)).trans h.bx,?_,?_,⟨am2.only on (by omega) (by omega),lm2.only on (by omega) (fun j hj hkj=>by have:=h.s.mb j hj hkj;omega),h.am.hB,h.am.ga_lt,h.am.n⟩,fun b hB=>(bk b (by omega) (by omega) (by omega) (by omega)).trans (h.fr b hB)⟩,fun b q1 q2=>bk b q2 (by omega) (by omega) (by omega)⟩
 ·have r1:A2.heap[U0+2]?=some (.cells #[.int .i64 (Pl.nxt xs p:Nat)] 3 (0,0)):=(ho.block _ (by omega) (by omega)).trans ((hb.block _ (by omega) (by omega)).trans h.nx)
  rw[Pl.nxt_succ,<- hi]
  exact heap_setCell_same A2 (U0+2) 0 _ _ (.int .i64 (i:Nat)) r1
 ·rw[Pl.nxt_succ,<- hi]
  exact (hc.block (ho.block _ (by omega) (by omega)) (by omega)).block (on.block _ (by omega) (by omega)) (by omega)
theorem Aml.lbw (h:Aml lo xs w u ga gm a len cap stack ec B mb d ad):LbW xs mb gm u:=by
 obtain⟨D,h1,h2,h3,h5⟩:=h.lm.map
 have hl:=h.lenq
 have hn:=h.n
 refine⟨⟨len,D,⟨fun s=>?_,fun s=>?_⟩,Nat.le_trans h2.size_le hn,h2⟩,fun i hi=>(h.mark hi).1⟩
 ·rw[h3 s,<- hl,Pl.fk_lb];rfl
 ·rw[h5 s,<- hl,Pl.fk_lb]
attribute [local go_sem] Oper.semAt_some
variable {lo:Nat} {xs:List Pl.Ln} {w u:World} {ga gm:Nat} {a:Option Addr} {len cap:Nat} {stack:Int} {ec:Pl.Cur} {B:Nat} {mb:Nat->Nat} {d:Nat->Bool} {ad:Nat->Int}
theorem pass_at (k:Nat) (hk:k<xs.length) (hLn:∀ i,i<xs.length->Pl.LnB (Pl.gl xs i)) (hn:xs.length<=20000) (g:Nat) (W:World) (h:CurAt W g (Pl.cu xs k)):Calls Tryz.prog 75 #[.pointer (some ⟨g,0,none⟩),.agg #[.int .i64 (Pl.gl xs k).k,.int .i64 (Pl.gl xs k).op,.int .i64 (Pl.gl xs k).rd,.int .i64 (Pl.gl xs k).r1,.int .i64 (Pl.gl xs k).r2,.int .i64 (Pl.gl xs k).im,.string (Pl.gl xs k).s,.int .i64 (Pl.gl xs k).n]] W fun e w'=>e=.returned (.tuple #[])/\CurAt w' g (Pl.cu xs (k+1))/\OnlyC g W w':=by
 rw[Pl.cu_succ xs k hk]
 have hb:=Pl.cu_bd xs hLn k (by omega)
 exact pass_is g _ _ W h (hLn k hk) ⟨by omega,by omega⟩ ⟨by omega,by omega⟩
theorem Amb.setEnd (h:Amb lo xs w u ga gm a len cap stack ec) (c:Pl.Cur):Amb lo xs w (((u.setCell ⟨ga,3,none⟩ (.bool c.d)).setCell ⟨ga,4,none⟩ (.int .i64 c.t)).setCell ⟨ga,5,none⟩ (.int .i64 c.b)) ga gm a len cap stack c:=by
 have r1:=heap_setCell_same u ga 3 _ _ (.bool c.d) h.row
 have r2:=heap_setCell_same _ ga 4 _ _ (.int .i64 c.t) r1
 have r3:=heap_setCell_same _ ga 5 _ _ (.int .i64 c.b) r2
 exact⟨r3,((h.low.setCell (p:=⟨ga,3,none⟩) h.hga _).setCell (p:=⟨ga,4,none⟩) h.hga _).setCell (p:=⟨ga,5,none⟩) h.hga _,h.ln,h.hga,h.hgm,h.ne⟩
theorem Aml.shb {u':World} {l:Nat} (h:Aml lo xs w u ga gm a len cap stack ec B mb d ad) (hs:ShB l u u') (h1:ga<l) (h2:gm<l) (h3:∀ i,i<len->(Pl.gl xs i).k=1->mb i<l) (h4:w.heap.size<=l):Aml lo xs w u' ga gm a len cap stack ec B mb d ad:=
 ⟨⟨(hs.block _ (.inl h1)).trans h.am.row,⟨hs.os.trans h.am.low.os,hs.tape.trans h.am.low.tape,hs.output.trans h.am.low.output,by rw[hs.size];exact h.am.low.size,fun b hb=>(hs.block b (.inl (by omega))).trans (h.am.low.block b hb)⟩,h.am.ln,h.am.hga,h.am.hgm,h.am.ne⟩,h.lm.block l (fun b hb=>hs.block b (.inl hb)) h2 h3,h.hB,h.ga_lt,h.n⟩
set_option maxRecDepth 100000 in
theorem layOut_is (h:Aml lo xs w u ga gm a len cap stack ec B mb (fun _=>false) (fun _=>0)) (hBu:B<=u.heap.size) (htw:∀ i,i<xs.length->Pl.twice xs i=false) (hLn:∀ i,i<xs.length->Pl.LnB (Pl.gl xs i)):Calls Tryz.prog 79 #[.pointer (some ⟨ga,0,none⟩)] u fun e u'=>e=.returned (.tuple #[])/\Aml lo xs w u' ga gm a len cap stack (Pl.cu xs len) B mb (fun i=>(Pl.cu xs i).d) (fun i=>(Pl.cu xs i).at)/\(∀ b,b<B->b≠ga->u'.heap[b]?=u.heap[b]?)/\u.heap.size<=u'.heap.size:=by
 obtain⟨V,hV⟩:∃ V,V=((u.alloc (.cells #[.pointer (some ⟨ga,0,none⟩)] 112)).alloc (.cells #[.bool false,.int .i64 0,.int .i64 0] 69)).alloc (.cells #[.int .i64 0] 3):=⟨_,rfl⟩
 have hzV:V.heap.size=u.heap.size+3:=by rw[hV];simp
 have hBV:Below u.heap.size u V:=by rw[hV];exact (below_alloc u _).trans (((below_alloc _ _).mono (by simp)).trans ((below_alloc _ _).mono (by simp;omega)))
 have amV:=h.keep hBV
 have hm2:V.cell? ⟨ga,2,none⟩=some (.map (some gm)):=amV.am.cell 2
 obtain⟨V2,hV2⟩:∃ V2,V2=(V.alloc (.cells #[.map (some gm)] 67)).alloc (.cells #[.func (.func 127) #[] #[]] 151):=⟨_,rfl⟩
 have hzV2:V2.heap.size=u.heap.size+5:=by rw[hV2];simp;omega
 have hBV2:Below V.heap.size V V2:=by rw[hV2];exact (below_alloc V _).trans ((below_alloc _ _).mono (by simp))
 have HZ2:Hid (V2.heap.size=u.heap.size+5):=hzV2
 have HLS:Hid (LyS xs w ga gm len B u.heap.size mb):=⟨hBu,h.am.lt,by obtain⟨D,_,h2,_⟩:=h.lm.map;exact h2.lt,fun i hi hk=>(Array.getElem?_eq_some_iff.1 (h.lm.mks i hi hk).2).1,h.am.low.size⟩
 have HI0:Hid (∀ A,Below V2.heap.size V2 A->LyI lo xs w ga gm a len cap stack ec B mb u u.heap.size 0 A):=fun A hA=>by
  have hBA:Below V.heap.size V A:=hBV2.trans (hA.mono (by omega))
  have hBu2:Below u.heap.size u A:=hBV.trans (hBA.mono (by omega))
  have r0:V.heap[u.heap.size]?=some (.cells #[.pointer (some ⟨ga,0,none⟩)] 112 (0,0)):=by
   rw[hV,Below.heap_alloc _ _ _ (by simp;omega),Below.heap_alloc _ _ _ (by simp)];exact heap_alloc_new u _
  have r1:V.heap[u.heap.size+1]?=some (.cells #[.bool false,.int .i64 0,.int .i64 0] 69 (0,0)):=by
   rw[hV,Below.heap_alloc _ _ _ (by simp)];exact new_at (by simp)
  have r2:V.heap[u.heap.size+2]?=some (.cells #[.int .i64 0] 3 (0,0)):=by
   rw[hV];exact new_at (by simp)
  have q1:=(hBA.block _ (by omega)).trans r1
  refine⟨HLS.out,(hBA.block _ (by omega)).trans r0,(hBA.block _ (by omega)).trans r2,⟨cell_of_row _ _ 0 _ 69 (0,0) q1,cell_of_row _ _ 1 _ 69 (0,0) q1,cell_of_row _ _ 2 _ 69 (0,0) q1,fun j=>frozen_of_row _ _ j _ 69 q1,(Array.getElem?_eq_some_iff.1 q1).1,⟨_,q1⟩⟩,?_,fun b hb=>hBu2.block b (by omega)⟩
  have k:=h.keep hBu2
  exact⟨k.am,k.lm.congr (fun i hi hk=>by simp[Pl.dd,Pl.aa]),k.hB,k.ga_lt,k.n⟩
 have HL2:Hid (LbW xs mb gm V2):=amV.lbw.keep hBV2
 have HM:Hid (V2.cell? ⟨u.heap.size+3,0,none⟩=some (.map (some gm))/\V2.cell? ⟨u.heap.size+4,0,none⟩=some (.func (.func 127) #[] #[])):=by
  refine⟨?_,?_⟩
  ·refine cell_of_row _ _ 0 #[.map (some gm)] 67 (0,0) ?_
   rw[hV2,Below.heap_alloc _ _ _ (by simp;omega)];exact new_at (by omega)
  ·refine cell_of_row _ _ 0 #[.func (.func 127) #[] #[]] 151 (0,0) ?_
   rw[hV2];exact new_at (by simp;omega)
 have HLN:Hid (xs.length=len/\len<=20000/\LRow lo w a len cap xs):=⟨h.lenq,h.n,h.am.ln⟩
 have HLn:Hid _:=hLn
 have HV2:Hid (∀ V',V'=V->(V'.alloc (.cells #[.map (some gm)] 67)).alloc (.cells #[.func (.func 127) #[] #[]] 151)=V2):=fun V' e=>by rw[e,hV2]
 have HVV:Hid (((u.alloc (.cells #[.pointer (some ⟨ga,0,none⟩)] 112)).alloc (.cells #[.bool false,.int .i64 0,.int .i64 0] 69)).alloc (.cells #[.int .i64 0] 3)=V):=hV.symm
 have HZV:Hid (V.heap.size=u.heap.size+3):=hzV
 have hm2':=hm2
 rw[hV]at hm2'
 clear hV h hV2 hzV hzV2 hBV hBV2 amV hm2 hLn
 refine (callsIn_wide (n:=4)).1 ?_
 refine callsIn_of_wp_marks Tryz.func79 rfl trivial ?_ rfl
 simp only[Tryz.ntmps79,List.size_toArray,List.length_cons,List.length_nil,Nat.reduceAdd,Nat.reduceSub,Array.replicate_succ,Array.replicate_zero,List.push_toArray,List.append_toArray,List.nil_append,List.cons_append]
 gi_wp2_with (refine⟨trivial,?_⟩; rw[HVV.out];refine (callsIn_wide.2 (inOrder_is gm V)).mono ?_;rintro e u1 ⟨rfl,rfl⟩; rw[HV2.out V rfl,HZV.out])
 clear hm2' HV2 HVV
 refine rangeO 4 (u.heap.size+3) (u.heap.size+4) gm (by decide) rfl rfl xs (by rw[HLN.out.1];exact HLN.out.2.1) mb htw HL2.out HM.out.1 HM.out.2 (fun p A=>LyI lo xs w ga gm a len cap stack ec B mb u u.heap.size p A) ?hIa ?h0 ?hIp (fun q A a' A'=>a' = { tmps:=#[.pointer (some ⟨ga,0,none⟩),.pointer (some ⟨u.heap.size,0,none⟩),.pointer (some ⟨u.heap.size+1,0,none⟩),.pointer (some ⟨u.heap.size+2,0,none⟩),.pointer (some ⟨mb q,0,none⟩),undef,undef,undef,undef,.agg #[.bool false,.int .i64 0,.int .i64 0],.pointer (some ⟨ga,0,none⟩),.pointer (some ⟨ga,0,none⟩),.pointer (some ⟨ga,2,none⟩),.map (some gm),.func (.func 129) #[] #[.pointer (some ⟨u.heap.size+3,0,none⟩),.pointer (some ⟨u.heap.size+4,0,none⟩)],.pointer (some ⟨mb q,0,none⟩),undef,undef,undef,undef,undef,undef,undef,undef,undef,undef,undef,undef,undef,undef,undef,undef,undef,undef,undef,undef,undef,undef,undef,undef,undef,undef,undef,undef,undef,undef,undef,undef,undef,undef,undef,undef,undef,undef,undef,undef,undef,undef,undef,undef,undef,undef,undef,undef,undef],defers:=[] }) ?hassign ?hbody ?hdone
 case hIa=>intro p A A' hI hb;exact hI.keep hb
 case h0=>intro A hA;exact HI0.out A hA
 case hIp=>intro p A l o o' hI h1 h2 h3 h4;exact hI.only (OnlyC.put l A o) (by have:=HZ2.out;omega)
 case hassign=>
  intro r q A K hK
  unfold mptr
  gi_wp2
  exact hK _ _ rfl rfl
 case hbody=>
  rintro rl p A a' o hp hr1 hr2 hI hz hbk rfl
  obtain⟨U,hU⟩:∃ U,U=A.putObj rl o:=⟨_,rfl⟩
  have hIU:LyI lo xs w ga gm a len cap stack ec B mb u u.heap.size p U:=by rw[hU];exact hI.only (OnlyC.put rl A o) (by have:=HZ2.out;omega)
  rw[<- hU]
  clear hU hI hbk hr1 hr2 hz HI0 HL2 HM
  have hla:=Pl.lbs_at xs p hp
  have hni:=Pl.nxt_le xs p hp
  obtain⟨i,hi⟩:∃ i,i=(Pl.lbs xs xs.length).getD p 0:=⟨_,rfl⟩
  rw[<- hi]at hla hni ⊢
  have hil:i<len:=by rw[<- HLN.out.1];exact hla.1
  have hl20:=HLN.out.2.1
  obtain⟨n,hn⟩:∃ n,n=Pl.nxt xs p:=⟨_,rfl⟩
  have m3:U.cell? ⟨u.heap.size+2,0,none⟩=some (.int .i64 (n:Nat)):=by rw[hn];exact cell_of_row _ _ 0 _ 3 (0,0) hIU.nx
  have HC0:Hid (CurAt U (u.heap.size+1) (Pl.cu xs (n+0))):=by rw[hn];exact hIU.cu
  rw[<- hn]at hni
  have m1:U.cell? ⟨u.heap.size,0,none⟩=some (.pointer (some ⟨ga,0,none⟩)):=cell_of_row _ _ 0 _ 112 (0,0) hIU.bx
  have m2:U.cell? ⟨ga,0,none⟩=some (.slice a len cap):=hIU.am.am.cell 0
  have hrw:=(hIU.am.lm.mks i hil hla.2).2
  have m4:U.cell? ⟨mb i,0,none⟩=some (.int .i64 (i:Nat)):=cell_of_row _ _ 0 _ 117 (0,0) hrw
  obtain⟨a2,y2,hs2,hrow2⟩:=HLN.out.2.2.part n i hni (by omega)
  obtain⟨k,hk⟩:∃ k,k=i-n:=⟨_,rfl⟩
  have hcap:len<=cap:=HLN.out.2.2.2.1
  have hsl:∀ v:World,(Instr.slice 23 (.slice a len cap) (some (.int .i64 (n:Nat))) (some (.int .i64 (i:Nat))) none).run Tryz.prog v=.ok (.slice a2 k y2) v:=fun v=>by rw[slice_lh a len cap n i hni (by omega) v,hs2,hk]
  rw[<- hk]at hrow2
  have HR2:Hid (LRow lo w a2 k y2 ((xs.drop n).take k)):=hrow2
  have HGL:Hid (∀ j,j<k->Pl.gl ((xs.drop n).take k) j=Pl.gl xs (n+j)):=fun j hj=>by rw[hk]at hj ⊢; exact gl_part xs n i j hj
  have HIU:Hid (LyI lo xs w ga gm a len cap stack ec B mb u u.heap.size p U):=hIU
  have HIQ:Hid (i=(Pl.lbs xs xs.length).getD p 0/\n=Pl.nxt xs p/\k=i-n/\n<=i/\p<(Pl.lbs xs xs.length).length/\(Pl.gl xs i).k=1/\i<xs.length):=⟨hi,hn,hk,hni,hp,hla.2,hla.1⟩
  have hk20:k<=20000:=by omega
  have hi20:i<=20000:=by omega
  have hn20:n<=20000:=by omega
  clear hIU hrw hs2 hrow2 hi hn hk hp hla hni hcap htw hil hl20 hBu
  gi_wp2
  refine lyo5 ga u.heap.size (u.heap.size+2) (mb i) n i k y2 len cap rl _ a a2 U m1 m2 m3 m4 hsl (by decide) ?_
  have HD0:Hid (OnlyC (u.heap.size+1) U U.drew/\CurAt U.drew (u.heap.size+1) (Pl.cu xs (n+0))):=⟨OnlyC.of (Below.drew (Below.refl _ _)),HC0.out.keep (Below.drew (Below.refl _ _))⟩
  clear m1 m2 m3 m4 hsl HC0
  gi_wp2
  gi_loopw [27] (fun v wr=>∃ j:Nat,j<=k/\v=.int .i64 (j:Nat)/\Hid (OnlyC (u.heap.size+1) U wr/\CurAt wr (u.heap.size+1) (Pl.cu xs (n+j)))) (fun v _=>k-(intOf v).toNat)
  case atStart=>exact⟨0,Nat.zero_le _,rfl,HD0.out⟩
  case round=>
   obtain⟨j,hj,rfl,HW⟩:=hrel
   by_cases hlt:j<k
   ·have hii:(j:Int)<(k:Int):=by omega
    have hbw:Below w.heap.size w wr:=HIU.out.am.am.low.trans (HW.out.1.low (by have:=HLS.out.w;omega) HIU.out.am.am.low.size)
    obtain⟨b,off,ha2,hlo,hb1,hsz,c0,c1,c2,c3,c4,c5,c6,c7⟩:=(HR2.out.keep hbw).at j hlt
    rw[HGL.out j hlt]at hsz c0 c1 c2 c3 c4 c5 c6 c7
    subst ha2
    have HPS:Hid (∀ W,CurAt W (u.heap.size+1) (Pl.cu xs (n+j))->Calls Tryz.prog 75 #[.pointer (some ⟨u.heap.size+1,0,none⟩),.agg #[.int .i64 (Pl.gl xs (n+j)).k,.int .i64 (Pl.gl xs (n+j)).op,.int .i64 (Pl.gl xs (n+j)).rd,.int .i64 (Pl.gl xs (n+j)).r1,.int .i64 (Pl.gl xs (n+j)).r2,.int .i64 (Pl.gl xs (n+j)).im,.string (Pl.gl xs (n+j)).s,.int .i64 (Pl.gl xs (n+j)).n]] W fun e w'=>e=.returned (.tuple #[])/\CurAt w' (u.heap.size+1) (Pl.cu xs (n+j+1))/\OnlyC (u.heap.size+1) W w'):=fun W hW=>pass_at (n+j) (by have:=HIQ.out;omega) HLn.out (by rw[HLN.out.1];exact HLN.out.2.1) _ W hW
    clear hbw
    generalize Pl.gl xs (n+j)=x at *
    gi_wp2_with (refine⟨trivial,?_⟩; refine (CallsIn.inRound rl (callsIn_wide.2 (HPS.out _ (HW.out.2.keep (below_alloc _ _))))).mono ?_;rintro e u1 ⟨rfl,hc,ho⟩; have HN:Hid (OnlyC (u.heap.size+1) U u1/\CurAt u1 (u.heap.size+1) (Pl.cu xs (n+(j+1)))):=⟨HW.out.1.trans ((OnlyC.of (below_alloc _ _)).trans ho),hc⟩; clear hc ho)
    go_roundw
    case rel=>exact⟨j+1,by omega,by go_num,HN.out⟩
    case measure=>simp[intOf];omega
   ·have hii:¬ ((j:Int)<(k:Int)):=by omega
    have hjk:n+j=i:=by have:=HIQ.out;omega
    have HW2:Hid (OnlyC (u.heap.size+1) U wr/\CurAt wr (u.heap.size+1) (Pl.cu xs i)):=by rw[<- hjk];exact HW.out
    clear HW hjk
    have hcd:=HW2.out.2.d
    have hmu:=HLS.out.mb i (by have:=HIQ.out;have:=HLN.out.1;omega) HIQ.out.2.2.2.2.2.1
    have hne:mb i≠u.heap.size+1:=by omega
    have hrow:wr.heap[mb i]?=some (.cells #[.int .i64 (i:Nat),.bool (Pl.dd xs p i),.int .i64 (Pl.aa xs p i)] 117 (0,0)):=by
     have hr:=(HIU.out.am.lm.mks i (by have:=HIQ.out;have:=HLN.out.1;omega) HIQ.out.2.2.2.2.2.1).2
     exact (HW2.out.1.block _ (Array.getElem?_eq_some_iff.1 hr).1 hne).trans hr
    have e0:wr.cell? ⟨mb i,0,none⟩=some (.int .i64 (i:Nat)):=cell_of_row _ _ 0 _ 117 (0,0) hrow
    have e1:wr.cell? ⟨mb i,1,none⟩=some (.bool (Pl.dd xs p i)):=cell_of_row _ _ 1 _ 117 (0,0) hrow
    have e2:wr.cell? ⟨mb i,2,none⟩=some (.int .i64 (Pl.aa xs p i)):=cell_of_row _ _ 2 _ 117 (0,0) hrow
    have ef:∀ t,wr.frozen? ⟨mb i,t,none⟩=false:=fun t=>frozen_of_row _ _ t _ 117 hrow
    have hrn:wr.heap[u.heap.size+2]?=some (.cells #[.int .i64 (Pl.nxt xs p:Nat)] 3 (0,0)):=(HW2.out.1.block _ (by have:=HIU.out.sz;omega) (by omega)).trans HIU.out.nx
    have e3:wr.cell? ⟨u.heap.size+2,0,none⟩=some (.int .i64 (Pl.nxt xs p:Nat)):=cell_of_row _ _ 0 _ 3 (0,0) hrn
    have ef3:wr.frozen? ⟨u.heap.size+2,0,none⟩=false:=frozen_of_row _ _ 0 _ 3 hrn
    have hn2:mb i≠u.heap.size+2:=by omega
    have HAD:Hid (∀ W,CurAt W (u.heap.size+1) (Pl.cu xs i)->Calls Tryz.prog 83 #[.pointer (some ⟨u.heap.size+1,0,none⟩)] W fun e w'=>e=.returned (.int .i64 (Pl.cu xs i).at)/\w'=W):=fun W hW=>address_is _ _ W hW (by have hi:=HIQ.out;have hl:=HLN.out;have hb:=Pl.cu_bd xs HLn.out i (by omega);omega)
    have HCs:Hid (CurAt (wr.setCell ⟨mb i,1,none⟩ (.bool (Pl.cu xs i).d)) (u.heap.size+1) (Pl.cu xs i)):=HW2.out.2.block (Below.heap_setCell wr ⟨mb i,1,none⟩ _ _ (Ne.symm hne)) (Nat.lt_of_lt_of_le HW2.out.2.lt (OnlyC.set _ _ _ _).size)
    have HST:=LyI.step HIU.out HIQ.out.2.2.2.2.1 HW2.out.1 i HIQ.out.1 HW2.out.2
    have HS2:Hid _:=HST
    clear hrow hrn HST hmu
    gi_wp2_with (refine⟨trivial,?_⟩; refine (CallsIn.inRound rl (callsIn_wide.2 (HAD.out _ HCs.out))).mono ?_;rintro e u1 ⟨rfl,rfl⟩)
    refine⟨fun b q1 q2=>HS2.out.2 b (by have:=HZ2.out;omega) q2,HS2.out.1,?_⟩
    exact Nat.le_trans HW2.out.1.size (Nat.le_trans (OnlyC.set _ _ _ _).size (Nat.le_trans (OnlyC.set _ _ _ _).size (OnlyC.set _ _ _ _).size))
 case hdone=>
  rintro A hI hDf
  have hl20:=HLN.out.2.1
  obtain⟨n,hn⟩:∃ n,n=Pl.nxt xs (Pl.lbs xs xs.length).length:=⟨_,rfl⟩
  have hnl:n<=len:=by rw[hn,<- HLN.out.1];exact Pl.nxt_all xs _ (Nat.le_refl _)
  have m3:A.cell? ⟨u.heap.size+2,0,none⟩=some (.int .i64 (n:Nat)):=by rw[hn];exact cell_of_row _ _ 0 _ 3 (0,0) hI.nx
  have HC0:Hid (CurAt A (u.heap.size+1) (Pl.cu xs (n+0))):=by rw[hn];exact hI.cu
  have m1:A.cell? ⟨u.heap.size,0,none⟩=some (.pointer (some ⟨ga,0,none⟩)):=cell_of_row _ _ 0 _ 112 (0,0) hI.bx
  have m2:A.cell? ⟨ga,0,none⟩=some (.slice a len cap):=hI.am.am.cell 0
  obtain⟨a2,y2,hs2,hrow2⟩:=HLN.out.2.2.part n len hnl (Nat.le_refl _)
  obtain⟨k,hk⟩:∃ k,k=len-n:=⟨_,rfl⟩
  have hsl:∀ v:World,(Instr.slice 23 (.slice a len cap) (some (.int .i64 (n:Nat))) none none).run Tryz.prog v=.ok (.slice a2 k y2) v:=fun v=>by rw[slice_l a len cap n hnl v,hs2,hk]
  rw[<- hk]at hrow2
  have HR2:Hid (LRow lo w a2 k y2 ((xs.drop n).take k)):=hrow2
  have HGL:Hid (∀ j,j<k->Pl.gl ((xs.drop n).take k) j=Pl.gl xs (n+j)):=fun j hj=>by rw[hk]at hj ⊢; exact gl_part xs n len j hj
  have HI:Hid (LyI lo xs w ga gm a len cap stack ec B mb u u.heap.size (Pl.lbs xs xs.length).length A):=hI
  have HNK:Hid (k=len-n/\n<=len):=⟨hk,hnl⟩
  have HDf:Hid (A.heap[V2.heap.size]?=some (.deferred (some []))):=hDf
  have hk20:k<=20000:=by omega
  have hn20:n<=20000:=by omega
  clear hI hs2 hrow2 hn hk hnl htw hl20 hBu hDf HI0 HL2 HM
  gi_wp2
  refine lyo13 ga u.heap.size (u.heap.size+2) n k y2 len cap _ a a2 _ A m1 m2 m3 hsl (by decide) ?_
  have HD0:Hid (OnlyC (u.heap.size+1) A A.drew/\CurAt A.drew (u.heap.size+1) (Pl.cu xs (n+0))):=⟨OnlyC.of (Below.drew (Below.refl _ _)),HC0.out.keep (Below.drew (Below.refl _ _))⟩
  clear m1 m2 m3 hsl HC0
  gi_wp2
  gi_loopw [54] (fun v wr=>∃ j:Nat,j<=k/\v=.int .i64 (j:Nat)/\Hid (OnlyC (u.heap.size+1) A wr/\CurAt wr (u.heap.size+1) (Pl.cu xs (n+j)))) (fun v _=>k-(intOf v).toNat)
  case atStart=>exact⟨0,Nat.zero_le _,rfl,HD0.out⟩
  case round=>
   obtain⟨j,hj,rfl,HW⟩:=hrel
   by_cases hlt:j<k
   ·have hii:(j:Int)<(k:Int):=by omega
    have hbw:Below w.heap.size w wr:=HI.out.am.am.low.trans (HW.out.1.low (by have:=HLS.out.w;omega) HI.out.am.am.low.size)
    obtain⟨b,off,ha2,hlo,hb1,hsz,c0,c1,c2,c3,c4,c5,c6,c7⟩:=(HR2.out.keep hbw).at j hlt
    rw[HGL.out j hlt]at hsz c0 c1 c2 c3 c4 c5 c6 c7
    subst ha2
    have HPS:Hid (∀ W,CurAt W (u.heap.size+1) (Pl.cu xs (n+j))->Calls Tryz.prog 75 #[.pointer (some ⟨u.heap.size+1,0,none⟩),.agg #[.int .i64 (Pl.gl xs (n+j)).k,.int .i64 (Pl.gl xs (n+j)).op,.int .i64 (Pl.gl xs (n+j)).rd,.int .i64 (Pl.gl xs (n+j)).r1,.int .i64 (Pl.gl xs (n+j)).r2,.int .i64 (Pl.gl xs (n+j)).im,.string (Pl.gl xs (n+j)).s,.int .i64 (Pl.gl xs (n+j)).n]] W fun e w'=>e=.returned (.tuple #[])/\CurAt w' (u.heap.size+1) (Pl.cu xs (n+j+1))/\OnlyC (u.heap.size+1) W w'):=fun W hW=>pass_at (n+j) (by have:=HNK.out;have:=HLN.out.1;omega) HLn.out (by rw[HLN.out.1];exact HLN.out.2.1) _ W hW
    clear hbw
    generalize Pl.gl xs (n+j)=x at *
    gi_wp2_with (refine⟨trivial,?_⟩; refine (callsIn_wide.2 (HPS.out _ (HW.out.2.keep (below_alloc _ _)))).mono ?_;rintro e u1 ⟨rfl,hc,ho⟩; have HN:Hid (OnlyC (u.heap.size+1) A u1/\CurAt u1 (u.heap.size+1) (Pl.cu xs (n+(j+1)))):=⟨HW.out.1.trans ((OnlyC.of (below_alloc _ _)).trans ho),hc⟩; clear hc ho)
    go_roundw
    case rel=>exact⟨j+1,by omega,by go_num,HN.out⟩
    case measure=>simp[intOf];omega
   ·have hii:¬ ((j:Int)<(k:Int)):=by omega
    have hjk:n+j=len:=by have:=HNK.out;omega
    have HW2:Hid (OnlyC (u.heap.size+1) A wr/\CurAt wr (u.heap.size+1) (Pl.cu xs len)):=by rw[<- hjk];exact HW.out
    clear HW hjk
    have hcd:=HW2.out.2.d
    have hct:=HW2.out.2.t
    have hcb:=HW2.out.2.b
    have hga:=HLS.out.ga
    have hgm:=HLS.out.gm
    have hws:=HLS.out.w
    have HAM:Hid (Amb lo xs w wr ga gm a len cap stack ec):=HI.out.am.am.only HW2.out.1 (by omega) (by omega)
    have HLM:Hid (Lbm xs B wr gm len mb (fun i=>(Pl.cu xs i).d) (fun i=>(Pl.cu xs i).at)):=(HI.out.am.lm.only HW2.out.1 (by omega) (fun i hi hk=>by have:=HLS.out.mb i hi hk;omega)).congr (fun i hi hk=>by rw[<- HLN.out.1]at hi;exact⟨(Pl.dd_all xs i hi hk).symm,(Pl.aa_all xs i hi hk).symm⟩)
    have e3:=HAM.out.cell 3
    have e4:=HAM.out.cell 4
    have e5:=HAM.out.cell 5
    simp only[List.getElem?_toArray,List.getElem?_cons_succ,List.getElem?_cons_zero]at e3 e4 e5
    have ef:=HAM.out.fz
    have m1:wr.cell? ⟨u.heap.size,0,none⟩=some (.pointer (some ⟨ga,0,none⟩)):=(World.cell?_of_block (a:=⟨u.heap.size,0,none⟩) (HW2.out.1.block _ (by have:=HI.out.sz;show u.heap.size<_;omega) (by show u.heap.size≠u.heap.size+1;omega))).trans (cell_of_row _ _ 0 _ 112 (0,0) HI.out.bx)
    have HDw:Hid (wr.heap[V2.heap.size]?=some (.deferred (some []))):=(HW2.out.1.block _ (Array.getElem?_eq_some_iff.1 HDf.out).1 (by have:=HZ2.out;omega)).trans HDf.out
    gi_wp2
    have hA2:=HAM.out.setEnd (Pl.cu xs len)
    have hL2:=HLM.out.only (((OnlyC.set ga 3 wr (.bool (Pl.cu xs len).d)).trans (OnlyC.set ga 4 _ (.int .i64 (Pl.cu xs len).t))).trans (OnlyC.set ga 5 _ (.int .i64 (Pl.cu xs len).b))) (fun e=>HAM.out.ne e.symm) (fun i hi hk=>by have:=(HLM.out.mks i hi hk).1;have:=HI.out.am.ga_lt;omega)
    have hon:OnlyC ga wr _:=((OnlyC.set ga 3 wr (.bool (Pl.cu xs len).d)).trans (OnlyC.set ga 4 _ (.int .i64 (Pl.cu xs len).t))).trans (OnlyC.set ga 5 _ (.int .i64 (Pl.cu xs len).b))
    refine leavesB (lo:=V2.heap.size) [V2.heap.size] _ (by simp) (fun D hD=>?_) fun w' hs=>?_
    ·rw[List.mem_singleton]at hD;subst hD
     exact⟨Nat.le_refl _,(hon.block _ (Array.getElem?_eq_some_iff.1 HDw.out).1 (by have:=HZ2.out;omega)).trans HDw.out⟩
    ·have hz2:=HZ2.out
     have hsz:=HI.out.sz
     have hBu:=HLS.out.b
     have hwz:=HW2.out.1.size
     have hoz:=hon.size
     refine⟨_,results_none rfl _ _ _,rfl,Aml.shb ⟨hA2,hL2,HI.out.am.hB,HI.out.am.ga_lt,HI.out.am.n⟩ hs (by omega) (by omega) (fun i hi hk=>by have:=HLS.out.mb i hi hk;omega) (by omega),fun b hb hbg=>?_,?_⟩
     ·exact (hs.block b (.inl (by omega))).trans ((hon.block b (by omega) hbg).trans ((HW2.out.1.block b (by omega) (by omega)).trans (HI.out.fr b hb)))
     ·rw[hs.size];omega
end Go.Proofs.YtlbomnnldkeocaaGreat.W
namespace Go.Proofs.YtlbomnnldkeocaaGreat.Pl
def cdA (xs:List Ln):Int:=if (cu xs xs.length).t=0\/65536<(cu xs xs.length).t then 0 else -1
def stA (xs:List Ln):Int:=match lb xs startS with | none=>0 | some j=>if (cu xs j).d=true\/(cu xs xs.length).t<=(cu xs j).t then 0 else -1
theorem stA_none {xs:List Ln} (h:lb xs startS=none):stA xs=0:=by unfold stA;rw[h]
theorem stA_some {xs:List Ln} {j:Nat} (h:lb xs startS=some j):stA xs=if (cu xs j).d=true\/(cu xs xs.length).t<=(cu xs j).t then 0 else -1:=by unfold stA;rw[h]
end Go.Proofs.YtlbomnnldkeocaaGreat.Pl
namespace Go.Proofs.YtlbomnnldkeocaaGreat.W
open Go.RowKit Go.Shelf Go.Maps Go.WideMaps Go.Sort
variable {lo:Nat} {xs:List Pl.Ln} {w u u':World} {ga gm:Nat} {a:Option Addr} {len cap:Nat} {stack:Int} {ec:Pl.Cur} {B:Nat} {mb:Nat->Nat} {d:Nat->Bool} {ad:Nat->Int}
def Amz (lo:Nat) (xs:List Pl.Ln) (w u:World) (ga gm:Nat) (a:Option Addr) (len cap:Nat) (stack:Int) (B:Nat) (mb:Nat->Nat):Prop:=Aml lo xs w u ga gm a len cap stack (Pl.cu xs len) B mb (fun i=>(Pl.cu xs i).d) (fun i=>(Pl.cu xs i).at)
theorem Amz.keep (h:Amz lo xs w u ga gm a len cap stack B mb) (hb:Below u.heap.size u u'):Amz lo xs w u' ga gm a len cap stack B mb:=Aml.keep h hb
theorem Amz.mark (h:Amz lo xs w u ga gm a len cap stack B mb) {s:ByteArray} {i:Nat} (hl:Pl.lb xs s=some i):u.cell? ⟨mb i,0,none⟩=some (.int .i64 (i:Nat))/\u.cell? ⟨mb i,1,none⟩=some (.bool (Pl.cu xs i).d)/\u.cell? ⟨mb i,2,none⟩=some (.int .i64 (Pl.cu xs i).at):=Aml.mark h hl
theorem badCode_is (h:Aml lo xs w u ga gm a len cap stack ec B mb (fun _=>false) (fun _=>0)) (hBu:B<=u.heap.size) (htw:∀ i,i<xs.length->Pl.twice xs i=false) (hLn:∀ i,i<xs.length->Pl.LnB (Pl.gl xs i)):Calls Tryz.prog 33 #[.pointer (some ⟨ga,0,none⟩)] u fun e u'=>e=.returned (.int .i64 (Pl.cdA xs))/\Amz lo xs w u' ga gm a len cap stack B mb/\(∀ b,b<B->b≠ga->u'.heap[b]?=u.heap[b]?)/\u.heap.size<=u'.heap.size:=by
 have HL:Hid (Calls Tryz.prog 79 #[.pointer (some ⟨ga,0,none⟩)] u fun e u'=>e=.returned (.tuple #[])/\Amz lo xs w u' ga gm a len cap stack B mb/\(∀ b,b<B->b≠ga->u'.heap[b]?=u.heap[b]?)/\u.heap.size<=u'.heap.size):=layOut_is h hBu htw hLn
 have HZ:Hid (∀ (b:Bool) (u:World),Calls Tryz.prog 80 #[.bool b] u fun e w'=>e=.returned (.int .i64 (if b then 0 else -1))/\w'=u):=zeroIf_is
 have HXL:Hid (xs.length=len):=h.lenq
 have HCD:Hid (Pl.cdA xs=if (Pl.cu xs len).t=0\/65536<(Pl.cu xs len).t then 0 else -1):=by show _=_;unfold Pl.cdA;rw[HXL.out]
 clear h hBu htw hLn
 obtain⟨T,hT⟩:∃ T,T=(Pl.cu xs len).t:=⟨_,rfl⟩
 rw[<- hT]at HCD
 have HT:Hid (T=(Pl.cu xs len).t):=hT
 clear hT
 by_cases q0:T=0
 ·have HR:Hid (Pl.cdA xs=0):=by show _=_;rw[HCD.out,if_pos (.inl q0)]
  have HT:Hid (0=(Pl.cu xs len).t):=by show _=_;rw[<- HT.out,q0]
  clear q0
  go_enter Tryz.func33,Tryz.ntmps33
  go_wp2_with (first | (go_at_call 79;refine Calls.mono HL.out ?_;rintro e u1 ⟨rfl,ha,hf,hs⟩; have m4:u1.cell? ⟨ga,4,none⟩=some (.int .i64 0):=by { rw[HT.out];exact Aml.am ha |>.cell 4 }; have HF:Hid (Amz lo xs w u1 ga gm a len cap stack B mb/\(∀ b,b<B->b≠ga->u1.heap[b]?=u.heap[b]?)/\u.heap.size<=u1.heap.size):=⟨ha,hf,hs⟩; clear ha hf hs) | (go_at_call 80;refine (HZ.out _ _).mono ?_;rintro e u2 ⟨rfl,rfl⟩))
  go_ret
  exact⟨ret_int HR.out.symm,HF.out⟩
 ·have hd:(T == 0)=false:=by simpa using q0
  by_cases q:65536<T
  ·have hd2:decide (65536<T)=true:=decide_eq_true q
   have HR:Hid (Pl.cdA xs=0):=by show _=_;rw[HCD.out,if_pos (.inr q)]
   go_enter Tryz.func33,Tryz.ntmps33
   go_wp2_with (first | (go_at_call 79;refine Calls.mono HL.out ?_;rintro e u1 ⟨rfl,ha,hf,hs⟩; have m4:u1.cell? ⟨ga,4,none⟩=some (.int .i64 T):=by { rw[HT.out];exact Aml.am ha |>.cell 4 }; have HF:Hid (Amz lo xs w u1 ga gm a len cap stack B mb/\(∀ b,b<B->b≠ga->u1.heap[b]?=u.heap[b]?)/\u.heap.size<=u1.heap.size):=⟨ha,hf,hs⟩; clear ha hf hs) | (go_at_call 80;refine (HZ.out _ _).mono ?_;rintro e u2 ⟨rfl,rfl⟩))
   go_ret
   refine⟨ret_int ?_,HF.out⟩
   rw[HR.out];try simp[q]
  ·have hd2:decide (65536<T)=false:=decide_eq_false q
   have HR:Hid (Pl.cdA xs=-1):=by show _=_;rw[HCD.out,if_neg (fun c=>c.elim q0 q)]
   go_enter Tryz.func33,Tryz.ntmps33
   go_wp2_with (first | (go_at_call 79;refine Calls.mono HL.out ?_;rintro e u1 ⟨rfl,ha,hf,hs⟩; have m4:u1.cell? ⟨ga,4,none⟩=some (.int .i64 T):=by { rw[HT.out];exact Aml.am ha |>.cell 4 }; have HF:Hid (Amz lo xs w u1 ga gm a len cap stack B mb/\(∀ b,b<B->b≠ga->u1.heap[b]?=u.heap[b]?)/\u.heap.size<=u1.heap.size):=⟨ha,hf,hs⟩; clear ha hf hs) | (go_at_call 80;refine (HZ.out _ _).mono ?_;rintro e u2 ⟨rfl,rfl⟩))
   go_ret
   refine⟨ret_int ?_,HF.out⟩
   rw[HR.out];try simp[q]
noncomputable def bstC (n:Nat):Code:=((Tryz.f36.body.bind (codeR n)).getD .skip)
def bstaMk (ga q:Nat) (T z:Int) (bb:Bool)  (c1 c4 c5 c6 c7 c8 d2 d9 d10 d11 d12 d13 d14 d15 d16 d17 d18 d19 d20 d21 d22 d23 d24 d25 d26 d27 d28 d29 d30:Value)  (L:Array Bool):Act:={ tmps:=#[.pointer (some ⟨ga,0,none⟩),c1,sld d2 L 22 (.int .i64 (if bb=true then 0 else -1)),.pointer none,c4,c5,c6,c7,c8,sld d9 L 0 (.pointer none),sld d10 L 1 (.bool true),sld d11 L 2 (.bool true),sld d12 L 3 (undef),sld d13 L 4 (undef),sld d14 L 5 (undef),sld d15 L 6 (undef),sld d16 L 7 (.bool true),sld d17 L 8 (.bool true),sld d18 L 9 (undef),sld d19 L 10 (undef),sld d20 L 11 (undef),sld d21 L 12 (undef),sld d22 L 13 (undef),sld d23 L 14 (undef),sld d24 L 15 (undef),sld d25 L 16 (undef),sld d26 L 17 (undef),sld d27 L 18 (undef),sld d28 L 19 (undef),sld d29 L 20 (.bool bb),sld d30 L 21 (.int .i64 (if bb=true then 0 else -1))],defers:=[] }
set_option maxRecDepth 100000 in
theorem bsta (ga q:Nat) (T z:Int) (bb:Bool) {c1 c4 c5 c6 c7 c8 d2 d9 d10 d11 d12 d13 d14 d15 d16 d17 d18 d19 d20 d21 d22 d23 d24 d25 d26 d27 d28 d29 d30:Value} (Y:World) (hbb:bb=true) {Q:Exit->Act->World->Prop}
  (hK:Q .normal { tmps:=#[.pointer (some ⟨ga,0,none⟩),c1,.int .i64 (if bb=true then 0 else -1),.pointer none,c4,c5,c6,c7,c8,.pointer none,.bool true,.bool true,undef,undef,undef,undef,.bool true,.bool true,undef,undef,undef,undef,undef,undef,undef,undef,undef,undef,undef,.bool bb,.int .i64 (if bb=true then 0 else -1)],defers:=[] } Y.drew) :
  (bstC 2).wp Tryz.prog Q { tmps:=#[.pointer (some ⟨ga,0,none⟩),c1,d2,.pointer none,c4,c5,c6,c7,c8,d9,d10,d11,d12,d13,d14,d15,d16,d17,d18,d19,d20,d21,d22,d23,d24,d25,d26,d27,d28,d29,d30],defers:=[] } Y:=by
 have HKt:Hid _:=hK
 clear hK
 have HZ:Hid (∀ (b:Bool) (u:World),Calls Tryz.prog 80 #[.bool b] u fun e w'=>e=.returned (.int .i64 (if b=true then 0 else -1))/\w'=u):=zeroIf_is
 have hund:yielded.match_1 (motive:=fun _=>Option Bool) (some undef) (fun b=>some b) (fun _=>none)=none:=rfl
 subst hbb
 conv=>arg 2;whnf
 refine wp_region_any (by kernel_rfl) ?_
 change wpAny _ _ _ _ _ _ _ (World.drew _)
 refine wpAny_inw (fun L act0 u=>act0=bstaMk ga q T z true  c1 c4 c5 c6 c7 c8 d2 d9 d10 d11 d12 d13 d14 d15 d16 d17 d18 d19 d20 d21 d22 d23 d24 d25 d26 d27 d28 d29 d30  L/\u=Y.drew) ?done (by kernel_rfl) ?step _ 23 _ _ (by kernel_rfl) ?init (by decide)
 case init=>exact⟨by simp only[bstaMk,sld_no (up_init _ _)],rfl⟩
 case step=>
  intro L act w i o hI hlt hs nl hC hd ho K hK
  obtain⟨rfl,hW⟩:=hI
  have hi_lt:i<23:=(Array.getElem?_eq_some_iff.1 ho).1
  rcases (show i=0\/i=1\/i=2\/i=3\/i=4\/i=5\/i=6\/i=7\/i=8\/i=9\/i=10\/i=11\/i=12\/i=13\/i=14\/i=15\/i=16\/i=17\/i=18\/i=19\/i=20\/i=21\/i=22 by omega) with rfl | rfl | rfl | rfl | rfl | rfl | rfl | rfl | rfl | rfl | rfl | rfl | rfl | rfl | rfl | rfl | rfl | rfl | rfl | rfl | rfl | rfl | rfl
  ·change some _=some o at ho
   cases ho
   subst hW
   simp only[bstaMk]
   go_simp
   exact hK _ _ ⟨by simp only[bstaMk,sld_set hlt,reduceIte,Nat.reduceEqDiff];try rfl,rfl⟩
  ·change some _=some o at ho
   cases ho
   have q0:up L 0=true:=hd { on:=0,ground:=.data } (by simp) rfl
   subst hW
   simp only[bstaMk,sld_yes q0]
   go_simp
   exact hK _ _ ⟨by simp only[bstaMk,sld_set hlt,sld_yes q0,reduceIte,Nat.reduceEqDiff];try rfl,rfl⟩
  ·change some _=some o at ho
   cases ho
   have q1:up L 1=true:=hd { on:=1,ground:=.data } (by simp) rfl
   subst hW
   simp only[bstaMk,sld_yes q1]
   go_simp
   exact hK _ _ ⟨by simp only[bstaMk,sld_set hlt,sld_yes q1,reduceIte,Nat.reduceEqDiff];try rfl,rfl⟩
  ·change some _=some o at ho
   cases ho
   have q2:up L 2=true:=(hd { on:=2,ground:=.guard } (by simp) rfl)
   subst hW
   simp only[bstaMk,sld_yes q2]
   go_simp
   exact hK _ _ ⟨by simp only[bstaMk,sld_set hlt,sld_yes q2,reduceIte,Nat.reduceEqDiff];try rfl,rfl⟩
  ·change some _=some o at ho
   cases ho
   have q2:up L 2=true:=(hd { on:=2,ground:=.guard } (by simp) rfl)
   have q3:up L 3=true:=hd { on:=3,ground:=.data } (by simp) rfl
   subst hW
   simp only[bstaMk,sld_yes q2,sld_yes q3]
   go_simp
   exact hK _ _ ⟨by simp only[bstaMk,sld_set hlt,sld_yes q2,sld_yes q3,reduceIte,Nat.reduceEqDiff];try rfl,rfl⟩
  ·change some _=some o at ho
   cases ho
   have q2:up L 2=true:=(hd { on:=2,ground:=.guard } (by simp) rfl)
   have q4:up L 4=true:=hd { on:=4,ground:=.data } (by simp) rfl
   subst hW
   simp only[bstaMk,sld_yes q2,sld_yes q4]
   go_simp
   exact hK _ _ ⟨by simp only[bstaMk,sld_set hlt,sld_yes q2,sld_yes q4,reduceIte,Nat.reduceEqDiff];try rfl,rfl⟩
  ·change some _=some o at ho
   cases ho
   have q2:up L 2=true:=(hd { on:=2,ground:=.guard } (by simp) rfl)
   have q5:up L 5=true:=hd { on:=5,ground:=.data } (by simp) rfl
   subst hW
   simp only[bstaMk,sld_yes q2,sld_yes q5]
   go_simp
   exact hK _ _ ⟨by simp only[bstaMk,sld_set hlt,sld_yes q2,sld_yes q5,reduceIte,Nat.reduceEqDiff];try rfl,rfl⟩
  ·change some _=some o at ho
   cases ho
   have q2:up L 2=true:=hd { on:=2,ground:=.data } (by simp) rfl
   have q6:up L 6=true:=hd { on:=6,ground:=.data } (by simp) rfl
   subst hW
   simp only[bstaMk,sld_yes q2,sld_yes q6]
   go_simp
   exact hK _ _ ⟨by simp only[bstaMk,sld_set hlt,sld_yes q2,sld_yes q6,reduceIte,Nat.reduceEqDiff];try rfl,rfl⟩
  ·change some _=some o at ho
   cases ho
   have q7:up L 7=true:=hd { on:=7,ground:=.data } (by simp) rfl
   subst hW
   simp only[bstaMk,sld_yes q7]
   go_simp
   exact hK _ _ ⟨by simp only[bstaMk,sld_set hlt,sld_yes q7,reduceIte,Nat.reduceEqDiff];try rfl,rfl⟩
  ·change some _=some o at ho
   cases ho
   have q8:up L 8=true:=(hd { on:=8,ground:=.guard } (by simp) rfl)
   subst hW
   simp only[bstaMk,sld_yes q8]
   go_simp
   exact hK _ _ ⟨by simp only[bstaMk,sld_set hlt,sld_yes q8,reduceIte,Nat.reduceEqDiff];try rfl,rfl⟩
  ·change some _=some o at ho
   cases ho
   have q8:up L 8=true:=(hd { on:=8,ground:=.guard } (by simp) rfl)
   have q9:up L 9=true:=hd { on:=9,ground:=.data } (by simp) rfl
   subst hW
   simp only[bstaMk,sld_yes q8,sld_yes q9]
   go_simp
   exact hK _ _ ⟨by simp only[bstaMk,sld_set hlt,sld_yes q8,sld_yes q9,reduceIte,Nat.reduceEqDiff];try rfl,rfl⟩
  ·change some _=some o at ho
   cases ho
   have q8:up L 8=true:=(hd { on:=8,ground:=.guard } (by simp) rfl)
   have q10:up L 10=true:=hd { on:=10,ground:=.data } (by simp) rfl
   subst hW
   simp only[bstaMk,sld_yes q8,sld_yes q10]
   go_simp
   exact hK _ _ ⟨by simp only[bstaMk,sld_set hlt,sld_yes q8,sld_yes q10,reduceIte,Nat.reduceEqDiff];try rfl,rfl⟩
  ·change some _=some o at ho
   cases ho
   have q8:up L 8=true:=(hd { on:=8,ground:=.guard } (by simp) rfl)
   have q11:up L 11=true:=hd { on:=11,ground:=.data } (by simp) rfl
   subst hW
   simp only[bstaMk,sld_yes q8,sld_yes q11]
   go_simp
   exact hK _ _ ⟨by simp only[bstaMk,sld_set hlt,sld_yes q8,sld_yes q11,reduceIte,Nat.reduceEqDiff];try rfl,rfl⟩
  ·change some _=some o at ho
   cases ho
   have q8:up L 8=true:=(hd { on:=8,ground:=.guard } (by simp) rfl)
   subst hW
   simp only[bstaMk,sld_yes q8]
   go_simp
   exact hK _ _ ⟨by simp only[bstaMk,sld_set hlt,sld_yes q8,reduceIte,Nat.reduceEqDiff];try rfl,rfl⟩
  ·change some _=some o at ho
   cases ho
   have q8:up L 8=true:=(hd { on:=8,ground:=.guard } (by simp) rfl)
   have q13:up L 13=true:=hd { on:=13,ground:=.data } (by simp) rfl
   subst hW
   simp only[bstaMk,sld_yes q8,sld_yes q13]
   go_simp
   exact hK _ _ ⟨by simp only[bstaMk,sld_set hlt,sld_yes q8,sld_yes q13,reduceIte,Nat.reduceEqDiff];try rfl,rfl⟩
  ·change some _=some o at ho
   cases ho
   have q8:up L 8=true:=(hd { on:=8,ground:=.guard } (by simp) rfl)
   have q14:up L 14=true:=hd { on:=14,ground:=.data } (by simp) rfl
   subst hW
   simp only[bstaMk,sld_yes q8,sld_yes q14]
   go_simp
   exact hK _ _ ⟨by simp only[bstaMk,sld_set hlt,sld_yes q8,sld_yes q14,reduceIte,Nat.reduceEqDiff];try rfl,rfl⟩
  ·change some _=some o at ho
   cases ho
   have q8:up L 8=true:=(hd { on:=8,ground:=.guard } (by simp) rfl)
   have q15:up L 15=true:=hd { on:=15,ground:=.data } (by simp) rfl
   subst hW
   simp only[bstaMk,sld_yes q8,sld_yes q15]
   go_simp
   exact hK _ _ ⟨by simp only[bstaMk,sld_set hlt,sld_yes q8,sld_yes q15,reduceIte,Nat.reduceEqDiff];try rfl,rfl⟩
  ·change some _=some o at ho
   cases ho
   have q8:up L 8=true:=(hd { on:=8,ground:=.guard } (by simp) rfl)
   have q16:up L 16=true:=hd { on:=16,ground:=.data } (by simp) rfl
   subst hW
   simp only[bstaMk,sld_yes q8,sld_yes q16]
   go_simp
   exact hK _ _ ⟨by simp only[bstaMk,sld_set hlt,sld_yes q8,sld_yes q16,reduceIte,Nat.reduceEqDiff];try rfl,rfl⟩
  ·change some _=some o at ho
   cases ho
   have q8:up L 8=true:=(hd { on:=8,ground:=.guard } (by simp) rfl)
   have q17:up L 17=true:=hd { on:=17,ground:=.data } (by simp) rfl
   subst hW
   simp only[bstaMk,sld_yes q8,sld_yes q17]
   go_simp
   exact hK _ _ ⟨by simp only[bstaMk,sld_set hlt,sld_yes q8,sld_yes q17,reduceIte,Nat.reduceEqDiff];try rfl,rfl⟩
  ·change some _=some o at ho
   cases ho
   have q8:up L 8=true:=(hd { on:=8,ground:=.guard } (by simp) rfl)
   have q12:up L 12=true:=hd { on:=12,ground:=.data } (by simp) rfl
   have q18:up L 18=true:=hd { on:=18,ground:=.data } (by simp) rfl
   subst hW
   simp only[bstaMk,sld_yes q8,sld_yes q12,sld_yes q18]
   go_simp
   exact hK _ _ ⟨by simp only[bstaMk,sld_set hlt,sld_yes q8,sld_yes q12,sld_yes q18,reduceIte,Nat.reduceEqDiff];try rfl,rfl⟩
  ·change some _=some o at ho
   cases ho
   have q8:up L 8=true:=hd { on:=8,ground:=.data } (by simp) rfl
   have q19:up L 19=true:=hd { on:=19,ground:=.data } (by simp) rfl
   subst hW
   simp only[bstaMk,sld_yes q8,sld_yes q19]
   go_simp
   exact hK _ _ ⟨by simp only[bstaMk,sld_set hlt,sld_yes q8,sld_yes q19,reduceIte,Nat.reduceEqDiff];try rfl,rfl⟩
  ·change some _=some o at ho
   cases ho
   have q20:up L 20=true:=hd { on:=20,ground:=.data } (by simp) rfl
   subst hW
   simp only[bstaMk,sld_yes q20]
   go_simp
   refine (HZ.out _ _).mono ?_
   rintro e w3 ⟨rfl,rfl⟩
   go_simp
   exact hK _ _ ⟨by simp only[bstaMk,sld_set hlt,sld_yes q20,reduceIte,Nat.reduceEqDiff];try rfl,rfl⟩
  ·change some _=some o at ho
   cases ho
   have q21:up L 21=true:=hd { on:=21,ground:=.data } (by simp) rfl
   subst hW
   simp only[bstaMk,sld_yes q21]
   go_simp
   exact hK _ _ ⟨by simp only[bstaMk,sld_set hlt,sld_yes q21,reduceIte,Nat.reduceEqDiff];try rfl,rfl⟩
 case done=>
  rintro L a u ⟨rfl,hW⟩ hall
  simp only[bstaMk,sld_yes (hall 0 (by decide)),sld_yes (hall 1 (by decide)),sld_yes (hall 2 (by decide)),sld_yes (hall 3 (by decide)),sld_yes (hall 4 (by decide)),sld_yes (hall 5 (by decide)),sld_yes (hall 6 (by decide)),sld_yes (hall 7 (by decide)),sld_yes (hall 8 (by decide)),sld_yes (hall 9 (by decide)),sld_yes (hall 10 (by decide)),sld_yes (hall 11 (by decide)),sld_yes (hall 12 (by decide)),sld_yes (hall 13 (by decide)),sld_yes (hall 14 (by decide)),sld_yes (hall 15 (by decide)),sld_yes (hall 16 (by decide)),sld_yes (hall 17 (by decide)),sld_yes (hall 18 (by decide)),sld_yes (hall 19 (by decide)),sld_yes (hall 20 (by decide)),sld_yes (hall 21 (by decide)),sld_yes (hall 22 (by decide))]
  subst hW
  exact HKt.out
def bstbMk (ga q:Nat) (T z:Int) (bb:Bool)  (c1 c4 c5 c6 c7 c8 d2 d9 d10 d11 d12 d13 d14 d15 d16 d17 d18 d19 d20 d21 d22 d23 d24 d25 d26 d27 d28 d29 d30:Value)  (L:Array Bool):Act:={ tmps:=#[.pointer (some ⟨ga,0,none⟩),c1,sld d2 L 22 (.int .i64 (if bb=true then 0 else -1)),.pointer (some ⟨q,0,none⟩),c4,c5,c6,c7,c8,sld d9 L 0 (.pointer (some ⟨q,0,none⟩)),sld d10 L 1 (.bool false),sld d11 L 2 (.bool false),sld d12 L 3 (.pointer (some ⟨q,0,none⟩)),sld d13 L 4 (.pointer (some ⟨q,0,none⟩)),sld d14 L 5 (.pointer (some ⟨q,1,none⟩)),sld d15 L 6 (.bool true),sld d16 L 7 (.bool true),sld d17 L 8 (.bool true),sld d18 L 9 (undef),sld d19 L 10 (undef),sld d20 L 11 (undef),sld d21 L 12 (undef),sld d22 L 13 (undef),sld d23 L 14 (undef),sld d24 L 15 (undef),sld d25 L 16 (undef),sld d26 L 17 (undef),sld d27 L 18 (undef),sld d28 L 19 (undef),sld d29 L 20 (.bool bb),sld d30 L 21 (.int .i64 (if bb=true then 0 else -1))],defers:=[] }
set_option maxRecDepth 100000 in
theorem bstb (ga q:Nat) (T z:Int) (bb:Bool) {c1 c4 c5 c6 c7 c8 d2 d9 d10 d11 d12 d13 d14 d15 d16 d17 d18 d19 d20 d21 d22 d23 d24 d25 d26 d27 d28 d29 d30:Value} (Y:World) (hbb:bb=true) (e1:Y.cell? ⟨q,1,none⟩=some (.bool true)) {Q:Exit->Act->World->Prop}
  (hK:Q .normal { tmps:=#[.pointer (some ⟨ga,0,none⟩),c1,.int .i64 (if bb=true then 0 else -1),.pointer (some ⟨q,0,none⟩),c4,c5,c6,c7,c8,.pointer (some ⟨q,0,none⟩),.bool false,.bool false,.pointer (some ⟨q,0,none⟩),.pointer (some ⟨q,0,none⟩),.pointer (some ⟨q,1,none⟩),.bool true,.bool true,.bool true,undef,undef,undef,undef,undef,undef,undef,undef,undef,undef,undef,.bool bb,.int .i64 (if bb=true then 0 else -1)],defers:=[] } Y.drew) :
  (bstC 2).wp Tryz.prog Q { tmps:=#[.pointer (some ⟨ga,0,none⟩),c1,d2,.pointer (some ⟨q,0,none⟩),c4,c5,c6,c7,c8,d9,d10,d11,d12,d13,d14,d15,d16,d17,d18,d19,d20,d21,d22,d23,d24,d25,d26,d27,d28,d29,d30],defers:=[] } Y:=by
 have HKt:Hid _:=hK
 clear hK
 have HZ:Hid (∀ (b:Bool) (u:World),Calls Tryz.prog 80 #[.bool b] u fun e w'=>e=.returned (.int .i64 (if b=true then 0 else -1))/\w'=u):=zeroIf_is
 have hund:yielded.match_1 (motive:=fun _=>Option Bool) (some undef) (fun b=>some b) (fun _=>none)=none:=rfl
 have j1:Y.drew.cell? ⟨q,1,none⟩=some (.bool true):=e1
 clear e1
 subst hbb
 conv=>arg 2;whnf
 refine wp_region_any (by kernel_rfl) ?_
 change wpAny _ _ _ _ _ _ _ (World.drew _)
 refine wpAny_inw (fun L act0 u=>act0=bstbMk ga q T z true  c1 c4 c5 c6 c7 c8 d2 d9 d10 d11 d12 d13 d14 d15 d16 d17 d18 d19 d20 d21 d22 d23 d24 d25 d26 d27 d28 d29 d30  L/\u=Y.drew) ?done (by kernel_rfl) ?step _ 23 _ _ (by kernel_rfl) ?init (by decide)
 case init=>exact⟨by simp only[bstbMk,sld_no (up_init _ _)],rfl⟩
 case step=>
  intro L act w i o hI hlt hs nl hC hd ho K hK
  obtain⟨rfl,hW⟩:=hI
  have hi_lt:i<23:=(Array.getElem?_eq_some_iff.1 ho).1
  rcases (show i=0\/i=1\/i=2\/i=3\/i=4\/i=5\/i=6\/i=7\/i=8\/i=9\/i=10\/i=11\/i=12\/i=13\/i=14\/i=15\/i=16\/i=17\/i=18\/i=19\/i=20\/i=21\/i=22 by omega) with rfl | rfl | rfl | rfl | rfl | rfl | rfl | rfl | rfl | rfl | rfl | rfl | rfl | rfl | rfl | rfl | rfl | rfl | rfl | rfl | rfl | rfl | rfl
  ·change some _=some o at ho
   cases ho
   subst hW
   simp only[bstbMk]
   go_simp
   exact hK _ _ ⟨by simp only[bstbMk,sld_set hlt,reduceIte,Nat.reduceEqDiff];try rfl,rfl⟩
  ·change some _=some o at ho
   cases ho
   have q0:up L 0=true:=hd { on:=0,ground:=.data } (by simp) rfl
   subst hW
   simp only[bstbMk,sld_yes q0]
   go_simp
   exact hK _ _ ⟨by simp only[bstbMk,sld_set hlt,sld_yes q0,reduceIte,Nat.reduceEqDiff];try rfl,rfl⟩
  ·change some _=some o at ho
   cases ho
   have q1:up L 1=true:=hd { on:=1,ground:=.data } (by simp) rfl
   subst hW
   simp only[bstbMk,sld_yes q1]
   go_simp
   exact hK _ _ ⟨by simp only[bstbMk,sld_set hlt,sld_yes q1,reduceIte,Nat.reduceEqDiff];try rfl,rfl⟩
  ·change some _=some o at ho
   cases ho
   have q2:up L 2=true:=(hd { on:=2,ground:=.guard } (by simp) rfl)
   subst hW
   simp only[bstbMk,sld_yes q2]
   go_simp
   exact hK _ _ ⟨by simp only[bstbMk,sld_set hlt,sld_yes q2,reduceIte,Nat.reduceEqDiff];try rfl,rfl⟩
  ·change some _=some o at ho
   cases ho
   have q2:up L 2=true:=(hd { on:=2,ground:=.guard } (by simp) rfl)
   have q3:up L 3=true:=hd { on:=3,ground:=.data } (by simp) rfl
   subst hW
   simp only[bstbMk,sld_yes q2,sld_yes q3]
   go_simp
   exact hK _ _ ⟨by simp only[bstbMk,sld_set hlt,sld_yes q2,sld_yes q3,reduceIte,Nat.reduceEqDiff];try rfl,rfl⟩
  ·change some _=some o at ho
   cases ho
   have q2:up L 2=true:=(hd { on:=2,ground:=.guard } (by simp) rfl)
   have q4:up L 4=true:=hd { on:=4,ground:=.data } (by simp) rfl
   subst hW
   simp only[bstbMk,sld_yes q2,sld_yes q4]
   go_simp
   exact hK _ _ ⟨by simp only[bstbMk,sld_set hlt,sld_yes q2,sld_yes q4,reduceIte,Nat.reduceEqDiff];try rfl,rfl⟩
  ·change some _=some o at ho
   cases ho
   have q2:up L 2=true:=(hd { on:=2,ground:=.guard } (by simp) rfl)
   have q5:up L 5=true:=hd { on:=5,ground:=.data } (by simp) rfl
   subst hW
   simp only[bstbMk,sld_yes q2,sld_yes q5]
   go_simp
   exact hK _ _ ⟨by simp only[bstbMk,sld_set hlt,sld_yes q2,sld_yes q5,reduceIte,Nat.reduceEqDiff];try rfl,rfl⟩
  ·change some _=some o at ho
   cases ho
   have q2:up L 2=true:=hd { on:=2,ground:=.data } (by simp) rfl
   have q6:up L 6=true:=hd { on:=6,ground:=.data } (by simp) rfl
   subst hW
   simp only[bstbMk,sld_yes q2,sld_yes q6]
   go_simp
   exact hK _ _ ⟨by simp only[bstbMk,sld_set hlt,sld_yes q2,sld_yes q6,reduceIte,Nat.reduceEqDiff];try rfl,rfl⟩
  ·change some _=some o at ho
   cases ho
   have q7:up L 7=true:=hd { on:=7,ground:=.data } (by simp) rfl
   subst hW
   simp only[bstbMk,sld_yes q7]
   go_simp
   exact hK _ _ ⟨by simp only[bstbMk,sld_set hlt,sld_yes q7,reduceIte,Nat.reduceEqDiff];try rfl,rfl⟩
  ·change some _=some o at ho
   cases ho
   have q8:up L 8=true:=(hd { on:=8,ground:=.guard } (by simp) rfl)
   subst hW
   simp only[bstbMk,sld_yes q8]
   go_simp
   exact hK _ _ ⟨by simp only[bstbMk,sld_set hlt,sld_yes q8,reduceIte,Nat.reduceEqDiff];try rfl,rfl⟩
  ·change some _=some o at ho
   cases ho
   have q8:up L 8=true:=(hd { on:=8,ground:=.guard } (by simp) rfl)
   have q9:up L 9=true:=hd { on:=9,ground:=.data } (by simp) rfl
   subst hW
   simp only[bstbMk,sld_yes q8,sld_yes q9]
   go_simp
   exact hK _ _ ⟨by simp only[bstbMk,sld_set hlt,sld_yes q8,sld_yes q9,reduceIte,Nat.reduceEqDiff];try rfl,rfl⟩
  ·change some _=some o at ho
   cases ho
   have q8:up L 8=true:=(hd { on:=8,ground:=.guard } (by simp) rfl)
   have q10:up L 10=true:=hd { on:=10,ground:=.data } (by simp) rfl
   subst hW
   simp only[bstbMk,sld_yes q8,sld_yes q10]
   go_simp
   exact hK _ _ ⟨by simp only[bstbMk,sld_set hlt,sld_yes q8,sld_yes q10,reduceIte,Nat.reduceEqDiff];try rfl,rfl⟩
  ·change some _=some o at ho
   cases ho
   have q8:up L 8=true:=(hd { on:=8,ground:=.guard } (by simp) rfl)
   have q11:up L 11=true:=hd { on:=11,ground:=.data } (by simp) rfl
   subst hW
   simp only[bstbMk,sld_yes q8,sld_yes q11]
   go_simp
   exact hK _ _ ⟨by simp only[bstbMk,sld_set hlt,sld_yes q8,sld_yes q11,reduceIte,Nat.reduceEqDiff];try rfl,rfl⟩
  ·change some _=some o at ho
   cases ho
   have q8:up L 8=true:=(hd { on:=8,ground:=.guard } (by simp) rfl)
   subst hW
   simp only[bstbMk,sld_yes q8]
   go_simp
   exact hK _ _ ⟨by simp only[bstbMk,sld_set hlt,sld_yes q8,reduceIte,Nat.reduceEqDiff];try rfl,rfl⟩
  ·change some _=some o at ho
   cases ho
   have q8:up L 8=true:=(hd { on:=8,ground:=.guard } (by simp) rfl)
   have q13:up L 13=true:=hd { on:=13,ground:=.data } (by simp) rfl
   subst hW
   simp only[bstbMk,sld_yes q8,sld_yes q13]
   go_simp
   exact hK _ _ ⟨by simp only[bstbMk,sld_set hlt,sld_yes q8,sld_yes q13,reduceIte,Nat.reduceEqDiff];try rfl,rfl⟩
  ·change some _=some o at ho
   cases ho
   have q8:up L 8=true:=(hd { on:=8,ground:=.guard } (by simp) rfl)
   have q14:up L 14=true:=hd { on:=14,ground:=.data } (by simp) rfl
   subst hW
   simp only[bstbMk,sld_yes q8,sld_yes q14]
   go_simp
   exact hK _ _ ⟨by simp only[bstbMk,sld_set hlt,sld_yes q8,sld_yes q14,reduceIte,Nat.reduceEqDiff];try rfl,rfl⟩
  ·change some _=some o at ho
   cases ho
   have q8:up L 8=true:=(hd { on:=8,ground:=.guard } (by simp) rfl)
   have q15:up L 15=true:=hd { on:=15,ground:=.data } (by simp) rfl
   subst hW
   simp only[bstbMk,sld_yes q8,sld_yes q15]
   go_simp
   exact hK _ _ ⟨by simp only[bstbMk,sld_set hlt,sld_yes q8,sld_yes q15,reduceIte,Nat.reduceEqDiff];try rfl,rfl⟩
  ·change some _=some o at ho
   cases ho
   have q8:up L 8=true:=(hd { on:=8,ground:=.guard } (by simp) rfl)
   have q16:up L 16=true:=hd { on:=16,ground:=.data } (by simp) rfl
   subst hW
   simp only[bstbMk,sld_yes q8,sld_yes q16]
   go_simp
   exact hK _ _ ⟨by simp only[bstbMk,sld_set hlt,sld_yes q8,sld_yes q16,reduceIte,Nat.reduceEqDiff];try rfl,rfl⟩
  ·change some _=some o at ho
   cases ho
   have q8:up L 8=true:=(hd { on:=8,ground:=.guard } (by simp) rfl)
   have q17:up L 17=true:=hd { on:=17,ground:=.data } (by simp) rfl
   subst hW
   simp only[bstbMk,sld_yes q8,sld_yes q17]
   go_simp
   exact hK _ _ ⟨by simp only[bstbMk,sld_set hlt,sld_yes q8,sld_yes q17,reduceIte,Nat.reduceEqDiff];try rfl,rfl⟩
  ·change some _=some o at ho
   cases ho
   have q8:up L 8=true:=(hd { on:=8,ground:=.guard } (by simp) rfl)
   have q12:up L 12=true:=hd { on:=12,ground:=.data } (by simp) rfl
   have q18:up L 18=true:=hd { on:=18,ground:=.data } (by simp) rfl
   subst hW
   simp only[bstbMk,sld_yes q8,sld_yes q12,sld_yes q18]
   go_simp
   exact hK _ _ ⟨by simp only[bstbMk,sld_set hlt,sld_yes q8,sld_yes q12,sld_yes q18,reduceIte,Nat.reduceEqDiff];try rfl,rfl⟩
  ·change some _=some o at ho
   cases ho
   have q8:up L 8=true:=hd { on:=8,ground:=.data } (by simp) rfl
   have q19:up L 19=true:=hd { on:=19,ground:=.data } (by simp) rfl
   subst hW
   simp only[bstbMk,sld_yes q8,sld_yes q19]
   go_simp
   exact hK _ _ ⟨by simp only[bstbMk,sld_set hlt,sld_yes q8,sld_yes q19,reduceIte,Nat.reduceEqDiff];try rfl,rfl⟩
  ·change some _=some o at ho
   cases ho
   have q20:up L 20=true:=hd { on:=20,ground:=.data } (by simp) rfl
   subst hW
   simp only[bstbMk,sld_yes q20]
   go_simp
   refine (HZ.out _ _).mono ?_
   rintro e w3 ⟨rfl,rfl⟩
   go_simp
   exact hK _ _ ⟨by simp only[bstbMk,sld_set hlt,sld_yes q20,reduceIte,Nat.reduceEqDiff];try rfl,rfl⟩
  ·change some _=some o at ho
   cases ho
   have q21:up L 21=true:=hd { on:=21,ground:=.data } (by simp) rfl
   subst hW
   simp only[bstbMk,sld_yes q21]
   go_simp
   exact hK _ _ ⟨by simp only[bstbMk,sld_set hlt,sld_yes q21,reduceIte,Nat.reduceEqDiff];try rfl,rfl⟩
 case done=>
  rintro L a u ⟨rfl,hW⟩ hall
  simp only[bstbMk,sld_yes (hall 0 (by decide)),sld_yes (hall 1 (by decide)),sld_yes (hall 2 (by decide)),sld_yes (hall 3 (by decide)),sld_yes (hall 4 (by decide)),sld_yes (hall 5 (by decide)),sld_yes (hall 6 (by decide)),sld_yes (hall 7 (by decide)),sld_yes (hall 8 (by decide)),sld_yes (hall 9 (by decide)),sld_yes (hall 10 (by decide)),sld_yes (hall 11 (by decide)),sld_yes (hall 12 (by decide)),sld_yes (hall 13 (by decide)),sld_yes (hall 14 (by decide)),sld_yes (hall 15 (by decide)),sld_yes (hall 16 (by decide)),sld_yes (hall 17 (by decide)),sld_yes (hall 18 (by decide)),sld_yes (hall 19 (by decide)),sld_yes (hall 20 (by decide)),sld_yes (hall 21 (by decide)),sld_yes (hall 22 (by decide))]
  subst hW
  exact HKt.out
def bstcMk (ga q:Nat) (T z:Int) (bb:Bool)  (c1 c4 c5 c6 c7 c8 d2 d9 d10 d11 d12 d13 d14 d15 d16 d17 d18 d19 d20 d21 d22 d23 d24 d25 d26 d27 d28 d29 d30:Value)  (L:Array Bool):Act:={ tmps:=#[.pointer (some ⟨ga,0,none⟩),c1,sld d2 L 22 (.int .i64 (if bb=true then 0 else -1)),.pointer (some ⟨q,0,none⟩),c4,c5,c6,c7,c8,sld d9 L 0 (.pointer (some ⟨q,0,none⟩)),sld d10 L 1 (.bool false),sld d11 L 2 (.bool false),sld d12 L 3 (.pointer (some ⟨q,0,none⟩)),sld d13 L 4 (.pointer (some ⟨q,0,none⟩)),sld d14 L 5 (.pointer (some ⟨q,1,none⟩)),sld d15 L 6 (.bool false),sld d16 L 7 (.bool false),sld d17 L 8 (.bool false),sld d18 L 9 (.pointer (some ⟨q,0,none⟩)),sld d19 L 10 (.pointer (some ⟨q,0,none⟩)),sld d20 L 11 (.pointer (some ⟨q,2,none⟩)),sld d21 L 12 (.int .i64 z),sld d22 L 13 (.pointer (some ⟨ga,0,none⟩)),sld d23 L 14 (.pointer (some ⟨ga,0,none⟩)),sld d24 L 15 (.pointer (some ⟨ga,3,none⟩)),sld d25 L 16 (.pointer (some ⟨ga,4,none⟩)),sld d26 L 17 (.int .i64 T),sld d27 L 18 (.int .i64 (65536+T)),sld d28 L 19 (.bool bb),sld d29 L 20 (.bool bb),sld d30 L 21 (.int .i64 (if bb=true then 0 else -1))],defers:=[] }
set_option maxRecDepth 100000 in
theorem bstc (ga q:Nat) (T z:Int) (bb:Bool) {c1 c4 c5 c6 c7 c8 d2 d9 d10 d11 d12 d13 d14 d15 d16 d17 d18 d19 d20 d21 d22 d23 d24 d25 d26 d27 d28 d29 d30:Value} (Y:World) (hbb:decide (65536+T<=z)=bb) (e1:Y.cell? ⟨q,1,none⟩=some (.bool false)) (e2:Y.cell? ⟨q,2,none⟩=some (.int .i64 z)) (e3:Y.cell? ⟨ga,4,none⟩=some (.int .i64 T)) (hT:0<=T/\T<=1099511627776) {Q:Exit->Act->World->Prop}
  (hK:Q .normal { tmps:=#[.pointer (some ⟨ga,0,none⟩),c1,.int .i64 (if bb=true then 0 else -1),.pointer (some ⟨q,0,none⟩),c4,c5,c6,c7,c8,.pointer (some ⟨q,0,none⟩),.bool false,.bool false,.pointer (some ⟨q,0,none⟩),.pointer (some ⟨q,0,none⟩),.pointer (some ⟨q,1,none⟩),.bool false,.bool false,.bool false,.pointer (some ⟨q,0,none⟩),.pointer (some ⟨q,0,none⟩),.pointer (some ⟨q,2,none⟩),.int .i64 z,.pointer (some ⟨ga,0,none⟩),.pointer (some ⟨ga,0,none⟩),.pointer (some ⟨ga,3,none⟩),.pointer (some ⟨ga,4,none⟩),.int .i64 T,.int .i64 (65536+T),.bool bb,.bool bb,.int .i64 (if bb=true then 0 else -1)],defers:=[] } Y.drew) :
  (bstC 2).wp Tryz.prog Q { tmps:=#[.pointer (some ⟨ga,0,none⟩),c1,d2,.pointer (some ⟨q,0,none⟩),c4,c5,c6,c7,c8,d9,d10,d11,d12,d13,d14,d15,d16,d17,d18,d19,d20,d21,d22,d23,d24,d25,d26,d27,d28,d29,d30],defers:=[] } Y:=by
 have HKt:Hid _:=hK
 clear hK
 have HZ:Hid (∀ (b:Bool) (u:World),Calls Tryz.prog 80 #[.bool b] u fun e w'=>e=.returned (.int .i64 (if b=true then 0 else -1))/\w'=u):=zeroIf_is
 have hund:yielded.match_1 (motive:=fun _=>Option Bool) (some undef) (fun b=>some b) (fun _=>none)=none:=rfl
 have j1:Y.drew.cell? ⟨q,1,none⟩=some (.bool false):=e1
 clear e1
 have j2:Y.drew.cell? ⟨q,2,none⟩=some (.int .i64 z):=e2
 have j3:Y.drew.cell? ⟨ga,4,none⟩=some (.int .i64 T):=e3
 clear e2 e3
 have hw:wrap64 (65536+T)=65536+T:=by unfold wrap64;omega
 have hw1:IntKind.i64.wrap (65536+T)=65536+T:=by rw[IntKind.wrap_i64];omega
 conv=>arg 2;whnf
 refine wp_region_any (by kernel_rfl) ?_
 change wpAny _ _ _ _ _ _ _ (World.drew _)
 refine wpAny_inw (fun L act0 u=>act0=bstcMk ga q T z bb  c1 c4 c5 c6 c7 c8 d2 d9 d10 d11 d12 d13 d14 d15 d16 d17 d18 d19 d20 d21 d22 d23 d24 d25 d26 d27 d28 d29 d30  L/\u=Y.drew) ?done (by kernel_rfl) ?step _ 23 _ _ (by kernel_rfl) ?init (by decide)
 case init=>exact⟨by simp only[bstcMk,sld_no (up_init _ _)],rfl⟩
 case step=>
  intro L act w i o hI hlt hs nl hC hd ho K hK
  obtain⟨rfl,hW⟩:=hI
  have hi_lt:i<23:=(Array.getElem?_eq_some_iff.1 ho).1
  rcases (show i=0\/i=1\/i=2\/i=3\/i=4\/i=5\/i=6\/i=7\/i=8\/i=9\/i=10\/i=11\/i=12\/i=13\/i=14\/i=15\/i=16\/i=17\/i=18\/i=19\/i=20\/i=21\/i=22 by omega) with rfl | rfl | rfl | rfl | rfl | rfl | rfl | rfl | rfl | rfl | rfl | rfl | rfl | rfl | rfl | rfl | rfl | rfl | rfl | rfl | rfl | rfl | rfl
  ·change some _=some o at ho
   cases ho
   subst hW
   simp only[bstcMk]
   go_simp
   exact hK _ _ ⟨by simp only[bstcMk,sld_set hlt,reduceIte,Nat.reduceEqDiff];try rfl,rfl⟩
  ·change some _=some o at ho
   cases ho
   have q0:up L 0=true:=hd { on:=0,ground:=.data } (by simp) rfl
   subst hW
   simp only[bstcMk,sld_yes q0]
   go_simp
   exact hK _ _ ⟨by simp only[bstcMk,sld_set hlt,sld_yes q0,reduceIte,Nat.reduceEqDiff];try rfl,rfl⟩
  ·change some _=some o at ho
   cases ho
   have q1:up L 1=true:=hd { on:=1,ground:=.data } (by simp) rfl
   subst hW
   simp only[bstcMk,sld_yes q1]
   go_simp
   exact hK _ _ ⟨by simp only[bstcMk,sld_set hlt,sld_yes q1,reduceIte,Nat.reduceEqDiff];try rfl,rfl⟩
  ·change some _=some o at ho
   cases ho
   have q2:up L 2=true:=(hd { on:=2,ground:=.guard } (by simp) rfl)
   subst hW
   simp only[bstcMk,sld_yes q2]
   go_simp
   exact hK _ _ ⟨by simp only[bstcMk,sld_set hlt,sld_yes q2,reduceIte,Nat.reduceEqDiff];try rfl,rfl⟩
  ·change some _=some o at ho
   cases ho
   have q2:up L 2=true:=(hd { on:=2,ground:=.guard } (by simp) rfl)
   have q3:up L 3=true:=hd { on:=3,ground:=.data } (by simp) rfl
   subst hW
   simp only[bstcMk,sld_yes q2,sld_yes q3]
   go_simp
   exact hK _ _ ⟨by simp only[bstcMk,sld_set hlt,sld_yes q2,sld_yes q3,reduceIte,Nat.reduceEqDiff];try rfl,rfl⟩
  ·change some _=some o at ho
   cases ho
   have q2:up L 2=true:=(hd { on:=2,ground:=.guard } (by simp) rfl)
   have q4:up L 4=true:=hd { on:=4,ground:=.data } (by simp) rfl
   subst hW
   simp only[bstcMk,sld_yes q2,sld_yes q4]
   go_simp
   exact hK _ _ ⟨by simp only[bstcMk,sld_set hlt,sld_yes q2,sld_yes q4,reduceIte,Nat.reduceEqDiff];try rfl,rfl⟩
  ·change some _=some o at ho
   cases ho
   have q2:up L 2=true:=(hd { on:=2,ground:=.guard } (by simp) rfl)
   have q5:up L 5=true:=hd { on:=5,ground:=.data } (by simp) rfl
   subst hW
   simp only[bstcMk,sld_yes q2,sld_yes q5]
   go_simp
   exact hK _ _ ⟨by simp only[bstcMk,sld_set hlt,sld_yes q2,sld_yes q5,reduceIte,Nat.reduceEqDiff];try rfl,rfl⟩
  ·change some _=some o at ho
   cases ho
   have q2:up L 2=true:=hd { on:=2,ground:=.data } (by simp) rfl
   have q6:up L 6=true:=hd { on:=6,ground:=.data } (by simp) rfl
   subst hW
   simp only[bstcMk,sld_yes q2,sld_yes q6]
   go_simp
   exact hK _ _ ⟨by simp only[bstcMk,sld_set hlt,sld_yes q2,sld_yes q6,reduceIte,Nat.reduceEqDiff];try rfl,rfl⟩
  ·change some _=some o at ho
   cases ho
   have q7:up L 7=true:=hd { on:=7,ground:=.data } (by simp) rfl
   subst hW
   simp only[bstcMk,sld_yes q7]
   go_simp
   exact hK _ _ ⟨by simp only[bstcMk,sld_set hlt,sld_yes q7,reduceIte,Nat.reduceEqDiff];try rfl,rfl⟩
  ·change some _=some o at ho
   cases ho
   have q8:up L 8=true:=(hd { on:=8,ground:=.guard } (by simp) rfl)
   subst hW
   simp only[bstcMk,sld_yes q8]
   go_simp
   exact hK _ _ ⟨by simp only[bstcMk,sld_set hlt,sld_yes q8,reduceIte,Nat.reduceEqDiff];try rfl,rfl⟩
  ·change some _=some o at ho
   cases ho
   have q8:up L 8=true:=(hd { on:=8,ground:=.guard } (by simp) rfl)
   have q9:up L 9=true:=hd { on:=9,ground:=.data } (by simp) rfl
   subst hW
   simp only[bstcMk,sld_yes q8,sld_yes q9]
   go_simp
   exact hK _ _ ⟨by simp only[bstcMk,sld_set hlt,sld_yes q8,sld_yes q9,reduceIte,Nat.reduceEqDiff];try rfl,rfl⟩
  ·change some _=some o at ho
   cases ho
   have q8:up L 8=true:=(hd { on:=8,ground:=.guard } (by simp) rfl)
   have q10:up L 10=true:=hd { on:=10,ground:=.data } (by simp) rfl
   subst hW
   simp only[bstcMk,sld_yes q8,sld_yes q10]
   go_simp
   exact hK _ _ ⟨by simp only[bstcMk,sld_set hlt,sld_yes q8,sld_yes q10,reduceIte,Nat.reduceEqDiff];try rfl,rfl⟩
  ·change some _=some o at ho
   cases ho
   have q8:up L 8=true:=(hd { on:=8,ground:=.guard } (by simp) rfl)
   have q11:up L 11=true:=hd { on:=11,ground:=.data } (by simp) rfl
   subst hW
   simp only[bstcMk,sld_yes q8,sld_yes q11]
   go_simp
   exact hK _ _ ⟨by simp only[bstcMk,sld_set hlt,sld_yes q8,sld_yes q11,reduceIte,Nat.reduceEqDiff];try rfl,rfl⟩
  ·change some _=some o at ho
   cases ho
   have q8:up L 8=true:=(hd { on:=8,ground:=.guard } (by simp) rfl)
   subst hW
   simp only[bstcMk,sld_yes q8]
   go_simp
   exact hK _ _ ⟨by simp only[bstcMk,sld_set hlt,sld_yes q8,reduceIte,Nat.reduceEqDiff];try rfl,rfl⟩
  ·change some _=some o at ho
   cases ho
   have q8:up L 8=true:=(hd { on:=8,ground:=.guard } (by simp) rfl)
   have q13:up L 13=true:=hd { on:=13,ground:=.data } (by simp) rfl
   subst hW
   simp only[bstcMk,sld_yes q8,sld_yes q13]
   go_simp
   exact hK _ _ ⟨by simp only[bstcMk,sld_set hlt,sld_yes q8,sld_yes q13,reduceIte,Nat.reduceEqDiff];try rfl,rfl⟩
  ·change some _=some o at ho
   cases ho
   have q8:up L 8=true:=(hd { on:=8,ground:=.guard } (by simp) rfl)
   have q14:up L 14=true:=hd { on:=14,ground:=.data } (by simp) rfl
   subst hW
   simp only[bstcMk,sld_yes q8,sld_yes q14]
   go_simp
   exact hK _ _ ⟨by simp only[bstcMk,sld_set hlt,sld_yes q8,sld_yes q14,reduceIte,Nat.reduceEqDiff];try rfl,rfl⟩
  ·change some _=some o at ho
   cases ho
   have q8:up L 8=true:=(hd { on:=8,ground:=.guard } (by simp) rfl)
   have q15:up L 15=true:=hd { on:=15,ground:=.data } (by simp) rfl
   subst hW
   simp only[bstcMk,sld_yes q8,sld_yes q15]
   go_simp
   exact hK _ _ ⟨by simp only[bstcMk,sld_set hlt,sld_yes q8,sld_yes q15,reduceIte,Nat.reduceEqDiff];try rfl,rfl⟩
  ·change some _=some o at ho
   cases ho
   have q8:up L 8=true:=(hd { on:=8,ground:=.guard } (by simp) rfl)
   have q16:up L 16=true:=hd { on:=16,ground:=.data } (by simp) rfl
   subst hW
   simp only[bstcMk,sld_yes q8,sld_yes q16]
   go_simp
   exact hK _ _ ⟨by simp only[bstcMk,sld_set hlt,sld_yes q8,sld_yes q16,reduceIte,Nat.reduceEqDiff];try rfl,rfl⟩
  ·change some _=some o at ho
   cases ho
   have q8:up L 8=true:=(hd { on:=8,ground:=.guard } (by simp) rfl)
   have q17:up L 17=true:=hd { on:=17,ground:=.data } (by simp) rfl
   subst hW
   simp only[bstcMk,sld_yes q8,sld_yes q17]
   go_simp
   exact hK _ _ ⟨by simp only[bstcMk,sld_set hlt,sld_yes q8,sld_yes q17,reduceIte,Nat.reduceEqDiff];try rfl,rfl⟩
  ·change some _=some o at ho
   cases ho
   have q8:up L 8=true:=(hd { on:=8,ground:=.guard } (by simp) rfl)
   have q12:up L 12=true:=hd { on:=12,ground:=.data } (by simp) rfl
   have q18:up L 18=true:=hd { on:=18,ground:=.data } (by simp) rfl
   subst hW
   simp only[bstcMk,sld_yes q8,sld_yes q12,sld_yes q18]
   go_simp
   exact hK _ _ ⟨by simp only[bstcMk,sld_set hlt,sld_yes q8,sld_yes q12,sld_yes q18,reduceIte,Nat.reduceEqDiff];try rfl,rfl⟩
  ·change some _=some o at ho
   cases ho
   have q8:up L 8=true:=hd { on:=8,ground:=.data } (by simp) rfl
   have q19:up L 19=true:=hd { on:=19,ground:=.data } (by simp) rfl
   subst hW
   simp only[bstcMk,sld_yes q8,sld_yes q19]
   go_simp
   exact hK _ _ ⟨by simp only[bstcMk,sld_set hlt,sld_yes q8,sld_yes q19,reduceIte,Nat.reduceEqDiff];try rfl,rfl⟩
  ·change some _=some o at ho
   cases ho
   have q20:up L 20=true:=hd { on:=20,ground:=.data } (by simp) rfl
   subst hW
   simp only[bstcMk,sld_yes q20]
   go_simp
   refine (HZ.out _ _).mono ?_
   rintro e w3 ⟨rfl,rfl⟩
   go_simp
   exact hK _ _ ⟨by simp only[bstcMk,sld_set hlt,sld_yes q20,reduceIte,Nat.reduceEqDiff];try rfl,rfl⟩
  ·change some _=some o at ho
   cases ho
   have q21:up L 21=true:=hd { on:=21,ground:=.data } (by simp) rfl
   subst hW
   simp only[bstcMk,sld_yes q21]
   go_simp
   exact hK _ _ ⟨by simp only[bstcMk,sld_set hlt,sld_yes q21,reduceIte,Nat.reduceEqDiff];try rfl,rfl⟩
 case done=>
  rintro L a u ⟨rfl,hW⟩ hall
  simp only[bstcMk,sld_yes (hall 0 (by decide)),sld_yes (hall 1 (by decide)),sld_yes (hall 2 (by decide)),sld_yes (hall 3 (by decide)),sld_yes (hall 4 (by decide)),sld_yes (hall 5 (by decide)),sld_yes (hall 6 (by decide)),sld_yes (hall 7 (by decide)),sld_yes (hall 8 (by decide)),sld_yes (hall 9 (by decide)),sld_yes (hall 10 (by decide)),sld_yes (hall 11 (by decide)),sld_yes (hall 12 (by decide)),sld_yes (hall 13 (by decide)),sld_yes (hall 14 (by decide)),sld_yes (hall 15 (by decide)),sld_yes (hall 16 (by decide)),sld_yes (hall 17 (by decide)),sld_yes (hall 18 (by decide)),sld_yes (hall 19 (by decide)),sld_yes (hall 20 (by decide)),sld_yes (hall 21 (by decide)),sld_yes (hall 22 (by decide))]
  subst hW
  exact HKt.out
variable {lo:Nat} {xs:List Pl.Ln} {w u u':World} {ga gm:Nat} {a:Option Addr} {len cap:Nat} {stack:Int} {ec:Pl.Cur} {B:Nat} {mb:Nat->Nat} {d:Nat->Bool} {ad:Nat->Int}
theorem badStart_is (h:Amz lo xs w u ga gm a len cap stack B mb) (hT:0<=(Pl.cu xs len).t/\(Pl.cu xs len).t<=1099511627776):Calls Tryz.prog 36 #[.pointer (some ⟨ga,0,none⟩)] u fun e u'=>e=.returned (.int .i64 (Pl.stA xs))/\Below u.heap.size u u':=by
 have HXL:Hid (xs.length=len):=Aml.lenq h
 have m2:u.cell? ⟨ga,2,none⟩=some (.map (some gm)):=(Aml.am h).cell 2
 have HM4:Hid (u.cell? ⟨ga,4,none⟩=some (.int .i64 (Pl.cu xs len).t)):=(Aml.am h).cell 4
 have hlook:=Aml.look h (s:=Pl.startS) (by unfold Pl.startS maxLen;decide)
 have HB:Hid (Below u.heap.size u u.drew):=Below.drew (Below.refl _ _)
 have HH:Hid _:=h
 have HTT:Hid _:=hT
 clear h hT
 cases hl:Pl.lb xs Pl.startS with
 | none=>
  have HR:Hid (Pl.stA xs=0):=Pl.stA_none hl
  rw[hl]at hlook
  unfold Pl.startS at hlook
  clear hl
  go_enter Tryz.func36,Tryz.ntmps36
  go_upto_region 2 with fail
  refine bsta ga 0 0 0 true u rfl ?_
  clear m2 hlook
  go_wp2_with fail
  go_ret
  exact⟨ret_int HR.out.symm,HB.out⟩
 | some j=>
  have HR:Hid (Pl.stA xs=if (Pl.cu xs j).d=true\/(Pl.cu xs len).t<=(Pl.cu xs j).t then 0 else -1):=by show _=_;rw[Pl.stA_some hl,HXL.out]
  have HC:Hid _:=HH.out.mark hl
  rw[hl]at hlook
  unfold Pl.startS at hlook
  have HAT:Hid ((Pl.cu xs j).at=if (Pl.cu xs j).d then 1048576+(Pl.cu xs j).b else 65536+(Pl.cu xs j).t):=rfl
  clear hl
  go_enter Tryz.func36,Tryz.ntmps36
  go_upto_region 2 with fail
  cases hd:(Pl.cu xs j).d
  ·have HA2:Hid ((Pl.cu xs j).at=65536+(Pl.cu xs j).t):=by have:=HAT.out;rw[hd]at this;exact this
   refine bstc ga (mb j) (Pl.cu xs len).t (Pl.cu xs j).at _ u rfl (by rw[HC.out.2.1,hd]) HC.out.2.2 HM4.out HTT.out ?_
   have HR2:Hid (Pl.stA xs=if decide (65536+(Pl.cu xs len).t<=(Pl.cu xs j).at)=true then 0 else -1):=by
    show _=_
    rw[HR.out,HA2.out,hd]
    by_cases q:(Pl.cu xs len).t<=(Pl.cu xs j).t
    ·rw[if_pos (.inr q),if_pos (decide_eq_true (by omega))]
    ·rw[if_neg (fun c=>c.elim (by decide) q),if_neg (by rw[decide_eq_true_eq];omega)]
   generalize (if decide (65536+(Pl.cu xs len).t<=(Pl.cu xs j).at)=true then (0:Int) else -1)=z at *
   clear m2 hlook hd
   go_wp2_with fail
   go_ret
   exact⟨ret_int HR2.out.symm,HB.out⟩
  ·have HR2:Hid (Pl.stA xs=0):=by show _=_;rw[HR.out,if_pos (.inl hd)]
   refine bstb ga (mb j) 0 0 true u rfl (by rw[HC.out.2.1,hd]) ?_
   clear m2 hlook hd
   go_wp2_with fail
   go_ret
   exact⟨ret_int HR2.out.symm,HB.out⟩
end Go.Proofs.YtlbomnnldkeocaaGreat.W
