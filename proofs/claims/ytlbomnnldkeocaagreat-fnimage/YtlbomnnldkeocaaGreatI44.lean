import Derived.Test.YtlbomnnldkeocaaGreatI43
set_option linter.unusedVariables false
set_option linter.unusedSimpArgs false
set_option maxHeartbeats 16000000
namespace Go.Proofs.YtlbomnnldkeocaaGreat.Pl
def ND (xs:List Ln) (p:Nat):Nat:=if p=0 then 0 else (cZ xs xs.length).getD (p-1) 0
def dd (xs:List Ln) (p i:Nat):Bool:=decide (i∈(cZ xs xs.length).take p) && (cu xs i).d
def aa (xs:List Ln) (p i:Nat):Int:=if i∈(cZ xs xs.length).take p then (cu xs i).at else 0
theorem CV (xs:List Ln) (n i:Nat):i∈cZ xs n↔i<n/\(gl xs i).k=1:=by
 unfold cZ
 simp
theorem KT (xs:List Ln) (p:Nat) (hp:p<(cZ xs xs.length).length):(cZ xs xs.length).getD p 0<xs.length/\(gl xs ((cZ xs xs.length).getD p 0)).k=1:=by
 refine (CV xs xs.length _).1 ?_
 rw[List.getD_eq_getElem?_getD,List.getElem?_eq_getElem hp]
 exact List.getElem_mem _
theorem Ia (xs:List Ln) (p:Nat) (hp:p<(cZ xs xs.length).length):ND xs p<=(cZ xs xs.length).getD p 0:=by
 unfold ND
 split
 ·exact Nat.zero_le _
 ·have:=List.pairwise_iff_getElem.1 (rH xs xs.length) (p-1) p (by omega) hp (by omega)
  rw[List.getD_eq_getElem?_getD,List.getD_eq_getElem?_getD,List.getElem?_eq_getElem hp,List.getElem?_eq_getElem (by omega:p-1<_)]
  simp only[Option.getD_some]
  omega
theorem GU (xs:List Ln) (p:Nat):ND xs (p+1)=(cZ xs xs.length).getD p 0:=by simp[ND]
theorem ZU (xs:List Ln) (p:Nat) (hp:p<=(cZ xs xs.length).length):ND xs p<=xs.length:=by
 unfold ND
 split
 ·exact Nat.zero_le _
 ·exact Nat.le_of_lt (KT xs (p-1) (by omega)).1
theorem rD (xs:List Ln) (p j:Nat) (hp:p<(cZ xs xs.length).length):j∈(cZ xs xs.length).take (p+1)↔j=(cZ xs xs.length).getD p 0\/j∈(cZ xs xs.length).take p:=by
 rw[List.take_succ_eq_append_getElem hp,List.mem_append,List.mem_singleton,List.getD_eq_getElem?_getD,List.getElem?_eq_getElem hp]
 simp only[Option.getD_some]
 exact Or.comm
theorem ZV (xs:List Ln) (p j:Nat) (hp:p<(cZ xs xs.length).length):dd xs (p+1) j=if j=(cZ xs xs.length).getD p 0 then (cu xs ((cZ xs xs.length).getD p 0)).d else dd xs p j:=by
 unfold dd
 by_cases h:j=(cZ xs xs.length).getD p 0
 ·rw[if_pos h,decide_eq_true ((rD xs p j hp).2 (.inl h)),<- h];rfl
 ·rw[if_neg h]
  by_cases q:j∈(cZ xs xs.length).take p
  ·rw[decide_eq_true q,decide_eq_true ((rD xs p j hp).2 (.inr q))]
  ·rw[decide_eq_false q,decide_eq_false (fun c=>((rD xs p j hp).1 c).elim h q)]
theorem ZW (xs:List Ln) (p j:Nat) (hp:p<(cZ xs xs.length).length):aa xs (p+1) j=if j=(cZ xs xs.length).getD p 0 then (cu xs ((cZ xs xs.length).getD p 0)).at else aa xs p j:=by
 unfold aa
 by_cases h:j=(cZ xs xs.length).getD p 0
 ·rw[if_pos h,if_pos ((rD xs p j hp).2 (.inl h)),<- h]
 ·rw[if_neg h]
  by_cases q:j∈(cZ xs xs.length).take p
  ·rw[if_pos q,if_pos ((rD xs p j hp).2 (.inr q))]
  ·rw[if_neg q,if_neg (fun c=>((rD xs p j hp).1 c).elim h q)]
theorem Ib (xs:List Ln) (i:Nat) (hi:i<xs.length) (hk:(gl xs i).k=1):dd xs (cZ xs xs.length).length i=(cu xs i).d:=by
 unfold dd
 rw[List.take_length,decide_eq_true ((CV xs xs.length i).2 ⟨hi,hk⟩)]
 rfl
theorem Ic (xs:List Ln) (i:Nat) (hi:i<xs.length) (hk:(gl xs i).k=1):aa xs (cZ xs xs.length).length i=(cu xs i).at:=by
 unfold aa
 rw[List.take_length,if_pos ((CV xs xs.length i).2 ⟨hi,hk⟩)]
end Go.Proofs.YtlbomnnldkeocaaGreat.Pl
namespace Go.Proofs.YtlbomnnldkeocaaGreat.W
open Go.RowKit Go.Shelf Go.Maps Go.WideMaps Go.Sort
theorem OnlyC.put (l:Nat) (A:World) (o:Obj):OnlyC l A (A.putObj l o):=⟨rfl,rfl,rfl,by simp[World.putObj],fun k _ hn=>World.putObj_heap_other hn⟩
theorem bF.block {w w':World} {g:Nat} {c:Pl.kV} (h:bF w g c) (hb:w'.heap[g]?=w.heap[g]?) (hl:g<w'.heap.size):bF w' g c:=
 ⟨(World.cell?_of_block (a:=⟨g,0,none⟩) hb).trans h.d,(World.cell?_of_block (a:=⟨g,1,none⟩) hb).trans h.t,(World.cell?_of_block (a:=⟨g,2,none⟩) hb).trans h.b,fun j=>(World.frozen?_of_block (a:=⟨g,j,none⟩) hb).trans (h.fz j),hl,by obtain⟨cur,hr⟩:=h.row;exact⟨cur,hb.trans hr⟩⟩
variable {lo:Nat} {xs:List Pl.Ln} {w u u' A A':World} {ga gm:Nat} {a:Option Addr} {len cap:Nat} {stack:Int} {ec:Pl.kV} {B k U0 p:Nat} {mb:Nat->Nat} {d:Nat->Bool} {ad:Nat->Int}
theorem rX.block (h:rX xs B u gm k mb d ad) (D:Nat) (hb:∀ b,b<D->u'.heap[b]?=u.heap[b]?) (hg:gm<D) (hm:∀ i,i<k->(Pl.gl xs i).k=1->mb i<D):rX xs B u' gm k mb d ad:=by
 obtain⟨D0,h1,⟨es,cl,q1,q2⟩,h3,h5⟩:=h.map
 exact⟨⟨D0,h1,⟨es,cl,(hb _ hg).trans q1,q2⟩,h3,h5⟩,fun i hi hk=>⟨(h.yU i hi hk).1,(hb _ (hm i hi hk)).trans (h.yU i hi hk).2⟩⟩
theorem rX.congr (h:rX xs B u gm k mb d ad) {d':Nat->Bool} {Bw:Nat->Int} (hd:∀ i,i<k->(Pl.gl xs i).k=1->d' i=d i/\Bw i=ad i):rX xs B u gm k mb d' Bw:=
 ⟨h.map,fun i hi hk=>by rw[(hd i hi hk).1,(hd i hi hk).2];exact h.yU i hi hk⟩
theorem rX.Ie (h:rX xs B u gm k mb d ad) (i:Nat) (hi:i<k) (hk:(Pl.gl xs i).k=1):gm≠mb i:=fun e=>by
 obtain⟨D0,h1,⟨es,cl,q1,q2⟩,h3,h5⟩:=h.map
 have:=(h.yU i hi hk).2
 rw[<- e,q1]at this
 cases this
theorem rX.inj (h:rX xs B u gm k mb d ad) (i j:Nat) (hi:i<k) (hk:(Pl.gl xs i).k=1) (hj:j<k) (hkj:(Pl.gl xs j).k=1) (e:mb i=mb j):i=j:=by
 have h1:=(h.yU i hi hk).2
 rw[e,(h.yU j hj hkj).2]at h1
 simp at h1
 omega
theorem rX.Xy (h:rX xs B u gm k mb d ad) (i:Nat) (hi:i<k) (hk:(Pl.gl xs i).k=1) (x:Bool) (y:Int) :
  rX xs B ((u.setCell ⟨mb i,1,none⟩ (.bool x)).setCell ⟨mb i,2,none⟩ (.int .i64 y)) gm k mb (fun j=>if j=i then x else d j) (fun j=>if j=i then y else ad j):=by
 have ho:OnlyC (mb i) u ((u.setCell ⟨mb i,1,none⟩ (.bool x)).setCell ⟨mb i,2,none⟩ (.int .i64 y)):=(OnlyC.set _ _ _ _).trans (OnlyC.set _ _ _ _)
 obtain⟨D0,h1,h2,h3,h5⟩:=h.map
 refine⟨⟨D0,h1,h2.kept ho.grown (fun c=>h.Ie i hi hk (by injection c)),h3,h5⟩,fun j hj hkj=>⟨(h.yU j hj hkj).1,?_⟩⟩
 by_cases e:j=i
 ·subst e
  rw[if_pos rfl,if_pos rfl]
  have r1:=heap_setCell_same u (mb j) 1 _ _ (.bool x) (h.yU j hj hkj).2
  exact heap_setCell_same _ (mb j) 2 _ _ (.int .i64 y) r1
 ·rw[if_neg e,if_neg e]
  have r:=(h.yU j hj hkj).2
  exact (ho.block _ (Array.getElem?_eq_some_iff.1 r).1 (fun c=>e (h.inj j i hj hkj hi hk c))).trans r
structure J7 (xs:List Pl.Ln) (w:World) (ga gm len B U0:Nat) (mb:Nat->Nat):Prop where
 b:B<=U0
 ga:ga<U0
 gm:gm<U0
 mb:∀ i,i<len->(Pl.gl xs i).k=1->mb i<U0
 w:w.heap.size<=U0
structure GV (lo:Nat) (xs:List Pl.Ln) (w:World) (ga gm:Nat) (a:Option Addr) (len cap:Nat) (stack:Int) (ec:Pl.kV) (B:Nat) (mb:Nat->Nat) (u:World) (U0 p:Nat) (A:World):Prop where
 s:J7 xs w ga gm len B U0 mb
 bx:A.heap[U0]?=some (.cells #[.pointer (some ⟨ga,0,none⟩)] 112 (0,0))
 nx:A.heap[U0+2]?=some (.cells #[.int .i64 (Pl.ND xs p:Nat)] 3 (0,0))
 cu:bF A (U0+1) (Pl.cu xs (Pl.ND xs p))
 am:kH lo xs w A ga gm a len cap stack ec B mb (Pl.dd xs p) (Pl.aa xs p)
 fr:∀ b,b<B->A.heap[b]?=u.heap[b]?
theorem GV.sz (h:GV lo xs w ga gm a len cap stack ec B mb u U0 p A):U0+3<=A.heap.size:=by
 have:=(Array.getElem?_eq_some_iff.1 h.nx).1;omega
theorem GV.keep (h:GV lo xs w ga gm a len cap stack ec B mb u U0 p A) (hb:Below A.heap.size A A'):GV lo xs w ga gm a len cap stack ec B mb u U0 p A':=by
 have hz:=h.sz
 have h7:=h.s.b
 exact⟨h.s,(hb.block _ (by omega)).trans h.bx,(hb.block _ (by omega)).trans h.nx,h.cu.keep hb,h.am.keep hb,fun b hB=>(hb.block _ (by omega)).trans (h.fr b hB)⟩
theorem GV.only (h:GV lo xs w ga gm a len cap stack ec B mb u U0 p A) {g:Nat} (hb:OnlyC g A A') (hg:U0+3<=g):GV lo xs w ga gm a len cap stack ec B mb u U0 p A':=by
 have hz:=h.sz
 have h1:=h.s.ga
 have h2:=h.s.gm
 have h4:=h.s.w
 have h7:=h.s.b
 refine⟨h.s,(hb.block _ (by omega) (by omega)).trans h.bx,(hb.block _ (by omega) (by omega)).trans h.nx,h.cu.block (hb.block _ (by omega) (by omega)) (by have:=hb.size;omega),⟨h.am.am.only hb (by omega) (by omega),h.am.lm.only hb (by omega) (fun i hi hk=>by have:=h.s.mb i hi hk;omega),h.am.hB,h.am.vI,h.am.n⟩,fun b hB=>(hb.block _ (by omega) (by omega)).trans (h.fr b hB)⟩
theorem GV.step (h:GV lo xs w ga gm a len cap stack ec B mb u U0 p A) (hp:p<(Pl.cZ xs xs.length).length) (hb:OnlyC (U0+1) A A') (i:Nat) (hi:i=(Pl.cZ xs xs.length).getD p 0) (hc:bF A' (U0+1) (Pl.cu xs i)) :
  GV lo xs w ga gm a len cap stack ec B mb u U0 (p+1) (((A'.setCell ⟨mb i,1,none⟩ (.bool (Pl.cu xs i).d)).setCell ⟨mb i,2,none⟩ (.int .i64 (Pl.cu xs i).at)).setCell ⟨U0+2,0,none⟩ (.int .i64 (i:Nat)))
  /\∀ b,U0+3<=b->b<A.heap.size->(((A'.setCell ⟨mb i,1,none⟩ (.bool (Pl.cu xs i).d)).setCell ⟨mb i,2,none⟩ (.int .i64 (Pl.cu xs i).at)).setCell ⟨U0+2,0,none⟩ (.int .i64 (i:Nat))).heap[b]?=A.heap[b]?:=by
 have hz:=h.sz
 have h1:=h.s.ga
 have h2:=h.s.gm
 have h4:=h.s.w
 have h7:=h.s.b
 have hla:=Pl.KT xs p hp
 rw[<- hi]at hla
 rw[h.am.sD]at hla
 have h3:=h.s.mb i hla.1 hla.2
 have hBm:=(h.am.lm.yU i hla.1 hla.2).1
 have hgB:=h.am.vI
 have hwB:=h.am.hB
 have h5:=hb.size
 have ho:OnlyC (mb i) A' ((A'.setCell ⟨mb i,1,none⟩ (.bool (Pl.cu xs i).d)).setCell ⟨mb i,2,none⟩ (.int .i64 (Pl.cu xs i).at)):=(OnlyC.set _ _ _ _).trans (OnlyC.set _ _ _ _)
 have am1:xG lo xs w A' ga gm a len cap stack ec:=h.am.am.only hb (by omega) (by omega)
 have lm1:rX xs B A' gm len mb (Pl.dd xs p) (Pl.aa xs p):=h.am.lm.only hb (by omega) (fun i hi hk=>by have:=h.s.mb i hi hk;omega)
 have J8:=(lm1.Xy i hla.1 hla.2 (Pl.cu xs i).d (Pl.cu xs i).at).congr (d':=Pl.dd xs (p+1)) (Bw:=Pl.aa xs (p+1)) (fun j hj hkj=>by rw[Pl.ZV xs p j hp,Pl.ZW xs p j hp,<- hi];exact⟨rfl,rfl⟩)
 have J9:xG lo xs w _ ga gm a len cap stack ec:=am1.only ho (by omega) (by omega)
 have hs2:A'.heap.size<=_:=ho.size
 obtain⟨A2,hA2⟩:∃ A2,A2=(A'.setCell ⟨mb i,1,none⟩ (.bool (Pl.cu xs i).d)).setCell ⟨mb i,2,none⟩ (.int .i64 (Pl.cu xs i).at):=⟨_,rfl⟩
 rw[<- hA2]at ho J8 J9 hs2 ⊢
 have on:OnlyC (U0+2) A2 (A2.setCell ⟨U0+2,0,none⟩ (.int .i64 (i:Nat))):=OnlyC.set _ _ _ _
 have hs3:=on.size
 have bk:∀ b,b<A.heap.size->b≠U0+1->b≠mb i->b≠U0+2->(A2.setCell ⟨U0+2,0,none⟩ (.int .i64 (i:Nat))).heap[b]?=A.heap[b]?:=fun b q1 q2 q3 q4=>(on.block b (by omega) q4).trans ((ho.block b (by omega) q3).trans (hb.block b q1 q2))
 refine⟨⟨h.s,(bk _ (by omega) (by omega) (by omega) (by omega)).trans h.bx,?_,?_,⟨J9.only on (by omega) (by omega),J8.only on (by omega) (fun j hj hkj=>by have:=h.s.mb j hj hkj;omega),h.am.hB,h.am.vI,h.am.n⟩,fun b hB=>(bk b (by omega) (by omega) (by omega) (by omega)).trans (h.fr b hB)⟩,fun b q1 q2=>bk b q2 (by omega) (by omega) (by omega)⟩
 ·have r1:A2.heap[U0+2]?=some (.cells #[.int .i64 (Pl.ND xs p:Nat)] 3 (0,0)):=(ho.block _ (by omega) (by omega)).trans ((hb.block _ (by omega) (by omega)).trans h.nx)
  rw[Pl.GU,<- hi]
  exact heap_setCell_same A2 (U0+2) 0 _ _ (.int .i64 (i:Nat)) r1
 ·rw[Pl.GU,<- hi]
  exact (hc.block (ho.block _ (by omega) (by omega)) (by omega)).block (on.block _ (by omega) (by omega)) (by omega)
theorem kH.lbw (h:kH lo xs w u ga gm a len cap stack ec B mb d ad):Bu xs mb gm u:=by
 obtain⟨D,h1,h2,h3,h5⟩:=h.lm.map
 have hl:=h.sD
 have hn:=h.n
 refine⟨⟨len,D,⟨fun s=>?_,fun s=>?_⟩,Nat.le_trans h2.size_le hn,h2⟩,fun i hi=>(h.mark hi).1⟩
 ·rw[h3 s,<- hl,Pl.UB];rfl
 ·rw[h5 s,<- hl,Pl.UB]
attribute [local go_sem] Oper.semAt_some
variable {lo:Nat} {xs:List Pl.Ln} {w u:World} {ga gm:Nat} {a:Option Addr} {len cap:Nat} {stack:Int} {ec:Pl.kV} {B:Nat} {mb:Nat->Nat} {d:Nat->Bool} {ad:Nat->Int}
theorem xQ (k:Nat) (hk:k<xs.length) (hLn:∀ i,i<xs.length->Pl.sG (Pl.gl xs i)) (hn:xs.length<=20000) (g:Nat) (W:World) (h:bF W g (Pl.cu xs k)):Calls Tryz.prog 75 #[.pointer (some ⟨g,0,none⟩),.agg #[.int .i64 (Pl.gl xs k).k,.int .i64 (Pl.gl xs k).op,.int .i64 (Pl.gl xs k).rd,.int .i64 (Pl.gl xs k).r1,.int .i64 (Pl.gl xs k).r2,.int .i64 (Pl.gl xs k).im,.string (Pl.gl xs k).s,.int .i64 (Pl.gl xs k).n]] W fun e w'=>e=.returned (.tuple #[])/\bF w' g (Pl.cu xs (k+1))/\OnlyC g W w':=by
 rw[Pl.oK xs k hk]
 have hb:=Pl.jO xs hLn k (by omega)
 exact MO g _ _ W h (hLn k hk) ⟨by omega,by omega⟩ ⟨by omega,by omega⟩
theorem xG.Ig (h:xG lo xs w u ga gm a len cap stack ec) (c:Pl.kV):xG lo xs w (((u.setCell ⟨ga,3,none⟩ (.bool c.d)).setCell ⟨ga,4,none⟩ (.int .i64 c.t)).setCell ⟨ga,5,none⟩ (.int .i64 c.b)) ga gm a len cap stack c:=by
 have r1:=heap_setCell_same u ga 3 _ _ (.bool c.d) h.row
 have r2:=heap_setCell_same _ ga 4 _ _ (.int .i64 c.t) r1
 have r3:=heap_setCell_same _ ga 5 _ _ (.int .i64 c.b) r2
 exact⟨r3,((h.low.setCell (p:=⟨ga,3,none⟩) h.hga _).setCell (p:=⟨ga,4,none⟩) h.hga _).setCell (p:=⟨ga,5,none⟩) h.hga _,h.ln,h.hga,h.hgm,h.ne⟩
theorem kH.shb {u':World} {l:Nat} (h:kH lo xs w u ga gm a len cap stack ec B mb d ad) (hs:Nk l u u') (h1:ga<l) (h2:gm<l) (h3:∀ i,i<len->(Pl.gl xs i).k=1->mb i<l) (h4:w.heap.size<=l):kH lo xs w u' ga gm a len cap stack ec B mb d ad:=
 ⟨⟨(hs.block _ (.inl h1)).trans h.am.row,⟨hs.os.trans h.am.low.os,hs.tape.trans h.am.low.tape,hs.output.trans h.am.low.output,by rw[hs.size];exact h.am.low.size,fun b hb=>(hs.block b (.inl (by omega))).trans (h.am.low.block b hb)⟩,h.am.ln,h.am.hga,h.am.hgm,h.am.ne⟩,h.lm.block l (fun b hb=>hs.block b (.inl hb)) h2 h3,h.hB,h.vI,h.n⟩
set_option maxRecDepth 100000 in
theorem PT (h:kH lo xs w u ga gm a len cap stack ec B mb (fun _=>false) (fun _=>0)) (Ih:B<=u.heap.size) (wP:∀ i,i<xs.length->Pl.twice xs i=false) (hLn:∀ i,i<xs.length->Pl.sG (Pl.gl xs i)):Calls Tryz.prog 79 #[.pointer (some ⟨ga,0,none⟩)] u fun e u'=>e=.returned (.tuple #[])/\kH lo xs w u' ga gm a len cap stack (Pl.cu xs len) B mb (fun i=>(Pl.cu xs i).d) (fun i=>(Pl.cu xs i).at)/\(∀ b,b<B->b≠ga->u'.heap[b]?=u.heap[b]?)/\u.heap.size<=u'.heap.size:=by
 obtain⟨V,hV⟩:∃ V,V=((u.alloc (.cells #[.pointer (some ⟨ga,0,none⟩)] 112)).alloc (.cells #[.bool false,.int .i64 0,.int .i64 0] 69)).alloc (.cells #[.int .i64 0] 3):=⟨_,rfl⟩
 have Xz:V.heap.size=u.heap.size+3:=by rw[hV];simp
 have yZ:Below u.heap.size u V:=by rw[hV];exact (aB u _).trans (((aB _ _).mono (by simp)).trans ((aB _ _).mono (by simp;omega)))
 have Ya:=h.keep yZ
 have hm2:V.cell? ⟨ga,2,none⟩=some (.map (some gm)):=Ya.am.cell 2
 obtain⟨V2,hV2⟩:∃ V2,V2=(V.alloc (.cells #[.map (some gm)] 67)).alloc (.cells #[.func (.func 127) #[] #[]] 151):=⟨_,rfl⟩
 have Oc:V2.heap.size=u.heap.size+5:=by rw[hV2];simp;omega
 have Ii:Below V.heap.size V V2:=by rw[hV2];exact (aB V _).trans ((aB _ _).mono (by simp))
 have HZ2:Hid (V2.heap.size=u.heap.size+5):=Oc
 have VG:Hid (J7 xs w ga gm len B u.heap.size mb):=⟨Ih,h.am.lt,by obtain⟨D,_,h2,_⟩:=h.lm.map;exact h2.lt,fun i hi hk=>(Array.getElem?_eq_some_iff.1 (h.lm.yU i hi hk).2).1,h.am.low.size⟩
 have HI0:Hid (∀ A,Below V2.heap.size V2 A->GV lo xs w ga gm a len cap stack ec B mb u u.heap.size 0 A):=fun A hA=>by
  have Rf:Below V.heap.size V A:=Ii.trans (hA.mono (by omega))
  have Od:Below u.heap.size u A:=yZ.trans (Rf.mono (by omega))
  have r0:V.heap[u.heap.size]?=some (.cells #[.pointer (some ⟨ga,0,none⟩)] 112 (0,0)):=by
   rw[hV,Below.heap_alloc _ _ _ (by simp;omega),Below.heap_alloc _ _ _ (by simp)];exact heap_alloc_new u _
  have r1:V.heap[u.heap.size+1]?=some (.cells #[.bool false,.int .i64 0,.int .i64 0] 69 (0,0)):=by
   rw[hV,Below.heap_alloc _ _ _ (by simp)];exact bL (by simp)
  have r2:V.heap[u.heap.size+2]?=some (.cells #[.int .i64 0] 3 (0,0)):=by
   rw[hV];exact bL (by simp)
  have q1:=(Rf.block _ (by omega)).trans r1
  refine⟨VG.out,(Rf.block _ (by omega)).trans r0,(Rf.block _ (by omega)).trans r2,⟨cell_of_row _ _ 0 _ 69 (0,0) q1,cell_of_row _ _ 1 _ 69 (0,0) q1,cell_of_row _ _ 2 _ 69 (0,0) q1,fun j=>frozen_of_row _ _ j _ 69 q1,(Array.getElem?_eq_some_iff.1 q1).1,⟨_,q1⟩⟩,?_,fun b hb=>Od.block b (by omega)⟩
  have k:=h.keep Od
  exact⟨k.am,k.lm.congr (fun i hi hk=>by simp[Pl.dd,Pl.aa]),k.hB,k.vI,k.n⟩
 have HL2:Hid (Bu xs mb gm V2):=Ya.lbw.keep Ii
 have HM:Hid (V2.cell? ⟨u.heap.size+3,0,none⟩=some (.map (some gm))/\V2.cell? ⟨u.heap.size+4,0,none⟩=some (.func (.func 127) #[] #[])):=by
  refine⟨?_,?_⟩
  ·refine cell_of_row _ _ 0 #[.map (some gm)] 67 (0,0) ?_
   rw[hV2,Below.heap_alloc _ _ _ (by simp;omega)];exact bL (by omega)
  ·refine cell_of_row _ _ 0 #[.func (.func 127) #[] #[]] 151 (0,0) ?_
   rw[hV2];exact bL (by simp;omega)
 have aX:Hid (xs.length=len/\len<=20000/\jE lo w a len cap xs):=⟨h.sD,h.n,h.am.ln⟩
 have Yb:Hid _:=hLn
 have Kh:Hid (∀ V',V'=V->(V'.alloc (.cells #[.map (some gm)] 67)).alloc (.cells #[.func (.func 127) #[] #[]] 151)=V2):=fun V' e=>by rw[e,hV2]
 have K3:Hid (((u.alloc (.cells #[.pointer (some ⟨ga,0,none⟩)] 112)).alloc (.cells #[.bool false,.int .i64 0,.int .i64 0] 69)).alloc (.cells #[.int .i64 0] 3)=V):=hV.symm
 have HZV:Hid (V.heap.size=u.heap.size+3):=Xz
 have Oe:=hm2
 rw[hV]at Oe
 clear hV h hV2 Xz Oc yZ Ii Ya hm2 hLn
 refine (callsIn_wide (n:=4)).1 ?_
 refine callsIn_of_wp_marks Tryz.func79 rfl trivial ?_ rfl
 simp only[Tryz.ntmps79,List.size_toArray,List.length_cons,List.length_nil,Nat.reduceAdd,Nat.reduceSub,Array.replicate_succ,Array.replicate_zero,List.push_toArray,List.append_toArray,List.nil_append,List.cons_append]
 gi_wp2_with (refine⟨trivial,?_⟩; rw[K3.out];refine (callsIn_wide.2 (KS gm V)).mono ?_;rintro e u1 ⟨rfl,rfl⟩; rw[Kh.out V rfl,HZV.out])
 clear Oe Kh K3
 refine Hz 4 (u.heap.size+3) (u.heap.size+4) gm (by decide) rfl rfl xs (by rw[aX.out.1];exact aX.out.2.1) mb wP HL2.out HM.out.1 HM.out.2 (fun p A=>GV lo xs w ga gm a len cap stack ec B mb u u.heap.size p A) ?Hq ?h0 ?ZN (fun q A a' A'=>a' = { tmps:=#[.pointer (some ⟨ga,0,none⟩),.pointer (some ⟨u.heap.size,0,none⟩),.pointer (some ⟨u.heap.size+1,0,none⟩),.pointer (some ⟨u.heap.size+2,0,none⟩),.pointer (some ⟨mb q,0,none⟩),undef,undef,undef,undef,.agg #[.bool false,.int .i64 0,.int .i64 0],.pointer (some ⟨ga,0,none⟩),.pointer (some ⟨ga,0,none⟩),.pointer (some ⟨ga,2,none⟩),.map (some gm),.func (.func 129) #[] #[.pointer (some ⟨u.heap.size+3,0,none⟩),.pointer (some ⟨u.heap.size+4,0,none⟩)],.pointer (some ⟨mb q,0,none⟩),undef,undef,undef,undef,undef,undef,undef,undef,undef,undef,undef,undef,undef,undef,undef,undef,undef,undef,undef,undef,undef,undef,undef,undef,undef,undef,undef,undef,undef,undef,undef,undef,undef,undef,undef,undef,undef,undef,undef,undef,undef,undef,undef,undef,undef,undef,undef,undef,undef],defers:=[] }) ?hassign ?hbody ?hdone
 case Hq=>intro p A A' hI hb;exact hI.keep hb
 case h0=>intro A hA;exact HI0.out A hA
 case ZN=>intro p A l o o' hI h1 h2 h3 h4;exact hI.only (OnlyC.put l A o) (by have:=HZ2.out;omega)
 case hassign=>
  intro r q A K hK
  unfold pR
  gi_wp2
  exact hK _ _ rfl rfl
 case hbody=>
  rintro rl p A a' o hp hr1 hr2 hI hz hbk rfl
  obtain⟨U,hU⟩:∃ U,U=A.putObj rl o:=⟨_,rfl⟩
  have Ij:GV lo xs w ga gm a len cap stack ec B mb u u.heap.size p U:=by rw[hU];exact hI.only (OnlyC.put rl A o) (by have:=HZ2.out;omega)
  rw[<- hU]
  clear hU hI hbk hr1 hr2 hz HI0 HL2 HM
  have hla:=Pl.KT xs p hp
  have hni:=Pl.Ia xs p hp
  obtain⟨i,hi⟩:∃ i,i=(Pl.cZ xs xs.length).getD p 0:=⟨_,rfl⟩
  rw[<- hi]at hla hni ⊢
  have hil:i<len:=by rw[<- aX.out.1];exact hla.1
  have Ik:=aX.out.2.1
  obtain⟨n,hn⟩:∃ n,n=Pl.ND xs p:=⟨_,rfl⟩
  have m3:U.cell? ⟨u.heap.size+2,0,none⟩=some (.int .i64 (n:Nat)):=by rw[hn];exact cell_of_row _ _ 0 _ 3 (0,0) Ij.nx
  have Og:Hid (bF U (u.heap.size+1) (Pl.cu xs (n+0))):=by rw[hn];exact Ij.cu
  rw[<- hn]at hni
  have m1:U.cell? ⟨u.heap.size,0,none⟩=some (.pointer (some ⟨ga,0,none⟩)):=cell_of_row _ _ 0 _ 112 (0,0) Ij.bx
  have m2:U.cell? ⟨ga,0,none⟩=some (.slice a len cap):=Ij.am.am.cell 0
  have hrw:=(Ij.am.lm.yU i hil hla.2).2
  have m4:U.cell? ⟨mb i,0,none⟩=some (.int .i64 (i:Nat)):=cell_of_row _ _ 0 _ 117 (0,0) hrw
  obtain⟨a2,y2,hs2,hrow2⟩:=aX.out.2.2.part n i hni (by omega)
  obtain⟨k,hk⟩:∃ k,k=i-n:=⟨_,rfl⟩
  have hcap:len<=cap:=aX.out.2.2.2.1
  have hsl:∀ v:World,(Instr.slice 23 (.slice a len cap) (some (.int .i64 (n:Nat))) (some (.int .i64 (i:Nat))) none).run Tryz.prog v=.ok (.slice a2 k y2) v:=fun v=>by rw[UF a len cap n i hni (by omega) v,hs2,hk]
  rw[<- hk]at hrow2
  have HR2:Hid (jE lo w a2 k y2 ((xs.drop n).take k)):=hrow2
  have Yc:Hid (∀ j,j<k->Pl.gl ((xs.drop n).take k) j=Pl.gl xs (n+j)):=fun j hj=>by rw[hk]at hj ⊢; exact NC xs n i j hj
  have Kj:Hid (GV lo xs w ga gm a len cap stack ec B mb u u.heap.size p U):=Ij
  have ZX:Hid (i=(Pl.cZ xs xs.length).getD p 0/\n=Pl.ND xs p/\k=i-n/\n<=i/\p<(Pl.cZ xs xs.length).length/\(Pl.gl xs i).k=1/\i<xs.length):=⟨hi,hn,hk,hni,hp,hla.2,hla.1⟩
  have Yd:k<=20000:=by omega
  have aAd:i<=20000:=by omega
  have Ye:n<=20000:=by omega
  clear Ij hrw hs2 hrow2 hi hn hk hp hla hni hcap wP hil Ik Ih
  gi_wp2
  refine Xx ga u.heap.size (u.heap.size+2) (mb i) n i k y2 len cap rl _ a a2 U m1 m2 m3 m4 hsl (by decide) ?_
  have HD0:Hid (OnlyC (u.heap.size+1) U U.drew/\bF U.drew (u.heap.size+1) (Pl.cu xs (n+0))):=⟨OnlyC.of (Below.drew (Below.refl _ _)),Og.out.keep (Below.drew (Below.refl _ _))⟩
  clear m1 m2 m3 m4 hsl Og
  gi_wp2
  gi_loopw [27] (fun v wr=>∃ j:Nat,j<=k/\v=.int .i64 (j:Nat)/\Hid (OnlyC (u.heap.size+1) U wr/\bF wr (u.heap.size+1) (Pl.cu xs (n+j)))) (fun v _=>k-(intOf v).toNat)
  case atStart=>exact⟨0,Nat.zero_le _,rfl,HD0.out⟩
  case round=>
   obtain⟨j,hj,rfl,HW⟩:=hrel
   by_cases hlt:j<k
   ·have hii:(j:Int)<(k:Int):=by omega
    have hbw:Below w.heap.size w wr:=Kj.out.am.am.low.trans (HW.out.1.low (by have:=VG.out.w;omega) Kj.out.am.am.low.size)
    obtain⟨b,off,ha2,hlo,hb1,hsz,c0,c1,c2,c3,c4,c5,c6,c7⟩:=(HR2.out.keep hbw).at j hlt
    rw[Yc.out j hlt]at hsz c0 c1 c2 c3 c4 c5 c6 c7
    subst ha2
    have KU:Hid (∀ W,bF W (u.heap.size+1) (Pl.cu xs (n+j))->Calls Tryz.prog 75 #[.pointer (some ⟨u.heap.size+1,0,none⟩),.agg #[.int .i64 (Pl.gl xs (n+j)).k,.int .i64 (Pl.gl xs (n+j)).op,.int .i64 (Pl.gl xs (n+j)).rd,.int .i64 (Pl.gl xs (n+j)).r1,.int .i64 (Pl.gl xs (n+j)).r2,.int .i64 (Pl.gl xs (n+j)).im,.string (Pl.gl xs (n+j)).s,.int .i64 (Pl.gl xs (n+j)).n]] W fun e w'=>e=.returned (.tuple #[])/\bF w' (u.heap.size+1) (Pl.cu xs (n+j+1))/\OnlyC (u.heap.size+1) W w'):=fun W hW=>xQ (n+j) (by have:=ZX.out;omega) Yb.out (by rw[aX.out.1];exact aX.out.2.1) _ W hW
    clear hbw
    generalize Pl.gl xs (n+j)=x at *
    gi_wp2_with (refine⟨trivial,?_⟩; refine (CallsIn.inRound rl (callsIn_wide.2 (KU.out _ (HW.out.2.keep (aB _ _))))).mono ?_;rintro e u1 ⟨rfl,hc,ho⟩; have HN:Hid (OnlyC (u.heap.size+1) U u1/\bF u1 (u.heap.size+1) (Pl.cu xs (n+(j+1)))):=⟨HW.out.1.trans ((OnlyC.of (aB _ _)).trans ho),hc⟩; clear hc ho)
    go_roundw
    case rel=>exact⟨j+1,by omega,by go_num,HN.out⟩
    case measure=>simp[intOf];omega
   ·have hii:¬ ((j:Int)<(k:Int)):=by omega
    have hjk:n+j=i:=by have:=ZX.out;omega
    have HW2:Hid (OnlyC (u.heap.size+1) U wr/\bF wr (u.heap.size+1) (Pl.cu xs i)):=by rw[<- hjk];exact HW.out
    clear HW hjk
    have hcd:=HW2.out.2.d
    have hmu:=VG.out.mb i (by have:=ZX.out;have:=aX.out.1;omega) ZX.out.2.2.2.2.2.1
    have hne:mb i≠u.heap.size+1:=by omega
    have hrow:wr.heap[mb i]?=some (.cells #[.int .i64 (i:Nat),.bool (Pl.dd xs p i),.int .i64 (Pl.aa xs p i)] 117 (0,0)):=by
     have hr:=(Kj.out.am.lm.yU i (by have:=ZX.out;have:=aX.out.1;omega) ZX.out.2.2.2.2.2.1).2
     exact (HW2.out.1.block _ (Array.getElem?_eq_some_iff.1 hr).1 hne).trans hr
    have e0:wr.cell? ⟨mb i,0,none⟩=some (.int .i64 (i:Nat)):=cell_of_row _ _ 0 _ 117 (0,0) hrow
    have e1:wr.cell? ⟨mb i,1,none⟩=some (.bool (Pl.dd xs p i)):=cell_of_row _ _ 1 _ 117 (0,0) hrow
    have e2:wr.cell? ⟨mb i,2,none⟩=some (.int .i64 (Pl.aa xs p i)):=cell_of_row _ _ 2 _ 117 (0,0) hrow
    have ef:∀ t,wr.frozen? ⟨mb i,t,none⟩=false:=fun t=>frozen_of_row _ _ t _ 117 hrow
    have hrn:wr.heap[u.heap.size+2]?=some (.cells #[.int .i64 (Pl.ND xs p:Nat)] 3 (0,0)):=(HW2.out.1.block _ (by have:=Kj.out.sz;omega) (by omega)).trans Kj.out.nx
    have e3:wr.cell? ⟨u.heap.size+2,0,none⟩=some (.int .i64 (Pl.ND xs p:Nat)):=cell_of_row _ _ 0 _ 3 (0,0) hrn
    have ef3:wr.frozen? ⟨u.heap.size+2,0,none⟩=false:=frozen_of_row _ _ 0 _ 3 hrn
    have hn2:mb i≠u.heap.size+2:=by omega
    have HAD:Hid (∀ W,bF W (u.heap.size+1) (Pl.cu xs i)->Calls Tryz.prog 83 #[.pointer (some ⟨u.heap.size+1,0,none⟩)] W fun e w'=>e=.returned (.int .i64 (Pl.cu xs i).at)/\w'=W):=fun W hW=>uR _ _ W hW (by have hi:=ZX.out;have hl:=aX.out;have hb:=Pl.jO xs Yb.out i (by omega);omega)
    have HCs:Hid (bF (wr.setCell ⟨mb i,1,none⟩ (.bool (Pl.cu xs i).d)) (u.heap.size+1) (Pl.cu xs i)):=HW2.out.2.block (Below.heap_setCell wr ⟨mb i,1,none⟩ _ _ (Ne.symm hne)) (Nat.lt_of_lt_of_le HW2.out.2.lt (OnlyC.set _ _ _ _).size)
    have HST:=GV.step Kj.out ZX.out.2.2.2.2.1 HW2.out.1 i ZX.out.1 HW2.out.2
    have HS2:Hid _:=HST
    clear hrow hrn HST hmu
    gi_wp2_with (refine⟨trivial,?_⟩; refine (CallsIn.inRound rl (callsIn_wide.2 (HAD.out _ HCs.out))).mono ?_;rintro e u1 ⟨rfl,rfl⟩)
    refine⟨fun b q1 q2=>HS2.out.2 b (by have:=HZ2.out;omega) q2,HS2.out.1,?_⟩
    exact Nat.le_trans HW2.out.1.size (Nat.le_trans (OnlyC.set _ _ _ _).size (Nat.le_trans (OnlyC.set _ _ _ _).size (OnlyC.set _ _ _ _).size))
 case hdone=>
  rintro A hI Nq
  have Ik:=aX.out.2.1
  obtain⟨n,hn⟩:∃ n,n=Pl.ND xs (Pl.cZ xs xs.length).length:=⟨_,rfl⟩
  have hnl:n<=len:=by rw[hn,<- aX.out.1];exact Pl.ZU xs _ (Nat.le_refl _)
  have m3:A.cell? ⟨u.heap.size+2,0,none⟩=some (.int .i64 (n:Nat)):=by rw[hn];exact cell_of_row _ _ 0 _ 3 (0,0) hI.nx
  have Og:Hid (bF A (u.heap.size+1) (Pl.cu xs (n+0))):=by rw[hn];exact hI.cu
  have m1:A.cell? ⟨u.heap.size,0,none⟩=some (.pointer (some ⟨ga,0,none⟩)):=cell_of_row _ _ 0 _ 112 (0,0) hI.bx
  have m2:A.cell? ⟨ga,0,none⟩=some (.slice a len cap):=hI.am.am.cell 0
  obtain⟨a2,y2,hs2,hrow2⟩:=aX.out.2.2.part n len hnl (Nat.le_refl _)
  obtain⟨k,hk⟩:∃ k,k=len-n:=⟨_,rfl⟩
  have hsl:∀ v:World,(Instr.slice 23 (.slice a len cap) (some (.int .i64 (n:Nat))) none none).run Tryz.prog v=.ok (.slice a2 k y2) v:=fun v=>by rw[ZR a len cap n hnl v,hs2,hk]
  rw[<- hk]at hrow2
  have HR2:Hid (jE lo w a2 k y2 ((xs.drop n).take k)):=hrow2
  have Yc:Hid (∀ j,j<k->Pl.gl ((xs.drop n).take k) j=Pl.gl xs (n+j)):=fun j hj=>by rw[hk]at hj ⊢; exact NC xs n len j hj
  have HI:Hid (GV lo xs w ga gm a len cap stack ec B mb u u.heap.size (Pl.cZ xs xs.length).length A):=hI
  have Qv:Hid (k=len-n/\n<=len):=⟨hk,hnl⟩
  have Rb:Hid (A.heap[V2.heap.size]?=some (.deferred (some []))):=Nq
  have Yd:k<=20000:=by omega
  have Ye:n<=20000:=by omega
  clear hI hs2 hrow2 hn hk hnl wP Ik Ih Nq HI0 HL2 HM
  gi_wp2
  refine Ob ga u.heap.size (u.heap.size+2) n k y2 len cap _ a a2 _ A m1 m2 m3 hsl (by decide) ?_
  have HD0:Hid (OnlyC (u.heap.size+1) A A.drew/\bF A.drew (u.heap.size+1) (Pl.cu xs (n+0))):=⟨OnlyC.of (Below.drew (Below.refl _ _)),Og.out.keep (Below.drew (Below.refl _ _))⟩
  clear m1 m2 m3 hsl Og
  gi_wp2
  gi_loopw [54] (fun v wr=>∃ j:Nat,j<=k/\v=.int .i64 (j:Nat)/\Hid (OnlyC (u.heap.size+1) A wr/\bF wr (u.heap.size+1) (Pl.cu xs (n+j)))) (fun v _=>k-(intOf v).toNat)
  case atStart=>exact⟨0,Nat.zero_le _,rfl,HD0.out⟩
  case round=>
   obtain⟨j,hj,rfl,HW⟩:=hrel
   by_cases hlt:j<k
   ·have hii:(j:Int)<(k:Int):=by omega
    have hbw:Below w.heap.size w wr:=HI.out.am.am.low.trans (HW.out.1.low (by have:=VG.out.w;omega) HI.out.am.am.low.size)
    obtain⟨b,off,ha2,hlo,hb1,hsz,c0,c1,c2,c3,c4,c5,c6,c7⟩:=(HR2.out.keep hbw).at j hlt
    rw[Yc.out j hlt]at hsz c0 c1 c2 c3 c4 c5 c6 c7
    subst ha2
    have KU:Hid (∀ W,bF W (u.heap.size+1) (Pl.cu xs (n+j))->Calls Tryz.prog 75 #[.pointer (some ⟨u.heap.size+1,0,none⟩),.agg #[.int .i64 (Pl.gl xs (n+j)).k,.int .i64 (Pl.gl xs (n+j)).op,.int .i64 (Pl.gl xs (n+j)).rd,.int .i64 (Pl.gl xs (n+j)).r1,.int .i64 (Pl.gl xs (n+j)).r2,.int .i64 (Pl.gl xs (n+j)).im,.string (Pl.gl xs (n+j)).s,.int .i64 (Pl.gl xs (n+j)).n]] W fun e w'=>e=.returned (.tuple #[])/\bF w' (u.heap.size+1) (Pl.cu xs (n+j+1))/\OnlyC (u.heap.size+1) W w'):=fun W hW=>xQ (n+j) (by have:=Qv.out;have:=aX.out.1;omega) Yb.out (by rw[aX.out.1];exact aX.out.2.1) _ W hW
    clear hbw
    generalize Pl.gl xs (n+j)=x at *
    gi_wp2_with (refine⟨trivial,?_⟩; refine (callsIn_wide.2 (KU.out _ (HW.out.2.keep (aB _ _)))).mono ?_;rintro e u1 ⟨rfl,hc,ho⟩; have HN:Hid (OnlyC (u.heap.size+1) A u1/\bF u1 (u.heap.size+1) (Pl.cu xs (n+(j+1)))):=⟨HW.out.1.trans ((OnlyC.of (aB _ _)).trans ho),hc⟩; clear hc ho)
    go_roundw
    case rel=>exact⟨j+1,by omega,by go_num,HN.out⟩
    case measure=>simp[intOf];omega
   ·have hii:¬ ((j:Int)<(k:Int)):=by omega
    have hjk:n+j=len:=by have:=Qv.out;omega
    have HW2:Hid (OnlyC (u.heap.size+1) A wr/\bF wr (u.heap.size+1) (Pl.cu xs len)):=by rw[<- hjk];exact HW.out
    clear HW hjk
    have hcd:=HW2.out.2.d
    have hct:=HW2.out.2.t
    have hcb:=HW2.out.2.b
    have hga:=VG.out.ga
    have hgm:=VG.out.gm
    have hws:=VG.out.w
    have ZY:Hid (xG lo xs w wr ga gm a len cap stack ec):=HI.out.am.am.only HW2.out.1 (by omega) (by omega)
    have K4:Hid (rX xs B wr gm len mb (fun i=>(Pl.cu xs i).d) (fun i=>(Pl.cu xs i).at)):=(HI.out.am.lm.only HW2.out.1 (by omega) (fun i hi hk=>by have:=VG.out.mb i hi hk;omega)).congr (fun i hi hk=>by rw[<- aX.out.1]at hi;exact⟨(Pl.Ib xs i hi hk).symm,(Pl.Ic xs i hi hk).symm⟩)
    have e3:=ZY.out.cell 3
    have e4:=ZY.out.cell 4
    have e5:=ZY.out.cell 5
    simp only[List.getElem?_toArray,List.getElem?_cons_succ,List.getElem?_cons_zero]at e3 e4 e5
    have ef:=ZY.out.fz
    have m1:wr.cell? ⟨u.heap.size,0,none⟩=some (.pointer (some ⟨ga,0,none⟩)):=(World.cell?_of_block (a:=⟨u.heap.size,0,none⟩) (HW2.out.1.block _ (by have:=HI.out.sz;show u.heap.size<_;omega) (by show u.heap.size≠u.heap.size+1;omega))).trans (cell_of_row _ _ 0 _ 112 (0,0) HI.out.bx)
    have K5:Hid (wr.heap[V2.heap.size]?=some (.deferred (some []))):=(HW2.out.1.block _ (Array.getElem?_eq_some_iff.1 Rb.out).1 (by have:=HZ2.out;omega)).trans Rb.out
    gi_wp2
    have hA2:=ZY.out.Ig (Pl.cu xs len)
    have hL2:=K4.out.only (((OnlyC.set ga 3 wr (.bool (Pl.cu xs len).d)).trans (OnlyC.set ga 4 _ (.int .i64 (Pl.cu xs len).t))).trans (OnlyC.set ga 5 _ (.int .i64 (Pl.cu xs len).b))) (fun e=>ZY.out.ne e.symm) (fun i hi hk=>by have:=(K4.out.yU i hi hk).1;have:=HI.out.am.vI;omega)
    have hon:OnlyC ga wr _:=((OnlyC.set ga 3 wr (.bool (Pl.cu xs len).d)).trans (OnlyC.set ga 4 _ (.int .i64 (Pl.cu xs len).t))).trans (OnlyC.set ga 5 _ (.int .i64 (Pl.cu xs len).b))
    refine CU (lo:=V2.heap.size) [V2.heap.size] _ (by simp) (fun D hD=>?_) fun w' hs=>?_
    ·rw[List.mem_singleton]at hD;subst hD
     exact⟨Nat.le_refl _,(hon.block _ (Array.getElem?_eq_some_iff.1 K5.out).1 (by have:=HZ2.out;omega)).trans K5.out⟩
    ·have hz2:=HZ2.out
     have hsz:=HI.out.sz
     have Ih:=VG.out.b
     have hwz:=HW2.out.1.size
     have hoz:=hon.size
     refine⟨_,results_none rfl _ _ _,rfl,kH.shb ⟨hA2,hL2,HI.out.am.hB,HI.out.am.vI,HI.out.am.n⟩ hs (by omega) (by omega) (fun i hi hk=>by have:=VG.out.mb i hi hk;omega) (by omega),fun b hb hbg=>?_,?_⟩
     ·exact (hs.block b (.inl (by omega))).trans ((hon.block b (by omega) hbg).trans ((HW2.out.1.block b (by omega) (by omega)).trans (HI.out.fr b hb)))
     ·rw[hs.size];omega
end Go.Proofs.YtlbomnnldkeocaaGreat.W
namespace Go.Proofs.YtlbomnnldkeocaaGreat.Pl
def CW (xs:List Ln):Int:=if (cu xs xs.length).t=0\/65536<(cu xs xs.length).t then 0 else -1
def stA (xs:List Ln):Int:=match lb xs dB with | none=>0 | some j=>if (cu xs j).d=true\/(cu xs xs.length).t<=(cu xs j).t then 0 else -1
theorem zB {xs:List Ln} (h:lb xs dB=none):stA xs=0:=by unfold stA;rw[h]
theorem vL {xs:List Ln} {j:Nat} (h:lb xs dB=some j):stA xs=if (cu xs j).d=true\/(cu xs xs.length).t<=(cu xs j).t then 0 else -1:=by unfold stA;rw[h]
end Go.Proofs.YtlbomnnldkeocaaGreat.Pl
namespace Go.Proofs.YtlbomnnldkeocaaGreat.W
open Go.RowKit Go.Shelf Go.Maps Go.WideMaps Go.Sort
variable {lo:Nat} {xs:List Pl.Ln} {w u u':World} {ga gm:Nat} {a:Option Addr} {len cap:Nat} {stack:Int} {ec:Pl.kV} {B:Nat} {mb:Nat->Nat} {d:Nat->Bool} {ad:Nat->Int}
def sZ (lo:Nat) (xs:List Pl.Ln) (w u:World) (ga gm:Nat) (a:Option Addr) (len cap:Nat) (stack:Int) (B:Nat) (mb:Nat->Nat):Prop:=kH lo xs w u ga gm a len cap stack (Pl.cu xs len) B mb (fun i=>(Pl.cu xs i).d) (fun i=>(Pl.cu xs i).at)
theorem sZ.keep (h:sZ lo xs w u ga gm a len cap stack B mb) (hb:Below u.heap.size u u'):sZ lo xs w u' ga gm a len cap stack B mb:=kH.keep h hb
theorem sZ.mark (h:sZ lo xs w u ga gm a len cap stack B mb) {s:ByteArray} {i:Nat} (hl:Pl.lb xs s=some i):u.cell? ⟨mb i,0,none⟩=some (.int .i64 (i:Nat))/\u.cell? ⟨mb i,1,none⟩=some (.bool (Pl.cu xs i).d)/\u.cell? ⟨mb i,2,none⟩=some (.int .i64 (Pl.cu xs i).at):=kH.mark h hl
theorem KV (h:kH lo xs w u ga gm a len cap stack ec B mb (fun _=>false) (fun _=>0)) (Ih:B<=u.heap.size) (wP:∀ i,i<xs.length->Pl.twice xs i=false) (hLn:∀ i,i<xs.length->Pl.sG (Pl.gl xs i)):Calls Tryz.prog 33 #[.pointer (some ⟨ga,0,none⟩)] u fun e u'=>e=.returned (.int .i64 (Pl.CW xs))/\sZ lo xs w u' ga gm a len cap stack B mb/\(∀ b,b<B->b≠ga->u'.heap[b]?=u.heap[b]?)/\u.heap.size<=u'.heap.size:=by
 have HL:Hid (Calls Tryz.prog 79 #[.pointer (some ⟨ga,0,none⟩)] u fun e u'=>e=.returned (.tuple #[])/\sZ lo xs w u' ga gm a len cap stack B mb/\(∀ b,b<B->b≠ga->u'.heap[b]?=u.heap[b]?)/\u.heap.size<=u'.heap.size):=PT h Ih wP hLn
 have HZ:Hid (∀ (b:Bool) (u:World),Calls Tryz.prog 80 #[.bool b] u fun e w'=>e=.returned (.int .i64 (if b then 0 else -1))/\w'=u):=pE
 have lM:Hid (xs.length=len):=h.sD
 have Bz:Hid (Pl.CW xs=if (Pl.cu xs len).t=0\/65536<(Pl.cu xs len).t then 0 else -1):=by show _=_;unfold Pl.CW;rw[lM.out]
 clear h Ih wP hLn
 obtain⟨T,hT⟩:∃ T,T=(Pl.cu xs len).t:=⟨_,rfl⟩
 rw[<- hT]at Bz
 have HT:Hid (T=(Pl.cu xs len).t):=hT
 clear hT
 by_cases q0:T=0
 ·have HR:Hid (Pl.CW xs=0):=by show _=_;rw[Bz.out,if_pos (.inl q0)]
  have HT:Hid (0=(Pl.cu xs len).t):=by show _=_;rw[<- HT.out,q0]
  clear q0
  go_enter Tryz.func33,Tryz.ntmps33
  go_wp2_with (first | (go_at_call 79;refine Calls.mono HL.out ?_;rintro e u1 ⟨rfl,ha,hf,hs⟩; have m4:u1.cell? ⟨ga,4,none⟩=some (.int .i64 0):=by { rw[HT.out];exact kH.am ha |>.cell 4 }; have HF:Hid (sZ lo xs w u1 ga gm a len cap stack B mb/\(∀ b,b<B->b≠ga->u1.heap[b]?=u.heap[b]?)/\u.heap.size<=u1.heap.size):=⟨ha,hf,hs⟩; clear ha hf hs) | (go_at_call 80;refine (HZ.out _ _).mono ?_;rintro e u2 ⟨rfl,rfl⟩))
  go_ret
  exact⟨aO HR.out.symm,HF.out⟩
 ·have hd:(T == 0)=false:=by simpa using q0
  by_cases q:65536<T
  ·have hd2:decide (65536<T)=true:=decide_eq_true q
   have HR:Hid (Pl.CW xs=0):=by show _=_;rw[Bz.out,if_pos (.inr q)]
   go_enter Tryz.func33,Tryz.ntmps33
   go_wp2_with (first | (go_at_call 79;refine Calls.mono HL.out ?_;rintro e u1 ⟨rfl,ha,hf,hs⟩; have m4:u1.cell? ⟨ga,4,none⟩=some (.int .i64 T):=by { rw[HT.out];exact kH.am ha |>.cell 4 }; have HF:Hid (sZ lo xs w u1 ga gm a len cap stack B mb/\(∀ b,b<B->b≠ga->u1.heap[b]?=u.heap[b]?)/\u.heap.size<=u1.heap.size):=⟨ha,hf,hs⟩; clear ha hf hs) | (go_at_call 80;refine (HZ.out _ _).mono ?_;rintro e u2 ⟨rfl,rfl⟩))
   go_ret
   refine⟨aO ?_,HF.out⟩
   rw[HR.out];try simp[q]
  ·have hd2:decide (65536<T)=false:=decide_eq_false q
   have HR:Hid (Pl.CW xs=-1):=by show _=_;rw[Bz.out,if_neg (fun c=>c.elim q0 q)]
   go_enter Tryz.func33,Tryz.ntmps33
   go_wp2_with (first | (go_at_call 79;refine Calls.mono HL.out ?_;rintro e u1 ⟨rfl,ha,hf,hs⟩; have m4:u1.cell? ⟨ga,4,none⟩=some (.int .i64 T):=by { rw[HT.out];exact kH.am ha |>.cell 4 }; have HF:Hid (sZ lo xs w u1 ga gm a len cap stack B mb/\(∀ b,b<B->b≠ga->u1.heap[b]?=u.heap[b]?)/\u.heap.size<=u1.heap.size):=⟨ha,hf,hs⟩; clear ha hf hs) | (go_at_call 80;refine (HZ.out _ _).mono ?_;rintro e u2 ⟨rfl,rfl⟩))
   go_ret
   refine⟨aO ?_,HF.out⟩
   rw[HR.out];try simp[q]
noncomputable def Il (n:Nat):Code:=((Tryz.f36.body.bind (lG n)).getD .skip)
def bN (ga q:Nat) (T z:Int) (bb:Bool)  (c1 c4 c5 c6 c7 c8 d2 d9 vK tZ tT vM xR xS qJ qK qL qM qN qO oO oP rP rQ qP oN qF qG qH:Value)  (L:Array Bool):Act:={ tmps:=#[.pointer (some ⟨ga,0,none⟩),c1,aR d2 L 22 (.int .i64 (if bb=true then 0 else -1)),.pointer none,c4,c5,c6,c7,c8,aR d9 L 0 (.pointer none),aR vK L 1 (.bool true),aR tZ L 2 (.bool true),aR tT L 3 (undef),aR vM L 4 (undef),aR xR L 5 (undef),aR xS L 6 (undef),aR qJ L 7 (.bool true),aR qK L 8 (.bool true),aR qL L 9 (undef),aR qM L 10 (undef),aR qN L 11 (undef),aR qO L 12 (undef),aR oO L 13 (undef),aR oP L 14 (undef),aR rP L 15 (undef),aR rQ L 16 (undef),aR qP L 17 (undef),aR oN L 18 (undef),aR qF L 19 (undef),aR qG L 20 (.bool bb),aR qH L 21 (.int .i64 (if bb=true then 0 else -1))],defers:=[] }
set_option maxRecDepth 100000 in
theorem Yf (ga q:Nat) (T z:Int) (bb:Bool) {c1 c4 c5 c6 c7 c8 d2 d9 vK tZ tT vM xR xS qJ qK qL qM qN qO oO oP rP rQ qP oN qF qG qH:Value} (Y:World) (hbb:bb=true) {Q:Exit->Act->World->Prop}
  (hK:Q .normal { tmps:=#[.pointer (some ⟨ga,0,none⟩),c1,.int .i64 (if bb=true then 0 else -1),.pointer none,c4,c5,c6,c7,c8,.pointer none,.bool true,.bool true,undef,undef,undef,undef,.bool true,.bool true,undef,undef,undef,undef,undef,undef,undef,undef,undef,undef,undef,.bool bb,.int .i64 (if bb=true then 0 else -1)],defers:=[] } Y.drew) :
  (Il 2).wp Tryz.prog Q { tmps:=#[.pointer (some ⟨ga,0,none⟩),c1,d2,.pointer none,c4,c5,c6,c7,c8,d9,vK,tZ,tT,vM,xR,xS,qJ,qK,qL,qM,qN,qO,oO,oP,rP,rQ,qP,oN,qF,qG,qH],defers:=[] } Y:=by
 have nI:Hid _:=hK
 clear hK
 have HZ:Hid (∀ (b:Bool) (u:World),Calls Tryz.prog 80 #[.bool b] u fun e w'=>e=.returned (.int .i64 (if b=true then 0 else -1))/\w'=u):=pE
 have UG:yielded.match_1 (motive:=fun _=>Option Bool) (some undef) (fun b=>some b) (fun _=>none)=none:=rfl
 subst hbb
 conv=>arg 2;whnf
 refine wp_region_any (by kernel_rfl) ?_
 change wpAny _ _ _ _ _ _ _ (World.drew _)
 refine bQ (fun L jD u=>jD=bN ga q T z true  c1 c4 c5 c6 c7 c8 d2 d9 vK tZ tT vM xR xS qJ qK qL qM qN qO oO oP rP rQ qP oN qF qG qH  L/\u=Y.drew) ?done (by kernel_rfl) ?step _ 23 _ _ (by kernel_rfl) ?init (by decide)
 case init=>exact⟨by simp only[bN,dG (bR _ _)],rfl⟩
 case step=>
  intro L act w i o hI hlt hs nl hC hd ho K hK
  obtain⟨rfl,hW⟩:=hI
  have jB:i<23:=(Array.getElem?_eq_some_iff.1 ho).1
  have hD:=fun k m=>hd {on:=k,ground:=.data} m rfl
  have hG:=fun k m=>hd {on:=k,ground:=.guard} m rfl
  rcases (show i=0\/i=1\/i=2\/i=3\/i=4\/i=5\/i=6\/i=7\/i=8\/i=9\/i=10\/i=11\/i=12\/i=13\/i=14\/i=15\/i=16\/i=17\/i=18\/i=19\/i=20\/i=21\/i=22 by omega) with rfl|rfl|rfl|rfl|rfl|rfl|rfl|rfl|rfl|rfl|rfl|rfl|rfl|rfl|rfl|rfl|rfl|rfl|rfl|rfl|rfl|rfl|rfl<;>(change some _=some o at ho;cases ho)
  ·subst hW
   simp only[bN]
   go_simp
   exact hK _ _ ⟨by simp only[bN,aD hlt,reduceIte,Nat.reduceEqDiff];try rfl,rfl⟩
  ·have q0:up L 0=true:=hD 0 (by simp)
   subst hW
   simp only[bN,aA q0]
   go_simp
   exact hK _ _ ⟨by simp only[bN,aD hlt,aA q0,reduceIte,Nat.reduceEqDiff];try rfl,rfl⟩
  ·have q1:up L 1=true:=hD 1 (by simp)
   subst hW
   simp only[bN,aA q1]
   go_simp
   exact hK _ _ ⟨by simp only[bN,aD hlt,aA q1,reduceIte,Nat.reduceEqDiff];try rfl,rfl⟩
  ·have q2:up L 2=true:=(hG 2 (by simp))
   subst hW
   simp only[bN,aA q2]
   go_simp
   exact hK _ _ ⟨by simp only[bN,aD hlt,aA q2,reduceIte,Nat.reduceEqDiff];try rfl,rfl⟩
  ·have q2:up L 2=true:=(hG 2 (by simp))
   have q3:up L 3=true:=hD 3 (by simp)
   subst hW
   simp only[bN,aA q2,aA q3]
   go_simp
   exact hK _ _ ⟨by simp only[bN,aD hlt,aA q2,aA q3,reduceIte,Nat.reduceEqDiff];try rfl,rfl⟩
  ·have q2:up L 2=true:=(hG 2 (by simp))
   have q4:up L 4=true:=hD 4 (by simp)
   subst hW
   simp only[bN,aA q2,aA q4]
   go_simp
   exact hK _ _ ⟨by simp only[bN,aD hlt,aA q2,aA q4,reduceIte,Nat.reduceEqDiff];try rfl,rfl⟩
  ·have q2:up L 2=true:=(hG 2 (by simp))
   have q5:up L 5=true:=hD 5 (by simp)
   subst hW
   simp only[bN,aA q2,aA q5]
   go_simp
   exact hK _ _ ⟨by simp only[bN,aD hlt,aA q2,aA q5,reduceIte,Nat.reduceEqDiff];try rfl,rfl⟩
  ·have q2:up L 2=true:=hD 2 (by simp)
   have q6:up L 6=true:=hD 6 (by simp)
   subst hW
   simp only[bN,aA q2,aA q6]
   go_simp
   exact hK _ _ ⟨by simp only[bN,aD hlt,aA q2,aA q6,reduceIte,Nat.reduceEqDiff];try rfl,rfl⟩
  ·have q7:up L 7=true:=hD 7 (by simp)
   subst hW
   simp only[bN,aA q7]
   go_simp
   exact hK _ _ ⟨by simp only[bN,aD hlt,aA q7,reduceIte,Nat.reduceEqDiff];try rfl,rfl⟩
  ·have q8:up L 8=true:=(hG 8 (by simp))
   subst hW
   simp only[bN,aA q8]
   go_simp
   exact hK _ _ ⟨by simp only[bN,aD hlt,aA q8,reduceIte,Nat.reduceEqDiff];try rfl,rfl⟩
  ·have q8:up L 8=true:=(hG 8 (by simp))
   have q9:up L 9=true:=hD 9 (by simp)
   subst hW
   simp only[bN,aA q8,aA q9]
   go_simp
   exact hK _ _ ⟨by simp only[bN,aD hlt,aA q8,aA q9,reduceIte,Nat.reduceEqDiff];try rfl,rfl⟩
  ·have q8:up L 8=true:=(hG 8 (by simp))
   have rZ:up L 10=true:=hD 10 (by simp)
   subst hW
   simp only[bN,aA q8,aA rZ]
   go_simp
   exact hK _ _ ⟨by simp only[bN,aD hlt,aA q8,aA rZ,reduceIte,Nat.reduceEqDiff];try rfl,rfl⟩
  ·have q8:up L 8=true:=(hG 8 (by simp))
   have sH:up L 11=true:=hD 11 (by simp)
   subst hW
   simp only[bN,aA q8,aA sH]
   go_simp
   exact hK _ _ ⟨by simp only[bN,aD hlt,aA q8,aA sH,reduceIte,Nat.reduceEqDiff];try rfl,rfl⟩
  ·have q8:up L 8=true:=(hG 8 (by simp))
   subst hW
   simp only[bN,aA q8]
   go_simp
   exact hK _ _ ⟨by simp only[bN,aD hlt,aA q8,reduceIte,Nat.reduceEqDiff];try rfl,rfl⟩
  ·have q8:up L 8=true:=(hG 8 (by simp))
   have wR:up L 13=true:=hD 13 (by simp)
   subst hW
   simp only[bN,aA q8,aA wR]
   go_simp
   exact hK _ _ ⟨by simp only[bN,aD hlt,aA q8,aA wR,reduceIte,Nat.reduceEqDiff];try rfl,rfl⟩
  ·have q8:up L 8=true:=(hG 8 (by simp))
   have DF:up L 14=true:=hD 14 (by simp)
   subst hW
   simp only[bN,aA q8,aA DF]
   go_simp
   exact hK _ _ ⟨by simp only[bN,aD hlt,aA q8,aA DF,reduceIte,Nat.reduceEqDiff];try rfl,rfl⟩
  ·have q8:up L 8=true:=(hG 8 (by simp))
   have yI:up L 15=true:=hD 15 (by simp)
   subst hW
   simp only[bN,aA q8,aA yI]
   go_simp
   exact hK _ _ ⟨by simp only[bN,aD hlt,aA q8,aA yI,reduceIte,Nat.reduceEqDiff];try rfl,rfl⟩
  ·have q8:up L 8=true:=(hG 8 (by simp))
   have q16:up L 16=true:=hD 16 (by simp)
   subst hW
   simp only[bN,aA q8,aA q16]
   go_simp
   exact hK _ _ ⟨by simp only[bN,aD hlt,aA q8,aA q16,reduceIte,Nat.reduceEqDiff];try rfl,rfl⟩
  ·have q8:up L 8=true:=(hG 8 (by simp))
   have GX:up L 17=true:=hD 17 (by simp)
   subst hW
   simp only[bN,aA q8,aA GX]
   go_simp
   exact hK _ _ ⟨by simp only[bN,aD hlt,aA q8,aA GX,reduceIte,Nat.reduceEqDiff];try rfl,rfl⟩
  ·have q8:up L 8=true:=(hG 8 (by simp))
   have lV:up L 12=true:=hD 12 (by simp)
   have Ca:up L 18=true:=hD 18 (by simp)
   subst hW
   simp only[bN,aA q8,aA lV,aA Ca]
   go_simp
   exact hK _ _ ⟨by simp only[bN,aD hlt,aA q8,aA lV,aA Ca,reduceIte,Nat.reduceEqDiff];try rfl,rfl⟩
  ·have q8:up L 8=true:=hD 8 (by simp)
   have Cb:up L 19=true:=hD 19 (by simp)
   subst hW
   simp only[bN,aA q8,aA Cb]
   go_simp
   exact hK _ _ ⟨by simp only[bN,aD hlt,aA q8,aA Cb,reduceIte,Nat.reduceEqDiff];try rfl,rfl⟩
  ·have Cc:up L 20=true:=hD 20 (by simp)
   subst hW
   simp only[bN,aA Cc]
   go_simp
   refine (HZ.out _ _).mono ?_
   rintro e w3 ⟨rfl,rfl⟩
   go_simp
   exact hK _ _ ⟨by simp only[bN,aD hlt,aA Cc,reduceIte,Nat.reduceEqDiff];try rfl,rfl⟩
  ·have Ce:up L 21=true:=hD 21 (by simp)
   subst hW
   simp only[bN,aA Ce]
   go_simp
   exact hK _ _ ⟨by simp only[bN,aD hlt,aA Ce,reduceIte,Nat.reduceEqDiff];try rfl,rfl⟩
 case done=>
  rintro L a u ⟨rfl,hW⟩ hall
  simp only[bN,aA (hall 0 (by decide)),aA (hall 1 (by decide)),aA (hall 2 (by decide)),aA (hall 3 (by decide)),aA (hall 4 (by decide)),aA (hall 5 (by decide)),aA (hall 6 (by decide)),aA (hall 7 (by decide)),aA (hall 8 (by decide)),aA (hall 9 (by decide)),aA (hall 10 (by decide)),aA (hall 11 (by decide)),aA (hall 12 (by decide)),aA (hall 13 (by decide)),aA (hall 14 (by decide)),aA (hall 15 (by decide)),aA (hall 16 (by decide)),aA (hall 17 (by decide)),aA (hall 18 (by decide)),aA (hall 19 (by decide)),aA (hall 20 (by decide)),aA (hall 21 (by decide)),aA (hall 22 (by decide))]
  subst hW
  exact nI.out
def bO (ga q:Nat) (T z:Int) (bb:Bool)  (c1 c4 c5 c6 c7 c8 d2 d9 vK tZ tT vM xR xS qJ qK qL qM qN qO oO oP rP rQ qP oN qF qG qH:Value)  (L:Array Bool):Act:={ tmps:=#[.pointer (some ⟨ga,0,none⟩),c1,aR d2 L 22 (.int .i64 (if bb=true then 0 else -1)),.pointer (some ⟨q,0,none⟩),c4,c5,c6,c7,c8,aR d9 L 0 (.pointer (some ⟨q,0,none⟩)),aR vK L 1 (.bool false),aR tZ L 2 (.bool false),aR tT L 3 (.pointer (some ⟨q,0,none⟩)),aR vM L 4 (.pointer (some ⟨q,0,none⟩)),aR xR L 5 (.pointer (some ⟨q,1,none⟩)),aR xS L 6 (.bool true),aR qJ L 7 (.bool true),aR qK L 8 (.bool true),aR qL L 9 (undef),aR qM L 10 (undef),aR qN L 11 (undef),aR qO L 12 (undef),aR oO L 13 (undef),aR oP L 14 (undef),aR rP L 15 (undef),aR rQ L 16 (undef),aR qP L 17 (undef),aR oN L 18 (undef),aR qF L 19 (undef),aR qG L 20 (.bool bb),aR qH L 21 (.int .i64 (if bb=true then 0 else -1))],defers:=[] }
set_option maxRecDepth 100000 in
theorem Yg (ga q:Nat) (T z:Int) (bb:Bool) {c1 c4 c5 c6 c7 c8 d2 d9 vK tZ tT vM xR xS qJ qK qL qM qN qO oO oP rP rQ qP oN qF qG qH:Value} (Y:World) (hbb:bb=true) (e1:Y.cell? ⟨q,1,none⟩=some (.bool true)) {Q:Exit->Act->World->Prop}
  (hK:Q .normal { tmps:=#[.pointer (some ⟨ga,0,none⟩),c1,.int .i64 (if bb=true then 0 else -1),.pointer (some ⟨q,0,none⟩),c4,c5,c6,c7,c8,.pointer (some ⟨q,0,none⟩),.bool false,.bool false,.pointer (some ⟨q,0,none⟩),.pointer (some ⟨q,0,none⟩),.pointer (some ⟨q,1,none⟩),.bool true,.bool true,.bool true,undef,undef,undef,undef,undef,undef,undef,undef,undef,undef,undef,.bool bb,.int .i64 (if bb=true then 0 else -1)],defers:=[] } Y.drew) :
  (Il 2).wp Tryz.prog Q { tmps:=#[.pointer (some ⟨ga,0,none⟩),c1,d2,.pointer (some ⟨q,0,none⟩),c4,c5,c6,c7,c8,d9,vK,tZ,tT,vM,xR,xS,qJ,qK,qL,qM,qN,qO,oO,oP,rP,rQ,qP,oN,qF,qG,qH],defers:=[] } Y:=by
 have nI:Hid _:=hK
 clear hK
 have HZ:Hid (∀ (b:Bool) (u:World),Calls Tryz.prog 80 #[.bool b] u fun e w'=>e=.returned (.int .i64 (if b=true then 0 else -1))/\w'=u):=pE
 have UG:yielded.match_1 (motive:=fun _=>Option Bool) (some undef) (fun b=>some b) (fun _=>none)=none:=rfl
 have j1:Y.drew.cell? ⟨q,1,none⟩=some (.bool true):=e1
 clear e1
 subst hbb
 conv=>arg 2;whnf
 refine wp_region_any (by kernel_rfl) ?_
 change wpAny _ _ _ _ _ _ _ (World.drew _)
 refine bQ (fun L jD u=>jD=bO ga q T z true  c1 c4 c5 c6 c7 c8 d2 d9 vK tZ tT vM xR xS qJ qK qL qM qN qO oO oP rP rQ qP oN qF qG qH  L/\u=Y.drew) ?done (by kernel_rfl) ?step _ 23 _ _ (by kernel_rfl) ?init (by decide)
 case init=>exact⟨by simp only[bO,dG (bR _ _)],rfl⟩
 case step=>
  intro L act w i o hI hlt hs nl hC hd ho K hK
  obtain⟨rfl,hW⟩:=hI
  have jB:i<23:=(Array.getElem?_eq_some_iff.1 ho).1
  have hD:=fun k m=>hd {on:=k,ground:=.data} m rfl
  have hG:=fun k m=>hd {on:=k,ground:=.guard} m rfl
  rcases (show i=0\/i=1\/i=2\/i=3\/i=4\/i=5\/i=6\/i=7\/i=8\/i=9\/i=10\/i=11\/i=12\/i=13\/i=14\/i=15\/i=16\/i=17\/i=18\/i=19\/i=20\/i=21\/i=22 by omega) with rfl|rfl|rfl|rfl|rfl|rfl|rfl|rfl|rfl|rfl|rfl|rfl|rfl|rfl|rfl|rfl|rfl|rfl|rfl|rfl|rfl|rfl|rfl<;>(change some _=some o at ho;cases ho)
  ·subst hW
   simp only[bO]
   go_simp
   exact hK _ _ ⟨by simp only[bO,aD hlt,reduceIte,Nat.reduceEqDiff];try rfl,rfl⟩
  ·have q0:up L 0=true:=hD 0 (by simp)
   subst hW
   simp only[bO,aA q0]
   go_simp
   exact hK _ _ ⟨by simp only[bO,aD hlt,aA q0,reduceIte,Nat.reduceEqDiff];try rfl,rfl⟩
  ·have q1:up L 1=true:=hD 1 (by simp)
   subst hW
   simp only[bO,aA q1]
   go_simp
   exact hK _ _ ⟨by simp only[bO,aD hlt,aA q1,reduceIte,Nat.reduceEqDiff];try rfl,rfl⟩
  ·have q2:up L 2=true:=(hG 2 (by simp))
   subst hW
   simp only[bO,aA q2]
   go_simp
   exact hK _ _ ⟨by simp only[bO,aD hlt,aA q2,reduceIte,Nat.reduceEqDiff];try rfl,rfl⟩
  ·have q2:up L 2=true:=(hG 2 (by simp))
   have q3:up L 3=true:=hD 3 (by simp)
   subst hW
   simp only[bO,aA q2,aA q3]
   go_simp
   exact hK _ _ ⟨by simp only[bO,aD hlt,aA q2,aA q3,reduceIte,Nat.reduceEqDiff];try rfl,rfl⟩
  ·have q2:up L 2=true:=(hG 2 (by simp))
   have q4:up L 4=true:=hD 4 (by simp)
   subst hW
   simp only[bO,aA q2,aA q4]
   go_simp
   exact hK _ _ ⟨by simp only[bO,aD hlt,aA q2,aA q4,reduceIte,Nat.reduceEqDiff];try rfl,rfl⟩
  ·have q2:up L 2=true:=(hG 2 (by simp))
   have q5:up L 5=true:=hD 5 (by simp)
   subst hW
   simp only[bO,aA q2,aA q5]
   go_simp
   exact hK _ _ ⟨by simp only[bO,aD hlt,aA q2,aA q5,reduceIte,Nat.reduceEqDiff];try rfl,rfl⟩
  ·have q2:up L 2=true:=hD 2 (by simp)
   have q6:up L 6=true:=hD 6 (by simp)
   subst hW
   simp only[bO,aA q2,aA q6]
   go_simp
   exact hK _ _ ⟨by simp only[bO,aD hlt,aA q2,aA q6,reduceIte,Nat.reduceEqDiff];try rfl,rfl⟩
  ·have q7:up L 7=true:=hD 7 (by simp)
   subst hW
   simp only[bO,aA q7]
   go_simp
   exact hK _ _ ⟨by simp only[bO,aD hlt,aA q7,reduceIte,Nat.reduceEqDiff];try rfl,rfl⟩
  ·have q8:up L 8=true:=(hG 8 (by simp))
   subst hW
   simp only[bO,aA q8]
   go_simp
   exact hK _ _ ⟨by simp only[bO,aD hlt,aA q8,reduceIte,Nat.reduceEqDiff];try rfl,rfl⟩
  ·have q8:up L 8=true:=(hG 8 (by simp))
   have q9:up L 9=true:=hD 9 (by simp)
   subst hW
   simp only[bO,aA q8,aA q9]
   go_simp
   exact hK _ _ ⟨by simp only[bO,aD hlt,aA q8,aA q9,reduceIte,Nat.reduceEqDiff];try rfl,rfl⟩
  ·have q8:up L 8=true:=(hG 8 (by simp))
   have rZ:up L 10=true:=hD 10 (by simp)
   subst hW
   simp only[bO,aA q8,aA rZ]
   go_simp
   exact hK _ _ ⟨by simp only[bO,aD hlt,aA q8,aA rZ,reduceIte,Nat.reduceEqDiff];try rfl,rfl⟩
  ·have q8:up L 8=true:=(hG 8 (by simp))
   have sH:up L 11=true:=hD 11 (by simp)
   subst hW
   simp only[bO,aA q8,aA sH]
   go_simp
   exact hK _ _ ⟨by simp only[bO,aD hlt,aA q8,aA sH,reduceIte,Nat.reduceEqDiff];try rfl,rfl⟩
  ·have q8:up L 8=true:=(hG 8 (by simp))
   subst hW
   simp only[bO,aA q8]
   go_simp
   exact hK _ _ ⟨by simp only[bO,aD hlt,aA q8,reduceIte,Nat.reduceEqDiff];try rfl,rfl⟩
  ·have q8:up L 8=true:=(hG 8 (by simp))
   have wR:up L 13=true:=hD 13 (by simp)
   subst hW
   simp only[bO,aA q8,aA wR]
   go_simp
   exact hK _ _ ⟨by simp only[bO,aD hlt,aA q8,aA wR,reduceIte,Nat.reduceEqDiff];try rfl,rfl⟩
  ·have q8:up L 8=true:=(hG 8 (by simp))
   have DF:up L 14=true:=hD 14 (by simp)
   subst hW
   simp only[bO,aA q8,aA DF]
   go_simp
   exact hK _ _ ⟨by simp only[bO,aD hlt,aA q8,aA DF,reduceIte,Nat.reduceEqDiff];try rfl,rfl⟩
  ·have q8:up L 8=true:=(hG 8 (by simp))
   have yI:up L 15=true:=hD 15 (by simp)
   subst hW
   simp only[bO,aA q8,aA yI]
   go_simp
   exact hK _ _ ⟨by simp only[bO,aD hlt,aA q8,aA yI,reduceIte,Nat.reduceEqDiff];try rfl,rfl⟩
  ·have q8:up L 8=true:=(hG 8 (by simp))
   have q16:up L 16=true:=hD 16 (by simp)
   subst hW
   simp only[bO,aA q8,aA q16]
   go_simp
   exact hK _ _ ⟨by simp only[bO,aD hlt,aA q8,aA q16,reduceIte,Nat.reduceEqDiff];try rfl,rfl⟩
  ·have q8:up L 8=true:=(hG 8 (by simp))
   have GX:up L 17=true:=hD 17 (by simp)
   subst hW
   simp only[bO,aA q8,aA GX]
   go_simp
   exact hK _ _ ⟨by simp only[bO,aD hlt,aA q8,aA GX,reduceIte,Nat.reduceEqDiff];try rfl,rfl⟩
  ·have q8:up L 8=true:=(hG 8 (by simp))
   have lV:up L 12=true:=hD 12 (by simp)
   have Ca:up L 18=true:=hD 18 (by simp)
   subst hW
   simp only[bO,aA q8,aA lV,aA Ca]
   go_simp
   exact hK _ _ ⟨by simp only[bO,aD hlt,aA q8,aA lV,aA Ca,reduceIte,Nat.reduceEqDiff];try rfl,rfl⟩
  ·have q8:up L 8=true:=hD 8 (by simp)
   have Cb:up L 19=true:=hD 19 (by simp)
   subst hW
   simp only[bO,aA q8,aA Cb]
   go_simp
   exact hK _ _ ⟨by simp only[bO,aD hlt,aA q8,aA Cb,reduceIte,Nat.reduceEqDiff];try rfl,rfl⟩
  ·have Cc:up L 20=true:=hD 20 (by simp)
   subst hW
   simp only[bO,aA Cc]
   go_simp
   refine (HZ.out _ _).mono ?_
   rintro e w3 ⟨rfl,rfl⟩
   go_simp
   exact hK _ _ ⟨by simp only[bO,aD hlt,aA Cc,reduceIte,Nat.reduceEqDiff];try rfl,rfl⟩
  ·have Ce:up L 21=true:=hD 21 (by simp)
   subst hW
   simp only[bO,aA Ce]
   go_simp
   exact hK _ _ ⟨by simp only[bO,aD hlt,aA Ce,reduceIte,Nat.reduceEqDiff];try rfl,rfl⟩
 case done=>
  rintro L a u ⟨rfl,hW⟩ hall
  simp only[bO,aA (hall 0 (by decide)),aA (hall 1 (by decide)),aA (hall 2 (by decide)),aA (hall 3 (by decide)),aA (hall 4 (by decide)),aA (hall 5 (by decide)),aA (hall 6 (by decide)),aA (hall 7 (by decide)),aA (hall 8 (by decide)),aA (hall 9 (by decide)),aA (hall 10 (by decide)),aA (hall 11 (by decide)),aA (hall 12 (by decide)),aA (hall 13 (by decide)),aA (hall 14 (by decide)),aA (hall 15 (by decide)),aA (hall 16 (by decide)),aA (hall 17 (by decide)),aA (hall 18 (by decide)),aA (hall 19 (by decide)),aA (hall 20 (by decide)),aA (hall 21 (by decide)),aA (hall 22 (by decide))]
  subst hW
  exact nI.out
def bP (ga q:Nat) (T z:Int) (bb:Bool)  (c1 c4 c5 c6 c7 c8 d2 d9 vK tZ tT vM xR xS qJ qK qL qM qN qO oO oP rP rQ qP oN qF qG qH:Value)  (L:Array Bool):Act:={ tmps:=#[.pointer (some ⟨ga,0,none⟩),c1,aR d2 L 22 (.int .i64 (if bb=true then 0 else -1)),.pointer (some ⟨q,0,none⟩),c4,c5,c6,c7,c8,aR d9 L 0 (.pointer (some ⟨q,0,none⟩)),aR vK L 1 (.bool false),aR tZ L 2 (.bool false),aR tT L 3 (.pointer (some ⟨q,0,none⟩)),aR vM L 4 (.pointer (some ⟨q,0,none⟩)),aR xR L 5 (.pointer (some ⟨q,1,none⟩)),aR xS L 6 (.bool false),aR qJ L 7 (.bool false),aR qK L 8 (.bool false),aR qL L 9 (.pointer (some ⟨q,0,none⟩)),aR qM L 10 (.pointer (some ⟨q,0,none⟩)),aR qN L 11 (.pointer (some ⟨q,2,none⟩)),aR qO L 12 (.int .i64 z),aR oO L 13 (.pointer (some ⟨ga,0,none⟩)),aR oP L 14 (.pointer (some ⟨ga,0,none⟩)),aR rP L 15 (.pointer (some ⟨ga,3,none⟩)),aR rQ L 16 (.pointer (some ⟨ga,4,none⟩)),aR qP L 17 (.int .i64 T),aR oN L 18 (.int .i64 (65536+T)),aR qF L 19 (.bool bb),aR qG L 20 (.bool bb),aR qH L 21 (.int .i64 (if bb=true then 0 else -1))],defers:=[] }
set_option maxRecDepth 100000 in
theorem Yh (ga q:Nat) (T z:Int) (bb:Bool) {c1 c4 c5 c6 c7 c8 d2 d9 vK tZ tT vM xR xS qJ qK qL qM qN qO oO oP rP rQ qP oN qF qG qH:Value} (Y:World) (hbb:decide (65536+T<=z)=bb) (e1:Y.cell? ⟨q,1,none⟩=some (.bool false)) (e2:Y.cell? ⟨q,2,none⟩=some (.int .i64 z)) (e3:Y.cell? ⟨ga,4,none⟩=some (.int .i64 T)) (hT:0<=T/\T<=1099511627776) {Q:Exit->Act->World->Prop}
  (hK:Q .normal { tmps:=#[.pointer (some ⟨ga,0,none⟩),c1,.int .i64 (if bb=true then 0 else -1),.pointer (some ⟨q,0,none⟩),c4,c5,c6,c7,c8,.pointer (some ⟨q,0,none⟩),.bool false,.bool false,.pointer (some ⟨q,0,none⟩),.pointer (some ⟨q,0,none⟩),.pointer (some ⟨q,1,none⟩),.bool false,.bool false,.bool false,.pointer (some ⟨q,0,none⟩),.pointer (some ⟨q,0,none⟩),.pointer (some ⟨q,2,none⟩),.int .i64 z,.pointer (some ⟨ga,0,none⟩),.pointer (some ⟨ga,0,none⟩),.pointer (some ⟨ga,3,none⟩),.pointer (some ⟨ga,4,none⟩),.int .i64 T,.int .i64 (65536+T),.bool bb,.bool bb,.int .i64 (if bb=true then 0 else -1)],defers:=[] } Y.drew) :
  (Il 2).wp Tryz.prog Q { tmps:=#[.pointer (some ⟨ga,0,none⟩),c1,d2,.pointer (some ⟨q,0,none⟩),c4,c5,c6,c7,c8,d9,vK,tZ,tT,vM,xR,xS,qJ,qK,qL,qM,qN,qO,oO,oP,rP,rQ,qP,oN,qF,qG,qH],defers:=[] } Y:=by
 have nI:Hid _:=hK
 clear hK
 have HZ:Hid (∀ (b:Bool) (u:World),Calls Tryz.prog 80 #[.bool b] u fun e w'=>e=.returned (.int .i64 (if b=true then 0 else -1))/\w'=u):=pE
 have UG:yielded.match_1 (motive:=fun _=>Option Bool) (some undef) (fun b=>some b) (fun _=>none)=none:=rfl
 have j1:Y.drew.cell? ⟨q,1,none⟩=some (.bool false):=e1
 clear e1
 have j2:Y.drew.cell? ⟨q,2,none⟩=some (.int .i64 z):=e2
 have j3:Y.drew.cell? ⟨ga,4,none⟩=some (.int .i64 T):=e3
 clear e2 e3
 have hw:wrap64 (65536+T)=65536+T:=by unfold wrap64;omega
 have hw1:IntKind.i64.wrap (65536+T)=65536+T:=by rw[IntKind.wrap_i64];omega
 conv=>arg 2;whnf
 refine wp_region_any (by kernel_rfl) ?_
 change wpAny _ _ _ _ _ _ _ (World.drew _)
 refine bQ (fun L jD u=>jD=bP ga q T z bb  c1 c4 c5 c6 c7 c8 d2 d9 vK tZ tT vM xR xS qJ qK qL qM qN qO oO oP rP rQ qP oN qF qG qH  L/\u=Y.drew) ?done (by kernel_rfl) ?step _ 23 _ _ (by kernel_rfl) ?init (by decide)
 case init=>exact⟨by simp only[bP,dG (bR _ _)],rfl⟩
 case step=>
  intro L act w i o hI hlt hs nl hC hd ho K hK
  obtain⟨rfl,hW⟩:=hI
  have jB:i<23:=(Array.getElem?_eq_some_iff.1 ho).1
  have hD:=fun k m=>hd {on:=k,ground:=.data} m rfl
  have hG:=fun k m=>hd {on:=k,ground:=.guard} m rfl
  rcases (show i=0\/i=1\/i=2\/i=3\/i=4\/i=5\/i=6\/i=7\/i=8\/i=9\/i=10\/i=11\/i=12\/i=13\/i=14\/i=15\/i=16\/i=17\/i=18\/i=19\/i=20\/i=21\/i=22 by omega) with rfl|rfl|rfl|rfl|rfl|rfl|rfl|rfl|rfl|rfl|rfl|rfl|rfl|rfl|rfl|rfl|rfl|rfl|rfl|rfl|rfl|rfl|rfl<;>(change some _=some o at ho;cases ho)
  ·subst hW
   simp only[bP]
   go_simp
   exact hK _ _ ⟨by simp only[bP,aD hlt,reduceIte,Nat.reduceEqDiff];try rfl,rfl⟩
  ·have q0:up L 0=true:=hD 0 (by simp)
   subst hW
   simp only[bP,aA q0]
   go_simp
   exact hK _ _ ⟨by simp only[bP,aD hlt,aA q0,reduceIte,Nat.reduceEqDiff];try rfl,rfl⟩
  ·have q1:up L 1=true:=hD 1 (by simp)
   subst hW
   simp only[bP,aA q1]
   go_simp
   exact hK _ _ ⟨by simp only[bP,aD hlt,aA q1,reduceIte,Nat.reduceEqDiff];try rfl,rfl⟩
  ·have q2:up L 2=true:=(hG 2 (by simp))
   subst hW
   simp only[bP,aA q2]
   go_simp
   exact hK _ _ ⟨by simp only[bP,aD hlt,aA q2,reduceIte,Nat.reduceEqDiff];try rfl,rfl⟩
  ·have q2:up L 2=true:=(hG 2 (by simp))
   have q3:up L 3=true:=hD 3 (by simp)
   subst hW
   simp only[bP,aA q2,aA q3]
   go_simp
   exact hK _ _ ⟨by simp only[bP,aD hlt,aA q2,aA q3,reduceIte,Nat.reduceEqDiff];try rfl,rfl⟩
  ·have q2:up L 2=true:=(hG 2 (by simp))
   have q4:up L 4=true:=hD 4 (by simp)
   subst hW
   simp only[bP,aA q2,aA q4]
   go_simp
   exact hK _ _ ⟨by simp only[bP,aD hlt,aA q2,aA q4,reduceIte,Nat.reduceEqDiff];try rfl,rfl⟩
  ·have q2:up L 2=true:=(hG 2 (by simp))
   have q5:up L 5=true:=hD 5 (by simp)
   subst hW
   simp only[bP,aA q2,aA q5]
   go_simp
   exact hK _ _ ⟨by simp only[bP,aD hlt,aA q2,aA q5,reduceIte,Nat.reduceEqDiff];try rfl,rfl⟩
  ·have q2:up L 2=true:=hD 2 (by simp)
   have q6:up L 6=true:=hD 6 (by simp)
   subst hW
   simp only[bP,aA q2,aA q6]
   go_simp
   exact hK _ _ ⟨by simp only[bP,aD hlt,aA q2,aA q6,reduceIte,Nat.reduceEqDiff];try rfl,rfl⟩
  ·have q7:up L 7=true:=hD 7 (by simp)
   subst hW
   simp only[bP,aA q7]
   go_simp
   exact hK _ _ ⟨by simp only[bP,aD hlt,aA q7,reduceIte,Nat.reduceEqDiff];try rfl,rfl⟩
  ·have q8:up L 8=true:=(hG 8 (by simp))
   subst hW
   simp only[bP,aA q8]
   go_simp
   exact hK _ _ ⟨by simp only[bP,aD hlt,aA q8,reduceIte,Nat.reduceEqDiff];try rfl,rfl⟩
  ·have q8:up L 8=true:=(hG 8 (by simp))
   have q9:up L 9=true:=hD 9 (by simp)
   subst hW
   simp only[bP,aA q8,aA q9]
   go_simp
   exact hK _ _ ⟨by simp only[bP,aD hlt,aA q8,aA q9,reduceIte,Nat.reduceEqDiff];try rfl,rfl⟩
  ·have q8:up L 8=true:=(hG 8 (by simp))
   have rZ:up L 10=true:=hD 10 (by simp)
   subst hW
   simp only[bP,aA q8,aA rZ]
   go_simp
   exact hK _ _ ⟨by simp only[bP,aD hlt,aA q8,aA rZ,reduceIte,Nat.reduceEqDiff];try rfl,rfl⟩
  ·have q8:up L 8=true:=(hG 8 (by simp))
   have sH:up L 11=true:=hD 11 (by simp)
   subst hW
   simp only[bP,aA q8,aA sH]
   go_simp
   exact hK _ _ ⟨by simp only[bP,aD hlt,aA q8,aA sH,reduceIte,Nat.reduceEqDiff];try rfl,rfl⟩
  ·have q8:up L 8=true:=(hG 8 (by simp))
   subst hW
   simp only[bP,aA q8]
   go_simp
   exact hK _ _ ⟨by simp only[bP,aD hlt,aA q8,reduceIte,Nat.reduceEqDiff];try rfl,rfl⟩
  ·have q8:up L 8=true:=(hG 8 (by simp))
   have wR:up L 13=true:=hD 13 (by simp)
   subst hW
   simp only[bP,aA q8,aA wR]
   go_simp
   exact hK _ _ ⟨by simp only[bP,aD hlt,aA q8,aA wR,reduceIte,Nat.reduceEqDiff];try rfl,rfl⟩
  ·have q8:up L 8=true:=(hG 8 (by simp))
   have DF:up L 14=true:=hD 14 (by simp)
   subst hW
   simp only[bP,aA q8,aA DF]
   go_simp
   exact hK _ _ ⟨by simp only[bP,aD hlt,aA q8,aA DF,reduceIte,Nat.reduceEqDiff];try rfl,rfl⟩
  ·have q8:up L 8=true:=(hG 8 (by simp))
   have yI:up L 15=true:=hD 15 (by simp)
   subst hW
   simp only[bP,aA q8,aA yI]
   go_simp
   exact hK _ _ ⟨by simp only[bP,aD hlt,aA q8,aA yI,reduceIte,Nat.reduceEqDiff];try rfl,rfl⟩
  ·have q8:up L 8=true:=(hG 8 (by simp))
   have q16:up L 16=true:=hD 16 (by simp)
   subst hW
   simp only[bP,aA q8,aA q16]
   go_simp
   exact hK _ _ ⟨by simp only[bP,aD hlt,aA q8,aA q16,reduceIte,Nat.reduceEqDiff];try rfl,rfl⟩
  ·have q8:up L 8=true:=(hG 8 (by simp))
   have GX:up L 17=true:=hD 17 (by simp)
   subst hW
   simp only[bP,aA q8,aA GX]
   go_simp
   exact hK _ _ ⟨by simp only[bP,aD hlt,aA q8,aA GX,reduceIte,Nat.reduceEqDiff];try rfl,rfl⟩
  ·have q8:up L 8=true:=(hG 8 (by simp))
   have lV:up L 12=true:=hD 12 (by simp)
   have Ca:up L 18=true:=hD 18 (by simp)
   subst hW
   simp only[bP,aA q8,aA lV,aA Ca]
   go_simp
   exact hK _ _ ⟨by simp only[bP,aD hlt,aA q8,aA lV,aA Ca,reduceIte,Nat.reduceEqDiff];try rfl,rfl⟩
  ·have q8:up L 8=true:=hD 8 (by simp)
   have Cb:up L 19=true:=hD 19 (by simp)
   subst hW
   simp only[bP,aA q8,aA Cb]
   go_simp
   exact hK _ _ ⟨by simp only[bP,aD hlt,aA q8,aA Cb,reduceIte,Nat.reduceEqDiff];try rfl,rfl⟩
  ·have Cc:up L 20=true:=hD 20 (by simp)
   subst hW
   simp only[bP,aA Cc]
   go_simp
   refine (HZ.out _ _).mono ?_
   rintro e w3 ⟨rfl,rfl⟩
   go_simp
   exact hK _ _ ⟨by simp only[bP,aD hlt,aA Cc,reduceIte,Nat.reduceEqDiff];try rfl,rfl⟩
  ·have Ce:up L 21=true:=hD 21 (by simp)
   subst hW
   simp only[bP,aA Ce]
   go_simp
   exact hK _ _ ⟨by simp only[bP,aD hlt,aA Ce,reduceIte,Nat.reduceEqDiff];try rfl,rfl⟩
 case done=>
  rintro L a u ⟨rfl,hW⟩ hall
  simp only[bP,aA (hall 0 (by decide)),aA (hall 1 (by decide)),aA (hall 2 (by decide)),aA (hall 3 (by decide)),aA (hall 4 (by decide)),aA (hall 5 (by decide)),aA (hall 6 (by decide)),aA (hall 7 (by decide)),aA (hall 8 (by decide)),aA (hall 9 (by decide)),aA (hall 10 (by decide)),aA (hall 11 (by decide)),aA (hall 12 (by decide)),aA (hall 13 (by decide)),aA (hall 14 (by decide)),aA (hall 15 (by decide)),aA (hall 16 (by decide)),aA (hall 17 (by decide)),aA (hall 18 (by decide)),aA (hall 19 (by decide)),aA (hall 20 (by decide)),aA (hall 21 (by decide)),aA (hall 22 (by decide))]
  subst hW
  exact nI.out
variable {lo:Nat} {xs:List Pl.Ln} {w u u':World} {ga gm:Nat} {a:Option Addr} {len cap:Nat} {stack:Int} {ec:Pl.kV} {B:Nat} {mb:Nat->Nat} {d:Nat->Bool} {ad:Nat->Int}
theorem GY (h:sZ lo xs w u ga gm a len cap stack B mb) (hT:0<=(Pl.cu xs len).t/\(Pl.cu xs len).t<=1099511627776):Calls Tryz.prog 36 #[.pointer (some ⟨ga,0,none⟩)] u fun e u'=>e=.returned (.int .i64 (Pl.stA xs))/\Below u.heap.size u u':=by
 have lM:Hid (xs.length=len):=kH.sD h
 have m2:u.cell? ⟨ga,2,none⟩=some (.map (some gm)):=(kH.am h).cell 2
 have HM4:Hid (u.cell? ⟨ga,4,none⟩=some (.int .i64 (Pl.cu xs len).t)):=(kH.am h).cell 4
 have kU:=kH.look h (s:=Pl.dB) (by unfold Pl.dB maxLen;decide)
 have HB:Hid (Below u.heap.size u u.drew):=Below.drew (Below.refl _ _)
 have HH:Hid _:=h
 have Yi:Hid _:=hT
 clear h hT
 cases hl:Pl.lb xs Pl.dB with
 | none=>
  have HR:Hid (Pl.stA xs=0):=Pl.zB hl
  rw[hl]at kU
  unfold Pl.dB at kU
  clear hl
  go_enter Tryz.func36,Tryz.ntmps36
  go_upto_region 2 with fail
  refine Yf ga 0 0 0 true u rfl ?_
  clear m2 kU
  go_wp2_with fail
  go_ret
  exact⟨aO HR.out.symm,HB.out⟩
 | some j=>
  have HR:Hid (Pl.stA xs=if (Pl.cu xs j).d=true\/(Pl.cu xs len).t<=(Pl.cu xs j).t then 0 else -1):=by show _=_;rw[Pl.vL hl,lM.out]
  have HC:Hid _:=HH.out.mark hl
  rw[hl]at kU
  unfold Pl.dB at kU
  have HAT:Hid ((Pl.cu xs j).at=if (Pl.cu xs j).d then 1048576+(Pl.cu xs j).b else 65536+(Pl.cu xs j).t):=rfl
  clear hl
  go_enter Tryz.func36,Tryz.ntmps36
  go_upto_region 2 with fail
  cases hd:(Pl.cu xs j).d
  ·have HA2:Hid ((Pl.cu xs j).at=65536+(Pl.cu xs j).t):=by have:=HAT.out;rw[hd]at this;exact this
   refine Yh ga (mb j) (Pl.cu xs len).t (Pl.cu xs j).at _ u rfl (by rw[HC.out.2.1,hd]) HC.out.2.2 HM4.out Yi.out ?_
   have HR2:Hid (Pl.stA xs=if decide (65536+(Pl.cu xs len).t<=(Pl.cu xs j).at)=true then 0 else -1):=by
    show _=_
    rw[HR.out,HA2.out,hd]
    by_cases q:(Pl.cu xs len).t<=(Pl.cu xs j).t
    ·rw[if_pos (.inr q),if_pos (decide_eq_true (by omega))]
    ·rw[if_neg (fun c=>c.elim (by decide) q),if_neg (by rw[decide_eq_true_eq];omega)]
   generalize (if decide (65536+(Pl.cu xs len).t<=(Pl.cu xs j).at)=true then (0:Int) else -1)=z at *
   clear m2 kU hd
   go_wp2_with fail
   go_ret
   exact⟨aO HR2.out.symm,HB.out⟩
  ·have HR2:Hid (Pl.stA xs=0):=by show _=_;rw[HR.out,if_pos (.inl hd)]
   refine Yg ga (mb j) 0 0 true u rfl (by rw[HC.out.2.1,hd]) ?_
   clear m2 kU hd
   go_wp2_with fail
   go_ret
   exact⟨aO HR2.out.symm,HB.out⟩
end Go.Proofs.YtlbomnnldkeocaaGreat.W
