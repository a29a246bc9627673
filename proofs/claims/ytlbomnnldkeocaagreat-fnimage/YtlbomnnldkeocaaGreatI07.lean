import Derived.Test.YtlbomnnldkeocaaGreatI06
import Derived.Lib.AppendZeros
import Derived.Test.YtlbomnnldkeocaaGreatI03
import Derived.Test.YtlbomnnldkeocaaGreatI00
set_option linter.unusedVariables false
set_option linter.unusedSimpArgs false
set_option maxHeartbeats 16000000
namespace Go.Proofs.YtlbomnnldkeocaaGreat.W
open Go.RowKit
theorem gF.form {w:World} {c:Nat} {v:Value} {n:Nat} {u:World} (h:gF w c v n u) (hn:0<n):∃ g cp,v=.slice (some ⟨g,0,none⟩) n cp/\w.heap.size<=g/\g<u.heap.size/\n<=cp/\cp<=maxLen:=by
 obtain⟨cs,h1,_⟩:=h.own
 rcases h1.2 with ⟨_,q⟩ | ⟨g,cap,cur,rfl,hb,hg,hnc,hcm,_⟩
 ·omega
 ·exact⟨g,cap,rfl,hb,(Array.getElem?_eq_some_iff.1 hg).1,hnc,hcm⟩
theorem gF.line {w:World} {c g cp:Nat} {n:Nat} {u:World} (h:gF w c (.slice (some ⟨g,0,none⟩) n cp) n u) {p:Nat} (hp:p<n):∃ l:Pl.Ln,(∀ j,j<8->u.cell? ⟨g,p*8+j,none⟩=l.cells[j]?)/\∀ j,u.frozen? ⟨g,j,none⟩=false:=by
 obtain⟨cs,h1,h2⟩:=h.own
 obtain⟨l,_,hc⟩:=h2 p hp
 exact⟨l,fun j hj=>by rw[h1.cellAt (p*8+j) (by omega)];exact hc j hj,fun j=>h1.frozenAt j⟩
theorem gF.put {w:World} {c g cp:Nat} {n:Nat} {u:World} (h:gF w c (.slice (some ⟨g,0,none⟩) n cp) n u) (p j:Nat) (x:Value) (hj:j<8) (hx:(∃ z:Int,x=.int .i64 z/\j≠6)\/(∃ s:ByteArray,x=.string s/\s.size<=100/\j=6)):gF w c (.slice (some ⟨g,0,none⟩) n cp) n (u.setCell ⟨g,p*8+j,none⟩ x):=by
 obtain⟨cs,h1,h2⟩:=h.own
 have hg:=(h1.lt g rfl).1
 have hc:=h.hc
 exact⟨⟨_,(h1.stored (p*8+j) x).1,h2.set h1.1 p j x hj hx⟩,h.rd.setOther (by omega),h.gP.low ((Below.refl _ _).setCell hg _),hc⟩
theorem gF.pW {w:World} {c g cp:Nat} {n:Nat} {u:World} (h:gF w c (.slice (some ⟨g,0,none⟩) n cp) n u) (p j:Nat) (z:Int) (hj:j<8/\j≠6):gF w c (.slice (some ⟨g,0,none⟩) n cp) n (u.setCell ⟨g,p*8+j,none⟩ (.int .i64 z)):=h.put p j _ hj.1 (.inl ⟨z,rfl,hj.2⟩)
theorem gF.zH {w:World} {c g cp:Nat} {n:Nat} {u:World} (h:gF w c (.slice (some ⟨g,0,none⟩) n cp) n u) (p:Nat) (z:Int):gF w c (.slice (some ⟨g,0,none⟩) n cp) n (u.setCell ⟨g,p*8,none⟩ (.int .i64 z)):=h.pW p 0 z (by decide)
theorem gF.wM {w:World} {c g cp:Nat} {n:Nat} {u:World} (h:gF w c (.slice (some ⟨g,0,none⟩) n cp) n u) (p:Nat) (z:Int):gF w c (.slice (some ⟨g,0,none⟩) n cp) n (u.setCell ⟨g,p*8+1+1,none⟩ (.int .i64 z)):=h.pW p 2 z (by decide)
theorem gF.zI {w:World} {c g cp:Nat} {n:Nat} {u:World} (h:gF w c (.slice (some ⟨g,0,none⟩) n cp) n u) (p:Nat) (s:ByteArray) (hs:s.size<=100):gF w c (.slice (some ⟨g,0,none⟩) n cp) n (u.setCell ⟨g,p*8+6,none⟩ (.string s)):=h.put p 6 _ (by decide) (.inr ⟨s,rfl,hs,rfl⟩)
theorem gF.cut {w:World} {c g cp:Nat} {n:Nat} {u:World} (h:gF w c (.slice (some ⟨g,0,none⟩) n cp) n u) {p:Nat} (hp:p<=n):gF w c (.slice (some ⟨g,0,none⟩) p cp) p u:=by
 obtain⟨cs,h1,h2⟩:=h.own
 refine⟨⟨cs.take (p*8),⟨by rw[List.length_take,h1.1];omega,?_⟩,h2.take hp⟩,h.rd,h.gP,h.hc⟩
 rcases h1.2 with ⟨q,_⟩ | ⟨g',cap',cur,h',hb,hg,hnc,hcm,hcs,ht⟩
 ·cases q
 ·simp only[Value.slice.injEq,Option.some.injEq,Addr.mk.injEq,and_true,true_and]at h'
  obtain⟨rfl,rfl⟩:=h'
  exact .inr ⟨g,cp,cur,rfl,hb,hg,by omega,hcm,hcs,by rw[<- ht,List.take_take];congr 1;omega⟩
theorem gF.cells {w:World} {c g cp:Nat} {n:Nat} {u:World} (h:gF w c (.slice (some ⟨g,0,none⟩) n cp) n u):∃ cs:List Value,cs.length=n*8/\uV n cs/\∀ j x,cs[j]?=some x->u.cell? ((⟨g,0,none⟩:Addr).add j)=some x:=by
 obtain⟨cs,h1,h2⟩:=h.own
 exact⟨cs,h1.1,h2,h1.cells rfl⟩
theorem gF.facts {w:World} {c g cp:Nat} {n:Nat} {y:World} (h:gF w c (.slice (some ⟨g,0,none⟩) n cp) n y) {p:Nat} (hp:p<n) (gl:g<y.heap.size):∃ l:Pl.Ln,(∀ j:Nat,y.frozen? ⟨g,j,none⟩=false)/\(∀ (o:Obj) (j:Nat),(y.alloc o).frozen? ⟨g,j,none⟩=false)/\y.cell? ⟨g,p*8,none⟩=some (.int .i64 l.k)/\(∀ o:Obj,(y.alloc o).cell? ⟨g,p*8,none⟩=some (.int .i64 l.k))/\y.cell? ⟨g,p*8+1,none⟩=some (.int .i64 l.op)/\(∀ o:Obj,(y.alloc o).cell? ⟨g,p*8+1,none⟩=some (.int .i64 l.op))/\y.cell? ⟨g,p*8+2,none⟩=some (.int .i64 l.rd)/\(∀ o:Obj,(y.alloc o).cell? ⟨g,p*8+2,none⟩=some (.int .i64 l.rd))/\y.cell? ⟨g,p*8+3,none⟩=some (.int .i64 l.r1)/\(∀ o:Obj,(y.alloc o).cell? ⟨g,p*8+3,none⟩=some (.int .i64 l.r1))/\y.cell? ⟨g,p*8+4,none⟩=some (.int .i64 l.r2)/\(∀ o:Obj,(y.alloc o).cell? ⟨g,p*8+4,none⟩=some (.int .i64 l.r2))/\y.cell? ⟨g,p*8+5,none⟩=some (.int .i64 l.im)/\(∀ o:Obj,(y.alloc o).cell? ⟨g,p*8+5,none⟩=some (.int .i64 l.im))/\y.cell? ⟨g,p*8+6,none⟩=some (.string l.s)/\(∀ o:Obj,(y.alloc o).cell? ⟨g,p*8+6,none⟩=some (.string l.s))/\y.cell? ⟨g,p*8+7,none⟩=some (.int .i64 l.n)/\(∀ o:Obj,(y.alloc o).cell? ⟨g,p*8+7,none⟩=some (.int .i64 l.n)):=by
 obtain⟨l,hl,hf⟩:=h.line hp
 have e:∀ (o:Obj) (q:Nat),(y.alloc o).cell? ⟨g,q,none⟩=y.cell? ⟨g,q,none⟩:=fun o q=>(aB y o).cell (p:=⟨g,q,none⟩) gl
 exact⟨l,hf,fun o j=>((h.alloc o).line hp).elim fun _ q=>q.2 j,hl 0 (by decide),fun o=>(e o _).trans (hl 0 (by decide)),hl 1 (by decide),fun o=>(e o _).trans (hl 1 (by decide)),hl 2 (by decide),fun o=>(e o _).trans (hl 2 (by decide)),hl 3 (by decide),fun o=>(e o _).trans (hl 3 (by decide)),hl 4 (by decide),fun o=>(e o _).trans (hl 4 (by decide)),hl 5 (by decide),fun o=>(e o _).trans (hl 5 (by decide)),hl 6 (by decide),fun o=>(e o _).trans (hl 6 (by decide)),hl 7 (by decide),fun o=>(e o _).trans (hl 7 (by decide))⟩
set_option maxRecDepth 8000 in
theorem DV (w u:World) (c:Nat) (v:Value) (n:Nat) (S:gF w c v n u) (hn:0<n) (hn1:n<=100):Calls Tryz.prog 58 #[.pointer (some ⟨c,0,none⟩),v] u fun e u'=>∃ (v':Value) (n':Nat),e=.returned v'/\n'<=200/\gF w c v' n' u':=by
 obtain⟨g,cp,rfl,hwg,hgu,Tj,Tk⟩:=S.form hn
 have HS:Hid (gF w c (.slice (some ⟨g,0,none⟩) n cp) n u):=S
 have E9:Hid (g<u.heap.size):=hgu
 clear S hwg hgu
 go_enter Tryz.func58,Tryz.ntmps58
 go_wp2_with fail
 refine (bX _ c HS.out.rd).mono ?_
 rintro e y1 ⟨k,rfl,hk,R1,O1⟩
 have S1:Hid (gF w c (.slice (some ⟨g,0,none⟩) n cp) n y1):=HS.out.next R1 O1
 have G1:Hid (g<y1.heap.size):=Nat.lt_of_lt_of_le E9.out O1.size
 clear R1 O1 HS E9
 go_wp2_with fail
 refine (bX _ c S1.out.rd).mono ?_
 rintro e y ⟨m,rfl,hm,R1,O1⟩
 have S:Hid (gF w c (.slice (some ⟨g,0,none⟩) n cp) n y):=S1.out.next R1 O1
 have HG:Hid (g<y.heap.size):=Nat.lt_of_lt_of_le G1.out O1.size
 clear R1 O1 S1 G1 y1
 have Tm:¬ (n=0):=by omega
 have Tn:¬ ((n:Int)=0):=by omega
 have T9:∀ (a:Int) (w:World),(binOp .rem 3 (.int .i64 a) (.int .i64 (n:Int))).run Tryz.prog w=.ok (.int .i64 (a.tmod (n:Int))) w:=fun a w=>by simp[go_sem,Tm,Tn]
 obtain⟨p,hp1,hp2,hp⟩:∃ p:Nat,((m:Int).tmod (n:Int))=(p:Int)/\((m:Int) % (n:Int))=(p:Int)/\p<n:=jS m n hn
 have U3:(p:Int)<(n:Int):=by omega
 obtain⟨j,hj1,hj2,Ta⟩:∃ i:Nat,((k:Int).tmod 9)=(i:Int)/\((k:Int) % 9)=(i:Int)/\i<9:=jS k 9 (by decide)
 rcases (show j=0\/j=1\/j=2\/j=3\/j=4\/j=5\/j=6\/j=7\/j=8 by omega) with rfl | rfl | rfl | rfl | rfl | rfl | rfl | rfl | hj8
 ·obtain⟨q,hq1,hq2,hq3,hq4,Qh⟩:∃ i:Nat,((k:Int).tdiv 9).tmod 6=(i:Int)/\((k:Int) / 9 % 6)=(i:Int)/\(((k:Int) / 9).tmod 6)=(i:Int)/\(((k:Int).tdiv 9) % 6)=(i:Int)/\i<6:=tJ k 9 6 (by decide)
  obtain⟨l,hf,kf,c0,e0,c1,e1,c2,e2,c3,e3,c4,e4,c5,e5,c6,e6,c7,e7⟩:=S.out.facts hp HG.out
  have Tp:(q:Int)<6:=by omega
  have tb:∀ (hh:q < [Value.string ⟨#[]⟩,Value.string ⟨#[57,97]⟩,Value.string ⟨#[110,111,119,104,101,114,101]⟩,Value.string ⟨#[97,32,98]⟩,Value.string ⟨#[98,46,49]⟩,Value.string ⟨#[97,97,97,97,97,97,97,97,97,97,97,97,97,97,97,97,97,97,97,97,97,97,97,97,97,97,97,97,97,97,97,97,97,97,97,97,97,97,97,97,97,97,97,97,97,97,97,97,97]⟩].length),([Value.string ⟨#[]⟩,Value.string ⟨#[57,97]⟩,Value.string ⟨#[110,111,119,104,101,114,101]⟩,Value.string ⟨#[97,32,98]⟩,Value.string ⟨#[98,46,49]⟩,Value.string ⟨#[97,97,97,97,97,97,97,97,97,97,97,97,97,97,97,97,97,97,97,97,97,97,97,97,97,97,97,97,97,97,97,97,97,97,97,97,97,97,97,97,97,97,97,97,97,97,97,97,97]⟩]:List Value)[q]'hh=.string ([⟨#[]⟩,⟨#[57,97]⟩,⟨#[110,111,119,104,101,114,101]⟩,⟨#[97,32,98]⟩,⟨#[98,46,49]⟩,⟨#[97,97,97,97,97,97,97,97,97,97,97,97,97,97,97,97,97,97,97,97,97,97,97,97,97,97,97,97,97,97,97,97,97,97,97,97,97,97,97,97,97,97,97,97,97,97,97,97,97]⟩].getD q ⟨#[]⟩):=fun hh=>by
   rcases (show q=0\/q=1\/q=2\/q=3\/q=4\/q=5 by omega) with rfl | rfl | rfl | rfl | rfl | rfl <;> rfl
  have sO:([⟨#[]⟩,⟨#[57,97]⟩,⟨#[110,111,119,104,101,114,101]⟩,⟨#[97,32,98]⟩,⟨#[98,46,49]⟩,⟨#[97,97,97,97,97,97,97,97,97,97,97,97,97,97,97,97,97,97,97,97,97,97,97,97,97,97,97,97,97,97,97,97,97,97,97,97,97,97,97,97,97,97,97,97,97,97,97,97,97]⟩].getD q ⟨#[]⟩:ByteArray).size<=100:=by
   rcases (show q=0\/q=1\/q=2\/q=3\/q=4\/q=5 by omega) with rfl | rfl | rfl | rfl | rfl | rfl <;> decide
  generalize ([⟨#[]⟩,⟨#[57,97]⟩,⟨#[110,111,119,104,101,114,101]⟩,⟨#[97,32,98]⟩,⟨#[98,46,49]⟩,⟨#[97,97,97,97,97,97,97,97,97,97,97,97,97,97,97,97,97,97,97,97,97,97,97,97,97,97,97,97,97,97,97,97,97,97,97,97,97,97,97,97,97,97,97,97,97,97,97,97,97]⟩].getD q ⟨#[]⟩:ByteArray)=s9 at tb sO
  go_wp2
  go_ret
  first | exact⟨_,n,rfl,by omega,(by repeat (first | exact S.out | refine gF.zH ?_ _ _ | refine gF.wM ?_ _ _ | refine gF.pW ?_ _ _ _ (by decide) | refine gF.zI ?_ _ _ sO | refine gF.alloc ?_ _))⟩ | exact⟨_,rfl,n,by omega,(by repeat (first | exact S.out | refine gF.zH ?_ _ _ | refine gF.wM ?_ _ _ | refine gF.pW ?_ _ _ _ (by decide) | refine gF.zI ?_ _ _ sO | refine gF.alloc ?_ _))⟩
 ·obtain⟨q,hq1,hq2,hq3,hq4,Qh⟩:∃ i:Nat,((k:Int).tdiv 9).tmod 7=(i:Int)/\((k:Int) / 9 % 7)=(i:Int)/\(((k:Int) / 9).tmod 7)=(i:Int)/\(((k:Int).tdiv 9) % 7)=(i:Int)/\i<7:=tJ k 9 7 (by decide)
  obtain⟨l,hf,kf,c0,e0,c1,e1,c2,e2,c3,e3,c4,e4,c5,e5,c6,e6,c7,e7⟩:=S.out.facts hp HG.out
  have Tp:(q:Int)<7:=by omega
  have tb7:∀ (a0 a1 a2 a3 a4 a5 a6:Int) (hh:q < [Value.int .i64 a0,Value.int .i64 a1,Value.int .i64 a2,Value.int .i64 a3,Value.int .i64 a4,Value.int .i64 a5,Value.int .i64 a6].length),([Value.int .i64 a0,Value.int .i64 a1,Value.int .i64 a2,Value.int .i64 a3,Value.int .i64 a4,Value.int .i64 a5,Value.int .i64 a6]:List Value)[q]'hh=.int .i64 ([a0,a1,a2,a3,a4,a5,a6].getD q 0):=fun a0 a1 a2 a3 a4 a5 a6 hh=>uK [a0,a1,a2,a3,a4,a5,a6] q hh
  go_wp2
  go_ret
  first | exact⟨_,n,rfl,by omega,(by repeat (first | exact S.out | refine gF.zH ?_ _ _ | refine gF.wM ?_ _ _ | refine gF.pW ?_ _ _ _ (by decide) | refine gF.zI ?_ _ _ sO | refine gF.alloc ?_ _))⟩ | exact⟨_,rfl,n,by omega,(by repeat (first | exact S.out | refine gF.zH ?_ _ _ | refine gF.wM ?_ _ _ | refine gF.pW ?_ _ _ _ (by decide) | refine gF.zI ?_ _ _ sO | refine gF.alloc ?_ _))⟩
 ·obtain⟨q,hq1,hq2,hq3,hq4,Qh⟩:∃ i:Nat,((k:Int).tdiv 9).tmod 19=(i:Int)/\((k:Int) / 9 % 19)=(i:Int)/\(((k:Int) / 9).tmod 19)=(i:Int)/\(((k:Int).tdiv 9) % 19)=(i:Int)/\i<19:=tJ k 9 19 (by decide)
  obtain⟨l,hf,kf,c0,e0,c1,e1,c2,e2,c3,e3,c4,e4,c5,e5,c6,e6,c7,e7⟩:=S.out.facts hp HG.out
  go_wp2
  go_ret
  first | exact⟨_,n,rfl,by omega,(by repeat (first | exact S.out | refine gF.zH ?_ _ _ | refine gF.wM ?_ _ _ | refine gF.pW ?_ _ _ _ (by decide) | refine gF.zI ?_ _ _ sO | refine gF.alloc ?_ _))⟩ | exact⟨_,rfl,n,by omega,(by repeat (first | exact S.out | refine gF.zH ?_ _ _ | refine gF.wM ?_ _ _ | refine gF.pW ?_ _ _ _ (by decide) | refine gF.zI ?_ _ _ sO | refine gF.alloc ?_ _))⟩
 ·obtain⟨q,hq1,hq2,hq3,hq4,Qh⟩:∃ i:Nat,((k:Int).tdiv 9).tmod 3=(i:Int)/\((k:Int) / 9 % 3)=(i:Int)/\(((k:Int) / 9).tmod 3)=(i:Int)/\(((k:Int).tdiv 9) % 3)=(i:Int)/\i<3:=tJ k 9 3 (by decide)
  obtain⟨l,hf,kf,c0,e0,c1,e1,c2,e2,c3,e3,c4,e4,c5,e5,c6,e6,c7,e7⟩:=S.out.facts hp HG.out
  have Tp:(q:Int)<3:=by omega
  have C9:∀ (a0 a1 a2:Int) (hh:q < [Value.int .i64 a0,Value.int .i64 a1,Value.int .i64 a2].length),([Value.int .i64 a0,Value.int .i64 a1,Value.int .i64 a2]:List Value)[q]'hh=.int .i64 ([a0,a1,a2].getD q 0):=fun a0 a1 a2 hh=>uK [a0,a1,a2] q hh
  go_wp2
  go_ret
  first | exact⟨_,n,rfl,by omega,(by repeat (first | exact S.out | refine gF.zH ?_ _ _ | refine gF.wM ?_ _ _ | refine gF.pW ?_ _ _ _ (by decide) | refine gF.zI ?_ _ _ sO | refine gF.alloc ?_ _))⟩ | exact⟨_,rfl,n,by omega,(by repeat (first | exact S.out | refine gF.zH ?_ _ _ | refine gF.wM ?_ _ _ | refine gF.pW ?_ _ _ _ (by decide) | refine gF.zI ?_ _ _ sO | refine gF.alloc ?_ _))⟩
 ·go_wp2_with (at_builtin;refine dM ⟨1,0,0,0,0,0,⟨#[97]⟩,0⟩ y.heap.size rfl _ _ rfl rfl rfl (heap_alloc_new y _) (S.out.alloc _) (by decide) (by omega) fun v6 u6 S6 qV=>?_;replace S:Hid (gF w c v6 _ u6):=S6;clear S6 qV)
  go_ret
  first | exact⟨_,_,rfl,by omega,S.out⟩ | exact⟨_,rfl,_,by omega,S.out⟩
 ·obtain⟨q,hq1,hq2,hq3,hq4,Qh⟩:∃ i:Nat,((k:Int).tdiv 9).tmod 2=(i:Int)/\((k:Int) / 9 % 2)=(i:Int)/\(((k:Int) / 9).tmod 2)=(i:Int)/\(((k:Int).tdiv 9) % 2)=(i:Int)/\i<2:=tJ k 9 2 (by decide)
  obtain⟨l,hf,kf,c0,e0,c1,e1,c2,e2,c3,e3,c4,e4,c5,e5,c6,e6,c7,e7⟩:=S.out.facts hp HG.out
  have Tp:(q:Int)<2:=by omega
  have tb2:∀ (a0 a1:Int) (hh:q < [Value.int .i64 a0,Value.int .i64 a1].length),([Value.int .i64 a0,Value.int .i64 a1]:List Value)[q]'hh=.int .i64 ([a0,a1].getD q 0):=fun a0 a1 hh=>uK [a0,a1] q hh
  go_wp2
  go_ret
  first | exact⟨_,n,rfl,by omega,((((((((S.out.alloc _).zH p _).pW p 1 _ (by decide)).pW p 2 _ (by decide)).pW p 3 _ (by decide)).pW p 4 _ (by decide)).pW p 5 _ (by decide)).zI p _ (by decide)).pW p 7 _ (by decide)⟩ | exact⟨_,rfl,n,by omega,((((((((S.out.alloc _).zH p _).pW p 1 _ (by decide)).pW p 2 _ (by decide)).pW p 3 _ (by decide)).pW p 4 _ (by decide)).pW p 5 _ (by decide)).zI p _ (by decide)).pW p 7 _ (by decide)⟩
 ·have hpn:(p:Int)<=(n:Int):=by omega
  have hpc:(p:Int)<=(cp:Int):=by omega
  have hp0:(0:Int)<=(p:Int):=by omega
  go_wp2
  go_ret
  first | exact⟨_,p,rfl,by omega,S.out.cut (by omega)⟩ | exact⟨_,rfl,p,by omega,S.out.cut (by omega)⟩
 ·go_wp2_with fail
  have S0:Hid (gF w c (.slice (some ⟨g,0,none⟩) n cp) n y):=S.out
  clear S
  go_loopw [1,8] (fun vv i wr=>∃ (m i_:Nat),i=.int .i64 (i_:Int)/\i_<=17/\m=n+i_/\Hid (gF w c vv m wr)) (fun _ i _=>17-(intOf i).toNat)
  case atStart=>exact⟨n,0,rfl,by omega,rfl,S0.out⟩
  case round=>
   obtain⟨m,i_,rfl,hi1,hm,S⟩:=hrel
   have hm1:m<=117:=by omega
   by_cases hlt:i_<17
   ·have hi:(i_:Int)<17:=by omega
    go_wp2_with (at_builtin;refine dM ⟨15,0,0,0,0,0,⟨#[]⟩,4096⟩ wr.heap.size rfl _ _ rfl rfl rfl (heap_alloc_new wr _) (S.out.alloc _) (by decide) (by omega) fun v6 u6 S6 qV=>?_;replace S:Hid (gF w c v6 _ u6):=S6;clear S6 qV)
    go_roundw
    case rel=>exact⟨m+1,i_+1,by go_num,by omega,by omega,S.out⟩
    case measure=>simp[intOf];omega
   ·have hi:¬ (i_:Int)<17:=by omega
    go_wp2
    go_ret
    first | exact⟨_,m,rfl,by omega,S.out⟩ | exact⟨_,rfl,m,by omega,S.out⟩
 ·have hj0:¬ (j:Int)=0:=by omega
  have hj1:¬ (j:Int)=1:=by omega
  have hj2:¬ (j:Int)=2:=by omega
  have Ta:¬ (j:Int)=3:=by omega
  have C8:¬ (j:Int)=4:=by omega
  have R6:¬ (j:Int)=5:=by omega
  have R7:¬ (j:Int)=6:=by omega
  have hj7:¬ (j:Int)=7:=by omega
  have SB:Hid (gF w c (.slice (some ⟨y.heap.size,0,none⟩) 1 1) 1 (y.alloc (.cells #[.int .i64 (⟨3,37,0,0,0,0,⟨#[90,122,95,57]⟩,0⟩:Pl.Ln).k,.int .i64 (⟨3,37,0,0,0,0,⟨#[90,122,95,57]⟩,0⟩:Pl.Ln).op,.int .i64 (⟨3,37,0,0,0,0,⟨#[90,122,95,57]⟩,0⟩:Pl.Ln).rd,.int .i64 (⟨3,37,0,0,0,0,⟨#[90,122,95,57]⟩,0⟩:Pl.Ln).r1,.int .i64 (⟨3,37,0,0,0,0,⟨#[90,122,95,57]⟩,0⟩:Pl.Ln).r2,.int .i64 (⟨3,37,0,0,0,0,⟨#[90,122,95,57]⟩,0⟩:Pl.Ln).im,.string (⟨3,37,0,0,0,0,⟨#[90,122,95,57]⟩,0⟩:Pl.Ln).s,.int .i64 (⟨3,37,0,0,0,0,⟨#[90,122,95,57]⟩,0⟩:Pl.Ln).n] 51))):=⟨⟨_,World.ownsRow_lit y _ 1 S.out.gP.size (by unfold maxLen;decide) rfl,uV.one ⟨3,37,0,0,0,0,⟨#[90,122,95,57]⟩,0⟩ (by decide)⟩,S.out.rd.alloc _,S.out.gP.low (aB y _ |>.mono S.out.gP.size),S.out.hc⟩
  obtain⟨cs,hcs,hL,hcell⟩:=(S.out.alloc (.cells #[.int .i64 (⟨3,37,0,0,0,0,⟨#[90,122,95,57]⟩,0⟩:Pl.Ln).k,.int .i64 (⟨3,37,0,0,0,0,⟨#[90,122,95,57]⟩,0⟩:Pl.Ln).op,.int .i64 (⟨3,37,0,0,0,0,⟨#[90,122,95,57]⟩,0⟩:Pl.Ln).rd,.int .i64 (⟨3,37,0,0,0,0,⟨#[90,122,95,57]⟩,0⟩:Pl.Ln).r1,.int .i64 (⟨3,37,0,0,0,0,⟨#[90,122,95,57]⟩,0⟩:Pl.Ln).r2,.int .i64 (⟨3,37,0,0,0,0,⟨#[90,122,95,57]⟩,0⟩:Pl.Ln).im,.string (⟨3,37,0,0,0,0,⟨#[90,122,95,57]⟩,0⟩:Pl.Ln).s,.int .i64 (⟨3,37,0,0,0,0,⟨#[90,122,95,57]⟩,0⟩:Pl.Ln).n] 51)).cells
  have HX:Hid (cs.length=n*8/\uV n cs):=⟨hcs,hL⟩
  have HY:Hid (∀ j x,cs[j]?=some x->(y.alloc (.cells #[.int .i64 (⟨3,37,0,0,0,0,⟨#[90,122,95,57]⟩,0⟩:Pl.Ln).k,.int .i64 (⟨3,37,0,0,0,0,⟨#[90,122,95,57]⟩,0⟩:Pl.Ln).op,.int .i64 (⟨3,37,0,0,0,0,⟨#[90,122,95,57]⟩,0⟩:Pl.Ln).rd,.int .i64 (⟨3,37,0,0,0,0,⟨#[90,122,95,57]⟩,0⟩:Pl.Ln).r1,.int .i64 (⟨3,37,0,0,0,0,⟨#[90,122,95,57]⟩,0⟩:Pl.Ln).r2,.int .i64 (⟨3,37,0,0,0,0,⟨#[90,122,95,57]⟩,0⟩:Pl.Ln).im,.string (⟨3,37,0,0,0,0,⟨#[90,122,95,57]⟩,0⟩:Pl.Ln).s,.int .i64 (⟨3,37,0,0,0,0,⟨#[90,122,95,57]⟩,0⟩:Pl.Ln).n] 51)).cell? ((⟨g,0,none⟩:Addr).add j)=some x):=hcell
  clear hcs hL hcell
  go_wp2_with (at_builtin;refine uL rfl _ _ rfl SB.out rfl ⟨g,0,none⟩ n cp cs rfl HX.out.1 HY.out HX.out.2 (by omega) fun v6 u6 S6 qV=>?_;replace S:Hid (gF w c v6 _ u6):=S6;clear S6 qV)
  go_ret
  first | exact⟨_,_,rfl,by omega,S.out⟩ | exact⟨_,rfl,_,by omega,S.out⟩
theorem uW {P:Program} (w:World) (base:Nat) (t tn ty e:TypeId) (i:TypeInfo) (z:Value) (size bytes:Nat) (k kn:IntKind) (ht:P.underlying t=some (.slice e)) (htn:P.underlying tn=some (.int kn)) (hi:P.info? e=some i) (hz:i.zero=some z) (hsize:i.size=size) (hby:i.bytes=bytes) (hzs:z.cells.size=size) (hsz:0<size)
  (g n cap:Nat) (xs:List Value) (hown:w.ownsRow base e size (.slice (some ⟨g,0,none⟩) n cap) n xs) (m:Nat) (h1:∀ u∈(Builtin.zeroCells z.cells m).toList,u.oneCell'=true) (hm0:0<m) (hmb:(n+m)*bytes<=140737488355328) (hm:n+m<=70368744177664) (hbase:base<=w.heap.size) (U4:m*bytes<=140737488355328) :
  ∃ v' w',(Builtin.append_ #[t,tn] ty #[.slice (some ⟨g,0,none⟩) n cap,.int k m]).run P w=.ok v' w'/\w'.ownsRow base e size v' (n+m) (xs ++ (Builtin.zeroCells z.cells m).toList)/\w.grownBy w' (some g):=by
 have hw:IntKind.i64.wrap (m:Int)=m:=by rw[IntKind.wrap_i64];omega
 have hneg:¬ ((m:Int)<0):=by omega
 have Kz:¬ m=0:=by omega
 have hms:¬ m*size=0:=Nat.ne_of_gt (Nat.mul_pos hm0 hsz)
 have hxl:xs.length=n*size:=hown.1
 have hzl:(Builtin.zeroCells z.cells m).toList.length=m*size:=by rw[Array.length_toList,size_zeroCells,hzs]
 have Qi:(n+m)*size=n*size+m*size:=Nat.add_mul _ _ _
 have h48i:¬ (281474976710656<(m:Int)*(bytes:Int)):=by
  have:((m*bytes:Nat):Int)<=140737488355328:=by omega
  rw[Int.natCast_mul]at this;omega
 rcases hown.2 with ⟨h',_⟩ | ⟨g',cap',cur,h',hbg,hg,hnc,hcm,hcs,htake⟩
 ·simp at h'
 simp only[Value.slice.injEq,Option.some.injEq,Addr.mk.injEq,and_true,true_and]at h'
 obtain⟨rfl,rfl⟩:=h'
 by_cases hroom:n+m<=cap
 ·have hcap:(n+m)*size<=cap*size:=Nat.mul_le_mul_right _ hroom
  have hst:=run_storeCells_at P g (n*size) e (Builtin.zeroCells z.cells m).toList 0 cur w hg (by rw[hzl];omega) h1
  simp only[Nat.add_zero]at hst
  refine⟨.slice (some ⟨g,0,none⟩) (n+m) cap,_,?_,⟨by rw[List.length_append,hzl,hxl,Qi],.inr ⟨g,cap,_,rfl,hbg,setRow_heap w g cur (cur.toList.take (n*size) ++ (Builtin.zeroCells z.cells m).toList ++ cur.toList.drop (n*size+(Builtin.zeroCells z.cells m).toList.length)).toArray e _ hg,hroom,hcm,?_,?_⟩⟩,⟨rfl,rfl,rfl,by simp,fun k _ hk=>setRow_other w g k _ (fun e=>hk (by simp[e]))⟩⟩
  ·simp[Builtin.append_,run_underlying ht,run_underlying htn,sizeOf,typeInfo,zeroValue,hi,hz,hsize,hby,asInt,asIntOf,hw,hneg,h48i,Kz,hroom,Addr.add_lit]
   simp only[List.append_assoc,Array.length_toList]at hst
   rw[hst,if_neg hms]
   rfl
  ·simp only[List.size_toArray,List.length_append,List.length_take,List.length_drop,Array.length_toList,size_zeroCells,hzs]
   omega
  ·rw[htake]
   have:(n+m)*size=(xs ++ (Builtin.zeroCells z.cells m).toList).length:=by rw[List.length_append,hzl,hxl,Qi]
   rw[this,List.take_left]
 ·have holds:∀ j u,xs[j]?=some u->w.cell? ((⟨g,0,none⟩:Addr).add j)=some u:=hown.cells (g:=g) rfl
  have hf:=run_firstCells_some (P:=P) w size n ⟨g,0,none⟩ n cap xs hxl holds
  have h63':¬ (9223372036854775807<((n+m:Nat):Int)):=by omega
  have hnx:¬ (281474976710656<Builtin.nextslicecap (n+m) cap*bytes):=Nat.not_lt.2 <| growslice_fits (show cap<n+m by omega) hmb
  have hge:=grownCap_ge w (n+m) cap e
  have hgs:(n+m)*size<=grownCap w (n+m) cap e*size:=Nat.mul_le_mul_right _ hge
  refine⟨.slice (some ⟨w.heap.size,0,none⟩) (n+m) (grownCap w (n+m) cap e),w.drew.alloc (.cells (xs.toArray ++ (Builtin.zeroCells z.cells m) ++ Builtin.zeroCells z.cells (grownCap w (n+m) cap e-(n+m))) e),?_,⟨by rw[List.length_append,hzl,hxl,Qi],.inr ⟨w.heap.size,_,_,rfl,hbase,heap_alloc_new w.drew _,hge,grownCap_le_maxLen w _ cap e (by unfold maxLen;omega),?_,?_⟩⟩,⟨rfl,rfl,rfl,by simp,fun k hk _=>Below.heap_alloc w.drew _ k hk⟩⟩
  ·simp[Builtin.append_,run_underlying ht,run_underlying htn,sizeOf,typeInfo,zeroValue,hi,hz,hsize,hby,asInt,asIntOf,hw,hneg,h48i,Kz,hroom,h63',Question.forced,newRow,grownCap,hf]
   rw[if_neg (by omega),if_neg (by simpa using hnx)]
   rw[run_firstCells_some (P:=P) w.drew size n ⟨g,0,none⟩ n cap xs hxl holds]
   show (if m*size=0 then _ else _)=_
   rw[if_neg hms]
   rfl
  ·simp only[Array.size_append,size_zeroCells,hzs,List.size_toArray,hxl]
   rw[Nat.sub_mul]
   omega
  ·simp only[Array.toList_append]
   have:(n+m)*size=(xs ++ (Builtin.zeroCells z.cells m).toList).length:=by rw[List.length_append,hzl,hxl,Qi]
   rw[this,List.take_left]
theorem QY {w:World} {base base':Nat} {e:TypeId} {size:Nat} {v:Value} {n:Nat} {xs:List Value} (h:w.ownsRow base e size v n xs) (hb:base'<=base):w.ownsRow base' e size v n xs:=by
 refine⟨h.1,?_⟩
 rcases h.2 with q | ⟨g,cap,cur,h0,hlo,r⟩
 ·exact .inl q
 ·exact .inr ⟨g,cap,cur,h0,Nat.le_trans hb hlo,r⟩
theorem DW (m i j:Nat) (hi:i<m) (hj:j<8):(Builtin.zeroCells (#[.int .i64 0,.int .i64 0,.int .i64 0,.int .i64 0,.int .i64 0,.int .i64 0,.string ⟨#[]⟩,.int .i64 0]:Array Value) m).toList[i*8+j]?=Pl.Ln.zero.cells[j]?:=by
 have h8:(#[.int .i64 0,.int .i64 0,.int .i64 0,.int .i64 0,.int .i64 0,.int .i64 0,.string ⟨#[]⟩,.int .i64 0]:Array Value).size=8:=rfl
 unfold Builtin.zeroCells
 rw[Array.getElem?_toList,h8,Array.getElem?_map,Array.getElem?_range]
 have:(i*8+j) % 8=j:=by omega
 rw[if_pos (by omega)]
 simp only[Option.map_some,this]
 rcases (show j=0\/j=1\/j=2\/j=3\/j=4\/j=5\/j=6\/j=7 by omega) with rfl | rfl | rfl | rfl | rfl | rfl | rfl | rfl <;> rfl
theorem uV.zeros (m:Nat):uV m (Builtin.zeroCells (#[.int .i64 0,.int .i64 0,.int .i64 0,.int .i64 0,.int .i64 0,.int .i64 0,.string ⟨#[]⟩,.int .i64 0]:Array Value) m).toList:=fun i hi=>⟨Pl.Ln.zero,by decide,fun j hj=>DW m i j hi hj⟩
theorem DX {ops:Array Oper} {rest:List Oper} {o:Oper} {a:Act} {Q:Exit->Act->World->Prop} {w u:World} {c n g cp:Nat} (hgd:o.guard=none) (s x:Operand)
  (ho:o.op=.call { callee:=.builtin .append,args:=#[s,x],argTypes:=#[23,3] }) (hs:a.eval s=.slice (some ⟨g,0,none⟩) n cp) (m:Nat) (hx:a.eval x=.int .i64 (m:Int)) (S:gF w c (.slice (some ⟨g,0,none⟩) n cp) n u) (hm0:0<m) (hn:n+m<=100000)
  (h:∀ v' u',gF w c v' (n+m) u'->wpList Tryz.prog ops Q rest (a.put o.dst v') u'):wpList Tryz.prog ops Q (o :: rest) a u:=by
 have hinfo:(Tryz.prog.info? 51).map (fun i=>(i.zero,i.size,i.bytes))=some (some (.agg #[.int .i64 0,.int .i64 0,.int .i64 0,.int .i64 0,.int .i64 0,.int .i64 0,.string ⟨#[]⟩,.int .i64 0]),8,72):=by kernel_rfl
 obtain⟨i0,hi0,hz0,hz1,hz2⟩:=info_parts hinfo
 obtain⟨cs,h1,h2⟩:=S.own
 have hlen:(Builtin.zeroCells (Value.agg #[.int .i64 0,.int .i64 0,.int .i64 0,.int .i64 0,.int .i64 0,.int .i64 0,.string ⟨#[]⟩,.int .i64 0]).cells m).toList.length=m*8:=by rw[Array.length_toList,size_zeroCells];rfl
 obtain⟨v',u',hr,ho',hg⟩:=uW (P:=Tryz.prog) u w.heap.size 23 3 o.type 51 i0 (.agg #[.int .i64 0,.int .i64 0,.int .i64 0,.int .i64 0,.int .i64 0,.int .i64 0,.string ⟨#[]⟩,.int .i64 0]) 8 72 .i64 .i64 Tryz.underlying23 Tryz.underlying3 hi0 hz0 hz1 hz2 rfl (by decide) g n cp cs h1 m ((uV.zeros m).cell hlen) hm0 (by omega) (by omega) S.gP.size (by omega)
 refine Lib.wpList_append_run u hgd s x 23 3 ho _ _ hs hx v' u' hr ?_
 have hgb:=h1.lt g rfl
 have hc:=S.hc
 refine h v' u' ⟨⟨_,ho',h2.app (uV.zeros m) h1.1⟩,DN S.rd hg (fun q e=>by cases e;omega),?_,S.hc⟩
 refine⟨hg.os.trans S.gP.os,hg.tape.trans S.gP.tape,hg.output.trans S.gP.output,Nat.le_trans S.gP.size hg.size,fun b hb hne=>(hg.block b (Nat.lt_of_lt_of_le hb S.gP.size) (fun e=>?_)).trans (S.gP.block b hb hne)⟩
 cases e
 omega
set_option maxRecDepth 8000 in
theorem AJ (w:World) (c:Nat) (h:iE w c):Calls Tryz.prog 19 #[.pointer (some ⟨c,0,none⟩)] w fun e w'=>∃ (v:Value) (n:Nat),e=.returned v/\n<=20001/\gF w c v n w':=by
 have H0:Hid (iE w c):=h
 have HC:Hid (c<w.heap.size):=h.lt
 clear h
 go_enter Tryz.func19,Tryz.ntmps19
 go_wp2_with fail
 refine (bX w c H0.out).mono ?_
 rintro e y1 ⟨k,rfl,hk,R1,O1⟩
 have R:Hid (iE y1 c):=R1
 have O:Hid (dX c w y1):=O1
 clear R1 O1 H0
 go_wp2_with fail
 refine (DT y1 c R.out).mono ?_
 rintro e y ⟨v,n,rfl,hn0,hn1,S1⟩
 have S:Hid (gF w c v n y):=by
  obtain⟨cs,q1,q2⟩:=S1.own
  exact⟨⟨cs,QY q1 O.out.size,q2⟩,S1.rd,O.out.trans S1.gP,HC.out⟩
 clear S1 R O
 obtain⟨e4,Tf,Tg,Ti⟩:∃ i:Nat,((k:Int).tmod 4)=(i:Int)/\((k:Int) % 4)=(i:Int)/\i<4:=jS k 4 (by decide)
 by_cases h3:e4=3
 ·subst h3
  have hk4:¬ (k:Int)=254:=by omega
  go_wp2_with fail
  refine (DV w y c v n S.out hn0 hn1).mono ?_
  rintro e y ⟨v,n,rfl,hn2,S2⟩
  replace S:Hid (gF w c v n y):=S2
  clear S2
  have hk5:¬ (k:Int)=250:=by omega
  go_wp2
  go_ret
  first | exact⟨_,n,rfl,by omega,S.out⟩ | exact⟨_,rfl,n,by omega,S.out⟩
 ·have he3:¬ (e4:Int)=3:=by omega
  by_cases h4:k=254
  ·subst h4
   obtain⟨g,cp,rfl,hwg,hgu,Tj,Tk⟩:=S.out.form hn0
   have hx:(20001:Int)-(n:Int)=((20001-n:Nat):Int):=by omega
   go_wp2_with (at_builtin;refine DX rfl _ _ rfl rfl (20001-n) (by first | rfl | exact congrArg (Value.int .i64) hx) S.out (by omega) (by omega) fun v6 u6 S6=>?_;replace S:Hid (gF w c v6 _ u6):=S6;clear S6)
   go_ret
   first | exact⟨_,_,rfl,by omega,S.out⟩ | exact⟨_,rfl,_,by omega,S.out⟩
  ·have hk4:¬ (k:Int)=254:=by omega
   by_cases Tq:k=250
   ·subst Tq
    have SB:Hid (gF w c (.slice (some ⟨y.heap.size,0,none⟩) 2 2) 2 (y.alloc (.cells #[.int .i64 (⟨3,38,0,0,0,0,⟨#[102,97,114]⟩,0⟩:Pl.Ln).k,.int .i64 (⟨3,38,0,0,0,0,⟨#[102,97,114]⟩,0⟩:Pl.Ln).op,.int .i64 (⟨3,38,0,0,0,0,⟨#[102,97,114]⟩,0⟩:Pl.Ln).rd,.int .i64 (⟨3,38,0,0,0,0,⟨#[102,97,114]⟩,0⟩:Pl.Ln).r1,.int .i64 (⟨3,38,0,0,0,0,⟨#[102,97,114]⟩,0⟩:Pl.Ln).r2,.int .i64 (⟨3,38,0,0,0,0,⟨#[102,97,114]⟩,0⟩:Pl.Ln).im,.string (⟨3,38,0,0,0,0,⟨#[102,97,114]⟩,0⟩:Pl.Ln).s,.int .i64 (⟨3,38,0,0,0,0,⟨#[102,97,114]⟩,0⟩:Pl.Ln).n,.int .i64 (⟨1,0,0,0,0,0,⟨#[95,115,116,97,114,116]⟩,0⟩:Pl.Ln).k,.int .i64 (⟨1,0,0,0,0,0,⟨#[95,115,116,97,114,116]⟩,0⟩:Pl.Ln).op,.int .i64 (⟨1,0,0,0,0,0,⟨#[95,115,116,97,114,116]⟩,0⟩:Pl.Ln).rd,.int .i64 (⟨1,0,0,0,0,0,⟨#[95,115,116,97,114,116]⟩,0⟩:Pl.Ln).r1,.int .i64 (⟨1,0,0,0,0,0,⟨#[95,115,116,97,114,116]⟩,0⟩:Pl.Ln).r2,.int .i64 (⟨1,0,0,0,0,0,⟨#[95,115,116,97,114,116]⟩,0⟩:Pl.Ln).im,.string (⟨1,0,0,0,0,0,⟨#[95,115,116,97,114,116]⟩,0⟩:Pl.Ln).s,.int .i64 (⟨1,0,0,0,0,0,⟨#[95,115,116,97,114,116]⟩,0⟩:Pl.Ln).n] 51))):=⟨⟨_,World.ownsRow_lit y _ 2 S.out.gP.size (by unfold maxLen;decide) rfl,(uV.one (⟨3,38,0,0,0,0,⟨#[102,97,114]⟩,0⟩:Pl.Ln) (by decide)).app (uV.one (⟨1,0,0,0,0,0,⟨#[95,115,116,97,114,116]⟩,0⟩:Pl.Ln) (by decide)) rfl⟩,S.out.rd.alloc _,S.out.gP.low (aB y _ |>.mono S.out.gP.size),S.out.hc⟩
    clear S
    go_wp2_with fail
    go_loopw [5,6] (fun vv i wr=>∃ (n i_:Nat),i=.int .i64 (i_:Int)/\i_<=1024/\n=2+i_/\Hid (gF w c vv n wr)) (fun _ i _=>1024-(intOf i).toNat)
    case atStart=>exact⟨2,0,rfl,by omega,rfl,SB.out⟩
    case round=>
     obtain⟨n,i_,rfl,hi1,hn1,S⟩:=hrel
     have hn2:n<=1026:=by omega
     go_wp2_with fail
     refine (bX _ c S.out.rd).mono ?_
     rintro e y ⟨m,rfl,hm,R,O⟩
     replace S:Hid (gF w c _ _ y):=S.out.next R O
     clear R O
     obtain⟨i3,U5,U6,U7⟩:∃ i:Nat,((m:Int).tmod 3)=(i:Int)/\((m:Int) % 3)=(i:Int)/\i<3:=jS m 3 (by decide)
     by_cases hlt:i_<1022+i3
     ·have hi:(i_:Int)<1022+(i3:Int):=by omega
      go_wp2_with (at_builtin;refine dM ⟨9,0,0,0,0,0,⟨#[]⟩,0⟩ y.heap.size rfl _ _ rfl rfl rfl (heap_alloc_new y _) (S.out.alloc _) (by decide) (by omega) fun v6 u6 S6 qV=>?_;replace S:Hid (gF w c v6 _ u6):=S6;clear S6 qV)
      go_roundw
      case rel=>exact⟨n+1,i_+1,by go_num,by omega,by omega,S.out⟩
      case measure=>simp[intOf];omega
     ·have hi:¬ (i_:Int)<1022+(i3:Int):=by omega
      go_wp2_with (at_builtin;refine dM ⟨1,0,0,0,0,0,⟨#[102,97,114]⟩,0⟩ y.heap.size rfl _ _ rfl rfl rfl (heap_alloc_new y _) (S.out.alloc _) (by decide) (by omega) fun v6 u6 S6 qV=>?_;replace S:Hid (gF w c v6 _ u6):=S6;clear S6 qV)
      go_ret
      first | exact⟨_,_,rfl,by omega,S.out⟩ | exact⟨_,rfl,_,by omega,S.out⟩
   ·have hk5:¬ (k:Int)=250:=by omega
    go_wp2
    go_ret
    first | exact⟨_,n,rfl,by omega,S.out⟩ | exact⟨_,rfl,n,by omega,S.out⟩
theorem gF.row {w:World} {c:Nat} {v:Value} {n:Nat} {u:World} (h:gF w c v n u):∃ (a:Option Addr) (cap:Nat) (xs:List Pl.Ln),v=.slice a n cap/\jE 0 u a n cap xs:=by
 obtain⟨cs,h1,h2⟩:=h.own
 obtain⟨xs,hx1,hx2,hx3⟩:=QX h2
 have hxm:∀ x∈xs,x.s.size<=maxLen:=fun x hx=>Nat.le_trans (hx2 x hx) (by unfold maxLen;decide)
 rcases h1.2 with ⟨rfl,rfl⟩ | ⟨g,cap,cur,rfl,hb,hg,hnc,hcm,hcs,ht⟩
 ·exact⟨none,0,xs,rfl,⟨hx1,hxm⟩,Nat.le_refl _,Nat.zero_le _,.inl rfl⟩
 ·refine⟨_,cap,xs,rfl,⟨hx1,hxm⟩,hnc,hcm,.inr ⟨g,0,rfl,Nat.zero_le _,(h1.lt g rfl).2,fun i hi j hj=>?_⟩⟩
  rw[Nat.zero_add,h1.cellAt (i*8+j) (by omega)]
  exact hx3 i hi j hj
theorem uM {B c:Nat} {w u v:World} (h:Below B w u) (d:dX c u v) (hc:B<=c) (hB:B<=u.heap.size):Below B w v:=
 ⟨d.os.trans h.os,d.tape.trans h.tape,d.output.trans h.output,Nat.le_trans h.size d.size,fun k hk=>(d.block k (by omega) (by omega)).trans (h.block k hk)⟩
set_option maxRecDepth 8000 in
theorem DY (w:World) (a:Option Addr) (len cap:Nat) (h:pY w a len cap):Calls Tryz.prog 5 #[.slice a len cap] w fun e w'=>∃ (a':Option Addr) (n cap':Nat) (xs:List Pl.Ln) (st:Int),e=.returned (.tuple #[.slice a' n cap',.int .i64 st])/\jE 0 w' a' n cap' xs/\Below w.heap.size w w':=by
 have HI:Hid (pY w a len cap):=h
 clear h
 go_enter Tryz.func5,Tryz.ntmps5
 go_wp2_with fail
 refine (QG w a len cap HI.out).mono ?_
 rintro e y1 ⟨rfl,r1,d1⟩
 obtain⟨c,hc⟩:∃ c,c=w.heap.size:=⟨_,rfl⟩
 rw[<- hc]at r1 ⊢
 have R1:Hid (iE y1 c):=r1
 have B1:Hid (Below w.heap.size w y1):=d1
 have HC:Hid (c=w.heap.size):=hc
 clear r1 d1 hc HI
 go_wp2_with fail
 refine (bX y1 c R1.out).mono ?_
 rintro e y2 ⟨k,rfl,hk,r2,o2⟩
 have R2:Hid (iE y2 c):=r2
 have B2:Hid (Below w.heap.size w y2):=uM B1.out o2 (Nat.le_of_eq HC.out.symm) B1.out.size
 clear r2 o2 R1 B1
 obtain⟨f5,U8,U9,V3⟩:∃ i:Nat,((k:Int).tmod 5)=(i:Int)/\((k:Int) % 5)=(i:Int)/\i<5:=jS k 5 (by decide)
 obtain⟨i,hi1,hi2,hi3⟩:∃ i:Nat,((k:Int).tmod 4)=(i:Int)/\((k:Int) % 4)=(i:Int)/\i<4:=jS k 4 (by decide)
 have hi4:(i:Int)<4:=by omega
 have tb4:∀ (a0 a1 a2 a3:Int) (hh:i < [Value.int .i64 a0,Value.int .i64 a1,Value.int .i64 a2,Value.int .i64 a3].length),([Value.int .i64 a0,Value.int .i64 a1,Value.int .i64 a2,Value.int .i64 a3]:List Value)[i]'hh=.int .i64 ([a0,a1,a2,a3].getD i 0):=fun a0 a1 a2 a3 hh=>uK [a0,a1,a2,a3] i hh
 by_cases hk2:k<240
 ·have hk3:¬ (240:Int)<=(k:Int):=by omega
  have hk4:(k:Int)<240:=by omega
  go_wp2_with fail
  refine (AJ y2 c R2.out).mono ?_
  rintro e y3 ⟨v,n,rfl,hn,S⟩
  obtain⟨a',cap',xs,rfl,hrow⟩:=S.row
  have HR:Hid (jE 0 y3 a' n cap' xs):=hrow
  have B3:Hid (Below w.heap.size w y3):=uM B2.out S.gP (Nat.le_of_eq HC.out.symm) B2.out.size
  clear hrow S R2 B2
  go_wp2
  go_ret2
  exact⟨a',n,cap',xs,_,rfl,HR.out,B3.out⟩
 ·have hk3:(240:Int)<=(k:Int):=by omega
  go_wp2_with fail
  refine xX fun u hu=>?_
  have R3:Hid (iE u c):=by show iE u c;rw[hu];exact R2.out.alloc _
  have B4:Hid (Below w.heap.size w u):=by show Below w.heap.size w u;rw[hu];exact B2.out.alloc B2.out.size _
  clear hu R2 B2
  refine (AJ u c R3.out).mono ?_
  rintro e y3 ⟨v,n,rfl,hn,S⟩
  obtain⟨a',cap',xs,rfl,hrow⟩:=S.row
  have HR:Hid (jE 0 y3 a' n cap' xs):=hrow
  have B3:Hid (Below w.heap.size w y3):=uM B4.out S.gP (Nat.le_of_eq HC.out.symm) B4.out.size
  clear hrow S R3 B4
  go_wp2
  go_ret2
  exact⟨a',n,cap',xs,_,rfl,HR.out,B3.out⟩
end Go.Proofs.YtlbomnnldkeocaaGreat.W
namespace Go.Proofs.YtlbomnnldkeocaaGreat.Pl
def aV (p:Nat->Bool) (n:Nat):Int:=match (List.range n).find? p with | some i=>(i:Int) | none=>-1
theorem kS (p:Nat->Bool) (n k:Nat) (hk:k<n) (hp:p k=true) (hb:∀ j,j<k->p j=false):aV p n=k:=by
 have:(List.range n).find? p=some k:=by
  rw[List.find?_range_eq_some]
  exact⟨hp,List.mem_range.2 hk,fun j hj=>by simp[hb j hj]⟩
 simp[aV,this]
theorem iV (p:Nat->Bool) (n:Nat) (hb:∀ j,j<n->p j=false):aV p n=-1:=by
 have:(List.range n).find? p=none:=by
  rw[List.find?_eq_none]
  intro x hx
  simp[hb x (List.mem_range.1 hx)]
 simp[aV,this]
theorem mE (p:Nat->Bool) (n:Nat):(aV p n=-1/\∀ j,j<n->p j=false)\/∃ k:Nat,k<n/\aV p n=k/\p k=true/\∀ j,j<k->p j=false:=by
 cases h:(List.range n).find? p with
 | none=>
  left
  refine⟨by simp[aV,h],fun j hj=>?_⟩
  have:=List.find?_eq_none.1 h j (List.mem_range.2 hj)
  simpa using this
 | some k=>
  right
  obtain⟨h1,h2,h3⟩:=List.find?_range_eq_some.1 h
  exact⟨k,List.mem_range.1 h2,by simp[aV,h],h1,fun j hj=>by simpa using h3 j hj⟩
theorem DZ {p q:Nat->Bool} {n:Nat} (h:∀ j,j<n->p j=q j):aV p n=aV q n:=by
 rcases mE p n with ⟨h1,h2⟩ | ⟨k,hk,h1,h2,h3⟩
 ·rw[h1,iV q n (fun j hj=>(h j hj).symm.trans (h2 j hj))]
 ·rw[h1,kS q n k hk ((h k hk).symm.trans h2) (fun j hj=>(h j (by omega)).symm.trans (h3 j hj))]
structure kV where
 d:Bool
 t:Int
 b:Int
def wN (k:Int):Bool:=decide (2<=k/\k<=9)
def vR (k:Int):Bool:=decide (12<=k)
def shr (n:Int):Bool:=decide (-2048<=sg n/\sg n<=2047)
def zJ (x:Ln):Int:=if x.k=1 then 0 else if x.k=5\/(x.k=4/\shr x.n=false) then 8 else 4
def fK (x:Ln) (b:Int):Int:=if x.k=12 then 1 else if x.k=13 then 2 else if x.k=14 then 4 else if x.k=15 then x.n else if x.k=16 then (x.n-b % x.n) % x.n else 0
def kV.pass (c:kV) (x:Ln):kV:=if x.k=10 then ⟨false,c.t,c.b⟩ else if x.k=11 then ⟨true,c.t,c.b⟩ else if c.d then ⟨c.d,c.t,c.b+fK x c.b⟩ else ⟨c.d,c.t+zJ x,c.b⟩
def kV.at (c:kV):Int:=if c.d then 1048576+c.b else 65536+c.t
def cu (xs:List Ln) (i:Nat):kV:=(xs.take i).foldl kV.pass ⟨false,0,0⟩
def gl (xs:List Ln) (i:Nat):Ln:=xs.getD i Ln.zero
theorem LZ (xs:List Ln):cu xs 0=⟨false,0,0⟩:=rfl
theorem oK (xs:List Ln) (i:Nat) (h:i<xs.length):cu xs (i+1)=(cu xs i).pass (gl xs i):=by
 unfold cu gl
 rw[List.take_add_one,List.getElem?_eq_getElem h,List.foldl_append,List.getD_eq_getElem?_getD,List.getElem?_eq_getElem h]
 rfl
structure sG (x:Ln):Prop where
 k:1<=x.k/\x.k<=16
 z:x.k=15->0<=x.n/\x.n<=65536
 a:x.k=16->1<=x.n/\x.n<=4
theorem uN {x:Ln} (h:sG x) (b:Int) (hb:0<=b):0<=fK x b/\fK x b<=65536:=by
 obtain⟨h1,h2,h3⟩:=h
 unfold fK
 split
 ·omega
 split
 ·omega
 split
 ·omega
 split
 ·exact h2 (by assumption)
 split
 ·rename_i q
  obtain⟨h4,h5⟩:=h3 q
  have h6:=Int.emod_nonneg (x.n-b % x.n) (show x.n≠0 by omega)
  have h7:=Int.emod_lt_of_pos (x.n-b % x.n) (show 0<x.n by omega)
  omega
 ·omega
theorem QZ (x:Ln):0<=zJ x/\zJ x<=8/\zJ x % 4=0:=by
 unfold zJ
 split <;> try split
 all_goals omega
theorem jO (xs:List Ln) (h:∀ i,i<xs.length->sG (gl xs i)):∀ i,i<=xs.length->(0<=(cu xs i).t/\(cu xs i).t<=8*(i:Int)/\(cu xs i).t % 4=0)/\0<=(cu xs i).b/\(cu xs i).b<=65536*(i:Int):=by
 intro i
 induction i with
 | zero=>intro _;rw[LZ];exact⟨⟨by decide,by decide,by decide⟩,by decide,by decide⟩
 | succ i ih=>
  intro hi
  obtain⟨⟨i1,i2,i3⟩,i4,i5⟩:=ih (by omega)
  rw[oK xs i (by omega)]
  have hd:=uN (h i (by omega)) (cu xs i).b i4
  have ht:=QZ (gl xs i)
  have hc:((i+1:Nat):Int)=(i:Int)+1:=by omega
  rw[hc]
  unfold kV.pass
  split
  ·dsimp only;omega
  split
  ·dsimp only;omega
  split <;> (dsimp only;omega)
def dU (xs:List Ln) (i:Nat):Bool:=(cu xs (i+1)).d && wN (gl xs i).k || !(cu xs (i+1)).d && vR (gl xs i).k
def mixed (xs:List Ln) (i:Nat):Bool:=!((gl xs i).k == 10) && !((gl xs i).k == 11) && !((gl xs i).k == 1) && !((!(cu xs i).d) == decide ((gl xs i).k<10))
theorem EA (xs:List Ln) (i:Nat) (hi:i<xs.length) (h:sG (gl xs i)):mixed xs i=dU xs i:=by
 obtain⟨⟨h1,h2⟩,_,_⟩:=h
 unfold mixed dU
 rw[oK xs i hi]
 unfold kV.pass wN vR
 generalize (gl xs i).k=k at *
 rcases hd:(cu xs i).d
 all_goals
  by_cases e1:k=10
  ·subst e1;simp
  by_cases e2:k=11
  ·subst e2;simp
  by_cases e3:k=1
  ·subst e3;simp[hd]
  rw[Bool.eq_iff_iff]
  simp[e1,e2,e3,hd]
  omega
def xI (x:Ln):Int:=if x.k=5\/(x.k=4/\shr x.n=false) then 2 else if 2<=x.k/\x.k<=9 then 1 else 0
theorem MB (x:Ln) (h:wN x.k=true):zJ x=4*xI x:=by
 have h':2<=x.k/\x.k<=9:=by simpa [wN] using h
 unfold zJ xI
 rw[if_neg (by omega)]
 by_cases q:x.k=5\/(x.k=4/\shr x.n=false)
 ·rw[if_pos q,if_pos q];rfl
 ·rw[if_neg q,if_neg q,if_pos h'];rfl
def lb (xs:List Ln) (s:ByteArray):Option Nat:=(List.range xs.length).find? fun i=>decide ((gl xs i).k=1) && decide ((gl xs i).s=s)
theorem lS {xs:List Ln} {s:ByteArray} {i:Nat}:lb xs s=some i↔i<xs.length/\(gl xs i).k=1/\(gl xs i).s=s/\∀ j,j<i->(gl xs j).k=1->(gl xs j).s≠s:=by
 unfold lb
 rw[List.find?_range_eq_some]
 simp only[Bool.and_eq_true,decide_eq_true_eq,List.mem_range,Bool.not_eq_true',Bool.and_eq_false_iff,decide_eq_false_iff_not]
 constructor
 ·rintro⟨⟨h1,h2⟩,h3,h4⟩
  exact⟨h3,h1,h2,fun j hj e1 e2=>(h4 j hj).elim (fun c=>c e1) (fun c=>c e2)⟩
 ·rintro⟨h1,h2,h3,h4⟩
  refine⟨⟨h2,h3⟩,h1,fun j hj=>?_⟩
  by_cases e:(gl xs j).k=1
  ·exact .inr (h4 j hj e)
  ·exact .inl e
theorem BM {xs:List Ln} {s:ByteArray}:lb xs s=none↔∀ j,j<xs.length->(gl xs j).k=1->(gl xs j).s≠s:=by
 unfold lb
 rw[List.find?_eq_none]
 simp only[Bool.and_eq_true,decide_eq_true_eq,List.mem_range,not_and]
def twice (xs:List Ln) (i:Nat):Bool:=decide ((gl xs i).k=1) && decide (lb xs (gl xs i).s≠some i)
def lost (xs:List Ln) (i:Nat):Bool:=decide ((gl xs i).s≠⟨#[]⟩) && decide (lb xs (gl xs i).s=none)
theorem qX {xs:List Ln} {i:Nat} (hi:i<xs.length):twice xs i=true↔(gl xs i).k=1/\∃ j,j<i/\(gl xs j).k=1/\(gl xs j).s=(gl xs i).s:=by
 unfold twice
 simp only[Bool.and_eq_true,decide_eq_true_eq]
 constructor
 ·rintro⟨h1,h2⟩
  refine⟨h1,?_⟩
  apply Classical.byContradiction
  intro hn
  exact h2 (lS.2 ⟨hi,h1,rfl,fun j hj e1 e2=>hn ⟨j,hj,e1,e2⟩⟩)
 ·rintro⟨h1,j,hj,e1,e2⟩
  exact⟨h1,fun h=>(lS.1 h).2.2.2 j hj e1 e2⟩
def cZ (xs:List Ln) (n:Nat):List Nat:=(List.range n).filter fun i=>decide ((gl xs i).k=1)
theorem EB (xs:List Ln) (n:Nat):cZ xs (n+1)=if (gl xs n).k=1 then cZ xs n ++ [n] else cZ xs n:=by
 unfold cZ
 rw[List.range_succ,List.filter_append]
 split
 ·rename_i h;simp[h]
 ·rename_i h;simp[h]
theorem BN {xs:List Ln} {n i:Nat}:i∈cZ xs n↔i<n/\(gl xs i).k=1:=by
 unfold cZ;simp
theorem rH (xs:List Ln) (n:Nat):(cZ xs n).Pairwise (· < ·):=List.Pairwise.filter _ List.pairwise_lt_range
def IP (xs:List Ln) (ls:List Nat) (s:ByteArray):Int:=aV (fun p=>decide ((gl xs (ls.getD p 0)).s=s)) ls.length
theorem IZ (xs:List Ln) (s:ByteArray):(IP xs (cZ xs xs.length) s=-1/\lb xs s=none)\/∃ p:Nat,p<(cZ xs xs.length).length/\IP xs (cZ xs xs.length) s=p/\lb xs s=some ((cZ xs xs.length).getD p 0):=by
 have hS:=rH xs xs.length
 have hM:∀ i,i∈cZ xs xs.length↔i<xs.length/\(gl xs i).k=1:=fun i=>BN
 unfold IP
 generalize cZ xs xs.length=L at *
 rcases mE (fun p=>decide ((gl xs (L.getD p 0)).s=s)) L.length with ⟨h1,h2⟩ | ⟨k,hk,h1,h2,h3⟩
 ·left
  refine⟨h1,BM.2 fun j hj e1 e2=>?_⟩
  obtain⟨p,hp,he⟩:=List.mem_iff_getElem.1 ((hM j).2 ⟨hj,e1⟩)
  have:=h2 p hp
  rw[List.getD_eq_getElem?_getD,List.getElem?_eq_getElem hp,Option.getD_some,he]at this
  simp[e2]at this
 ·right
  have hg:L.getD k 0=L[k]:=by rw[List.getD_eq_getElem?_getD,List.getElem?_eq_getElem hk];rfl
  refine⟨k,hk,h1,lS.2 ?_⟩
  rw[hg]at h2 ⊢
  obtain⟨m1,m2⟩:=(hM L[k]).1 (List.getElem_mem hk)
  refine⟨m1,m2,by simpa using h2,fun j hj e1 e2=>?_⟩
  obtain⟨p,hp,he⟩:=List.mem_iff_getElem.1 ((hM j).2 ⟨by omega,e1⟩)
  have hpk:p<k:=by
   apply Classical.byContradiction
   intro hn
   rcases Nat.lt_or_ge k p with q | q
   ·have:=List.pairwise_iff_getElem.1 hS k p hk hp q
    omega
   ·have:p=k:=by omega
    subst this;omega
  have:=h3 p hpk
  rw[List.getD_eq_getElem?_getD,List.getElem?_eq_getElem hp,Option.getD_some,he]at this
  simp[e2]at this
end Go.Proofs.YtlbomnnldkeocaaGreat.Pl
