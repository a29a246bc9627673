import Derived.Test.YtlbomnnldkeocaaGreatI00
import Derived.RegionTactic
import Derived.Orders
import Derived.Test.YtlbomnnldkeocaaGreatI22
set_option linter.unusedVariables false
set_option linter.unusedSimpArgs false
set_option maxHeartbeats 16000000
namespace Go.Proofs.YtlbomnnldkeocaaGreat.W
open Go.RowKit
def yF (l:List Bool):Nat:=(l.map fun b=>if b then 0 else 1).sum
theorem BS:∀ (l:List Bool) (i:Nat),l[i]?=some false->yF (l.set i true)+1=yF l
 | [],i,h=>by simp at h
 | b :: l,0,h=>by
  have hb:b=false:=by simpa using h
  subst hb
  show yF (true :: l)+1=yF (false :: l)
  unfold yF
  simp
  omega
 | b :: l,i+1,h=>by
  have h':l[i]?=some false:=by simpa using h
  have ih:=BS l i h'
  show yF (b :: l.set i true)+1=yF (b :: l)
  unfold yF at ih ⊢
  simp only[List.map_cons,List.sum_cons]
  omega
theorem yG:∀ (l:List Bool),yF l=0->∀ (i:Nat),l[i]?≠some false
 | [],_,i=>by simp
 | b :: l,h,i=>by
  have hb:b=true/\yF l=0:=by
   cases b
   ·exfalso
    unfold yF at h
    simp at h
   ·refine⟨rfl,?_⟩
    unfold yF at h ⊢
    simpa using h
  cases i with
  | zero=>rw[hb.1];simp
  | succ i=>have:=yG l hb.2 i;simpa using this
section
variable {P:Program} {ops:Array Oper} {Q:Exit->Act->World->Prop} {md:Region.Mode}
theorem qB {L:Array Bool} (hs:L.size=ops.size) {i:Nat} (h:i∈Region.ready md ops L):L.toList[i]?=some false:=by
 obtain⟨h1,o,ho,_⟩:=mem_ready.1 h
 have hi:i<L.size:=by rw[hs];exact (Array.getElem?_eq_some_iff.1 ho).1
 rw[Array.getElem?_toList]
 rw[Array.getD_eq_getD_getElem?,Array.getElem?_eq_getElem hi]at h1
 rw[Array.getElem?_eq_getElem hi]
 simpa using h1
def WH (ops:Array Oper):Bool:=(List.range ops.size).all fun i=>((ops[i]?).map fun o=>o.after.all fun e=>decide (e.on<i)).getD true
theorem WI (h:WH ops=true) {i:Nat} {o:Oper} (ho:ops[i]?=some o):∀ e∈o.after,e.on<i:=by
 unfold WH at h
 rw[List.all_eq_true]at h
 have h1:=h i (List.mem_range.2 (Array.getElem?_eq_some_iff.1 ho).1)
 rw[ho]at h1
 simp only[Option.map_some,Option.getD_some]at h1
 intro e he
 exact of_decide_eq_true (Array.all_eq_true_iff_forall_mem.1 h1 e he)
theorem zT (hac:WH ops=true) {L:Array Bool} (hs:L.size=ops.size) (hr:Region.ready md ops L=[]):∀ i,i<ops.size->L.getD i true=true:=by
 intro i
 induction i using Nat.strongRecOn with
 | ind i ih=>
  intro hi
  cases hb:L.getD i true with
  | true=>rfl
  | false=>
   exfalso
   have hm:i∈Region.ready md ops L:=mem_ready.2 ⟨hb,ops[i],Array.getElem?_eq_getElem hi,fun e he _=>by
    have hlt:=WI hac (Array.getElem?_eq_getElem hi) e he
    have h1:=ih e.on hlt (by omega)
    have h2:e.on<L.size:=by omega
    simp[h2]at h1 ⊢
    exact h1⟩
   rw[hr]at hm
   cases hm
theorem AL (I:Array Bool->Act->World->Prop)
  (hdone:∀ L a w,I L a w->L.size=ops.size->(∀ i,i<ops.size->L.getD i true=true)->Q .normal a w)
  (hall:∀ L:Array Bool,L.size=ops.size->Region.ready md ops L=[]->∀ i,i<ops.size->L.getD i true=true)
  (hstep:∀ (L:Array Bool) (a:Act) (w:World) (i:Nat) (o:Oper),I L a w->L.size=ops.size->i∈Region.ready md ops L->ops[i]?=some o->∀ K:Act->World->Prop,(∀ a w,I (L.setIfInBounds i true) a w->K a w)->if Region.wanted o (yielded ops a.tmps)=true then Oper.wp P o a w K Q else K (a.put o.dst undef) w) :
  ∀ (fuel:Nat) (L:Array Bool) (a:Act) (w:World),I L a w->L.size=ops.size->yF L.toList<=fuel->wpAny P md ops Q fuel L a w:=by
 intro fuel
 induction fuel with
 | zero=>
  intro L a w hI hs hu
  have hr:Region.ready md ops L=[]:=by
   cases hrr:Region.ready md ops L with
   | nil=>rfl
   | cons i rs=>
    have:=qB hs (i:=i) (md:=md) (by rw[hrr];exact List.mem_cons_self)
    exact absurd this (yG _ (by omega) i)
  exact⟨hr,hdone L a w hI hs (hall L hs hr)⟩
 | succ fuel ih=>
  intro L a w hI hs hu
  refine⟨fun hr=>hdone L a w hI hs (hall L hs hr),fun i hi=>?_⟩
  obtain⟨_,o,ho,_⟩:=mem_ready.1 hi
  refine wpOp_step ho fun K hK=>hstep L a w i o hI hs hi ho K fun a' w' h'=>hK a' w' (ih _ a' w' h' (by simpa using hs) ?_)
  have h1:=BS L.toList i (qB hs hi)
  rw[Array.toList_setIfInBounds]
  omega
end
def up (L:Array Bool) (j:Nat):Bool:=L.getD j false
theorem dY {L:Array Bool} {i:Nat} (h:i<L.size) (j:Nat):up (L.setIfInBounds i true) j=if i=j then true else up L j:=by
 unfold up
 by_cases e:i=j
 ·subst e;simp[h]
 ·simp[e,Array.getElem?_setIfInBounds_ne e]
theorem mY {L:Array Bool} {i:Nat} (h:i<L.size) {j:Nat} (hj:up L j=true):up (L.setIfInBounds i true) j=true:=by
 rw[dY h];split
 ·rfl
 ·exact hj
theorem yH {L:Array Bool} {i:Nat} (h:L.getD i true=false):up L i=false:=by
 unfold up
 rcases Nat.lt_or_ge i L.size with h' | h'
 ·simp[h']at h ⊢; exact h
 ·simp[Array.getElem?_eq_none h']at h
theorem MJ {L:Array Bool} {i:Nat} (h:L.getD i true=true) (hi:i<L.size):up L i=true:=by
 unfold up
 simp[hi]at h ⊢; exact h
def sl (L:Array Bool) (j:Nat) (v:Value):Value:=bif up L j then v else undef
theorem aU {L:Array Bool} {j:Nat} (h:up L j=true) (v:Value):sl L j v=v:=by unfold sl;rw[h];rfl
theorem Bf {L:Array Bool} {j:Nat} (h:up L j=false) (v:Value):sl L j v=undef:=by unfold sl;rw[h];rfl
theorem iN {L:Array Bool} {i:Nat} (h:i<L.size) (j:Nat) (v:Value):sl (L.setIfInBounds i true) j v=if i=j then v else sl L j v:=by
 unfold sl;rw[dY h];split <;> rfl
theorem bR (n j:Nat):up (Array.replicate n false) j=false:=by
 unfold up
 simp only[Array.getD_eq_getD_getElem?,Array.getElem?_replicate]
 split <;> rfl
section
variable {P:Program} {ops:Array Oper} {Q:Exit->Act->World->Prop} {md:Region.Mode}
def WJ (md:Region.Mode) (ops:Array Oper) (L:Array Bool):Prop:=∀ (j:Nat) (o:Oper),ops[j]?=some o->up L j=true->∀ e∈o.after,Region.binds md e=true->up L e.on=true
theorem WJ.no {L:Array Bool} (h:WJ md ops L) {i:Nat} (hi:up L i=false) (j:Nat) {o:Oper} (ho:ops[j]?=some o) (hd:(o.after.any fun e=>Region.binds md e && e.on == i)=true):up L j=false:=by
 cases q:up L j
 ·rfl
 ·obtain⟨k,hk,hb⟩:=Array.any_eq_true.1 hd
  rw[Bool.and_eq_true,beq_iff_eq]at hb
  have:=h j o ho q _ (Array.getElem_mem hk) hb.1
  rw[hb.2,hi]at this
  cases this
theorem bQ (I:Array Bool->Act->World->Prop)
  (hdone:∀ L a w,I L a w->(∀ i,i<ops.size->up L i=true)->Q .normal a w)
  (hac:WH ops=true)
  (hstep:∀ (L:Array Bool) (a:Act) (w:World) (i:Nat) (o:Oper),I L a w->i<L.size->L.size=ops.size->up L i=false->WJ md ops L->(∀ e∈o.after,Region.binds md e=true->up L e.on=true)->ops[i]?=some o->∀ K:Act->World->Prop,(∀ a w,I (L.setIfInBounds i true) a w->K a w)->if Region.wanted o (yielded ops a.tmps)=true then Oper.wp P o a w K Q else K (a.put o.dst undef) w)
  (fuel n:Nat) (a:Act) (w:World) (hn:n=ops.size) (hI:I (Array.replicate n false) a w) (hf:n<=fuel):wpAny P md ops Q fuel (Array.replicate n false) a w:=by
 refine AL (fun L a w=>I L a w/\WJ md ops L/\L.size=ops.size) (fun L a w h hs ha=>hdone L a w h.1 fun i hi=>MJ (ha i hi) (by omega)) (fun L hs hr=>zT hac hs hr) (fun L a w i o h hs hi ho K hK=>?_) fuel _ a w ⟨hI,?_,by simp[hn]⟩ (by simp[hn]) ?_
 ·obtain⟨h0,o',ho',hd⟩:=mem_ready.1 hi
  rw[ho]at ho'
  cases ho'
  have hlt:i<L.size:=by rw[hs];exact (Array.getElem?_eq_some_iff.1 ho).1
  have hd':∀ e∈o.after,Region.binds md e=true->up L e.on=true:=hd
  refine hstep L a w i o h.1 hlt hs (yH h0) h.2.1 hd' ho K fun a' w' h'=>hK a' w' ⟨h',fun j oj hoj hj e he hb=>?_,by simpa using hs⟩
  rw[dY hlt]at hj
  by_cases q:i=j
  ·subst q
   rw[ho]at hoj
   cases hoj
   exact mY hlt (hd' e he hb)
  ·rw[if_neg q]at hj
   exact mY hlt (h.2.1 j oj hoj hj e he hb)
 ·intro j o ho hj
  rw[bR]at hj
  cases hj
 ·have:∀ k:Nat,yF (List.replicate k false)=k:=fun k=>by
   induction k with
   | zero=>rfl
   | succ k ih=>show yF (false :: List.replicate k false)=k+1;unfold yF at ih ⊢; rw[List.map_cons,List.sum_cons,ih];simp;omega
  rw[Array.toList_replicate,this]
  exact hf
end
theorem aF {w w':World} (h:Below w.heap.size w w') {b k:Nat} {y:Value} (hc:w.cell? ⟨b,k,none⟩=some y):w'.cell? ⟨b,k,none⟩=some y:=(h.cell (block_lt_of_cell hc)).trans hc
def iO (U0:World) (A B:World->Prop) (i j:Nat) (w1:World) (L:Array Bool) (w:World):Prop:=
 (up L i=false->w=U0)/\(up L i=true->A w1/\(up L j=false->w=w1)/\(up L j=true->B w))
theorem iO.keep {U0:World} {A B:World->Prop} {i j:Nat} {w1:World} {L:Array Bool} {w:World} (h:iO U0 A B i j w1 L w) {k:Nat} (hk:k<L.size) (n1:k≠i) (n2:k≠j):iO U0 A B i j w1 (L.setIfInBounds k true) w:=by
 unfold iO at h ⊢
 rw[dY hk,dY hk,if_neg n1,if_neg n2]
 exact h
theorem iO.cell {U0:World} {A B:World->Prop} {i j:Nat} {w1:World} {L:Array Bool} {w:World} (h:iO U0 A B i j w1 L w) (n:up L j=false) {a:Addr} {y:Value} (hc:U0.cell? a=some y) (hA:A w1->w1.cell? a=some y):w.cell? a=some y:=by
 cases q:up L i
 ·rw[h.1 q];exact hc
 ·obtain⟨h1,h2,_⟩:=h.2 q
  rw[h2 n];exact hA h1
theorem iO.init {U0:World} {A B:World->Prop} {i j n:Nat} {w1:World}:iO U0 A B i j w1 (Array.replicate n false) U0:=
 ⟨fun _=>rfl,fun q=>absurd (q.symm.trans (bR _ _)) (by decide)⟩
theorem iO.first {U0:World} {A B:World->Prop} {i j:Nat} {w1:World} {L:Array Bool} (hi:i<L.size) (hij:i≠j) (nj:up L j=false) (hA:A w1):iO U0 A B i j w1 (L.setIfInBounds i true) w1:=
 ⟨fun q=>absurd (q.symm.trans ((dY hi _).trans (if_pos rfl))) (by decide),fun _=>⟨hA,fun _=>rfl,fun q=>absurd (q.symm.trans ((dY hi _).trans ((if_neg hij).trans nj))) (by decide)⟩⟩
theorem iO.second {U0:World} {A B:World->Prop} {i j:Nat} {w1 w w':World} {L:Array Bool} (h:iO U0 A B i j w1 L w) (hj:j<L.size) (qi:up L i=true) (hB:B w'):iO U0 A B i j w1 (L.setIfInBounds j true) w':=by
 have Li:=mY (i:=j) hj qi
 exact⟨fun q=>absurd (q.symm.trans Li) (by decide),fun _=>⟨(h.2 qi).1,fun q=>absurd (q.symm.trans ((dY hj _).trans (if_pos rfl))) (by decide),fun _=>hB⟩⟩
def nC (U0:World) (A:World->Prop) (i:Nat) (L:Array Bool) (w:World):Prop:=(up L i=false->w=U0)/\(up L i=true->A w)
theorem nC.keep {U0:World} {A:World->Prop} {i:Nat} {L:Array Bool} {w:World} (h:nC U0 A i L w) {k:Nat} (hk:k<L.size) (n1:k≠i):nC U0 A i (L.setIfInBounds k true) w:=by
 unfold nC at h ⊢
 rw[dY hk,if_neg n1]
 exact h
theorem nC.init {U0:World} {A:World->Prop} {i n:Nat}:nC U0 A i (Array.replicate n false) U0:=
 ⟨fun _=>rfl,fun q=>absurd (q.symm.trans (bR _ _)) (by decide)⟩
theorem nC.first {U0:World} {A:World->Prop} {i:Nat} {L:Array Bool} {w:World} (hi:i<L.size) (hA:A w):nC U0 A i (L.setIfInBounds i true) w:=
 ⟨fun q=>absurd (q.symm.trans ((dY hi _).trans (if_pos rfl))) (by decide),fun _=>hA⟩
def aR (d:Value) (L:Array Bool) (j:Nat) (v:Value):Value:=bif up L j then v else d
theorem aA {d:Value} {L:Array Bool} {j:Nat} (h:up L j=true) (v:Value):aR d L j v=v:=by unfold aR;rw[h];rfl
theorem dG {d:Value} {L:Array Bool} {j:Nat} (h:up L j=false) (v:Value):aR d L j v=d:=by unfold aR;rw[h];rfl
theorem aD {d:Value} {L:Array Bool} {i:Nat} (h:i<L.size) (j:Nat) (v:Value):aR d (L.setIfInBounds i true) j v=if i=j then v else aR d L j v:=by
 unfold aR;rw[dY h];split <;> rfl
end Go.Proofs.YtlbomnnldkeocaaGreat.W
namespace Go.Proofs.YtlbomnnldkeocaaGreat.Pl
theorem Ue:pw 15=32768:=by decide
theorem Lj:pw 20=1048576:=by decide
theorem Uf:pw 21=2097152:=by decide
theorem RL:pw 25=33554432:=by decide
theorem Ug:pw 31=2147483648:=by decide
theorem Dm:us 1 0=true/\us 1 1=true/\us 1 2=true/\us 2 0=true/\us 2 1=true/\us 2 2=false/\us 3 0=true/\us 3 1=true/\us 3 2=false/\us 4 0=false/\us 4 1=true/\us 4 2=true/\us 5 0=false/\us 5 1=true/\us 5 2=true/\us 6 0=true/\us 6 1=false/\us 6 2=false/\us 7 0=true/\us 7 1=false/\us 7 2=false/\us 8 0=false/\us 8 1=false/\us 8 2=false:=by decide
theorem AO {im:Int} (h:(im.tmod 2 == 0)=true):im % 2=0:=by
 have h':im.tmod 2=0:=by simpa using h
 rcases uJ im 2 with ⟨a,b⟩ | ⟨a,b⟩ <;> omega
theorem FE (k:Nat) (h1:1<=k) (h2:k<=47) (rd r1 r2 im:Int) (hok:okF (dC k) rd r1 r2 im=true) :
  PZ (dC k) (enc k rd r1 r2 im)=rd/\QA (dC k) (enc k rd r1 r2 im)=r1/\QB (dC k) (enc k rd r1 r2 im)=r2/\tL (dC k) (enc k rd r1 r2 im)=im:=by
 obtain⟨g0,g1,g2,g3⟩:=oW hok
 obtain⟨a1,a2,a3⟩:=lX g0
 obtain⟨b1,b2,b3⟩:=lX g1
 obtain⟨c1,c2,c3⟩:=lX g2
 obtain⟨i1,i2⟩:=yC g3
 have i3:(im.tmod (st (dC k)) == 0)=true:=by unfold vU at g3;rw[Bool.and_eq_true]at g3;exact g3.2
 obtain⟨f1,f2,_⟩:=qW k (by omega) h1
 have z:=EO
 rw[List.all_eq_true]at z
 have z:=z k (List.mem_range.mpr (by omega))
 simp only[Pl.b1,Pl.b2,Pl.b3,Bool.or_eq_true,Bool.and_eq_true,beq_iff_eq,Bool.not_eq_true',Bool.or_eq_false_iff,beq_eq_false_iff_ne]at z
 obtain⟨m1,m3⟩:=MG k (by omega)
 obtain⟨p0,q0⟩:=fI k (by omega) 0 (by omega)
 obtain⟨p1,q1⟩:=fI k (by omega) 1 (by omega)
 obtain⟨p2,q2⟩:=fI k (by omega) 2 (by omega)
 obtain⟨p3,q3⟩:=fI k (by omega) 3 (by omega)
 obtain⟨t1,t2,t3,t4,t5,t6,t7,t8,t9,t10,t11,t12,t13,t14,t15,t16,t17,t18,t19,t20,t21,t22,t23,t24⟩:=Dm
 unfold enc cw
 generalize cc k 0=C0 at *
 generalize cc k 1=C1 at *
 generalize cc k 2=C2 at *
 generalize cc k 3=C3 at *
 generalize dC k=f at *
 have hcase:=jH f f1 f2
 clear g0 g1 g2 g3 hok f1 f2
 rcases hcase with e | e | e | e | e | e | e | e <;> subst e
 all_goals
  simp only[PZ,QA,QB,tL,IQ,uU,lo,hi,st,t1,t2,t3,t4,t5,t6,t7,t8,t9,t10,t11,t12,t13,t14,t15,t16,t17,t18,t19,t20,t21,t22,t23,t24,BQ,Lg,Qj,Dk,Qk,JK,Ql,WC,RD,xC,Ue,Lj,Uf,RL,Ug,if_true,if_false,Bool.false_eq_true,true_or,false_or,or_false,Int.ediv_one,Int.emod_one,Int.mul_one,Int.add_zero,Int.zero_add,Int.zero_mul]at a3 b3 c3 i1 i2 i3 ⊢
  simp at z
 ·refine⟨by omega,by omega,by omega,?_⟩
  split <;> omega
 ·refine⟨by omega,by omega,by omega,?_⟩
  split <;> omega
 ·refine⟨by omega,by omega,by omega,?_⟩
  split <;> omega
 ·obtain⟨A,hA⟩:∃ A,A=im / 32 % 128:=⟨_,rfl⟩
  obtain⟨B,hB⟩:∃ B,B=im % 32:=⟨_,rfl⟩
  have bA:0<=A/\A<=127:=by omega
  have bB:0<=B/\B<=31:=by omega
  have Ll:(A<=63/\im=A*32+B)\/(64<=A/\im=A*32+B-4096):=by omega
  rw[<- hA,<- hB]
  clear hA hB
  obtain⟨e2,e3⟩:C2=0/\C3=0:=by omega
  rw[e2,e3,a3]
  obtain⟨N,hN⟩:∃ N,N=C0+C1*4096+0*33554432+0*1048576+(A*33554432+B*128)+0*128+r1*32768+r2*1048576:=⟨_,rfl⟩
  rw[<- hN]
  have n1:N / 33554432 % 128=A:=by omega
  have n2:N / 128 % 32=B:=by omega
  have n3:N / 32768 % 32=r1:=by omega
  have n4:N / 1048576 % 32=r2:=by omega
  rw[n1,n2,n3,n4]
  clear hN n1 n2 n3 n4
  refine⟨rfl,rfl,rfl,?_⟩
  split <;> omega
 ·have hev:=AO i3
  obtain⟨A,hA⟩:∃ A,A=im / 4096 % 2:=⟨_,rfl⟩
  obtain⟨B,hB⟩:∃ B,B=im / 32 % 64:=⟨_,rfl⟩
  obtain⟨C,hC⟩:∃ C,C=im / 2 % 16:=⟨_,rfl⟩
  obtain⟨D,hD⟩:∃ D,D=im / 2048 % 2:=⟨_,rfl⟩
  have bA:0<=A/\A<=1:=by omega
  have bB:0<=B/\B<=63:=by omega
  have bC:0<=C/\C<=15:=by omega
  have bD:0<=D/\D<=1:=by omega
  have Ll:(A=0/\im=D*2048+B*32+C*2)\/(A=1/\im=D*2048+B*32+C*2-4096):=by omega
  rw[<- hA,<- hB,<- hC,<- hD]
  clear hA hB hC hD i3 hev
  obtain⟨e2,e3⟩:C2=0/\C3=0:=by omega
  rw[e2,e3,a3]
  obtain⟨N,hN⟩:∃ N,N=C0+C1*4096+0*33554432+0*1048576+(A*2147483648+B*33554432+C*256+D*128)+0*128+r1*32768+r2*1048576:=⟨_,rfl⟩
  rw[<- hN]
  have n1:N / 2147483648 % 2=A:=by omega
  have n2:N / 33554432 % 64=B:=by omega
  have n3:N / 256 % 16=C:=by omega
  have n4:N / 128 % 2=D:=by omega
  have n5:N / 32768 % 32=r1:=by omega
  have n6:N / 1048576 % 32=r2:=by omega
  rw[n1,n2,n3,n4,n5,n6]
  clear hN n1 n2 n3 n4 n5 n6
  refine⟨rfl,rfl,rfl,?_⟩
  split <;> omega
 ·refine⟨by omega,by omega,by omega,?_⟩
  split <;> omega
 ·have hev:=AO i3
  obtain⟨A,hA⟩:∃ A,A=im / 1048576 % 2:=⟨_,rfl⟩
  obtain⟨B,hB⟩:∃ B,B=im / 2 % 1024:=⟨_,rfl⟩
  obtain⟨C,hC⟩:∃ C,C=im / 2048 % 2:=⟨_,rfl⟩
  obtain⟨D,hD⟩:∃ D,D=im / 4096 % 256:=⟨_,rfl⟩
  have bA:0<=A/\A<=1:=by omega
  have bB:0<=B/\B<=1023:=by omega
  have bC:0<=C/\C<=1:=by omega
  have bD:0<=D/\D<=255:=by omega
  have Ll:(A=0/\im=D*4096+C*2048+B*2)\/(A=1/\im=D*4096+C*2048+B*2-1048576):=by omega
  rw[<- hA,<- hB,<- hC,<- hD]
  clear hA hB hC hD i3 hev
  obtain⟨e1,e2,e3⟩:C1=0/\C2=0/\C3=0:=by omega
  rw[e1,e2,e3,b3,c3]
  obtain⟨N,hN⟩:∃ N,N=C0+0*4096+0*33554432+0*1048576+(A*2147483648+B*2097152+C*1048576+D*4096)+rd*128+0*32768+0*1048576:=⟨_,rfl⟩
  rw[<- hN]
  have n1:N / 2147483648 % 2=A:=by omega
  have n2:N / 2097152 % 1024=B:=by omega
  have n3:N / 1048576 % 2=C:=by omega
  have n4:N / 4096 % 256=D:=by omega
  have n5:N / 128 % 32=rd:=by omega
  rw[n1,n2,n3,n4,n5]
  clear hN n1 n2 n3 n4 n5
  refine⟨rfl,rfl,rfl,?_⟩
  split <;> omega
 ·refine⟨by omega,by omega,by omega,?_⟩
  split <;> omega
theorem WK (k:Nat) (h1:1<=k) (h2:k<=47) (rd r1 r2 im:Int) (hok:okF (dC k) rd r1 r2 im=true) :
  dec (enc k rd r1 r2 im)=k/\yE (enc k rd r1 r2 im)=#[.int .i64 (k:Int),.int .i64 rd,.int .i64 r1,.int .i64 r2,.int .i64 im]:=by
 obtain⟨e1,e2,e3,e4⟩:=FE k h1 h2 rd r1 r2 im hok
 have hh:hit k (enc k rd r1 r2 im)=true:=by
  rw[vB,e1,e2,e3,e4]
  exact⟨hok,rfl⟩
 have hd:=MH h1 h2 hh
 exact⟨hd,by rw[FD h1 hd,e1,e2,e3,e4]⟩
end Go.Proofs.YtlbomnnldkeocaaGreat.Pl
