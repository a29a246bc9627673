import Derived.Test.YtjcdiegfnoaedaaGreatDoorZ03
set_option linter.unusedVariables false
set_option linter.unusedSimpArgs false
set_option maxHeartbeats 16000000
namespace Go.Proofs.YtjcdiegfnoaedaaGreatDoor
namespace W
open Go.RowKit
structure Fp (B:Nat) (u u':World):Prop where
 b:Below B u u'
 k:∀(k:Nat) (cs:Array Value) (t:TypeId) (fr:Nat × Nat),u.heap[k]?=some (.cells cs t fr)->t≠5->t≠49->u'.heap[k]?=some (.cells cs t fr)
theorem Fp.refl (B:Nat) (u:World):Fp B u u:=⟨Below.refl _ _,fun _ _ _ _ h _ _=>h⟩
theorem Fp.trans {B:Nat}{u v w:World}(h:Fp B u v) (k:Fp B v w):Fp B u w:=⟨h.b.trans k.b,fun i cs t fr q q1 q2=>k.k i cs t fr (h.k i cs t fr q q1 q2) q1 q2⟩
theorem Fp.below {B:Nat}{u v:World}(d:Bw u v) (hB:B<=u.heap.size):Fp B u v:=⟨d.mono hB,fun i cs t fr q _ _=>(d.block i (Array.getElem?_eq_some_iff.1 q).1).trans q⟩
theorem Fp.set {B g:Nat}{u v:World}{cs:Array Value}(h:Fp B u v) (hg:v.heap[g]?=some (.cells cs 49)) (hB:B<=g) (j:Nat) (x:Value):Fp B u (v.setCell ⟨g,j,none⟩ x):=
 ⟨h.b.setCell hB _,fun i c t fr q q1 q2=>(heap_setCell_other v ⟨g,j,none⟩ i _ (fun e=>by
  have:=h.k i c t fr q q1 q2;rw[show i=g from e,hg]at this;simp only[Option.some.injEq,Obj.cells.injEq]at this;exact q2 this.2.1.symm)).trans (h.k i c t fr q q1 q2)⟩
structure Pw (B g:Nat) (ts:List UInt8) (u:World):Prop where
 ex:∃vo,u.heap[g]?=some (.cells #[vo] 49)/\u.ownsRow B 5 1 vo ts.length (Pl.bl ts)
 ge:B<=g
theorem Pw.lt {B g:Nat}{ts:List UInt8}{u:World}(h:Pw B g ts u):g<u.heap.size:=by
 obtain⟨vo,h1,_⟩:=h.ex;exact (Array.getElem?_eq_some_iff.1 h1).1
theorem Pw.keep {B g:Nat}{ts:List UInt8}{u u':World}(h:Pw B g ts u) (d:Bw u u'):Pw B g ts u':=by
 obtain⟨vo,h1,h2⟩:=h.ex;exact⟨⟨vo,(d.block g h.lt).trans h1,dK h2 fun k hk=>d.block k (h2.lt k hk).2⟩,h.ge⟩
theorem Pw.put {B g:Nat}{vo v1:Value}{ts:List UInt8}{u1:World}(hb:u1.heap[g]?=some (.cells #[vo] 49)) (ho:u1.ownsRow B 5 1 v1 ts.length (Pl.bl ts)) (hB:B<=g):Pw B g ts (u1.setCell ⟨g,0,none⟩ v1):=by
 refine⟨⟨v1,by rw[heap_setCell_same u1 g 0 _ 49 _ hb];rfl,dK ho fun k hk=>heap_setCell_other u1 ⟨g,0,none⟩ k _ (fun q=>?_)⟩,hB⟩;rcases ho.2 with ⟨rfl,_⟩|⟨g',cap,cur,rfl,_,hh,_⟩
 ·simp[Value.ownBlock]at hk
 ·simp only[Value.ownBlock,Option.some.injEq]at hk;subst hk;rw[show g'=g from q,hb]at hh;simp only[Option.some.injEq,Obj.cells.injEq]at hh;exact absurd hh.2.1 (by decide)
theorem QZ {B g:Nat}{u u':World}{vo vb:Value}{n:Nat}{xs:List Value}(hown:u.ownsRow B 5 1 vo n xs) (tZ:u.heap[g]?=some (.cells #[vb] 49)) (hg:u.grownBy u' vo.ownBlock) (hB:B<=u.heap.size):u'.heap[g]?=some (.cells #[vb] 49)/\Fp B u u':=by
 have key:∀(k:Nat) (cs:Array Value) (t:TypeId) (fr:Nat × Nat),u.heap[k]?=some (.cells cs t fr)->t≠5->u'.heap[k]?=some (.cells cs t fr):=fun k cs t fr hk q1=>(hg.block k (Array.getElem?_eq_some_iff.1 hk).1 (fun q=>by
  rcases hown.2 with ⟨rfl,_⟩|⟨g',cap,cur,rfl,_,hh,_⟩
  ·simp[Value.ownBlock]at q
  ·simp only[Value.ownBlock,Option.some.injEq]at q;subst q;rw[hk]at hh;simp only[Option.some.injEq,Obj.cells.injEq]at hh;exact q1 hh.2.1)).trans hk
 refine⟨key g _ _ _ tZ (by decide),⟨hg.os,hg.tape,hg.output,hg.size,fun b hb=>hg.block b (by omega) (fun q=>?_)⟩,fun k cs t fr hk q1 _=>key k cs t fr hk q1⟩;have:=(hown.lt b q.symm).1;omega
theorem AJ {ops:Array Oper}{rest:List Oper}{o:Oper}{a:Act}{Q:Exit->Act->World->Prop}{u:World}{B g:Nat}{vo vb:Value}{ts:List UInt8}(z:ByteArray) (hgd:o.guard=none) (s x:Operand)
  (ho:o.op=.call { callee:=.builtin .append,args:=#[s,x],argTypes:=#[26,9] }) (hs:a.eval s=vo) (hx:a.eval x=.string z) (hB:B<=u.heap.size) (tZ:u.heap[g]?=some (.cells #[vb] 49)) (hown:u.ownsRow B 5 1 vo ts.length (Pl.bl ts)) (hn:ts.length+z.size<=70368744177664)
  (h:∀a' n' c' u',u'.ownsRow B 5 1 (.slice a' n' c') (ts++z.data.toList).length (Pl.bl (ts++z.data.toList))->u'.heap[g]?=some (.cells #[vb] 49)->Fp B u u'->wpList Tryz.prog ops Q rest (a.put o.dst (.slice a' n' c')) u'):wpList Tryz.prog ops Q (o :: rest) a u:=by
 obtain⟨i0,hi0,hz0,hz1,hz2⟩:=info_parts yR;refine Lib.wpList_append_own_string _ hgd s x 26 9 ho B 5 i0 Tryz.underlying26 Tryz.underlying9 hi0 hz0 hz1 hz2 vo _ _ hs hown z hx (by unfold maxLen;omega) (by omega) hB ?_;intro v' u' ho' hg _;have hh:=QZ hown tZ hg hB;have ho2:u'.ownsRow B 5 1 v' (ts++z.data.toList).length (Pl.bl (ts++z.data.toList)):=by rw[Pl.yQ,List.length_append,Array.length_toList];exact ho'
 obtain⟨a',c',rfl⟩:=tY ho2;exact h a' _ c' u' ho2 hh.1 hh.2
theorem AO {ops:Array Oper}{rest:List Oper}{o:Oper}{a:Act}{Q:Exit->Act->World->Prop}{u:World}{B g:Nat}{vo vb:Value}{ts:List UInt8}(zs:List UInt8) (hgd:o.guard=none) (s x:Operand)
  (ho:o.op=.call { callee:=.builtin .append,args:=#[s,x],argTypes:=#[26,26] }) (hs:a.eval s=vo) (ad:Addr) (m cp:Nat) (hx:a.eval x=.slice (some ad) m cp) (hm:zs.length=m) (hB:B<=u.heap.size)
  (tZ:u.heap[g]?=some (.cells #[vb] 49)) (hown:u.ownsRow B 5 1 vo ts.length (Pl.bl ts)) (hnews:∀j u',(Pl.bl zs)[j]?=some u'->u.cell? (ad.add j)=some u') (hn:ts.length+m<=70368744177664)
  (h:∀a' n' c' u',u'.ownsRow B 5 1 (.slice a' n' c') (ts++zs).length (Pl.bl (ts++zs))->u'.heap[g]?=some (.cells #[vb] 49)->Fp B u u'->wpList Tryz.prog ops Q rest (a.put o.dst (.slice a' n' c')) u'):wpList Tryz.prog ops Q (o :: rest) a u:=by
 obtain⟨i0,hi0,hz0,hz1,hz2⟩:=info_parts yR;refine wpList_append_own _ hgd s x 26 ho B 5 i0 (.int .u8 0) 1 1 Tryz.underlying26 hi0 hz0 hz1 hz2 rfl (by decide) vo ts.length (Pl.bl ts) hs hown ad m cp (Pl.bl zs) hx (by rw[Pl.sO,hm,Nat.mul_one]) hnews (Pl.CY _) (by unfold maxLen;omega) (by omega) hB ?_;intro v' u' ho' hg _;have ho2:u'.ownsRow B 5 1 v' (ts++zs).length (Pl.bl (ts++zs)):=by rw[Pl.yQ,List.length_append,hm];exact ho'
 have hh:=QZ hown tZ hg hB;obtain⟨a',c',rfl⟩:=tY ho2;exact h a' _ c' u' ho2 hh.1 hh.2
def Sr (B:Nat) (u:World) (a:Option Addr) (len:Nat) (L:List ByteArray):Prop:=L.length=len/\len<=4000/\(len=0\/∃b off,a=some ⟨b,off,none⟩/\∀u',Fp B u u'->∀j,j<len->u'.cell? ⟨b,off+j,none⟩=some (.string (L.getD j ⟨#[]⟩)))
theorem Pl.Dz (L:List ByteArray) (k:Nat) (h:k<L.length):(L.take (k+1)).flatMap Pl.say=(L.take k).flatMap Pl.say++Pl.say (L.getD k ⟨#[]⟩):=by
 have e:L.take (k+1)=L.take k++[L.getD k ⟨#[]⟩]:=by rw[List.take_add_one,List.getElem?_eq_getElem h,List.getD_eq_getElem?_getD,List.getElem?_eq_getElem h];rfl
 rw[e];simp
theorem Pl.Vi (L:List ByteArray) (k:Nat):((L.take k).flatMap Pl.say).length<=(L.flatMap Pl.say).length:=by
 conv=>rhs;rw[<- List.take_append_drop k L]
 rw[List.flatMap_append,List.length_append];omega
set_option maxRecDepth 8000 in
theorem XE {B g:Nat}{ts:List UInt8}{u:World}(L:List ByteArray) (a:Option Addr) (len cap:Nat) (h:Pw B g ts u) (hR:Sr B u a len L) (hn:ts.length+(L.flatMap Pl.say).length<=Pl.room):Calls Tryz.prog 41 #[.pointer (some ⟨g,0,none⟩),.slice a len cap] u fun e u'=>e=.returned (.tuple #[])/\Pw B g (ts++L.flatMap Pl.say) u'/\Fp B u u':=by
 have hm:(len:Int)<=9223372036854775807:=by have:=hR.2.1;omega
 have HR:Hid (Sr B u a len L):=hR;have HN:Hid (ts.length+(L.flatMap Pl.say).length<=1000000000):=hn;have H0:Hid (Pw B g ts u):=h;have Ct:Hid (B<=g):=h.ge;clear h hR hn;go_enter Tryz.func41,Tryz.ntmps41;go_wp2_with fail
 go_loopw [9] (fun i wr=>∃k:Nat,i=.int .i64 (k:Int)/\k<=len/\Hid (Pw B g (ts++(L.take k).flatMap Pl.say) wr)/\Hid (Fp B u wr)) (fun i _=>len-(intOf i).toNat)
 case atStart=>exact⟨0,rfl,Nat.zero_le _,by rw[show (L.take 0).flatMap Pl.say=[] from rfl,List.append_nil];exact H0.o,Fp.refl _ _⟩
 case round=>
  obtain⟨k,rfl,hk,S,D⟩:=hrel;by_cases hlt:k<len
  ·have hi:(k:Int)<(len:Int):=(by omega);obtain⟨s,hs⟩:∃s,s=L.getD k ⟨#[]⟩:=⟨_,rfl⟩;have HSU:Hid ((L.take (k+1)).flatMap Pl.say=(L.take k).flatMap Pl.say++Pl.say s):=(by show _=_;rw[hs];exact Pl.Dz L k (by have:=HR.o.1;omega));have Mk:Hid ((ts++(L.take k).flatMap Pl.say).length+s.size+1<=1000000000):=by
    have h1:=Pl.Vi L (k+1);have h2:=HN.o;rw[HSU.o,List.length_append,Pl.wV]at h1;show (ts++(L.take k).flatMap Pl.say).length+s.size+1<=_;rw[List.length_append];omega
   obtain⟨b,off,hab,hcell⟩:∃b off,a=some ⟨b,off,none⟩/\wr.cell? ⟨b,off+k,none⟩=some (.string s):=by
    obtain⟨_,_,q⟩:=HR.o;rcases q with q|⟨b,off,e1,hc⟩
    ·omega
    ·exact⟨b,off,e1,by rw[hs];exact hc wr D.o k hlt⟩
   rw[hab];clear hab hs;obtain⟨OV,hb2,ho2⟩:=S.o.ex;have j0:wr.cell? ⟨g,0,none⟩=some OV:=(by rw[cell_of_row wr g 0 _ 49 (0,0) hb2];rfl);have ZG:Hid (g<wr.heap.size/\B<=wr.heap.size):=⟨S.o.lt,Nat.le_trans S.o.ge (Nat.le_of_lt S.o.lt)⟩;have HB2:Hid (wr.heap[g]?=some (.cells #[OV] 49)):=hb2;have Iu:Hid (wr.ownsRow B 5 1 OV (ts++(L.take k).flatMap Pl.say).length (Pl.bl (ts++(L.take k).flatMap Pl.say))):=ho2;clear hb2 ho2;by_cases hs:s=⟨#[59]⟩\/s=⟨#[123]⟩\/s=⟨#[125]⟩
   ·have VT:Pl.say s=s.data.toList++[10]:=(by unfold Pl.say;rw[if_pos hs]);have hm2:s.toList=[59]\/(¬s.toList=[59]/\s.toList=[123])\/(¬s.toList=[59]/\¬s.toList=[123]/\s.toList=[125]):=by
     rcases hs with rfl|rfl|rfl
     ·exact .inl ((OW _ _).2 rfl)
     ·exact .inr (.inl ⟨fun q=>absurd ((OW _ _).1 q) (by decide),(OW _ _).2 rfl⟩)
     ·exact .inr (.inr ⟨fun q=>absurd ((OW _ _).1 q) (by decide),fun q=>absurd ((OW _ _).1 q) (by decide),(OW _ _).2 rfl⟩)
    clear hs;rcases hm2 with m1|⟨m1,m2⟩|⟨m1,m2,m3⟩;all_goals
     go_wp2_with (first|(at_builtin;refine AJ s rfl _ _ rfl rfl rfl ZG.o.2 HB2.o Iu.o (by have:=Mk.o;omega) fun a3 n3 q3 u3 o3 b3 d3=>?_;have HO3:Hid (u3.ownsRow B 5 1 (.slice a3 n3 q3) (ts++(L.take k).flatMap Pl.say++s.data.toList).length (Pl.bl (ts++(L.take k).flatMap Pl.say++s.data.toList))):=o3;have HB3:Hid (u3.heap[g]?=some (.cells #[OV] 49)):=b3;have HD3:Hid (Fp B wr u3):=d3;have ZG3:Hid (g<u3.heap.size/\B<=u3.heap.size):=⟨(Array.getElem?_eq_some_iff.1 b3).1,Nat.le_trans ZG.o.2 d3.b.size⟩;clear o3 b3 d3)|(at_builtin;refine AO [10] rfl _ _ rfl rfl ⟨u3.heap.size,0,none⟩ 1 1 rfl rfl (by have:=ZG3.o.2;simp;omega) ((Below.heap_alloc u3 _ g ZG3.o.1).trans HB3.o) (dK HO3.o fun k hk=>Below.heap_alloc u3 _ k (HO3.o.lt k hk).2) (Tv u3 10 10 (by decide)) (by have:=Mk.o;have e9:s.data.toList.length=s.size:=Array.length_toList;rw[List.length_append,e9];omega) fun a4 n4 q4 u4 o4 b4 d4=>?_;have K4:∀j,u4.cell? ⟨g,j,none⟩=(#[OV]:Array Value)[j]?:=(fun j=>cell_of_row u4 g j _ 49 (0,0) b4);have F4:∀j,u4.frozen? ⟨g,j,none⟩=false:=(fun j=>frozen_of_row u4 g j _ 49 b4);have W4:Hid (Pw B g (ts++(L.take k).flatMap Pl.say++s.data.toList++[10]) (u4.setCell ⟨g,0,none⟩ (.slice a4 n4 q4))):=Pw.put b4 o4 Ct.o;have D4:Hid (Fp B u (u4.setCell ⟨g,0,none⟩ (.slice a4 n4 q4))):=((D.o.trans (HD3.o.trans (Fp.below (aA u3 _) ZG3.o.2))).trans d4).set b4 Ct.o _ _;clear o4 b4 d4))
     go_roundw
     case rel=>exact⟨k+1,by go_num,by omega,by rw[HSU.o,VT,<- List.append_assoc,<- List.append_assoc];exact W4.o,D4.o⟩
     case measure=>simp[intOf];omega
   ·have VT:Pl.say s=s.data.toList++[32]:=(by unfold Pl.say;rw[if_neg hs]);have n1:(s.toList == [59])=false:=beq_eq_false_iff_ne.2 (fun q=>hs (.inl ((OW _ _).1 q)));have n2:(s.toList == [123])=false:=beq_eq_false_iff_ne.2 (fun q=>hs (.inr (.inl ((OW _ _).1 q))));have n3:(s.toList == [125])=false:=beq_eq_false_iff_ne.2 (fun q=>hs (.inr (.inr ((OW _ _).1 q))));clear hs;all_goals
     go_wp2_with (first|(at_builtin;refine AJ s rfl _ _ rfl rfl rfl ZG.o.2 HB2.o Iu.o (by have:=Mk.o;omega) fun a3 n3 q3 u3 o3 b3 d3=>?_;have HO3:Hid (u3.ownsRow B 5 1 (.slice a3 n3 q3) (ts++(L.take k).flatMap Pl.say++s.data.toList).length (Pl.bl (ts++(L.take k).flatMap Pl.say++s.data.toList))):=o3;have HB3:Hid (u3.heap[g]?=some (.cells #[OV] 49)):=b3;have HD3:Hid (Fp B wr u3):=d3;have ZG3:Hid (g<u3.heap.size/\B<=u3.heap.size):=⟨(Array.getElem?_eq_some_iff.1 b3).1,Nat.le_trans ZG.o.2 d3.b.size⟩;clear o3 b3 d3)|(at_builtin;refine AO [32] rfl _ _ rfl rfl ⟨u3.heap.size,0,none⟩ 1 1 rfl rfl (by have:=ZG3.o.2;simp;omega) ((Below.heap_alloc u3 _ g ZG3.o.1).trans HB3.o) (dK HO3.o fun k hk=>Below.heap_alloc u3 _ k (HO3.o.lt k hk).2) (Tv u3 32 32 (by decide)) (by have:=Mk.o;have e9:s.data.toList.length=s.size:=Array.length_toList;rw[List.length_append,e9];omega) fun a4 n4 q4 u4 o4 b4 d4=>?_;have K4:∀j,u4.cell? ⟨g,j,none⟩=(#[OV]:Array Value)[j]?:=(fun j=>cell_of_row u4 g j _ 49 (0,0) b4);have F4:∀j,u4.frozen? ⟨g,j,none⟩=false:=(fun j=>frozen_of_row u4 g j _ 49 b4);have W4:Hid (Pw B g (ts++(L.take k).flatMap Pl.say++s.data.toList++[32]) (u4.setCell ⟨g,0,none⟩ (.slice a4 n4 q4))):=Pw.put b4 o4 Ct.o;have D4:Hid (Fp B u (u4.setCell ⟨g,0,none⟩ (.slice a4 n4 q4))):=((D.o.trans (HD3.o.trans (Fp.below (aA u3 _) ZG3.o.2))).trans d4).set b4 Ct.o _ _;clear o4 b4 d4))
     go_roundw
     case rel=>exact⟨k+1,by go_num,by omega,by rw[HSU.o,VT,<- List.append_assoc,<- List.append_assoc];exact W4.o,D4.o⟩
     case measure=>simp[intOf];omega
  ·have hi:¬(k:Int)<(len:Int):=(by omega);go_wp2;go_end0;refine⟨rfl,?_,D.o⟩;have:=S.o;rw[List.take_of_length_le (by have:=HR.o.1;omega)]at this;exact this
end W
set_option maxRecDepth 4000
namespace Pl
theorem aCe {l:List Tx}{k:Nat}(h:l.length<=k):wF (l.drop k)=[]:=by rw[List.drop_eq_nil_of_le h];rfl
theorem aEl {l:List Tx}{k:Nat}(h:k<l.length):FZ (l.drop k)=say ⟨#[61]⟩++((l.getD k Tx.no).ar++FZ (l.drop (k+1))):=by rw[drop_at h];unfold FZ;rw[List.flatMap_cons,List.append_assoc]
theorem aCf {l:List Tx}{k:Nat}(h:l.length<=k):FZ (l.drop k)=[]:=by rw[List.drop_eq_nil_of_le h];rfl
end Pl
namespace W
open Go.RowKit
variable {Ex:Nat->Prop}
def Tp (U:World) (k:Nat):Prop:=∃cs t fr,U.heap[k]?=some (.cells cs t fr)/\t≠5/\t≠49
theorem Tp.lt {U:World}{k:Nat}(h:Tp U k):k<U.heap.size:=by
 obtain⟨_,_,_,h,-⟩:=h;exact (Array.getElem?_eq_some_iff.1 h).1
theorem Tp.at_ {U V:World}{k:Nat}(h:Tp U k) (e:V.heap[k]?=U.heap[k]?):Tp V k:=by
 obtain⟨cs,t,fr,h,q⟩:=h;exact⟨cs,t,fr,e.trans h,q⟩
def Bx (Ex:Nat->Prop) (U u:World):Prop:=∀k,¬Ex k->Tp U k->u.heap[k]?=U.heap[k]?
theorem aEm {U V:World}(d:Bw U V):Bx Ex U V:=fun k _ h=>d.block k h.lt
theorem Np {u v:World}{b o:Nat}(h:u.heap[b]?=v.heap[b]?):u.cell? ⟨b,o,none⟩=v.cell? ⟨b,o,none⟩:=by simp[World.cell?,h]
def NU (Ex:Nat->Prop) (U:World) (_:Nat) (u:World):Prop:=Bx Ex U u
theorem NU.step {U:World}{B:Nat}{u u':World}(h:NU Ex U B u) (d:Fp B u u'):NU Ex U B u':=fun k q t=>by
 obtain⟨cs,t9,fr,e,q1,q2⟩:=t;rw[e];exact d.k k cs t9 fr ((h k q ⟨cs,t9,fr,e,q1,q2⟩).trans e) q1 q2
theorem NU.aEn {X':Nat->Prop}{U V:World}{B:Nat}{u:World}(h:NU Ex V B u) (d:Bx X' U V) (hx:∀k,k<U.heap.size->Ex k->X' k):NU X' U B u:=fun k q t=>(h k (fun r=>q (hx k t.lt r)) (t.at_ (d k q t))).trans (d k q t)
theorem NU.old {U V:World}{B:Nat}{u:World}(h:NU Ex V B u) (d:Bw U V):NU Ex U B u:=h.aEn (aEm d) fun _ _ q=>q
def Wp (NA:Nat->World->Prop) (f:FuncId) (args:List Value) (t:List UInt8):Prop:=
 ∀(B g:Nat) (ts:List UInt8) (u:World),Pw B g ts u->NA B u->ts.length+t.length<=Pl.room->Calls Tryz.prog f (.pointer (some ⟨g,0,none⟩) :: args).toArray u fun e u'=>e=.returned (.tuple #[])/\Pw B g (ts++t) u'/\Fp B u u'
theorem Wp.on {U V:World}{f:FuncId}{args:List Value}{t:List UInt8}(h:Wp (NU Ex U) f args t) (d:Bw U V):Wp (NU Ex V) f args t:=fun B g ts u p na hn=>h B g ts u p (na.old d) hn
def Rv (Ex:Nat->Prop) (U:World) (v:Value) (vs:List Value):Prop:=∃a cap,v=.slice a vs.length cap/\vs.length<=4000/\(vs.length=0\/∃b off,a=some ⟨b,off,none⟩/\Tp U b/\¬Ex b/\∀j,j<vs.length->U.cell? ⟨b,off+j,none⟩=some (vs.getD j .nilIface))
theorem Rv.on {U V:World}{v:Value}{vs:List Value}(h:Rv Ex U v vs) (d:Bw U V):Rv Ex V v vs:=by
 obtain⟨a,cap,h1,h2,h3⟩:=h;refine⟨a,cap,h1,h2,h3.imp id ?_⟩;rintro⟨b,off,q1,q2,qx,q3⟩;exact⟨b,off,q1,q2.at_ (d.block b q2.lt),qx,fun j hj=>(d.cell (p:=⟨b,off+j,none⟩) q2.lt).trans (q3 j hj)⟩
theorem Rv.at_ {U:World}{a:Option Addr}{len cap:Nat}{vs:List Value}(h:Rv Ex U (.slice a len cap) vs) (hl:0<vs.length):∃b off,a=some ⟨b,off,none⟩/\∀j,j<vs.length->∀(B:Nat) (y:World),NU Ex U B y->y.cell? ⟨b,off+j,none⟩=some (vs.getD j .nilIface):=by
 obtain⟨a',cap',h1,h2,h3⟩:=h;cases h1;rcases h3 with q|⟨b,off,q1,q2,qx,q3⟩
 ·omega
 ·exact⟨b,off,q1,fun j hj B y na=>(Np (na b qx q2)).trans (q3 j hj)⟩
theorem Rv.len {U:World}{a:Option Addr}{len cap:Nat}{vs:List Value}(h:Rv Ex U (.slice a len cap) vs):vs.length=len/\len<=4000:=by
 obtain⟨a',cap',h1,h2,_⟩:=h;cases h1;exact⟨rfl,h2⟩
theorem Rv.sr {U:World}{a:Option Addr}{len cap:Nat}{L:List ByteArray}(h:Rv Ex U (.slice a len cap) (L.map Value.string)){B:Nat}{u:World}(na:NU Ex U B u):Sr B u a len L:=by
 have hl:=h.len;rw[List.length_map]at hl;refine⟨hl.1,hl.2,?_⟩;by_cases q:len=0
 ·exact .inl q
 ·obtain⟨b,off,e,hc⟩:=h.at_ (by rw[List.length_map];omega);refine .inr ⟨b,off,e,fun u' d j hj=>?_⟩;rw[hc j (by rw[List.length_map];omega) B u' (na.step d)];have hj2:j<L.length:=by omega
  simp[List.getD_eq_getElem?_getD,List.getElem?_eq_getElem hj2]
theorem Nq {B n:Nat}(L:List ByteArray) (hL:L.length<=4000) (y:World) (hn:n=y.heap.size):Sr B (y.alloc (.cells (L.map Value.string).toArray 9)) (some ⟨n,0,none⟩) L.length L:=by
 refine⟨rfl,hL,.inr ⟨n,0,rfl,fun u' d j hj=>?_⟩⟩;subst hn;rw[cell_of_row u' y.heap.size _ _ 9 (0,0) (d.k _ _ _ _ (heap_alloc_new y _) (by decide) (by decide)),Nat.zero_add,List.getElem?_toArray,List.getElem?_map,List.getElem?_eq_getElem hj];simp[List.getD_eq_getElem?_getD,List.getElem?_eq_getElem hj]
def Rk (v:Value) (n:Nat):Prop:=∃(T:TypeId) (c:Value) (F:Nat) (r:Value),v=.iface T c/\(∀u:World,(method 399 T c "loop.example/s01681/impl.rank").run Tryz.prog u=.ok (F,r) u)/\(∀(vs:Array Value) (u:World),(callFunc F vs).run Tryz.prog u=.ok (.enter F vs) u)/\∀u:World,Calls Tryz.prog F #[r] u fun e u'=>e=.returned (.int .i64 (n:Int))/\Bw u u'
structure Sp (Ex:Nat->Prop) (U:World) (B g n0:Nat) (cs:Array Value) (T:TypeId) (u:World) (W r:List UInt8) (z:World):Prop where
 w:∃ts,ts++r=W/\Pw B g ts z
 n:W.length<=Pl.room
 d:Fp B u z
 a:NU Ex U B z
 q:cs=#[]\/z.heap[n0]?=some (.cells cs T)
 t:T≠5/\T≠49
section
variable {U:World}{B g n0:Nat}{cs:Array Value}{T:TypeId}{u z y:World}{W r R t ts:List UInt8}
theorem Pw.size (h:Pw B g ts u):B<=u.heap.size:=Nat.le_trans h.ge (Nat.le_of_lt h.lt)
theorem Sp.on (S:Sp Ex U B g n0 cs T u W r z) (d:Bw z y):Sp Ex U B g n0 cs T u W r y:=by
 obtain⟨ts,e,h⟩:=S.w;exact⟨⟨ts,e,h.keep d⟩,S.n,S.d.trans (Fp.below d h.size),S.a.step (Fp.below d h.size),S.q.imp id fun q=>(d.block n0 (Array.getElem?_eq_some_iff.1 q).1).trans q,S.t⟩
theorem Sp.go {f:FuncId}{args:Array Value}(S:Sp Ex U B g n0 cs T u W R y) (hR:t++r=R) (X:∀ts,Pw B g ts y->ts.length+t.length<=Pl.room->Calls Tryz.prog f args y fun e z'=>e=.returned (.tuple #[])/\Pw B g (ts++t) z'/\Fp B y z'):Calls Tryz.prog f args y fun e z'=>e=.returned (.tuple #[])/\Sp Ex U B g n0 cs T u W r z':=by
 obtain⟨ts,e,h⟩:=S.w;subst hR;have hn:=S.n;rw[<- e]at hn;simp only[List.length_append]at hn;refine (X ts h (by omega)).mono ?_;rintro _ z' ⟨rfl,h1,h2⟩;exact⟨rfl,⟨ts++t,by rw[List.append_assoc];exact e,h1⟩,S.n,S.d.trans h2,S.a.step h2,S.q.imp id fun q=>h2.k _ _ _ _ q S.t.1 S.t.2,S.t⟩
theorem Sp.call {f:FuncId}{args:List Value}(S:Sp Ex U B g n0 cs T u W R z) (d:Bw z y:=by apply_rules [Below.refl,Below.drew,below_drewN,dL]) (X:Wp (NU Ex U) f args t:=by assumption) (hR:t++r=R:=by first|rfl|exact List.append_nil _|(simp only[List.append_assoc];rfl)):Calls Tryz.prog f (.pointer (some ⟨g,0,none⟩) :: args).toArray y fun e z'=>e=.returned (.tuple #[])/\Sp Ex U B g n0 cs T u W r z':=(S.on d).go hR fun ts h hn=>X B g ts y h (S.on d).a hn
theorem Sp.kK {s:ByteArray}{n:Nat}(S:Sp Ex U B g n0 cs T u W R z) (d:Bw z y:=by apply_rules [Below.refl,Below.drew,below_drewN,dL]) (hn:n=y.heap.size:=by simp) (hR:Pl.say s++r=R:=by first|rfl|exact List.append_nil _|(simp only[List.append_assoc];rfl)):Calls Tryz.prog 41 #[.pointer (some ⟨g,0,none⟩),.slice (some ⟨n,0,none⟩) 1 1] (y.alloc (.cells #[.string s] 9)) fun e z'=>e=.returned (.tuple #[])/\Sp Ex U B g n0 cs T u W r z':=
 ((S.on d).on (aA y _)).go hR fun ts h hb=>by simpa using XE [s] _ 1 1 h (Nq [s] (by simp) y hn) (by simpa using hb)
theorem Sp.kL {s s':ByteArray}{n:Nat}(S:Sp Ex U B g n0 cs T u W R z) (d:Bw z y:=by apply_rules [Below.refl,Below.drew,below_drewN,dL]) (hn:n=y.heap.size:=by simp) (hR:(Pl.say s++Pl.say s')++r=R:=by first|rfl|exact List.append_nil _|(simp only[List.append_assoc];rfl)):Calls Tryz.prog 41 #[.pointer (some ⟨g,0,none⟩),.slice (some ⟨n,0,none⟩) 2 2] (y.alloc (.cells #[.string s,.string s'] 9)) fun e z'=>e=.returned (.tuple #[])/\Sp Ex U B g n0 cs T u W r z':=
 ((S.on d).on (aA y _)).go hR fun ts h hb=>by simpa using XE [s,s'] _ 2 2 h (Nq [s,s'] (by simp) y hn) (by simpa using hb)
theorem Sp.kM {L:List ByteArray}{a:Option Addr}{n c:Nat}(S:Sp Ex U B g n0 cs T u W R z) (d:Bw z y:=by apply_rules [Below.refl,Below.drew,below_drewN,dL]) (hv:Rv Ex U (.slice a n c) (L.map Value.string):=by assumption) (hR:L.flatMap Pl.say++r=R:=by first|rfl|exact List.append_nil _|(simp only[List.append_assoc];rfl)):Calls Tryz.prog 41 #[.pointer (some ⟨g,0,none⟩),.slice a n c] y fun e z'=>e=.returned (.tuple #[])/\Sp Ex U B g n0 cs T u W r z':=(S.on d).go hR fun ts h hb=>XE L a n c h (hv.sr (S.on d).a) hb
theorem Sp.begin (h:Pw B g ts u) (na:NU Ex U B u) (hn:ts.length+t.length<=Pl.room) (e:t=r):Sp Ex U B g 0 #[] 0 u (ts++t) r u:=by
 subst e;exact⟨⟨ts,rfl,h⟩,by rw[List.length_append];exact hn,Fp.refl _ _,na,.inl rfl,by decide,by decide⟩
theorem Wp.of {f:FuncId}{args:List Value}(H:∀B g u W,Sp Ex U B g 0 #[] 0 u W t u->Calls Tryz.prog f (.pointer (some ⟨g,0,none⟩) :: args).toArray u fun e u'=>e=.returned (.tuple #[])/\Pw B g W u'/\Fp B u u'):Wp (NU Ex U) f args t:=fun B g ts u h na hn=>H B g u _ (Sp.begin h na hn rfl)
theorem Sp.box {cs:Array Value}{T:TypeId}(S:Sp Ex U B g 0 #[] 0 u W r z) (hy:y=z.alloc (.cells cs T)) (hT:T≠5/\T≠49:=by decide):Sp Ex U B g z.heap.size cs T u W r y:=by
 subst hy;have S1:=S.on (aA z (.cells cs T));exact⟨S1.w,S1.n,S1.d,S1.a,.inr (heap_alloc_new z _),hT⟩
theorem Sp.f (S:Sp Ex U B g n0 cs T u W r z):(∀j,cs.size≠0->z.cell? ⟨n0,j,none⟩=cs[j]?)/\∀o j,cs.size≠0->(z.alloc o).cell? ⟨n0,j,none⟩=cs[j]?:=by
 rcases S.q with rfl|q
 ·exact⟨fun _ h=>absurd rfl h,fun _ _ h=>absurd rfl h⟩
 ·exact⟨fun j _=>cell_of_row z n0 j _ T (0,0) q,fun o j _=>cell_of_row _ n0 j _ T (0,0) ((Below.heap_alloc z o _ (Array.getElem?_eq_some_iff.1 q).1).trans q)⟩
theorem Sp.fin (S:Sp Ex U B g n0 cs T u W [] z):Pw B g W z/\Fp B u z:=by
 obtain⟨ts,e,h⟩:=S.w;rw[List.append_nil]at e;subst e;exact⟨h,S.d⟩
end
theorem Nr {U:World}{v:Value}{t:List UInt8}(X:Wp (NU Ex U) 18 [v] t):Wp (NU Ex U) 72 [v] (Pl.brk t):=by
 intro B g ts u h na hn;have S:=Sp.begin h na hn (show _=Pl.say ⟨#[40]⟩++(t++Pl.say ⟨#[41]⟩) from List.append_assoc ..);have F:=S.f;clear h na hn;go_in;go_wp2_with ((with_reducible show Calls _ _ _ _ _);(with_reducible first|refine S.call.mono ?_|refine S.kK.mono ?_|refine S.kL.mono ?_|refine S.kM.mono ?_);clear S F;rintro e z ⟨rfl,S⟩;have F:=S.f)
 go_end0;exact⟨rfl,S.fin⟩
structure kR (Ex:Nat->Prop) (U:World) (v:Value) (t:Pl.Tx):Prop where
 pr:Wp (NU Ex U) 18 [v] t.pr
 rk:Rk v t.rk
theorem kR.on {U V:World}{v:Value}{t:Pl.Tx}(h:kR Ex U v t) (d:Bw U V):kR Ex V v t:=⟨h.pr.on d,h.rk⟩
theorem RA {U:World}{v:Value}{t:Pl.Tx}(m:Nat) (x:kR Ex U v t):Wp (NU Ex U) 103 [v,.int .i64 (m:Int)] (if m<t.rk then Pl.brk t.pr else t.pr):=by
 intro B g ts u h na hn;have S:=Sp.begin h na hn rfl;generalize ts++(if m<t.rk then Pl.brk t.pr else t.pr)=W at S ⊢;have F:=S.f;have X1:=x.pr;have X2:=Nr x.pr;obtain⟨T,c,F9,r,rfl,M1,M2,M3⟩:=x.rk;have HM:Hid (∀u:World,Calls Tryz.prog F9 #[r] u fun e u'=>e=.returned (.int .i64 (t.rk:Int))/\Bw u u'):=M3;clear h na hn M3 x;by_cases q:m<t.rk
 case' pos=>have q1:(m:Int)<(t.rk:Int):=by omega
 case' neg=>have q1:¬(m:Int)<(t.rk:Int):=by omega
 all_goals
  simp only[q,if_true,if_false]at S;go_in;go_wp2_with fail
  refine (HM.o _).mono ?_;rintro e z9 ⟨rfl,d9⟩;replace S:=S.on d9;clear d9 F;have F:=S.f;go_wp2_with ((with_reducible show Calls _ _ _ _ _);(with_reducible first|refine S.call.mono ?_|refine S.kK.mono ?_|refine S.kL.mono ?_|refine S.kM.mono ?_);clear S F;rintro e z ⟨rfl,S⟩;have F:=S.f)
  go_end0;exact⟨rfl,S.fin⟩
theorem oI {U:World}{v:Value}{t:Pl.Tx}(x:kR Ex U v t):Wp (NU Ex U) 104 [v] t.op:=by
 intro B g ts u h na hn;have X:Wp (NU Ex U) 103 [v,.int .i64 0] _:=RA 0 x;have S:=Sp.begin h na hn (show t.op=if 0<t.rk then Pl.brk t.pr else t.pr from rfl);generalize (if 0<t.rk then Pl.brk t.pr else t.pr)=T at S X;have F:=S.f;clear h na hn;go_in;go_wp2_with ((with_reducible show Calls _ _ _ _ _);(with_reducible first|refine S.call.mono ?_|refine S.kK.mono ?_|refine S.kL.mono ?_|refine S.kM.mono ?_);clear S F;rintro e z ⟨rfl,S⟩;have F:=S.f)
 go_end0;exact⟨rfl,S.fin⟩
theorem ES {U:World}{v:Value}{t:Pl.Tx}(x:kR Ex U v t):Wp (NU Ex U) 71 [v] t.ar:=by
 intro B g ts u h na hn;have X:Wp (NU Ex U) 103 [v,.int .i64 1] _:=RA 1 x;have S:=Sp.begin h na hn (show t.ar=if 1<t.rk then Pl.brk t.pr else t.pr from rfl);generalize (if 1<t.rk then Pl.brk t.pr else t.pr)=T at S X;have F:=S.f;clear h na hn;go_in;go_wp2_with ((with_reducible show Calls _ _ _ _ _);(with_reducible first|refine S.call.mono ?_|refine S.kK.mono ?_|refine S.kL.mono ?_|refine S.kM.mono ?_);clear S F;rintro e z ⟨rfl,S⟩;have F:=S.f)
 go_end0;exact⟨rfl,S.fin⟩
theorem Bo {U:World}{v v2:Value}(s:ByteArray){t t2:Pl.Tx}(x:kR Ex U v t) (x2:kR Ex U v2 t2):Wp (NU Ex U) 106 [v,.string s,v2] (t.op++(Pl.say s++t2.op)):=by
 intro B g ts u h na hn;have X:=oI x;have X2:=oI x2;have S:=Sp.begin h na hn rfl;have F:=S.f;clear h na hn;go_in;go_wp2_with ((with_reducible show Calls _ _ _ _ _);(with_reducible first|refine S.call.mono ?_|refine S.kK.mono ?_|refine S.kL.mono ?_|refine S.kM.mono ?_);clear S F;rintro e z ⟨rfl,S⟩;have F:=S.f)
 go_end0;exact⟨rfl,S.fin⟩
theorem aEo {U:World}{a:Option Addr}{len cap:Nat}{vs:List Value}{l:List Pl.Tx}(hv:Rv Ex U (.slice a len cap) vs) (hl:l.length=vs.length) (hit:∀j,j<vs.length->kR Ex U (vs.getD j .nilIface) (l.getD j Pl.Tx.no)):Wp (NU Ex U) 39 [.slice a len cap] (Pl.wF l):=by
 intro B g ts u h na hn;have S:=Sp.begin h na hn rfl;generalize ts++Pl.wF l=W at S ⊢;have HL:Hid (vs.length=len/\len<=4000/\l.length=vs.length):=⟨hv.len.1,hv.len.2,hl⟩;have hm:(len:Int)<=9223372036854775807:=by have:=HL.o;omega
 clear h na hn hl;go_in;go_wp2_with fail
 go_loopw [8] (fun i wr=>∃k:Nat,i=.int .i64 (k:Int)/\k<=len/\Sp Ex U B g 0 #[] 0 u W (Pl.wF (l.drop k)) wr) (fun i _=>len-(intOf i).toNat)
 case atStart=>exact⟨0,rfl,Nat.zero_le _,S⟩
 case round=>
  clear S;obtain⟨k,rfl,hk,S⟩:=hrel;have F:=S.f;by_cases hlt:k<len
  ·have hi:(k:Int)<(len:Int):=(by omega);obtain⟨b,off,rfl,hc⟩:=hv.at_ (by have:=HL.o;omega);have hcell:=hc k (by have:=HL.o;omega) B wr S.a;have X:=kR.pr (hit k (by have:=HL.o;omega));rw[Pl.Bl (by have:=HL.o;omega)]at S;generalize vs.getD k .nilIface=x9 at hcell X;clear hc hit hv;go_wp2_with ((with_reducible show Calls _ _ _ _ _);(with_reducible first|refine S.call.mono ?_|refine S.kK.mono ?_|refine S.kL.mono ?_|refine S.kM.mono ?_);clear S F;rintro e z ⟨rfl,S⟩;have F:=S.f)
   go_roundw
   case rel=>exact⟨k+1,by go_num,by omega,S⟩
   case measure=>simp[intOf];omega
  ·have hi:¬(k:Int)<(len:Int):=(by omega);rw[Pl.aCe (by have:=HL.o;omega)]at S;go_wp2;go_end0;exact⟨rfl,S.fin⟩
theorem Nt {U:World}{a:Option Addr}{len cap:Nat}{vs:List Value}{l:List Pl.Tx}(hv:Rv Ex U (.slice a len cap) vs) (hl:l.length=vs.length) (hit:∀j,j<vs.length->kR Ex U (vs.getD j .nilIface) (l.getD j Pl.Tx.no)):Wp (NU Ex U) 42 [.slice a len cap] (Pl.wG l):=by
 intro B g ts u h na hn;have S:=Sp.begin h na hn rfl;generalize ts++Pl.wG l=W at S ⊢;have HL:Hid (vs.length=len/\len<=4000/\l.length=vs.length):=⟨hv.len.1,hv.len.2,hl⟩;have hm:(len:Int)<=9223372036854775807:=by have:=HL.o;omega
 clear h na hn hl;go_in;go_wp2_with fail
 go_loopw [8] (fun i wr=>∃k:Nat,i=.int .i64 (k:Int)/\k<=len/\Sp Ex U B g 0 #[] 0 u W (Pl.Vf l k) wr) (fun i _=>len-(intOf i).toNat)
 case atStart=>exact⟨0,rfl,Nat.zero_le _,S⟩
 case round=>
  clear S;obtain⟨k,rfl,hk,S⟩:=hrel;have F:=S.f;by_cases hlt:k<len
  ·have hi:(k:Int)<(len:Int):=(by omega);obtain⟨b,off,rfl,hc⟩:=hv.at_ (by have:=HL.o;omega);have hcell:=hc k (by have:=HL.o;omega) B wr S.a;have X:=ES (hit k (by have:=HL.o;omega));rw[Pl.XB (by have:=HL.o;omega)]at S;generalize vs.getD k .nilIface=x9 at hcell X;clear hc hit hv;rcases Nat.eq_zero_or_pos k with rfl|hz
   ·rw[if_pos rfl]at S;replace hcell:wr.cell? ⟨b,off,none⟩=some x9:=hcell;go_wp2_with ((with_reducible show Calls _ _ _ _ _);(with_reducible first|refine S.call.mono ?_|refine S.kK.mono ?_|refine S.kL.mono ?_|refine S.kM.mono ?_);clear S F;rintro e z ⟨rfl,S⟩;have F:=S.f)
    go_roundw
    case rel=>exact⟨1,rfl,by omega,S⟩
    case measure=>simp[intOf];omega
   ·rw[if_neg (by omega)]at S;have hk0:(0:Int)<(k:Int):=(by omega);go_wp2_with ((with_reducible show Calls _ _ _ _ _);(with_reducible first|refine S.call.mono ?_|refine S.kK.mono ?_|refine S.kL.mono ?_|refine S.kM.mono ?_);clear S F;rintro e z ⟨rfl,S⟩;have F:=S.f)
    go_roundw
    case rel=>exact⟨k+1,by go_num,by omega,S⟩
    case measure=>simp[intOf];omega
  ·have hi:¬(k:Int)<(len:Int):=(by omega);rw[Pl.XC (by have:=HL.o;omega)]at S;go_wp2;go_end0;exact⟨rfl,S.fin⟩
theorem Vj {U:World}{a:Option Addr}{len cap:Nat}{vs:List Value}{l:List Pl.Tx}(hv:Rv Ex U (.slice a len cap) vs) (hl:l.length=vs.length) (hit:∀j,j<vs.length->kR Ex U (vs.getD j .nilIface) (l.getD j Pl.Tx.no)):Wp (NU Ex U) 43 [.slice a len cap] (Pl.FZ l):=by
 intro B g ts u h na hn;have S:=Sp.begin h na hn rfl;generalize ts++Pl.FZ l=W at S ⊢;have HL:Hid (vs.length=len/\len<=4000/\l.length=vs.length):=⟨hv.len.1,hv.len.2,hl⟩;have hm:(len:Int)<=9223372036854775807:=by have:=HL.o;omega
 clear h na hn hl;go_in;go_wp2_with fail
 go_loopw [8] (fun i wr=>∃k:Nat,i=.int .i64 (k:Int)/\k<=len/\Sp Ex U B g 0 #[] 0 u W (Pl.FZ (l.drop k)) wr) (fun i _=>len-(intOf i).toNat)
 case atStart=>exact⟨0,rfl,Nat.zero_le _,S⟩
 case round=>
  clear S;obtain⟨k,rfl,hk,S⟩:=hrel;have F:=S.f;by_cases hlt:k<len
  ·have hi:(k:Int)<(len:Int):=(by omega);obtain⟨b,off,rfl,hc⟩:=hv.at_ (by have:=HL.o;omega);have hcell:=hc k (by have:=HL.o;omega) B wr S.a;have X:=ES (hit k (by have:=HL.o;omega));rw[Pl.aEl (by have:=HL.o;omega)]at S;generalize vs.getD k .nilIface=x9 at hcell X;clear hc hit hv;go_wp2_with ((with_reducible show Calls _ _ _ _ _);(with_reducible first|refine S.call.mono ?_|refine S.kK.mono ?_|refine S.kL.mono ?_|refine S.kM.mono ?_);clear S F;rintro e z ⟨rfl,S⟩;have F:=S.f)
   go_roundw
   case rel=>exact⟨k+1,by go_num,by omega,S⟩
   case measure=>simp[intOf];omega
  ·have hi:¬(k:Int)<(len:Int):=(by omega);rw[Pl.aCf (by have:=HL.o;omega)]at S;go_wp2;go_end0;exact⟨rfl,S.fin⟩
variable {Ex:Nat->Prop}
def Ta (A:TypeId) (z:Array Value):Prop:=∀(T:TypeId) (c:Value) (w:World),(Instr.typeAssert (.iface T c) 52 A true).run Tryz.prog w=.ok (.tuple (if T=A then #[c,.bool true] else #[.agg z,.bool false])) w
theorem nE {A:TypeId}{z:Array Value}{d:TypeDesc}(hu:∀w:World,(underlying A).run Tryz.prog w=.ok d w) (hi:∀l,d≠.interface l:=by intro l h;cases h) (hz:∀w:World,(zeroValue A).run Tryz.prog w=.ok (.agg z) w:=by intro _;kernel_rfl):Ta A z:=by
 intro T c w;unfold Instr.typeAssert;cases d
 case interface l=>exact absurd rfl (hi l)
 all_goals
  by_cases q:T=A
  ·simp[go_sem,hu,q]
  ·simp[go_sem,hu,q,hz]
def uH:Prop:=Ta 80 #[.slice none 0 0]/\Ta 83 #[.slice none 0 0,.string ⟨#[]⟩,.nilIface,.slice none 0 0,.slice none 0 0]/\Ta 86 #[.slice none 0 0,.string ⟨#[]⟩,.nilIface,.slice none 0 0,.slice none 0 0,.nilIface]/\Ta 88 #[.slice none 0 0,.slice none 0 0]/\Ta 91 #[.slice none 0 0,.slice none 0 0]/\Ta 93 #[.string ⟨#[]⟩,.slice none 0 0]/\Ta 95 #[.slice none 0 0]/\Ta 127 #[.slice none 0 0]/\Ta 129 #[.slice none 0 0,.slice none 0 0,.string ⟨#[]⟩]/\Ta 131 #[.string ⟨#[]⟩,.nilIface,.nilIface,.slice none 0 0]/\Ta 133 #[.nilIface,.nilIface]/\Ta 135 #[.slice none 0 0,.nilIface]/\Ta 137 #[.string ⟨#[]⟩,.slice none 0 0,.nilIface]/\Ta 152 #[.slice none 0 0]/\Ta 154 #[.nilIface]/\Ta 157 #[.nilIface,.slice none 0 0]/\Ta 159 #[.nilIface,.slice none 0 0]/\Ta 163 #[.string ⟨#[]⟩]/\Ta 165 #[.nilIface,.nilIface]/\Ta 167 #[.nilIface,.slice none 0 0]/\Ta 169 #[.nilIface,.slice none 0 0]/\Ta 172 #[.string ⟨#[]⟩,.nilIface]/\Ta 174 #[.nilIface]/\Ta 176 #[.nilIface,.nilIface]/\Ta 178 #[.int .i64 0,.nilIface,.string ⟨#[]⟩,.nilIface]/\Ta 181 #[.nilIface,.nilIface,.nilIface]
theorem uT:uH:=⟨nE (run_underlying Tryz.underlying80),nE (run_underlying Tryz.underlying83),nE (run_underlying Tryz.underlying86),nE (run_underlying Tryz.underlying88),nE (run_underlying Tryz.underlying91),nE (run_underlying Tryz.underlying93),nE (run_underlying Tryz.underlying95),nE (run_underlying Tryz.underlying127),nE (run_underlying Tryz.underlying129),nE (run_underlying Tryz.underlying131),nE (run_underlying Tryz.underlying133),nE (run_underlying Tryz.underlying135),nE (run_underlying Tryz.underlying137),nE (run_underlying Tryz.underlying152),nE (run_underlying Tryz.underlying154),nE (run_underlying Tryz.underlying157),nE (run_underlying Tryz.underlying159),nE (run_underlying Tryz.underlying163),nE (run_underlying Tryz.underlying165),nE (run_underlying Tryz.underlying167),nE (run_underlying Tryz.underlying169),nE (run_underlying Tryz.underlying172),nE (run_underlying Tryz.underlying174),nE (run_underlying Tryz.underlying176),nE (run_underlying Tryz.underlying178),nE (run_underlying Tryz.underlying181)⟩
theorem XF (r:Value) (u:World):Calls Tryz.prog 246 #[r] u fun e u'=>e=.returned (.int .i64 ((0:Nat):Int))/\Bw u u':=by
 go_enter Tryz.func246,Tryz.ntmps246;go_wp2;all_goals (go_ret;exact⟨rfl,aA u _⟩)
theorem Ea (r:Value) (u:World):Calls Tryz.prog 247 #[r] u fun e u'=>e=.returned (.int .i64 ((1:Nat):Int))/\Bw u u':=by
 go_enter Tryz.func247,Tryz.ntmps247;go_wp2;all_goals (go_ret;exact⟨rfl,aA u _⟩)
theorem RB {T:TypeId}{c:Array Value}(h:∀u:World,(method 399 T (.agg c) "loop.example/s01681/impl.rank").run Tryz.prog u=.ok (246,.agg (c.extract 0 0)) u:=by intro _;kernel_rfl):Rk (.iface T (.agg c)) 0:=⟨_,_,_,_,rfl,h,fun vs u=>by kernel_rfl,XF _⟩
theorem rk1 {T:TypeId}{c:Array Value}(h:∀u:World,(method 399 T (.agg c) "loop.example/s01681/impl.rank").run Tryz.prog u=.ok (247,.agg (c.extract 0 0)) u:=by intro _;kernel_rfl):Rk (.iface T (.agg c)) 1:=⟨_,_,_,_,rfl,h,fun vs u=>by kernel_rfl,Ea _⟩
theorem Nu (r:Nat) (T1 T2:TypeId) (s:ByteArray) (w1 w2:Value):Rk (.iface 178 (.agg #[.int .i64 (r:Int),.iface T1 w1,.string s,.iface T2 w2])) r:=by
 refine⟨_,_,248,.agg #[.int .i64 (r:Int),.iface T1 w1,.string s,.iface T2 w2],rfl,fun u=>by kernel_rfl,fun vs u=>by kernel_rfl,fun u=>?_⟩;go_enter Tryz.func248,Tryz.ntmps248;go_wp2;go_ret;exact⟨rfl,aA u _⟩
end W
set_option maxRecDepth 4000
namespace W
open Go.RowKit
variable {Ex:Nat->Prop}{U:World}{a1 a2 a3:Option Addr}{n1 c1 n2 c2 n3 c3:Nat}{s1:ByteArray}{T1 T2 T3:TypeId}{w1 w2 w3:Value}{L1 L2 L3:List ByteArray}{t1 t2 t3 t4:List UInt8}
theorem aCg (x:Wp (NU Ex U) 39 [.slice a1 n1 c1] t1):Wp (NU Ex U) 18 [.iface 80 (.agg #[.slice a1 n1 c1])] (t1):=by
 refine Wp.of fun B g u W S=>?_
 (try simp only[List.append_assoc]at S)
 have ta:=uT;unfold uH Ta at ta;go_in;go_upto_region 5 with fail
 refine aG fun y hy=>?_;replace S:=S.box hy;generalize u.heap.size=n0 at S ⊢;have F:=S.f;clear hy;go_wp2_with ((with_reducible show Calls _ _ _ _ _);(with_reducible first|refine S.call.mono ?_|refine S.kK.mono ?_|refine S.kL.mono ?_|refine S.kM.mono ?_);clear S F;rintro e z ⟨rfl,S⟩;have F:=S.f)
 go_end0;exact⟨rfl,S.fin⟩
theorem aCh (x:Wp (NU Ex U) 40 [.agg #[.slice a1 n1 c1,.string s1,.iface T1 w1,.slice a2 n2 c2,.slice a3 n3 c3]] t1):Wp (NU Ex U) 18 [.iface 83 (.agg #[.slice a1 n1 c1,.string s1,.iface T1 w1,.slice a2 n2 c2,.slice a3 n3 c3])] (t1):=by
 refine Wp.of fun B g u W S=>?_
 (try simp only[List.append_assoc]at S)
 have ta:=uT;unfold uH Ta at ta;go_in;go_upto_region 8 with fail
 refine aG fun y hy=>?_;replace S:=S.box hy;generalize u.heap.size=n0 at S ⊢;have F:=S.f;clear hy;go_wp2_with ((with_reducible show Calls _ _ _ _ _);(with_reducible first|refine S.call.mono ?_|refine S.kK.mono ?_|refine S.kL.mono ?_|refine S.kM.mono ?_);clear S F;rintro e z ⟨rfl,S⟩;have F:=S.f)
 go_end0;exact⟨rfl,S.fin⟩
theorem MW (x:Wp (NU Ex U) 40 [.agg #[.slice a1 n1 c1,.string s1,.iface T1 w1,.slice a2 n2 c2,.slice a3 n3 c3]] t1) (y2:Wp (NU Ex U) 18 [.iface T2 w2] t2):Wp (NU Ex U) 18 [.iface 86 (.agg #[.slice a1 n1 c1,.string s1,.iface T1 w1,.slice a2 n2 c2,.slice a3 n3 c3,.iface T2 w2])] (t1++t2):=by
 refine Wp.of fun B g u W S=>?_
 (try simp only[List.append_assoc]at S)
 have ta:=uT;unfold uH Ta at ta;go_in;go_upto_region 11 with fail
 refine aG fun y hy=>?_;replace S:=S.box hy;generalize u.heap.size=n0 at S ⊢;have F:=S.f;clear hy;go_wp2_with ((with_reducible show Calls _ _ _ _ _);(with_reducible first|refine S.call.mono ?_|refine S.kK.mono ?_|refine S.kL.mono ?_|refine S.kM.mono ?_);clear S F;rintro e z ⟨rfl,S⟩;have F:=S.f)
 go_end0;exact⟨rfl,S.fin⟩
theorem RD (r1:Rv Ex U (.slice a1 n1 c1) (L1.map Value.string)) (x:Wp (NU Ex U) 39 [.slice a2 n2 c2] t1):Wp (NU Ex U) 18 [.iface 88 (.agg #[.slice a1 n1 c1,.slice a2 n2 c2])] (L1.flatMap Pl.say++Pl.say ⟨#[123]⟩++t1++(Pl.say ⟨#[125]⟩++Pl.say ⟨#[59]⟩)):=by
 refine Wp.of fun B g u W S=>?_
 (try simp only[List.append_assoc]at S)
 have ta:=uT;unfold uH Ta at ta;go_in;go_upto_region 15 with fail
 refine aG fun y hy=>?_;replace S:=S.box hy;generalize u.heap.size=n0 at S ⊢;have F:=S.f;clear hy;go_wp2_with ((with_reducible show Calls _ _ _ _ _);(with_reducible first|refine S.call.mono ?_|refine S.kK.mono ?_|refine S.kL.mono ?_|refine S.kM.mono ?_);clear S F;rintro e z ⟨rfl,S⟩;have F:=S.f)
 go_end0;exact⟨rfl,S.fin⟩
theorem II (r1:Rv Ex U (.slice a1 n1 c1) (L1.map Value.string)) (x:Wp (NU Ex U) 42 [.slice a2 n2 c2] t1):Wp (NU Ex U) 18 [.iface 91 (.agg #[.slice a1 n1 c1,.slice a2 n2 c2])] (L1.flatMap Pl.say++Pl.say ⟨#[123]⟩++t1++(Pl.say ⟨#[125]⟩++Pl.say ⟨#[59]⟩)):=by
 refine Wp.of fun B g u W S=>?_
 (try simp only[List.append_assoc]at S)
 have ta:=uT;unfold uH Ta at ta;go_in;go_upto_region 21 with fail
 refine aG fun y hy=>?_;replace S:=S.box hy;generalize u.heap.size=n0 at S ⊢;have F:=S.f;clear hy;go_wp2_with ((with_reducible show Calls _ _ _ _ _);(with_reducible first|refine S.call.mono ?_|refine S.kK.mono ?_|refine S.kL.mono ?_|refine S.kM.mono ?_);clear S F;rintro e z ⟨rfl,S⟩;have F:=S.f)
 go_end0;exact⟨rfl,S.fin⟩
theorem Nv (x:Wp (NU Ex U) 43 [.slice a1 n1 c1] t1):Wp (NU Ex U) 18 [.iface 93 (.agg #[.string s1,.slice a1 n1 c1])] (Pl.say s1++t1):=by
 refine Wp.of fun B g u W S=>?_
 (try simp only[List.append_assoc]at S)
 have ta:=uT;unfold uH Ta at ta;go_in;go_upto_region 27 with fail
 refine aG fun y hy=>?_;replace S:=S.box hy;generalize u.heap.size=n0 at S ⊢;have F:=S.f;clear hy;go_wp2_with ((with_reducible show Calls _ _ _ _ _);(with_reducible first|refine S.call.mono ?_|refine S.kK.mono ?_|refine S.kL.mono ?_|refine S.kM.mono ?_);clear S F;rintro e z ⟨rfl,S⟩;have F:=S.f)
 go_end0;exact⟨rfl,S.fin⟩
theorem aCi (x:Wp (NU Ex U) 42 [.slice a1 n1 c1] t1):Wp (NU Ex U) 18 [.iface 95 (.agg #[.slice a1 n1 c1])] (Pl.say ⟨#[123]⟩++t1++Pl.say ⟨#[125]⟩):=by
 refine Wp.of fun B g u W S=>?_
 (try simp only[List.append_assoc]at S)
 have ta:=uT;unfold uH Ta at ta;go_in;go_upto_region 31 with fail
 refine aG fun y hy=>?_;replace S:=S.box hy;generalize u.heap.size=n0 at S ⊢;have F:=S.f;clear hy;go_wp2_with ((with_reducible show Calls _ _ _ _ _);(with_reducible first|refine S.call.mono ?_|refine S.kK.mono ?_|refine S.kL.mono ?_|refine S.kM.mono ?_);clear S F;rintro e z ⟨rfl,S⟩;have F:=S.f)
 go_end0;exact⟨rfl,S.fin⟩
theorem Vk (x:Wp (NU Ex U) 39 [.slice a1 n1 c1] t1):Wp (NU Ex U) 44 [.iface 127 (.agg #[.slice a1 n1 c1])] (Pl.say ⟨#[123]⟩++t1++Pl.say ⟨#[125]⟩):=by
 refine Wp.of fun B g u W S=>?_
 (try simp only[List.append_assoc]at S)
 have ta:=uT;unfold uH Ta at ta;go_in;go_upto_region 5 with fail
 refine aG fun y hy=>?_;replace S:=S.box hy;generalize u.heap.size=n0 at S ⊢;have F:=S.f;clear hy;go_wp2_with ((with_reducible show Calls _ _ _ _ _);(with_reducible first|refine S.call.mono ?_|refine S.kK.mono ?_|refine S.kL.mono ?_|refine S.kM.mono ?_);clear S F;rintro e z ⟨rfl,S⟩;have F:=S.f)
 go_end0;exact⟨rfl,S.fin⟩
theorem Vl (r1:Rv Ex U (.slice a1 n1 c1) (L1.map Value.string)) (x:Wp (NU Ex U) 39 [.slice a2 n2 c2] t1):Wp (NU Ex U) 44 [.iface 129 (.agg #[.slice a1 n1 c1,.slice a2 n2 c2,.string s1])] (L1.flatMap Pl.say++t1++Pl.say s1):=by
 refine Wp.of fun B g u W S=>?_
 (try simp only[List.append_assoc]at S)
 have ta:=uT;unfold uH Ta at ta;go_in;go_upto_region 10 with fail
 refine aG fun y hy=>?_;replace S:=S.box hy;generalize u.heap.size=n0 at S ⊢;have F:=S.f;clear hy;go_wp2_with ((with_reducible show Calls _ _ _ _ _);(with_reducible first|refine S.call.mono ?_|refine S.kK.mono ?_|refine S.kL.mono ?_|refine S.kM.mono ?_);clear S F;rintro e z ⟨rfl,S⟩;have F:=S.f)
 go_end0;exact⟨rfl,S.fin⟩
theorem aFL (x:Wp (NU Ex U) 18 [.iface T1 w1] t1) (y2:Wp (NU Ex U) 72 [.iface T2 w2] (Pl.brk t2)):Wp (NU Ex U) 44 [.iface 133 (.agg #[.iface T1 w1,.iface T2 w2])] (Pl.say ⟨#[100,111]⟩++t1++Pl.say ⟨#[119,104,105,108,101]⟩++Pl.brk t2++Pl.say ⟨#[59]⟩):=by
 refine Wp.of fun B g u W S=>?_
 (try simp only[List.append_assoc]at S)
 have ta:=uT;unfold uH Ta at ta;go_in;go_upto_region 26 with fail
 refine aG fun y hy=>?_;replace S:=S.box hy;generalize u.heap.size=n0 at S ⊢;have F:=S.f;clear hy;go_wp2_with ((with_reducible show Calls _ _ _ _ _);(with_reducible first|refine S.call.mono ?_|refine S.kK.mono ?_|refine S.kL.mono ?_|refine S.kM.mono ?_);clear S F;rintro e z ⟨rfl,S⟩;have F:=S.f)
 go_end0;exact⟨rfl,S.fin⟩
theorem aEp (x:Wp (NU Ex U) 39 [.slice a1 n1 c1] t1) (y2:Wp (NU Ex U) 18 [.iface T1 w1] t2):Wp (NU Ex U) 44 [.iface 135 (.agg #[.slice a1 n1 c1,.iface T1 w1])] ((Pl.say ⟨#[102,111,114]⟩++Pl.say ⟨#[40]⟩)++t1++t2):=by
 refine Wp.of fun B g u W S=>?_
 (try simp only[List.append_assoc]at S)
 have ta:=uT;unfold uH Ta at ta;go_in;go_upto_region 33 with fail
 refine aG fun y hy=>?_;replace S:=S.box hy;generalize u.heap.size=n0 at S ⊢;have F:=S.f;clear hy;go_wp2_with ((with_reducible show Calls _ _ _ _ _);(with_reducible first|refine S.call.mono ?_|refine S.kK.mono ?_|refine S.kL.mono ?_|refine S.kM.mono ?_);clear S F;rintro e z ⟨rfl,S⟩;have F:=S.f)
 go_end0;exact⟨rfl,S.fin⟩
theorem Nw (x:Wp (NU Ex U) 42 [.slice a1 n1 c1] t1) (y2:Wp (NU Ex U) 18 [.iface T1 w1] t2):Wp (NU Ex U) 44 [.iface 137 (.agg #[.string s1,.slice a1 n1 c1,.iface T1 w1])] (Pl.say s1++t1++Pl.say ⟨#[58]⟩++t2):=by
 refine Wp.of fun B g u W S=>?_
 (try simp only[List.append_assoc]at S)
 have ta:=uT;unfold uH Ta at ta;go_in;go_upto_region 38 with fail
 refine aG fun y hy=>?_;replace S:=S.box hy;generalize u.heap.size=n0 at S ⊢;have F:=S.f;clear hy;go_wp2_with ((with_reducible show Calls _ _ _ _ _);(with_reducible first|refine S.call.mono ?_|refine S.kK.mono ?_|refine S.kL.mono ?_|refine S.kM.mono ?_);clear S F;rintro e z ⟨rfl,S⟩;have F:=S.f)
 go_end0;exact⟨rfl,S.fin⟩
theorem aCj:Wp (NU Ex U) 73 [.iface 163 (.agg #[.string s1])] (Pl.say s1):=by
 refine Wp.of fun B g u W S=>?_
 (try simp only[List.append_assoc]at S)
 have ta:=uT;unfold uH Ta at ta;go_in;go_upto_region 3 with fail
 refine aG fun y hy=>?_;replace S:=S.box hy;generalize u.heap.size=n0 at S ⊢;have F:=S.f;clear hy;go_wp2_with ((with_reducible show Calls _ _ _ _ _);(with_reducible first|refine S.call.mono ?_|refine S.kK.mono ?_|refine S.kL.mono ?_|refine S.kM.mono ?_);clear S F;rintro e z ⟨rfl,S⟩;have F:=S.f)
 go_end0;exact⟨rfl,S.fin⟩
theorem Vm (x:Wp (NU Ex U) 104 [.iface T1 w1] t1) (y2:Wp (NU Ex U) 18 [.iface T2 w2] t2):Wp (NU Ex U) 73 [.iface 165 (.agg #[.iface T1 w1,.iface T2 w2])] (t1++Pl.say ⟨#[91]⟩++t2++Pl.say ⟨#[93]⟩):=by
 refine Wp.of fun B g u W S=>?_
 (try simp only[List.append_assoc]at S)
 have ta:=uT;unfold uH Ta at ta;go_in;go_upto_region 6 with fail
 refine aG fun y hy=>?_;replace S:=S.box hy;generalize u.heap.size=n0 at S ⊢;have F:=S.f;clear hy;go_wp2_with ((with_reducible show Calls _ _ _ _ _);(with_reducible first|refine S.call.mono ?_|refine S.kK.mono ?_|refine S.kL.mono ?_|refine S.kM.mono ?_);clear S F;rintro e z ⟨rfl,S⟩;have F:=S.f)
 go_end0;exact⟨rfl,S.fin⟩
theorem aCk (x:Wp (NU Ex U) 104 [.iface T1 w1] t1) (y2:Wp (NU Ex U) 42 [.slice a1 n1 c1] t2):Wp (NU Ex U) 73 [.iface 167 (.agg #[.iface T1 w1,.slice a1 n1 c1])] (t1++Pl.say ⟨#[40]⟩++t2++Pl.say ⟨#[41]⟩):=by
 refine Wp.of fun B g u W S=>?_
 (try simp only[List.append_assoc]at S)
 have ta:=uT;unfold uH Ta at ta;go_in;go_upto_region 12 with fail
 refine aG fun y hy=>?_;replace S:=S.box hy;generalize u.heap.size=n0 at S ⊢;have F:=S.f;clear hy;go_wp2_with ((with_reducible show Calls _ _ _ _ _);(with_reducible first|refine S.call.mono ?_|refine S.kK.mono ?_|refine S.kL.mono ?_|refine S.kM.mono ?_);clear S F;rintro e z ⟨rfl,S⟩;have F:=S.f)
 go_end0;exact⟨rfl,S.fin⟩
theorem Eb (r1:Rv Ex U (.slice a1 n1 c1) (L1.map Value.string)) (x:Wp (NU Ex U) 104 [.iface T1 w1] t1):Wp (NU Ex U) 73 [.iface 169 (.agg #[.iface T1 w1,.slice a1 n1 c1])] (t1++L1.flatMap Pl.say):=by
 refine Wp.of fun B g u W S=>?_
 (try simp only[List.append_assoc]at S)
 have ta:=uT;unfold uH Ta at ta;go_in;go_upto_region 18 with fail
 refine aG fun y hy=>?_;replace S:=S.box hy;generalize u.heap.size=n0 at S ⊢;have F:=S.f;clear hy;go_wp2_with ((with_reducible show Calls _ _ _ _ _);(with_reducible first|refine S.call.mono ?_|refine S.kK.mono ?_|refine S.kL.mono ?_|refine S.kM.mono ?_);clear S F;rintro e z ⟨rfl,S⟩;have F:=S.f)
 go_end0;exact⟨rfl,S.fin⟩
theorem Ny (x:Wp (NU Ex U) 104 [.iface T1 w1] t1):Wp (NU Ex U) 73 [.iface 172 (.agg #[.string s1,.iface T1 w1])] (Pl.say s1++t1):=by
 refine Wp.of fun B g u W S=>?_
 (try simp only[List.append_assoc]at S)
 have ta:=uT;unfold uH Ta at ta;go_in;go_upto_region 22 with fail
 refine aG fun y hy=>?_;replace S:=S.box hy;generalize u.heap.size=n0 at S ⊢;have F:=S.f;clear hy;go_wp2_with ((with_reducible show Calls _ _ _ _ _);(with_reducible first|refine S.call.mono ?_|refine S.kK.mono ?_|refine S.kL.mono ?_|refine S.kM.mono ?_);clear S F;rintro e z ⟨rfl,S⟩;have F:=S.f)
 go_end0;exact⟨rfl,S.fin⟩
theorem aCl (x:Wp (NU Ex U) 105 [.iface T1 w1] t1):Wp (NU Ex U) 73 [.iface 174 (.agg #[.iface T1 w1])] (Pl.say ⟨#[115,105,122,101,111,102]⟩++t1):=by
 refine Wp.of fun B g u W S=>?_
 (try simp only[List.append_assoc]at S)
 have ta:=uT;unfold uH Ta at ta;go_in;go_upto_region 26 with fail
 refine aG fun y hy=>?_;replace S:=S.box hy;generalize u.heap.size=n0 at S ⊢;have F:=S.f;clear hy;go_wp2_with ((with_reducible show Calls _ _ _ _ _);(with_reducible first|refine S.call.mono ?_|refine S.kK.mono ?_|refine S.kL.mono ?_|refine S.kM.mono ?_);clear S F;rintro e z ⟨rfl,S⟩;have F:=S.f)
 go_end0;exact⟨rfl,S.fin⟩
theorem aCm (x:Wp (NU Ex U) 105 [.iface T1 w1] t1) (y2:Wp (NU Ex U) 104 [.iface T2 w2] t2):Wp (NU Ex U) 73 [.iface 176 (.agg #[.iface T1 w1,.iface T2 w2])] (t1++t2):=by
 refine Wp.of fun B g u W S=>?_
 (try simp only[List.append_assoc]at S)
 have ta:=uT;unfold uH Ta at ta;go_in;go_upto_region 30 with fail
 refine aG fun y hy=>?_;replace S:=S.box hy;generalize u.heap.size=n0 at S ⊢;have F:=S.f;clear hy;go_wp2_with ((with_reducible show Calls _ _ _ _ _);(with_reducible first|refine S.call.mono ?_|refine S.kK.mono ?_|refine S.kL.mono ?_|refine S.kM.mono ?_);clear S F;rintro e z ⟨rfl,S⟩;have F:=S.f)
 go_end0;exact⟨rfl,S.fin⟩
theorem Vn {r3:Int}(x:Wp (NU Ex U) 106 [.iface T1 w1,.string s1,.iface T2 w2] t1):Wp (NU Ex U) 73 [.iface 178 (.agg #[.int .i64 r3,.iface T1 w1,.string s1,.iface T2 w2])] (t1):=by
 refine Wp.of fun B g u W S=>?_
 (try simp only[List.append_assoc]at S)
 have ta:=uT;unfold uH Ta at ta;go_in;go_upto_region 34 with fail
 refine aG fun y hy=>?_;replace S:=S.box hy;generalize u.heap.size=n0 at S ⊢;have F:=S.f;clear hy;go_wp2_with ((with_reducible show Calls _ _ _ _ _);(with_reducible first|refine S.call.mono ?_|refine S.kK.mono ?_|refine S.kL.mono ?_|refine S.kM.mono ?_);clear S F;rintro e z ⟨rfl,S⟩;have F:=S.f)
 go_end0;exact⟨rfl,S.fin⟩
theorem RF (x:Wp (NU Ex U) 106 [.iface T1 w1,.string ⟨#[63]⟩,.iface T2 w2] t1) (y2:Wp (NU Ex U) 104 [.iface T3 w3] t2):Wp (NU Ex U) 73 [.iface 181 (.agg #[.iface T1 w1,.iface T2 w2,.iface T3 w3])] (t1++Pl.say ⟨#[58]⟩++t2):=by
 refine Wp.of fun B g u W S=>?_
 (try simp only[List.append_assoc]at S)
 have ta:=uT;unfold uH Ta at ta;go_in;go_upto_region 37 with fail
 refine aG fun y hy=>?_;replace S:=S.box hy;generalize u.heap.size=n0 at S ⊢;have F:=S.f;clear hy;go_wp2_with ((with_reducible show Calls _ _ _ _ _);(with_reducible first|refine S.call.mono ?_|refine S.kK.mono ?_|refine S.kL.mono ?_|refine S.kM.mono ?_);clear S F;rintro e z ⟨rfl,S⟩;have F:=S.f)
 go_end0;exact⟨rfl,S.fin⟩
theorem Vo (r1:Rv Ex U (.slice a1 n1 c1) (L1.map Value.string)):Wp (NU Ex U) 69 [.iface 152 (.agg #[.slice a1 n1 c1])] (L1.flatMap Pl.say):=by
 refine Wp.of fun B g u W S=>?_
 (try simp only[List.append_assoc]at S)
 have ta:=uT;unfold uH Ta at ta;go_in;go_upto_region 3 with fail
 refine aG fun y hy=>?_;replace S:=S.box hy;generalize u.heap.size=n0 at S ⊢;have F:=S.f;clear hy;go_wp2_with ((with_reducible show Calls _ _ _ _ _);(with_reducible first|refine S.call.mono ?_|refine S.kK.mono ?_|refine S.kL.mono ?_|refine S.kM.mono ?_);clear S F;rintro e z ⟨rfl,S⟩;have F:=S.f)
 go_end0;exact⟨rfl,S.fin⟩
theorem Vp (x:Wp (NU Ex U) 69 [.iface T1 w1] t1):Wp (NU Ex U) 69 [.iface 157 (.agg #[.iface T1 w1,.slice a1 n1 c1])] (t1):=by
 refine Wp.of fun B g u W S=>?_
 (try simp only[List.append_assoc]at S)
 have ta:=uT;unfold uH Ta at ta;go_in;go_upto_region 12 with fail
 refine aG fun y hy=>?_;replace S:=S.box hy;generalize u.heap.size=n0 at S ⊢;have F:=S.f;clear hy;go_wp2_with ((with_reducible show Calls _ _ _ _ _);(with_reducible first|refine S.call.mono ?_|refine S.kK.mono ?_|refine S.kL.mono ?_|refine S.kM.mono ?_);clear S F;rintro e z ⟨rfl,S⟩;have F:=S.f)
 go_end0;exact⟨rfl,S.fin⟩
theorem XG (x:Wp (NU Ex U) 69 [.iface T1 w1] t1):Wp (NU Ex U) 69 [.iface 159 (.agg #[.iface T1 w1,.slice a1 n1 c1])] (t1):=by
 refine Wp.of fun B g u W S=>?_
 (try simp only[List.append_assoc]at S)
 have ta:=uT;unfold uH Ta at ta;go_in;go_upto_region 15 with fail
 refine aG fun y hy=>?_;replace S:=S.box hy;generalize u.heap.size=n0 at S ⊢;have F:=S.f;clear hy;go_wp2_with ((with_reducible show Calls _ _ _ _ _);(with_reducible first|refine S.call.mono ?_|refine S.kK.mono ?_|refine S.kL.mono ?_|refine S.kM.mono ?_);clear S F;rintro e z ⟨rfl,S⟩;have F:=S.f)
 go_end0;exact⟨rfl,S.fin⟩
theorem Vq (x:Wp (NU Ex U) 42 [.slice a1 n1 c1] t1) (y2:Wp (NU Ex U) 70 [.iface T1 w1] t2):Wp (NU Ex U) 70 [.iface 157 (.agg #[.iface T1 w1,.slice a1 n1 c1])] (Pl.say ⟨#[91]⟩++t1++Pl.say ⟨#[93]⟩++t2):=by
 refine Wp.of fun B g u W S=>?_
 (try simp only[List.append_assoc]at S)
 have ta:=uT;unfold uH Ta at ta;go_in;go_upto_region 8 with fail
 refine aG fun y hy=>?_;replace S:=S.box hy;generalize u.heap.size=n0 at S ⊢;have F:=S.f;clear hy;go_wp2_with ((with_reducible show Calls _ _ _ _ _);(with_reducible first|refine S.call.mono ?_|refine S.kK.mono ?_|refine S.kL.mono ?_|refine S.kM.mono ?_);clear S F;rintro e z ⟨rfl,S⟩;have F:=S.f)
 go_end0;exact⟨rfl,S.fin⟩
end W
end Go.Proofs.YtjcdiegfnoaedaaGreatDoor
