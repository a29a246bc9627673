import Derived.Test.YtjcdiegfnoaedaaGreatDoorZ12
import Derived.Deep.CutBlock
import Derived.Shelf.Strings.SlTrimAscii
import Derived.Laws.CopyOwn
set_option linter.unusedVariables false
set_option linter.unusedSimpArgs false
set_option maxHeartbeats 16000000
namespace Go.Proofs.YtjcdiegfnoaedaaGreatDoor
namespace Pl
theorem JM (p:UInt8->Bool):∀n (l:List UInt8),l.length=n->∃k,k<=l.length/\(l.reverse.dropWhile p).reverse=l.take k/\(∀j,k<=j->j<l.length->p (l.getD j 0)=true)/\(k=0\/p (l.getD (k-1) 0)=false)
 | 0,l,h=>by
  have:l=[]:=List.length_eq_zero_iff.1 h;subst this;exact⟨0,Nat.le_refl _,rfl,fun j _ hj=>absurd hj (Nat.not_lt_zero _),.inl rfl⟩
 | n+1,l,h=>by
  have hne:l≠[]:=fun e=>by rw[e]at h;simp at h
  obtain⟨l',a,rfl⟩:∃l' a,l=l' ++ [a]:=⟨l.dropLast,l.getLast hne,(List.dropLast_concat_getLast hne).symm⟩;have hl':l'.length=n:=by simpa using h
  rw[List.reverse_append,List.reverse_singleton,List.singleton_append];cases ha:p a
  ·refine⟨(l' ++ [a]).length,Nat.le_refl _,?_,fun j h1 h2=>by omega,.inr ?_⟩
   ·rw[List.dropWhile_cons_of_neg (by simp[ha]),List.take_length];simp
   ·rw[show (l' ++ [a]).length-1=l'.length by simp];simp[ha]
  ·obtain⟨k,h1,h2,h3,h4⟩:=JM p n l' hl';refine⟨k,by simp;omega,?_,fun j hj1 hj2=>?_,?_⟩
   ·rw[List.dropWhile_cons_of_pos (by simp[ha]),h2,List.take_append_of_le_length h1]
   ·by_cases e:j<l'.length
    ·rw[List.getD_eq_getElem?_getD,List.getElem?_append_left e,<- List.getD_eq_getElem?_getD];exact h3 j hj1 e
    ·have:j=l'.length:=(by simp at hj2;omega);rw[this];simp[ha]
   ·rcases h4 with e|e
    ·exact .inl e
    ·by_cases hk:k=0
     ·exact .inl hk
     ·right;rw[List.getD_eq_getElem?_getD,List.getElem?_append_left (by omega),<- List.getD_eq_getElem?_getD];exact e
theorem Lj (x:UInt8):List.contains [117,85] x=uu ((x.toNat:Nat):Int):=by
 have:∀n:Nat,n<256->List.contains [117,85] (UInt8.ofNat n)=uu (n:Int):=by decide +kernel
 have h:=this x.toNat x.toNat_lt
 rwa [UInt8.ofNat_toNat]at h
theorem Uk (s:ByteArray):∃k,k<=s.size/\(⟨(Lib.trimRightS s.data.toList [117,85]).toArray⟩:ByteArray)=s.extract 0 k/\(∀j,k<=j->j<s.size->uu (aD s j)=true)/\(k=0\/uu (aD s (k-1))=false):=by
 obtain⟨k,h1,h2,h3,h4⟩:=JM (fun x=>List.contains [117,85] x) _ s.data.toList rfl;have hsz:s.data.toList.length=s.size:=by simp
 refine⟨k,by omega,?_,fun j a b=>?_,?_⟩
 ·unfold Lib.trimRightS;rw[h2];refine VV (by rw[ext_size];show (List.take k s.data.toList).toArray.size=_;rw[List.size_toArray,List.length_take];omega) fun j hj=>?_;have hj':j<k:=by
   have:(ByteArray.mk (List.take k s.data.toList).toArray).size=min k s.data.toList.length:=(by show (List.take k s.data.toList).toArray.size=_;rw[List.size_toArray,List.length_take]);omega
  rw[nP s 0 k j (by omega) (by omega),Nat.zero_add];unfold aD;congr 2;simp[List.getD,List.getElem?_take,hj']
 ·have:=h3 j a (by omega);rw[Lj]at this;exact this
 ·rcases h4 with e|e
  ·exact .inl e
  ·right;rw[Lj]at e;exact e
theorem aD0 (D:ByteArray) (a b:UInt8):Lib.hasPrefix D.data.toList (⟨#[a,b]⟩:ByteArray).data.toList=(decide (2<=D.size) && aD D 0 == (a.toNat:Int) && aD D 1 == (b.toNat:Int)):=by
 obtain⟨⟨l⟩⟩:=D;have key:∀x y:UInt8,(x == y)=(((x.toNat:Nat):Int) == ((y.toNat:Nat):Int)):=fun x y=>by
  rw[Bool.eq_iff_iff];simp only[beq_iff_eq];exact⟨fun h=>by rw[h],fun h=>UInt8.toNat_inj.1 (by omega)⟩
 show List.isPrefixOf [a,b] l=(decide (2<=l.length) && (((l.getD 0 0).toNat:Int) == (a.toNat:Int)) && (((l.getD 1 0).toNat:Int) == (b.toNat:Int)));rcases l with _|⟨x,_|⟨y,l⟩⟩
 ·rfl
 ·simp[List.isPrefixOf]
 ·simp[List.isPrefixOf,key];rw[Bool.eq_iff_iff];simp;omega
theorem aD1 {c:Int}(h:uu c=true):hx c=-1:=by
 unfold uu at h;simp at h;rcases h with e|e <;> rw[e] <;> decide
theorem aA6 {s:ByteArray}{k:Nat}(hk:∀j,k<=j->j<s.size->uu (aD s j)=true) (h:DV s=true):2<=k/\2<=s.size:=by
 unfold DV at h;simp only[Bool.and_eq_true,Bool.or_eq_true,decide_eq_true_eq,beq_iff_eq]at h;refine⟨?_,by omega⟩;rcases Nat.lt_or_ge k 2 with q|q
 ·have:=hk 1 (by omega) h.1.1;rcases h.2 with e|e <;> (rw[e]at this;exact absurd this (by decide))
 ·exact q
theorem Di {s:ByteArray}{k:Nat}(hk:∀j,k<=j->j<s.size->uu (aD s j)=true) (h1:1<=k) (hm:k+2<=s.size):iU s=.error 2:=by
 have he:nQ s=s.size-1:=by unfold nQ;rw[if_pos (hk _ (by omega) (by omega))]
 have ho:qR s<=k:=by
  unfold qR;split
  ·rename_i q;exact (aA6 hk q).1
  ·omega
 refine LU (s.size-2-qR s) (by rw[LW,he];omega) ?_;unfold bN;rw[nP _ _ _ _ (by rw[he];omega) (by rw[he];omega),show qR s+(s.size-2-qR s)=s.size-2 by omega];unfold qF;rw[aD1 (hk _ (by omega) (by omega))];rfl
theorem Ll {s:ByteArray}{k:Nat}(hks:k<=s.size) (hk:∀j,k<=j->j<s.size->uu (aD s j)=true) (h1:1<=k) (hn:uu (aD s (k-1))=false) (hm:s.size<=k+1):nQ s=k/\(uu (aD s (s.size-1))=true↔s.size=k+1):=by
 by_cases e:k=s.size
 ·subst e;unfold nQ;rw[hn];exact⟨rfl,⟨fun h=>by simp at h,fun h=>by omega⟩⟩
 ·have e1:s.size=k+1:=by omega
  have:=hk (s.size-1) (by omega) (by omega);unfold nQ;rw[if_pos this,this];exact⟨by omega,⟨fun _=>e1,fun _=>rfl⟩⟩
theorem QI (b c:Int) (hb:b=8\/b=10\/b=16):qF b c=false↔BQ c<max b 10:=by
 unfold qF BQ;have h1:=Kw c;have h2:=wI c;rcases hb with rfl|rfl|rfl <;> split <;> simp <;> omega
end Pl
namespace W
open Go.RowKit
theorem bO {P:Program}{fn:Func}{p q:Tmp}{ty:TypeId}(h:fn.results=#[.cell p ty,.tmp q]) (tmps:Array Value) (w:World) (g:Nat) (t:TypeId) (cs:Array Value) (fr:Nat × Nat) (d:TypeDesc) (v:Value)
  (hp:tmps.getD p undef=.pointer (some ⟨g,0,none⟩)) (hq:tmps.getD q undef=v) (hg:w.heap[g]?=some (.cells cs t fr))
  (hu:P.underlying ty=some d) (hd:(match d with|.struct _|.array _ _=>true|_=>false)=true) (hi:(P.info? ty).map (·.size)=some cs.size) :
  (results fn tmps).run P w=.ok (.tuple #[.agg cs,v]) w:=by
 have hp':tmps[p]?.getD undef=.pointer (some ⟨g,0,none⟩):=by simpa using hp
 have hq':tmps[q]?.getD undef=v:=by simpa using hq
 simp[results,h,hp',hq',asAddr,run_loadVar_row w g t ty cs fr d hg hu hd hi]
def Dj (s:ByteArray) (e:Ending):Prop:=match Pl.iU s with
 | .ok (S,N)=>e=.returned (.tuple #[.agg #[.int .i64 3,.string S,.int .i64 N,.int .i64 0,.int .i64 0],.int .i64 0])
 | .error f=>e=.returned (.tuple #[.agg #[.int .i64 0,.string ⟨#[]⟩,.int .i64 0,.int .i64 0,.int .i64 0],.int .i64 f])
theorem BZ {s:ByteArray}{f:Int}(h:Pl.iU s=.error f):Dj s (.returned (.tuple #[.agg #[.int .i64 0,.string ⟨#[]⟩,.int .i64 0,.int .i64 0,.int .i64 0],.int .i64 f])):=by unfold Dj;rw[h]
theorem LX {s S S':ByteArray}{N N':Int}(h:Pl.iU s=.ok (S,N)) (hS:S'=S) (hN:N'=N):Dj s (.returned (.tuple #[.agg #[.int .i64 3,.string S',.int .i64 N',.int .i64 0,.int .i64 0],.int .i64 0])):=by unfold Dj;rw[h,hS,hN]
set_option maxRecDepth 100000 in
theorem EH (s:ByteArray) (h0:0<s.size) (hd:Pl.dg (Pl.aD s 0)=true) (hs:s.size<=1048576) (w:World) (hE:nR w):Calls Tryz.prog 131 #[.string s] w fun e w'=>Dj s e/\Bw w w':=by
 obtain⟨k,hk1,hk2,hk3,hk4⟩:=Pl.Uk s;have hk0:1<=k:=by
  rcases Nat.eq_zero_or_pos k with e|e
  ·have:=hk3 0 (by omega) h0;have hb:48<=Pl.aD s 0/\Pl.aD s 0<=57:=(by simpa [Pl.dg] using hd);unfold Pl.uu at this;simp at this;omega
  ·exact e
 have HT:Hid (∀u:World,Calls Tryz.prog 144 #[.string s,.string ⟨#[117,85]⟩] u fun e w'=>e=.returned (.string (s.extract 0 k))/\Bw u w'):=fun u=>by
  rw[<- hk2];exact Any.strings_TrimRight_laid Tryz.lays162 (by kernel_rfl) s ⟨#[117,85]⟩ u (by omega) (by decide) (ascii_of_all (by decide))
 have hn1:Pl.uu (Pl.aD s (k-1))=false:=hk4.resolve_left (by omega);have HM:Hid (k+2<=s.size->Pl.iU s=.error 2):=fun h=>Pl.Di hk3 hk0 h;have HF:Hid (s.size<=k+1->Pl.nQ s=k/\(Pl.uu (Pl.aD s (s.size-1))=true↔s.size=k+1)):=fun h=>Pl.Ll hk1 hk3 hk0 hn1 h;have hxk:Pl.DV s=true->2<=k/\2<=s.size:=Pl.aA6 hk3;have aD2:(s.extract 0 k).size=k:=by rw[Pl.ext_size];omega
 have hDb:∀j,j<k->Pl.aD (s.extract 0 k) j=Pl.aD s j:=fun j hj=>by rw[Pl.nP s 0 k j (by omega) hk1,Nat.zero_add]
 have HD0:Hid (¬Pl.DV s=true->s.extract 0 k=s.extract (Pl.qR s) k):=fun h=>by unfold Pl.qR;rw[if_neg h]
 have HD2:Hid (Pl.DV s=true->(s.extract 0 k).extract 2 k=s.extract (Pl.qR s) k):=fun h=>by
  have:=hxk h;unfold Pl.qR;rw[if_pos h,Pl.xQ s 0 k 2 k (by omega) hk1 (by omega)];simp
 obtain⟨D0,hD0⟩:∃D0,D0=s.extract 0 k:=⟨_,rfl⟩;rw[<- hD0]at HT aD2 hDb HD0 HD2;have hp1:=Pl.aD0 D0 48 120;have hp2:=Pl.aD0 D0 48 88;obtain⟨P1,hP1⟩:∃P1,P1=Lib.hasPrefix D0.data.toList (⟨#[48,120]⟩:ByteArray).data.toList:=⟨_,rfl⟩;obtain⟨P2,hP2⟩:∃P2,P2=Lib.hasPrefix D0.data.toList (⟨#[48,88]⟩:ByteArray).data.toList:=⟨_,rfl⟩;have Lm:Hid (∀u,Calls Tryz.prog 145 #[.string D0,.string ⟨#[48,120]⟩] u fun e w'=>e=.returned (.bool P1)/\w'=u):=fun u=>by rw[hP1];exact Tryz.strings_HasPrefix D0 ⟨#[48,120]⟩ u
 have Lp:Hid (∀u,Calls Tryz.prog 145 #[.string D0,.string ⟨#[48,88]⟩] u fun e w'=>e=.returned (.bool P2)/\w'=u):=fun u=>by rw[hP2];exact Tryz.strings_HasPrefix D0 ⟨#[48,88]⟩ u
 rw[<- hP1]at hp1;rw[<- hP2]at hp2;have hx:Pl.DV s=(P1 || P2):=by
  rw[hp1,hp2,aD2];by_cases q:2<=k
  ·rw[hDb 0 (by omega),hDb 1 (by omega),decide_eq_true q];unfold Pl.DV;rw[decide_eq_true (by omega:1<s.size)];rw[Bool.eq_iff_iff];simp;constructor
   ·rintro⟨a,b|b⟩
    ·exact .inl ⟨a,b⟩
    ·exact .inr ⟨a,b⟩
   ·rintro (⟨a,b⟩|⟨a,b⟩)
    ·exact⟨a,.inl b⟩
    ·exact⟨a,.inr b⟩
  ·rw[decide_eq_false q];cases hq:Pl.DV s
   ·rfl
   ·exact absurd (hxk hq).1 q
 have hg0:((D0[0]'(by omega)).toNat:Int)=Pl.aD s 0:=by rw[Pl.aJ D0 0 (by omega),hDb 0 (by omega)]
 obtain⟨c0,hc0⟩:∃c,c=Pl.aD s 0:=⟨_,rfl⟩;rw[<- hc0]at hg0;obtain⟨b,hb⟩:∃b,b=Pl.iG s:=⟨_,rfl⟩;obtain⟨D,hD⟩:∃D,D=s.extract (Pl.qR s) k:=⟨_,rfl⟩;have qE:Hid (b=8\/b=10\/b=16):=by rw[hb];exact Pl.EG s
 have Ul:Hid (b=if (P1 || P2)=true then 16 else if c0=48 then 8 else 10):=by show b=_;rw[hb,hc0,<- hx];rfl
 have aD3:(P1 || P2)=true->2<=k:=fun h=>(hxk (by rw[hx];exact h)).1;have aBJ:Hid ((P1 || P2)=true->2<=k):=aD3;rw[hx]at HD0 HD2;rw[<- hD]at HD0 HD2;have HFB:Hid (b=Pl.iG s):=hb;have HFD:Hid (s.size<=k+1->D=Pl.bN s):=fun h=>by rw[hD];unfold Pl.bN;rw[(HF.o h).1]
 have HDm:Hid (D.size<=1048576):=by rw[hD];show (s.extract _ _).size<=_;rw[Pl.ext_size];omega
 have HE:Hid (nR w):=hE;clear hE hD hb hc0 hP1 hP2 hp1 hp2 hx hxk aD3 hDb hD0 hk4 hn1 hk3 hk2 hd;go_enter Tryz.func131,Tryz.ntmps131;go_wp2_with fail
 refine (HT.o _).mono ?_;rintro e u1 ⟨rfl,g1⟩;have hz1:w.heap.size<u1.heap.size:=by have:=g1.size;simp at this;omega
 have Q1:Hid (u1.heap[w.heap.size]?=some (.cells #[.int .i64 0,.string ⟨#[]⟩,.int .i64 0,.int .i64 0,.int .i64 0] 102 (0,0))):=(g1.block w.heap.size (by simp)).trans (heap_alloc_new w _);have B1:Hid (Bw w u1):=(aB w _).trans (g1.mono (by simp));clear g1 HT
 go_upto_block 0 with fail
 go_cut [4,6] (fun s4 s6 wx=>s4=.string D/\s6=.int .i64 b/\wx=u1)
 case first=>
  cases P1
  ·cases P2
   ·have GM:Hid (D0=D):=HD0.o (by decide);by_cases e0:c0=48
    ·have e0':(c0 == 48)=true:=(by simp[e0]);have HB2:Hid (b=8):=(by show b=_;rw[Ul.o,if_neg (by decide),if_pos e0]);clear e0 Ul HD0 HD2;go_wp2_with (go_at_call 145;first|(refine (Lm.o _).mono ?_;rintro e uu ⟨rfl,rfl⟩)|(refine (Lp.o _).mono ?_;rintro e uu ⟨rfl,rfl⟩))
     go_meet
     exact⟨by rw[GM.o],by rw[HB2.o],rfl⟩
    ·have e0':(c0 == 48)=false:=(by simp[e0]);have HB2:Hid (b=10):=(by show b=_;rw[Ul.o,if_neg (by decide),if_neg e0]);clear e0 Ul HD0 HD2;go_wp2_with (go_at_call 145;first|(refine (Lm.o _).mono ?_;rintro e uu ⟨rfl,rfl⟩)|(refine (Lp.o _).mono ?_;rintro e uu ⟨rfl,rfl⟩))
     go_meet
     exact⟨by rw[GM.o],by rw[HB2.o],rfl⟩
   ·have h2:=aBJ.o (by decide);have h2':(2:Int)<=(k:Int):=(by omega);have GM:Hid (D0.extract 2 k=D):=HD2.o (by decide);have HB2:Hid (b=16):=(by show b=_;rw[Ul.o,if_pos (by decide)]);clear Ul HD0 HD2 h2;go_wp2_with (go_at_call 145;first|(refine (Lm.o _).mono ?_;rintro e uu ⟨rfl,rfl⟩)|(refine (Lp.o _).mono ?_;rintro e uu ⟨rfl,rfl⟩))
    go_meet
    exact⟨by rw[<- GM.o],by rw[HB2.o],rfl⟩
  ·have h2:=aBJ.o (by simp);have h2':(2:Int)<=(k:Int):=(by omega);have GM:Hid (D0.extract 2 k=D):=HD2.o (by simp);have HB2:Hid (b=16):=(by show b=_;rw[Ul.o,if_pos (by simp)]);clear Ul HD0 HD2 h2;go_wp2_with (go_at_call 145;first|(refine (Lm.o _).mono ?_;rintro e uu ⟨rfl,rfl⟩)|(refine (Lp.o _).mono ?_;rintro e uu ⟨rfl,rfl⟩))
   go_meet
   exact⟨by rw[<- GM.o],by rw[HB2.o],rfl⟩
 case rest=>
 obtain⟨rfl,rfl,hwc⟩:=hcut;rw[hwc];clear hwc Lm Lp aBJ HD0 HD2 Ul hg0;by_cases hm:k+2<=s.size
 ·have hm':(1:Int)<(s.size:Int)-(k:Int):=by omega
  have HR:Hid (Pl.iU s=.error 2):=HM.o hm;clear hm HM HF HFD;go_wp2_with (refine wpList_store_row rfl 102 _ _ rfl w.heap.size #[.int .i64 0,.string ⟨#[]⟩,.int .i64 0,.int .i64 0,.int .i64 0] ?hx ?hy 102 #[.int .i64 0,.string ⟨#[]⟩,.int .i64 0,.int .i64 0,.int .i64 0] ?hg ?hi ?ho ?h1 ?_;(case hx=>rfl);(case hy=>rfl);(case hg=>exact Q1.o);(case hi=>kernel_rfl);(case ho=>kernel_rfl);(case h1=>kernel_rfl))
  refine bodyPost_ret (v:=.tuple #[.agg #[.int .i64 0,.string ⟨#[]⟩,.int .i64 0,.int .i64 0,.int .i64 0],.int .i64 2]) ?hr ?hdf ?nX
  case hr=>
   refine bO Tryz.results131 _ _ (w.heap.size) 102 #[.int .i64 0,.string ⟨#[]⟩,.int .i64 0,.int .i64 0,.int .i64 0] (0,0) _ (.int .i64 2) ?hp ?hq ?hg Tryz.underlying102 ?hd ?hi
   case hp=>rfl
   case hq=>rfl
   case hg=>exact setRow_heap _ _ _ _ _ _ Q1.o
   case hd=>rfl
   case hi=>kernel_rfl
  case hdf=>rfl
  case nX=>exact⟨BZ HR.o,below_setRow B1.o (Nat.le_refl _) _⟩
 have hm':¬(1:Int)<(s.size:Int)-(k:Int):=by omega
 obtain⟨hie,aD4⟩:=HF.o (by omega);have Dk:D=Pl.bN s:=HFD.o (by omega);have hDs:=Pl.LW s;have HA:Hid (Pl.nQ s<=Pl.qR s->Pl.iU s=.error 2):=Pl.Ap;have HB:Hid (∀j,j<(Pl.bN s).size->Pl.qF (Pl.iG s) (Pl.aD (Pl.bN s) j)=true->Pl.iU s=.error 2):=fun j=>Pl.LU j;have H6:Hid (_->_->_->Pl.iU s=.error 6):=@Pl.Li s;have OY:Hid (_->_->_->_->Pl.iU s=.ok _):=@Pl.LV s;rw[<- Dk]at hDs HB H6 OY;rw[<- HFB.o]at HB H6 OY;have HU:Hid (Pl.uu (Pl.aD s (s.size-1))=true↔s.size=k+1):=aD4;clear HM HF HFD hie aD4 Dk hm HFB;have hDm:=HDm.o;have hE2:=Pl.isE D;by_cases hD0:D.size=0
 ·rw[decide_eq_true hD0]at hE2;have HR:Hid (Pl.iU s=.error 2):=HA.o (by omega);clear hD0 hDs;go_wp2_with (refine wpList_store_row rfl 102 _ _ rfl w.heap.size #[.int .i64 0,.string ⟨#[]⟩,.int .i64 0,.int .i64 0,.int .i64 0] ?hx ?hy 102 #[.int .i64 0,.string ⟨#[]⟩,.int .i64 0,.int .i64 0,.int .i64 0] ?hg ?hi ?ho ?h1 ?_;(case hx=>rfl);(case hy=>rfl);(case hg=>exact Q1.o);(case hi=>kernel_rfl);(case ho=>kernel_rfl);(case h1=>kernel_rfl))
  refine bodyPost_ret (v:=.tuple #[.agg #[.int .i64 0,.string ⟨#[]⟩,.int .i64 0,.int .i64 0,.int .i64 0],.int .i64 2]) ?hr ?hdf ?nX
  case hr=>
   refine bO Tryz.results131 _ _ (w.heap.size) 102 #[.int .i64 0,.string ⟨#[]⟩,.int .i64 0,.int .i64 0,.int .i64 0] (0,0) _ (.int .i64 2) ?hp ?hq ?hg Tryz.underlying102 ?hd ?hi
   case hp=>rfl
   case hq=>rfl
   case hg=>exact setRow_heap _ _ _ _ _ _ Q1.o
   case hd=>rfl
   case hi=>kernel_rfl
  case hdf=>rfl
  case nX=>exact⟨BZ HR.o,below_setRow B1.o (Nat.le_refl _) _⟩
 rw[decide_eq_false hD0]at hE2;have VK:Hid (¬Pl.nQ s<=Pl.qR s):=by show ¬_;omega
 have HDP:Hid (0<D.size):=by show 0<D.size;omega
 clear hDs HA hD0;go_wp2_with fail
 refine (Cv D (by omega) _ (by have:=qE.o;omega) _).mono ?_;rintro e u2 ⟨⟨p,hp,rfl⟩,g2⟩;have Q2:Hid (u2.heap[w.heap.size]?=some (.cells #[.int .i64 0,.string ⟨#[]⟩,.int .i64 0,.int .i64 0,.int .i64 0] 102 (0,0))):=(g2.block w.heap.size hz1).trans Q1.o;have B2:Hid (Bw w u2):=B1.o.trans (g2.mono B1.o.size);have hz2:w.heap.size<u2.heap.size:=Nat.lt_of_lt_of_le hz1 g2.size;have HP:Hid (p=true↔∀j,j<D.size->Pl.qF b (Pl.aD D j)=false):=by
  refine hp.trans ⟨fun h j hj=>(Pl.QI b _ qE.o).2 (h j hj),fun h j hj=>(Pl.QI b _ qE.o).1 (h j hj)⟩
 clear g2 hp Q1 B1 hz1;cases p
 ·have HR:Hid (Pl.iU s=.error 2):=by
   refine Classical.byContradiction fun hc=>?_;have:∀j,j<D.size->Pl.qF b (Pl.aD D j)=false:=fun j hj=>by
    cases hq:Pl.qF b (Pl.aD D j)
    ·rfl
    ·exact absurd (HB.o j hj hq) hc
   exact absurd (HP.o.2 this) (by decide)
  clear HP HB H6 OY HU qE;go_wp2_with (refine wpList_store_row rfl 102 _ _ rfl w.heap.size #[.int .i64 0,.string ⟨#[]⟩,.int .i64 0,.int .i64 0,.int .i64 0] ?hx ?hy 102 #[.int .i64 0,.string ⟨#[]⟩,.int .i64 0,.int .i64 0,.int .i64 0] ?hg ?hi ?ho ?h1 ?_;(case hx=>rfl);(case hy=>rfl);(case hg=>exact Q2.o);(case hi=>kernel_rfl);(case ho=>kernel_rfl);(case h1=>kernel_rfl))
  refine bodyPost_ret (v:=.tuple #[.agg #[.int .i64 0,.string ⟨#[]⟩,.int .i64 0,.int .i64 0,.int .i64 0],.int .i64 2]) ?hr ?hdf ?nX
  case hr=>
   refine bO Tryz.results131 _ _ (w.heap.size) 102 #[.int .i64 0,.string ⟨#[]⟩,.int .i64 0,.int .i64 0,.int .i64 0] (0,0) _ (.int .i64 2) ?hp ?hq ?hg Tryz.underlying102 ?hd ?hi
   case hp=>rfl
   case hq=>rfl
   case hg=>exact setRow_heap _ _ _ _ _ _ Q2.o
   case hd=>rfl
   case hi=>kernel_rfl
  case hdf=>rfl
  case nX=>exact⟨BZ HR.o,below_setRow B2.o (Nat.le_refl _) _⟩
 have yX:Hid (∀j,j<D.size->Pl.qF b (Pl.aD D j)=false):=HP.o.1 rfl;clear HP HB;go_wp2_with fail
 refine (yV b 32 4294967295 (by have:=qE.o;omega) D hDm _ (HE.o.on B2.o)).mono ?_;rintro e u3 ⟨hv,g3⟩;have Q3:Hid (u3.heap[w.heap.size]?=some (.cells #[.int .i64 0,.string ⟨#[]⟩,.int .i64 0,.int .i64 0,.int .i64 0] 102 (0,0))):=(g3.block w.heap.size hz2).trans Q2.o;have B3:Hid (Bw w u3):=B2.o.trans (g3.mono B2.o.size);have hz3:w.heap.size<u3.heap.size:=Nat.lt_of_lt_of_le hz2 g3.size;clear g3 Q2 B2 hz2;rcases hv with ⟨hg,rfl⟩|⟨hg,n,N,rfl⟩
 ·obtain⟨_,hg2,hg3⟩:=hg;have v0:=Pl.EB D b (by have:=qE.o;omega) D.size (fun j hj=>(hg2 j hj).1);have hR:=OY.o VK.o yX.o (fun j hj=>(hg2 j hj).2) hg3;obtain⟨n,hn⟩:∃n,n=Pl.val D b D.size:=⟨_,rfl⟩;rw[<- hn]at hR v0 hg3 ⊢;have HR:Hid (Pl.iU s=.ok (if Pl.uu (Pl.aD s (s.size-1))=true\/2147483647<n then ⟨#[117]⟩ else ⟨#[]⟩,n)):=hR;clear hR hn hg2 OY H6 yX VK HDP qE;have Q4:Hid (∀x,(u3.alloc x).heap[w.heap.size]?=some (.cells #[.int .i64 0,.string ⟨#[]⟩,.int .i64 0,.int .i64 0,.int .i64 0] 102 (0,0))):=fun x=>((aB u3 x).block w.heap.size hz3).trans Q3.o;have B4:Hid (∀x,Bw w (u3.alloc x)):=fun x=>B3.o.trans ((aB u3 x).mono B3.o.size);by_cases hm1:s.size=k+1
  ·have hm2:(s.size:Int)-(k:Int)=1:=(by omega);have HR2:Hid (Pl.iU s=.ok (⟨#[117]⟩,n)):=(by show Pl.iU s=_;rw[HR.o,if_pos (.inl (HU.o.2 hm1))]);clear hm1 HR HU;go_wp2_with (refine wpList_store_row rfl 102 _ _ rfl w.heap.size #[.int .i64 3,.string ⟨#[117]⟩,.int .i64 n,.int .i64 0,.int .i64 0] ?hx ?hy 102 #[.int .i64 0,.string ⟨#[]⟩,.int .i64 0,.int .i64 0,.int .i64 0] ?hg ?hi ?ho ?h1 ?_;(case hx=>rfl);(case hy=>rfl);(case hg=>exact Q4.o _);(case hi=>kernel_rfl);(case ho=>kernel_rfl);(case h1=>kernel_rfl))
   refine bodyPost_ret (v:=.tuple #[.agg #[.int .i64 3,.string ⟨#[117]⟩,.int .i64 n,.int .i64 0,.int .i64 0],.int .i64 0]) ?hr ?hdf ?nX
   case hr=>
    refine bO Tryz.results131 _ _ (w.heap.size) 102 #[.int .i64 3,.string ⟨#[117]⟩,.int .i64 n,.int .i64 0,.int .i64 0] (0,0) _ (.int .i64 0) ?hp ?hq ?hg Tryz.underlying102 ?hd ?hi
    case hp=>rfl
    case hq=>rfl
    case hg=>exact setRow_heap _ _ _ _ _ _ (Q4.o _)
    case hd=>rfl
    case hi=>kernel_rfl
   case hdf=>rfl
   case nX=>exact⟨LX HR2.o rfl rfl,below_setRow (B4.o _) (Nat.le_refl _) _⟩
  ·have hm2:¬(s.size:Int)-(k:Int)=1:=(by omega);have GN:((s.size:Int)-(k:Int) == 1)=false:=(by simp;omega);have hu:¬Pl.uu (Pl.aD s (s.size-1))=true:=fun h=>hm1 (HU.o.1 h);clear hm1 HU;by_cases h2:2147483647<n
   ·have HR2:Hid (Pl.iU s=.ok (⟨#[117]⟩,n)):=(by show Pl.iU s=_;rw[HR.o,if_pos (.inr h2)]);clear HR hu;go_wp2_with (refine wpList_store_row rfl 102 _ _ rfl w.heap.size #[.int .i64 3,.string ⟨#[117]⟩,.int .i64 n,.int .i64 0,.int .i64 0] ?hx ?hy 102 #[.int .i64 0,.string ⟨#[]⟩,.int .i64 0,.int .i64 0,.int .i64 0] ?hg ?hi ?ho ?h1 ?_;(case hx=>rfl);(case hy=>rfl);(case hg=>exact Q4.o _);(case hi=>kernel_rfl);(case ho=>kernel_rfl);(case h1=>kernel_rfl))
    refine bodyPost_ret (v:=.tuple #[.agg #[.int .i64 3,.string ⟨#[117]⟩,.int .i64 n,.int .i64 0,.int .i64 0],.int .i64 0]) ?hr ?hdf ?nX
    case hr=>
     refine bO Tryz.results131 _ _ (w.heap.size) 102 #[.int .i64 3,.string ⟨#[117]⟩,.int .i64 n,.int .i64 0,.int .i64 0] (0,0) _ (.int .i64 0) ?hp ?hq ?hg Tryz.underlying102 ?hd ?hi
     case hp=>rfl
     case hq=>rfl
     case hg=>exact setRow_heap _ _ _ _ _ _ (Q4.o _)
     case hd=>rfl
     case hi=>kernel_rfl
    case hdf=>rfl
    case nX=>exact⟨LX HR2.o rfl rfl,below_setRow (B4.o _) (Nat.le_refl _) _⟩
   ·have HR2:Hid (Pl.iU s=.ok (⟨#[]⟩,n)):=(by show Pl.iU s=_;rw[HR.o,if_neg (by rintro (q|q);exact hu q;exact h2 q)]);clear HR hu;go_wp2_with (refine wpList_store_row rfl 102 _ _ rfl w.heap.size #[.int .i64 3,.string ⟨#[]⟩,.int .i64 n,.int .i64 0,.int .i64 0] ?hx ?hy 102 #[.int .i64 0,.string ⟨#[]⟩,.int .i64 0,.int .i64 0,.int .i64 0] ?hg ?hi ?ho ?h1 ?_;(case hx=>rfl);(case hy=>rfl);(case hg=>exact Q4.o _);(case hi=>kernel_rfl);(case ho=>kernel_rfl);(case h1=>kernel_rfl))
    refine bodyPost_ret (v:=.tuple #[.agg #[.int .i64 3,.string ⟨#[]⟩,.int .i64 n,.int .i64 0,.int .i64 0],.int .i64 0]) ?hr ?hdf ?nX
    case hr=>
     refine bO Tryz.results131 _ _ (w.heap.size) 102 #[.int .i64 3,.string ⟨#[]⟩,.int .i64 n,.int .i64 0,.int .i64 0] (0,0) _ (.int .i64 0) ?hp ?hq ?hg Tryz.underlying102 ?hd ?hi
     case hp=>rfl
     case hq=>rfl
     case hg=>exact setRow_heap _ _ _ _ _ _ (Q4.o _)
     case hd=>rfl
     case hi=>kernel_rfl
    case hdf=>rfl
    case nX=>exact⟨LX HR2.o rfl rfl,below_setRow (B4.o _) (Nat.le_refl _) _⟩
 ·have HR:Hid (Pl.iU s=.error 6):=by
   refine H6.o VK.o yX.o ?_;refine Classical.byContradiction fun hc=>hg ⟨HDP.o,fun j hj=>⟨?_,?_⟩,?_⟩
   ·have:=yX.o j hj;unfold Pl.qF at this;simp only[Bool.or_eq_false_iff,decide_eq_false_iff_not]at this;omega
   ·rcases Int.lt_or_le (Pl.hx (Pl.aD D j)) b with q|q
    ·exact q
    ·exact absurd (.inl ⟨j,hj,q⟩) hc
   ·rcases Int.lt_or_le 4294967295 (Pl.val D b D.size) with q|q
    ·exact absurd (.inr q) hc
    ·exact q
  clear hg OY H6 yX VK HDP HU qE;go_wp2_with (refine wpList_store_row rfl 102 _ _ rfl w.heap.size #[.int .i64 0,.string ⟨#[]⟩,.int .i64 0,.int .i64 0,.int .i64 0] ?hx ?hy 102 #[.int .i64 0,.string ⟨#[]⟩,.int .i64 0,.int .i64 0,.int .i64 0] ?hg ?hi ?ho ?h1 ?_;(case hx=>rfl);(case hy=>rfl);(case hg=>exact Q3.o);(case hi=>kernel_rfl);(case ho=>kernel_rfl);(case h1=>kernel_rfl))
  refine bodyPost_ret (v:=.tuple #[.agg #[.int .i64 0,.string ⟨#[]⟩,.int .i64 0,.int .i64 0,.int .i64 0],.int .i64 6]) ?hr ?hdf ?nX
  case hr=>
   refine bO Tryz.results131 _ _ (w.heap.size) 102 #[.int .i64 0,.string ⟨#[]⟩,.int .i64 0,.int .i64 0,.int .i64 0] (0,0) _ (.int .i64 6) ?hp ?hq ?hg Tryz.underlying102 ?hd ?hi
   case hp=>rfl
   case hq=>rfl
   case hg=>exact setRow_heap _ _ _ _ _ _ Q3.o
   case hd=>rfl
   case hi=>kernel_rfl
  case hdf=>rfl
  case nX=>exact⟨BZ HR.o,below_setRow B3.o (Nat.le_refl _) _⟩
end W
namespace Pl
def kyB:List (List UInt8):=[[98,114,101,97,107],[99,97,115,101],[99,104,97,114],[99,111,110,116,105,110,117,101],[100,101,102,97,117,108,116],[100,111],[101,108,115,101],[101,110,117,109],[102,111,114],[103,111,116,111],[105,102],[105,110,116],[114,101,116,117,114,110],[115,104,111,114,116],[115,105,103,110,101,100],[115,105,122,101,111,102],[115,116,114,117,99,116],[115,119,105,116,99,104],[116,121,112,101,100,101,102],[117,110,105,111,110],[117,110,115,105,103,110,101,100],[118,111,105,100],[119,104,105,108,101]]
def isK (s:ByteArray):Bool:=kyB.any fun r=>s.toList == r
noncomputable def mE (s:ByteArray):Except Int (Int × ByteArray × Int):=
 if dg (aD s 0)=true then (match iU s with|.error f=>.error f|.ok (S,N)=>.ok (3,S,N))
 else if 40<s.size then .error 8 else if isK s=true then .ok (2,s,0) else .ok (1,s,0)
theorem WI {s:ByteArray}{f:Int}(h:iU s=.error f):f=2\/f=6:=by
 unfold iU at h;split at h
 ·cases h;exact .inl rfl
 ·split at h
  ·cases h;exact .inr rfl
  ·cases h
theorem aBK {s:ByteArray}{f:Int}(h:mE s=.error f):f≠0:=by
 unfold mE at h;split at h
 ·split at h
  ·rename_i g hg;cases h;rcases WI hg with e|e <;> omega
  ·cases h
 ·split at h
  ·cases h;decide
  ·split at h <;> cases h
theorem oV.ex (s:ByteArray) (m:Int):∀d i acc,s.size-i=d->∃r,oV s m i acc r:=by
 intro d
 induction d using Nat.strongRecOn with
 | _ d ih=>
  intro i acc hd;by_cases h1:s.size<=i\/aD s i=10
  ·exact⟨_,.out h1⟩
  have hi:i<s.size:=by
   rcases Nat.lt_or_ge i s.size with e|e
   ·exact e
   ·exact absurd (.inl e) h1
  have h10:aD s i≠10:=fun e=>h1 (.inr e);by_cases h2:aD s i=m
  ·exact⟨_,.fin hi h2 h10⟩
  by_cases h3:aD s i=92
  ·cases he:bB s (i+1) with
   | error f=>exact⟨_,.bad hi h3 h2 he⟩
   | ok q=>
    obtain⟨v,n⟩:=q;obtain⟨r,hr⟩:=ih (s.size-(i+1+n)) (by omega) (i+1+n) (acc++[UInt8.ofNat v.toNat]) rfl;exact⟨r,.esc hi h3 h2 he hr⟩
  ·obtain⟨r,hr⟩:=ih (s.size-(i+1)) (by omega) (i+1) (acc++[UInt8.ofNat (aD s i).toNat]) rfl;exact⟨r,.one hi h10 h2 h3 hr⟩
noncomputable def BC (s:ByteArray) (m:Int) (i:Nat):Except Int (List UInt8 × Nat):=Classical.choose (oV.ex s m _ i [] rfl)
theorem uD {s:ByteArray}{m:Int}{i:Nat}{r:Except Int (List UInt8 × Nat)}(h:oV s m i [] r):BC s m i=r:=(Classical.choose_spec (oV.ex s m _ i [] rfl)).fn h
theorem uE (s:ByteArray) (m:Int) (i:Nat):oV s m i [] (BC s m i):=Classical.choose_spec (oV.ex s m _ i [] rfl)
def shQ (a:Nat) (r:Except Int (List UInt8 × Nat)):Except Int (List UInt8 × Nat):=match r with|.error f=>.error f|.ok (bs,n)=>.ok (bs,a+n)
theorem oV.to {s:ByteArray}{m:Int}{a:Nat}(ha:a<=s.size){i:Nat}{acc:List UInt8}{r:Except Int (List UInt8 × Nat)}(h:oV (s.extract a s.size) m i acc r):oV s m (a+i) acc (shQ a r):=by
 have hb:∀j,a+j<s.size->aD (s.extract a s.size) j=aD s (a+j):=fun j hj=>jS s a j hj
 induction h with
 | @out i acc h0=>
  refine .out ?_;rcases h0 with e|e
  ·left;rw[bC]at e;omega
  ·rcases Nat.lt_or_ge (a+i) s.size with q|q
   ·right;rw[<- hb i q];exact e
   ·exact .inl q
 | @fin i acc h1 h2 h3=>
  rw[bC]at h1;rw[hb i (by omega)]at h2 h3;exact .fin (by omega) h2 h3
 | @bad i acc f h1 h2 h3 h4=>
  rw[bC]at h1;rw[hb i (by omega)]at h2 h3;rw[xS s a (i+1) ha]at h4;exact .bad (by omega) h2 h3 h4
 | @esc i acc v n r h1 h2 h3 h4 h5 ih=>
  rw[bC]at h1;rw[hb i (by omega)]at h2 h3;rw[xS s a (i+1) ha]at h4;exact .esc (by omega) h2 h3 h4 (by rw[show a+i+1+n=a+(i+1+n) by omega];exact ih)
 | @one i acc r h1 h2 h3 h4 h5 ih=>
  rw[bC]at h1;rw[hb i (by omega)]at h2 h3 h4 ih;exact .one (by omega) h2 h3 h4 (by rw[show a+i+1=a+(i+1) by omega];exact ih)
theorem oV.f0 {s:ByteArray}{m:Int}{i:Nat}{acc:List UInt8}{r:Except Int (List UInt8 × Nat)}(h:oV s m i acc r):∀f,r=.error f->f≠0:=by
 induction h with
 | out _=>intro f e;cases e;decide
 | fin _ _ _=>intro f e;cases e
 | bad _ _ _ h4=>intro f e;cases e;exact Lg h4
 | esc _ _ _ _ _ ih=>exact ih
 | one _ _ _ _ _ ih=>exact ih
theorem oV.n1 {s:ByteArray}{m:Int}{i:Nat}{acc:List UInt8}{r:Except Int (List UInt8 × Nat)}(h:oV s m i acc r):∀bs n,r=.ok (bs,n)->i<n/\n<=s.size/\bs.length<=acc.length+(s.size-i):=by
 induction h with
 | out _=>intro bs n e;cases e
 | fin h1 _ _=>intro bs n e;cases e;exact⟨by omega,by omega,by omega⟩
 | bad _ _ _ _=>intro bs n e;cases e
 | @esc i acc v k r h1 _ _ h4 _ ih=>
  intro bs n e;have:=ih bs n e;have h5:=WH h4;rw[List.length_append,List.length_singleton]at this;omega
 | @one i acc r h1 _ _ _ _ ih=>
  intro bs n e;have:=ih bs n e;rw[List.length_append,List.length_singleton]at this;omega
noncomputable def aM (s:ByteArray) (i:Nat):Except Int (Int × ByteArray × Int × Nat):=
 if kT (aD s i)=true then
  (match mE (s.extract i (i+run kT (s.extract i s.size))) with
  | .error f=>.error f
  | .ok (k,S,N)=>.ok (k,S,N,i+run kT (s.extract i s.size)))
 else if aD s i=39 then (match BC s 39 (i+1) with
  | .error f=>.error f
  | .ok (bs,n)=>if bs.length=1 then .ok (3,⟨#[99]⟩,nr 1 ((bs.headD 0).toNat:Int),n) else .error 7)
 else if aD s i=34 then (match BC s 34 (i+1) with
  | .error f=>.error f
  | .ok (bs,n)=>if 200<bs.length then .error 8 else .ok (4,⟨bs.toArray⟩,0,n))
 else if uV (s.extract i s.size)=0 then .error 2 else .ok (5,s.extract i (i+uV (s.extract i s.size)),0,i+uV (s.extract i s.size))
def shT (a:Nat) (r:Except Int (Int × ByteArray × Int × Nat)):Except Int (Int × ByteArray × Int × Nat):=match r with|.error f=>.error f|.ok (k,S,N,n)=>.ok (k,S,N,a+n)
theorem WJ (p:Int->Bool) (s:ByteArray):run p s<=s.size:=(pJ p s).1
theorem EI (s:ByteArray):uV s<=s.size/\uV s<=3:=by
 unfold uV
 (repeat' split) <;> omega
theorem Um (s:ByteArray) (a:Nat) (ha:a<s.size):aM s a=shT a (aM (s.extract a s.size) 0):=by
 have hb:aD (s.extract a s.size) 0=aD s a:=by rw[jS s a 0 (by omega),Nat.add_zero]
 have hsz:=bC s a;have hz:(s.extract a s.size).extract 0 (s.extract a s.size).size=s.extract a s.size:=BO _;have hr:=WJ kT (s.extract a s.size);have hg:=(EI (s.extract a s.size)).1;have hq:∀m,BC s m (a+1)=shQ a (BC (s.extract a s.size) m 1):=fun m=>uD ((uE _ _ _).to (by omega));have he:∀n,n<=s.size-a->(s.extract a s.size).extract 0 n=s.extract a (a+n):=fun n hn=>by
  rw[xQ s a s.size 0 n (by omega) (Nat.le_refl _) (Nat.zero_le _),Nat.add_zero]
 unfold aM;rw[hb,hz,Nat.zero_add,Nat.zero_add,Nat.zero_add];rw[he _ (by omega),he _ (by omega),hq,hq];split
 ·cases mE (s.extract a (a+run kT (s.extract a s.size))) <;> rfl
 ·split
  ·cases BC (s.extract a s.size) 39 1 with
   | error f=>rfl
   | ok q=>
    obtain⟨bs,n⟩:=q;simp only[shQ,shT];by_cases hl:bs.length=1
    ·rw[if_pos hl,if_pos hl]
    ·rw[if_neg hl,if_neg hl]
  ·split
   ·cases BC (s.extract a s.size) 34 1 with
    | error f=>rfl
    | ok q=>
     obtain⟨bs,n⟩:=q;simp only[shQ,shT];by_cases hl:200<bs.length
     ·rw[if_pos hl,if_pos hl]
     ·rw[if_neg hl,if_neg hl]
   ·split <;> rfl
theorem EJ {s:ByteArray}{i:Nat}{f:Int}(h:aM s i=.error f):f≠0:=by
 unfold aM at h;split at h
 ·split at h
  ·rename_i g hg;cases h;exact aBK hg
  ·cases h
 ·split at h
  ·split at h
   ·rename_i g hg;cases h;exact (uE s 39 (i+1)).f0 _ hg
   ·split at h <;> cases h;decide
  ·split at h
   ·split at h
    ·rename_i g hg;cases h;exact (uE s 34 (i+1)).f0 _ hg
    ·split at h <;> cases h;decide
   ·split at h <;> cases h;decide
theorem aFy:hx 10=-1:=by decide
theorem Un {s:ByteArray}{i:Nat}{v:Int}{n:Nat}(h:bB s i=.ok (v,n)):∀j,i<=j->j<i+n->aD s j≠10:=by
 have a:∀j,0<=hc s j->aD s j≠10:=fun j hj e=>by
  unfold hc at hj;rw[e,aFy]at hj;split at hj <;> omega
 have b:∀j,0<=oc s j->aD s j≠10:=fun j hj e=>by
  unfold oc at hj;rw[e]at hj;split at hj
  ·rename_i q;omega
  ·omega
 intro j h1 h2;have hj:j=i\/j=i+1\/j=i+2\/i+3<=j:=by omega
 have a1:=a (i+1);have a2:=a (i+2);have b0:=b i;have b1:=b (i+1);have b2:=b (i+2);unfold bB at h;split at h
 ·cases h
 rename_i q0;have q1:aD s i≠10:=fun e=>q0 (.inr e)
 repeat' (split at h)
 all_goals cases h
 all_goals (rcases hj with e|e|e|e <;> first|(rw[e];exact q1)|(rw[e];exact a1 (by omega))|(rw[e];exact a2 (by omega))|(rw[e];exact b1 (by omega))|(rw[e];exact b2 (by omega))|(exfalso;omega))
theorem oV.nn {s:ByteArray}{m:Int}{i:Nat}{acc:List UInt8}{r:Except Int (List UInt8 × Nat)}(h:oV s m i acc r):∀bs n,r=.ok (bs,n)->∀j,i<=j->j<n->aD s j≠10:=by
 induction h with
 | out _=>intro bs n e;cases e
 | @fin i acc h1 _ h3=>intro bs n e j h4 h5;cases e;rw[show j=i by omega];exact h3
 | bad _ _ _ _=>intro bs n e;cases e
 | @esc i acc v k r h1 h2 h3 h4 _ ih=>
  intro bs n e j h5 h6;by_cases q:j=i
  ·rw[q,h2];decide
  ·rcases Nat.lt_or_ge j (i+1+k) with q2|q2
   ·exact Un h4 j (by omega) (by omega)
   ·exact ih bs n e j q2 h6
 | @one i acc r h1 h2 _ _ _ ih=>
  intro bs n e j h5 h6;by_cases q:j=i
  ·rw[q];exact h2
  ·exact ih bs n e j (by omega) h6
theorem aBL {t:ByteArray}(h:BR t=true) (j:Nat) (hj:j<t.size):aD t j≠10:=by
 unfold BR at h;rw[List.any_eq_true]at h;obtain⟨r,hr,he⟩:=h;have he':t.toList=r:=eq_of_beq he;have hd:∀r∈wJ,∀x∈r,x≠10:=by decide
 have hm:t.data.toList.getD j 0∈r:=by
  rw[<- he',ByteArray.toList_eq];have:j<t.data.toList.length:=by simpa using hj
  rw[List.getD_eq_getElem?_getD,List.getElem?_eq_getElem this];exact List.getElem_mem _
 have:=hd r hr _ hm;unfold aD;intro e;exact this (UInt8.toNat_inj.1 (by have:((t.data.toList.getD j 0).toNat:Int)=10:=e;show _=10;omega))
theorem WK (t:ByteArray) (h:uV t≠0):BR (t.extract 0 (uV t))=true:=by
 unfold uV at *;split
 ·rename_i q;exact q.2
 ·split
  ·rename_i q;exact q.2
  ·split
   ·rename_i q;exact q.2
   ·rename_i q1 q2 q3;rw[if_neg q1,if_neg q2,if_neg q3]at h;exact absurd rfl h
theorem LY {p:Int->Bool}{s:ByteArray}(h0:0<s.size) (h:p (aD s 0)=true):0<run p s:=by
 rcases Nat.eq_zero_or_pos (run p s) with e|e
 ·have:=(pJ p s).2.2;rw[e]at this;rcases this with q|q
  ·omega
  ·rw[h]at q;cases q
 ·exact e
theorem aBM {s S:ByteArray}{k N:Int}(h:mE s=.ok (k,S,N)):1<=k/\k<=3:=by
 unfold mE at h;split at h
 ·split at h
  ·cases h
  ·cases h;exact⟨by decide,by decide⟩
 ·split at h
  ·cases h
  ·split at h <;> (cases h;exact⟨by decide,by decide⟩)
theorem yY {s:ByteArray}{i:Nat}(hi:i<s.size){k N:Int}{S:ByteArray}{n:Nat}(h:aM s i=.ok (k,S,N,n)):(i<n/\n<=s.size)/\(1<=k/\k<=5)/\∀j,i<=j->j<n->aD s j≠10:=by
 have hsz:=bC s i;have hb:∀j,i+j<s.size->aD (s.extract i s.size) j=aD s (i+j):=fun j hj=>jS s i j hj;unfold aM at h;split at h
 ·rename_i hw;have hr:=pJ kT (s.extract i s.size);have hp:0<run kT (s.extract i s.size):=LY (by omega) (by rw[hb 0 (by omega)];exact hw);split at h
  ·cases h
  ·rename_i k' S' N' hk;cases h;have:=aBM hk;refine⟨⟨by omega,by have:=hr.1;omega⟩,⟨by omega,by omega⟩,fun j h1 h2 e=>?_⟩;have:=hr.2.1 (j-i) (by omega);rw[hb (j-i) (by have:=hr.1;omega),show i+(j-i)=j by omega,e]at this;exact absurd this (by decide)
 ·split at h
  ·rename_i LZ;split at h
   ·cases h
   ·rename_i bs n' hq;have q1:=(uE s 39 (i+1)).n1 _ _ hq;have q2:=(uE s 39 (i+1)).nn _ _ hq;split at h
    ·cases h;refine⟨⟨by omega,by omega⟩,⟨by decide,by decide⟩,fun j h1 h2=>?_⟩;by_cases e:j=i
     ·rw[e,LZ];decide
     ·exact q2 j (by omega) h2
    ·cases h
  ·split at h
   ·rename_i OZ;split at h
    ·cases h
    ·rename_i bs n' hq;have q1:=(uE s 34 (i+1)).n1 _ _ hq;have q2:=(uE s 34 (i+1)).nn _ _ hq;split at h
     ·cases h
     ·cases h;refine⟨⟨by omega,by omega⟩,⟨by decide,by decide⟩,fun j h1 h2=>?_⟩;by_cases e:j=i
      ·rw[e,OZ];decide
      ·exact q2 j (by omega) h2
   ·split at h
    ·cases h
    ·rename_i hg;cases h;have hl:=(EI (s.extract i s.size)).1;have hs:=WK _ hg;refine⟨⟨by omega,by omega⟩,⟨by decide,by decide⟩,fun j h1 h2=>?_⟩;have:=aBL hs (j-i) (by rw[ext_size];omega);rw[nP _ _ _ _ (by omega) hl,hb _ (by omega),show i+(0+(j-i))=j by omega]at this;exact this
/-! blanks,aD5,places,and the whole of Lex -/
def lc (s:ByteArray) (i:Nat):Prop:=i+1<s.size/\aD s i=47/\aD s (i+1)=47
def bc (s:ByteArray) (i:Nat):Prop:=i+1<s.size/\aD s i=47/\aD s (i+1)=42
def Dl (s:ByteArray) (i k:Nat):Prop:=i<=k/\k<=s.size/\(∀m,i<=m->m<k->aD s m≠10)/\(k=s.size\/aD s k=10)
def GQ (s:ByteArray) (i k:Nat):Prop:=i<=k/\k+1<s.size/\(aD s k=42/\aD s (k+1)=47)/\∀m,i<=m->m<k->¬(aD s m=42/\aD s (m+1)=47)
def Dm (s:ByteArray) (i:Nat):Prop:=∀m,i<=m->m+1<s.size->¬(aD s m=42/\aD s (m+1)=47)
theorem Dl.fn {s:ByteArray}{i k k':Nat}(h:Dl s i k) (h':Dl s i k'):k=k':=by
 rcases Nat.lt_trichotomy k k' with q|q|q
 ·rcases h.2.2.2 with e|e
  ·have:=h'.2.1;omega
  ·exact absurd e (h'.2.2.1 k h.1 q)
 ·exact q
 ·rcases h'.2.2.2 with e|e
  ·have:=h.2.1;omega
  ·exact absurd e (h.2.2.1 k' h'.1 q)
theorem GQ.fn {s:ByteArray}{i k k':Nat}(h:GQ s i k) (h':GQ s i k'):k=k':=by
 rcases Nat.lt_trichotomy k k' with q|q|q
 ·exact absurd h.2.2.1 (h'.2.2.2 k h.1 q)
 ·exact q
 ·exact absurd h'.2.2.1 (h.2.2.2 k' h'.1 q)
theorem GQ.no {s:ByteArray}{i k:Nat}(h:GQ s i k) (h':Dm s i):False:=h' k h.1 h.2.1 h.2.2.1
theorem Aq {s:ByteArray}{i:Nat}(h:lc s i) (h':bc s i):False:=by have:=h.2.2;rw[h'.2.2]at this;exact absurd this (by decide)
theorem Lr {s:ByteArray}{i:Nat}(h:lc s i) (h':blk (aD s i)=true):False:=by rw[h.2.1]at h';exact absurd h' (by decide)
theorem MC {s:ByteArray}{i:Nat}(h:bc s i) (h':blk (aD s i)=true):False:=by rw[h.2.1]at h';exact absurd h' (by decide)
inductive Sk (s:ByteArray):Nat->Nat->Bool->Prop
 | stop {i}:(s.size<=i\/(blk (aD s i)=false/\¬lc s i/\¬bc s i))->Sk s i i true
 | opn {i}:bc s i->Dm s (i+2)->Sk s i i false
 | blank {i j b}:i<s.size->blk (aD s i)=true->Sk s (i+1) j b->Sk s i j b
 | line {i k j b}:lc s i->Dl s i k->Sk s k j b->Sk s i j b
 | GR {i k j b}:bc s i->GQ s (i+2) k->Sk s (k+2) j b->Sk s i j b
theorem Sk.fn {s:ByteArray}{i j j':Nat}{b b':Bool}(h:Sk s i j b) (h':Sk s i j' b'):j=j'/\b=b':=by
 induction h with
 | @stop i h0=>
  cases h' with
  | stop _=>exact⟨rfl,rfl⟩
  | opn a c=>rcases h0 with e|⟨_,_,e⟩;have:=a.1;omega;exact absurd a e
  | blank a c d=>rcases h0 with e|⟨e,_,_⟩;omega;rw[e]at c;cases c
  | line a c d=>rcases h0 with e|⟨_,e,_⟩;have:=a.1;omega;exact absurd a e
  | GR a c d=>rcases h0 with e|⟨_,_,e⟩;have:=a.1;omega;exact absurd a e
 | @opn i a c=>
  cases h' with
  | stop h0=>rcases h0 with e|⟨_,_,e⟩;have:=a.1;omega;exact absurd a e
  | opn _ _=>exact⟨rfl,rfl⟩
  | blank _ c' _=>exact (MC a c').elim
  | line a' _ _=>exact (Aq a' a).elim
  | GR _ c' _=>exact (c'.no c).elim
 | @blank i j b a c d ih=>
  cases h' with
  | stop h0=>rcases h0 with e|⟨e,_,_⟩;omega;rw[e]at c;cases c
  | opn a' _=>exact (MC a' c).elim
  | blank _ _ d'=>exact ih d'
  | line a' _ _=>exact (Lr a' c).elim
  | GR a' _ _=>exact (MC a' c).elim
 | @line i k j b a c d ih=>
  cases h' with
  | stop h0=>rcases h0 with e|⟨_,e,_⟩;have:=a.1;omega;exact absurd a e
  | opn a' _=>exact (Aq a a').elim
  | blank _ c' _=>exact (Lr a c').elim
  | line _ c' d'=>rw[<- c.fn c']at d';exact ih d'
  | GR a' _ _=>exact (Aq a a').elim
 | @GR i k j b a c d ih=>
  cases h' with
  | stop h0=>rcases h0 with e|⟨_,_,e⟩;have:=a.1;omega;exact absurd a e
  | opn _ c'=>exact (c.no c').elim
  | blank _ c' _=>exact (MC a c').elim
  | line a' _ _=>exact (Aq a' a).elim
  | GR _ c' d'=>rw[<- c.fn c']at d';exact ih d'
theorem Sk.le {s:ByteArray}{i j:Nat}{b:Bool}(h:Sk s i j b):i<=j/\(i<=s.size->j<=s.size)/\(b=false->j+1<s.size):=by
 induction h with
 | stop _=>exact⟨Nat.le_refl _,fun h=>h,fun h=>by cases h⟩
 | opn a _=>exact⟨Nat.le_refl _,fun h=>h,fun _=>a.1⟩
 | blank a _ _ ih=>exact⟨by omega,fun h=>ih.2.1 (by omega),ih.2.2⟩
 | line a c _ ih=>exact⟨Nat.le_trans c.1 ih.1,fun h=>ih.2.1 c.2.1,ih.2.2⟩
 | @GR i k j b a c _ ih=>exact⟨by have:=c.1;omega,fun h=>ih.2.1 (by have:=c.2.1;omega),ih.2.2⟩
def ln (s:ByteArray):Nat->Int
 | 0=>1
 | n+1=>if aD s n=10 then ln s n+1 else ln s n
def cn (s:ByteArray):Nat->Int
 | 0=>1
 | n+1=>if aD s n=10 then 1 else cn s n+1
theorem Dp (s:ByteArray):∀n,1<=ln s n/\ln s n<=n+1
 | 0=>⟨by simp[ln],by simp[ln]⟩
 | n+1=>by
  have:=Dp s n;unfold ln;split <;> omega
theorem Dq (s:ByteArray):∀n,1<=cn s n/\cn s n<=n+1
 | 0=>⟨by simp[cn],by simp[cn]⟩
 | n+1=>by
  have:=Dq s n;unfold cn;split <;> omega
theorem CB (s:ByteArray) (a:Nat):∀d,(∀j,a<=j->j<a+d->aD s j≠10)->ln s (a+d)=ln s a/\cn s (a+d)=cn s a+d
 | 0,_=>⟨rfl,by simp⟩
 | d+1,h=>by
  have ih:=CB s a d (fun j h1 h2=>h j h1 (by omega));have hn:=h (a+d) (by omega) (by omega);have e1:ln s (a+d+1)=if aD s (a+d)=10 then ln s (a+d)+1 else ln s (a+d):=rfl
  have e2:cn s (a+d+1)=if aD s (a+d)=10 then 1 else cn s (a+d)+1:=rfl
  rw[show a+(d+1)=(a+d)+1 by omega,e1,e2,if_neg hn,if_neg hn];exact⟨ih.1,by rw[ih.2];omega⟩
structure Tk where
 k:Int
 S:ByteArray
 N:Int
 l:Int
 c:Int
def Tk.cells (t:Tk):List Value:=[.int .i64 t.k,.string t.S,.int .i64 t.N,.int .i64 t.l,.int .i64 t.c]
def Tk.all (ts:List Tk):List Value:=ts.flatMap Tk.cells
def AA (s:ByteArray) (j:Nat):Tk:=⟨0,⟨#[]⟩,0,ln s j,cn s j⟩
inductive Lx (s:ByteArray):Nat->List Tk->(List Tk × Int × Int × Int)->Prop
 | opn {i acc j}:Sk s i j false->Lx s i acc ([],3,ln s j,cn s j)
 | fin {i acc j}:Sk s i j true->j=s.size->Lx s i acc (acc++[AA s j],0,0,0)
 | bad {i acc j f}:Sk s i j true->j<s.size->aM s j=.error f->Lx s i acc ([],f,ln s j,cn s j)
 | many {i acc j r}:Sk s i j true->j<s.size->aM s j=.ok r->6000<=acc.length->Lx s i acc ([],9,ln s j,cn s j)
 | go {i acc j k S N n r}:Sk s i j true->j<s.size->aM s j=.ok (k,S,N,n)->acc.length<6000->Lx s n (acc++[⟨k,S,N,ln s j,cn s j⟩]) r->Lx s i acc r
theorem Lx.fn {s:ByteArray}{i:Nat}{acc:List Tk}{r r':List Tk × Int × Int × Int}(h:Lx s i acc r) (h':Lx s i acc r'):r=r':=by
 induction h with
 | opn a=>
  cases h' with
  | opn a'=>rw[(a.fn a').1]
  | fin a' _=>exact absurd (a.fn a').2 (by decide)
  | bad a' _ _=>exact absurd (a.fn a').2 (by decide)
  | many a' _ _ _=>exact absurd (a.fn a').2 (by decide)
  | go a' _ _ _ _=>exact absurd (a.fn a').2 (by decide)
 | fin a c=>
  cases h' with
  | opn a'=>exact absurd (a.fn a').2 (by decide)
  | fin a' _=>rw[(a.fn a').1]
  | bad a' b' _=>have:=(a.fn a').1;omega
  | many a' b' _ _=>have:=(a.fn a').1;omega
  | go a' b' _ _ _=>have:=(a.fn a').1;omega
 | bad a b c=>
  cases h' with
  | opn a'=>exact absurd (a.fn a').2 (by decide)
  | fin a' e=>have:=(a.fn a').1;omega
  | bad a' b' c'=>have e:=(a.fn a').1;subst e;rw[c]at c';injection c' with q;rw[q]
  | many a' _ c' _=>have e:=(a.fn a').1;subst e;rw[c]at c';cases c'
  | go a' _ c' _ _=>have e:=(a.fn a').1;subst e;rw[c]at c';cases c'
 | many a b c d=>
  cases h' with
  | opn a'=>exact absurd (a.fn a').2 (by decide)
  | fin a' e=>have:=(a.fn a').1;omega
  | bad a' b' c'=>have e:=(a.fn a').1;subst e;rw[c]at c';cases c'
  | many a' _ c' _=>rw[(a.fn a').1]
  | go a' _ c' d' _=>omega
 | go a b c d _ ih=>
  cases h' with
  | opn a'=>exact absurd (a.fn a').2 (by decide)
  | fin a' e=>have:=(a.fn a').1;omega
  | bad a' b' c'=>have e:=(a.fn a').1;subst e;rw[c]at c';cases c'
  | many a' _ c' d'=>omega
  | go a' _ c' _ e'=>
   have e:=(a.fn a').1;subst e;rw[c]at c';injection c' with q;injection q with q1 q2;injection q2 with q2 q3;injection q3 with q3 q4;subst q1 q2 q3 q4;exact ih e'
end Pl
namespace W
open Go.RowKit
def SkS (s:ByteArray) (i:Nat) (e:Ending):Prop:=∃j b,Pl.Sk s i j b/\((b=true/\e=.returned (.tuple #[.int .i64 j,.int .i64 (-1)]))\/(b=false/\∃q:Int,e=.returned (.tuple #[.int .i64 q,.int .i64 j])))
set_option maxRecDepth 100000 in
theorem Dt (s:ByteArray) (hs:s.size<=1048576) (i:Nat) (hi:i<=s.size) (w:World):Calls Tryz.prog 116 #[.string s,.int .i64 i] w fun e w'=>SkS s i e/\w'=w:=by
 go_enter Tryz.func116,Tryz.ntmps116;go_wp2_with fail
 go_loop [1] (fun x=>∃k:Nat,k<=s.size/\x=.int .i64 k/\∀j b,Pl.Sk s k j b->Pl.Sk s i j b) (fun x=>s.size-(intOf x).toNat)
 case atStart=>exact⟨i,hi,rfl,fun j b h=>h⟩
 case round=>
  obtain⟨k,hk,rfl,hall⟩:=hrel;have HA:Hid (∀j b,Pl.Sk s k j b->Pl.Sk s i j b):=hall;clear hall;by_cases hlt:k<s.size
  ·have hlt':(k:Int)<s.size:=(by omega);have hg:=Pl.aJ s k hlt;obtain⟨c,hc⟩:∃c,c=Pl.aD s k:=⟨_,rfl⟩;rw[<- hc]at hg;have HC:Hid (c=Pl.aD s k):=hc;clear hc;cases hb:Pl.blk c;rotate_left
   ·go_wp2_with (go_at_call 124;refine (oG _ _).mono ?_;rintro e u1 ⟨rfl,hu1⟩;rw[hu1];clear hu1;rw[hb])
    go_round
    case rel=>exact⟨k+1,by omega,by go_num,fun j b h=>HA.o j b (.blank hlt (by rw[<- HC.o];exact hb) h)⟩
    case measure=>simp[intOf];omega
   ·by_cases h47:c=47/\k+1<s.size
    ·obtain⟨h47,h1⟩:=h47;have e47:(c == 47)=true:=(by simp[h47]);have H47:Hid (Pl.aD s k=47):=HC.o.symm.trans h47;have h1':(k:Int)+1<s.size:=(by omega);have hg1:=Pl.aJ s (k+1) h1;obtain⟨d,hd⟩:∃d,d=Pl.aD s (k+1):=⟨_,rfl⟩;rw[<- hd]at hg1;have HD:Hid (d=Pl.aD s (k+1)):=hd;clear hd h47;by_cases WL:d=47
     ·have ed:(d == 47)=true:=(by simp[WL]);have HL:Hid (Pl.lc s k):=⟨h1,H47.o,HD.o.symm.trans WL⟩;clear WL;go_wp2_with (go_at_call 124;refine (oG _ _).mono ?_;rintro e u1 ⟨rfl,hu1⟩;rw[hu1];clear hu1;rw[hb])
      go_loop [1] (fun x=>∃m:Nat,k<=m/\m<=s.size/\x=.int .i64 m/\∀j,k<=j->j<m->Pl.aD s j≠10) (fun x=>s.size-(intOf x).toNat)
      case atStart=>exact⟨k,Nat.le_refl _,hk,rfl,fun j h1 h2=>by omega⟩
      case round=>
       obtain⟨m,hm1,hm2,rfl,GN⟩:=hrel;have HM:Hid (∀j,k<=j->j<m->Pl.aD s j≠10):=GN;clear GN;by_cases hml:m<s.size
       ·have aBN:(m:Int)<s.size:=(by omega);have hgm:=Pl.aJ s m hml;obtain⟨f,hf⟩:∃f,f=Pl.aD s m:=⟨_,rfl⟩;rw[<- hf]at hgm;have HF:Hid (f=Pl.aD s m):=hf;clear hf;by_cases h10:f=10
        ·have HE:Hid (∀j b,Pl.Sk s m j b->Pl.Sk s i j b):=fun j b h=>HA.o j b (.line HL.o ⟨hm1,hm2,HM.o,.inr (by rw[<- HF.o];exact h10)⟩ h);have hkm:k<m:=by
          rcases Nat.lt_or_ge k m with q|q
          ·exact q
          ·have:m=k:=(by omega);have h2:=HF.o;rw[this,H47.o]at h2;omega
         have e1:(f == 10)=true:=(by simp[h10]);have e2:(f != 10)=false:=(by simp[h10]);clear h10;go_wp2_with fail
         go_round
         case rel=>exact⟨m,hm2,rfl,HE.o⟩
         case measure=>simp[intOf];omega
        ·have e1:(f == 10)=false:=(by simp[h10]);have e2:(f != 10)=true:=(by simp[h10]);go_wp2_with fail
         go_round
         case rel=>exact⟨m+1,by omega,by omega,by go_num,fun j h1 h2=>by
          by_cases e:j=m
          ·rw[e,<- HF.o];exact h10
          ·exact HM.o j h1 (by omega)⟩
         case measure=>simp[intOf];omega
       ·have hme:m=s.size:=(by omega);have HE:Hid (∀j b,Pl.Sk s m j b->Pl.Sk s i j b):=fun j b h=>HA.o j b (.line HL.o ⟨hm1,hm2,HM.o,.inl hme⟩ h);have aBN:¬(m:Int)<s.size:=(by omega);clear hme;go_wp2_with fail
        go_round
        case rel=>exact⟨m,hm2,rfl,HE.o⟩
        case measure=>simp[intOf];omega
     ·have ed:(d == 47)=false:=(by simp[WL]);by_cases Du:d=42
      ·have ed2:(d == 42)=true:=(by simp[Du]);have HL:Hid (Pl.bc s k):=⟨h1,H47.o,HD.o.symm.trans Du⟩;clear Du WL;go_wp2_with (go_at_call 124;refine (oG _ _).mono ?_;rintro e u1 ⟨rfl,hu1⟩;rw[hu1];clear hu1;rw[hb])
       go_loop [1] (fun x=>∃m:Nat,k+2<=m/\m<=s.size/\x=.int .i64 m/\∀j,k+2<=j->j<m->j+1<s.size->¬(Pl.aD s j=42/\Pl.aD s (j+1)=47)) (fun x=>s.size-(intOf x).toNat)
       case atStart=>exact⟨k+2,Nat.le_refl _,by omega,by go_num,fun j h1 h2=>by omega⟩
       case round=>
        obtain⟨m,hm1,hm2,rfl,GN⟩:=hrel;have HM:Hid (∀j,k+2<=j->j<m->j+1<s.size->¬(Pl.aD s j=42/\Pl.aD s (j+1)=47)):=GN;clear GN;by_cases hml:m+1<s.size
        ·have aBN:(m:Int)+1<s.size:=(by omega);have hgm:=Pl.aJ s m (by omega);have aBO:=Pl.aJ s (m+1) hml;obtain⟨f,hf⟩:∃f,f=Pl.aD s m:=⟨_,rfl⟩;obtain⟨f1,hf1⟩:∃f,f=Pl.aD s (m+1):=⟨_,rfl⟩;rw[<- hf]at hgm;rw[<- hf1]at aBO;have HF:Hid (f=Pl.aD s m):=hf;have VL:Hid (f1=Pl.aD s (m+1)):=hf1;clear hf hf1;by_cases hcl:f=42/\f1=47
         ·have HE:Hid (∀j b,Pl.Sk s (m+2) j b->Pl.Sk s i j b):=fun j b h=>HA.o j b (.GR HL.o ⟨hm1,hml,⟨by rw[<- HF.o];exact hcl.1,by rw[<- VL.o];exact hcl.2⟩,fun x h1 h2=>HM.o x h1 h2 (by omega)⟩ h);have e1:(f != 42)=false:=(by simp[hcl.1]);have e2:(f1 != 47)=false:=(by simp[hcl.2]);clear hcl;go_wp2_with fail
          go_round
          case rel=>exact⟨m+2,by omega,by go_num,HE.o⟩
          case measure=>simp[intOf];omega
         ·have HN:Hid (∀j,k+2<=j->j<m+1->j+1<s.size->¬(Pl.aD s j=42/\Pl.aD s (j+1)=47)):=fun j h1 h2 h3=>by
           by_cases e:j=m
           ·rw[e,<- HF.o,<- VL.o];exact hcl
           ·exact HM.o j h1 (by omega) h3
          by_cases Ls:f=42
          ·have aD6:f1≠47:=fun e=>hcl ⟨Ls,e⟩;have e1:(f != 42)=false:=(by simp[Ls]);have e2:(f1 != 47)=true:=(by simp[aD6]);clear hcl Ls aD6;go_wp2_with fail
           go_round
           case rel=>exact⟨m+1,by omega,by omega,by go_num,HN.o⟩
           case measure=>simp[intOf];omega
          ·have e1:(f != 42)=true:=(by simp[Ls]);clear hcl Ls;go_wp2_with fail
           go_round
           case rel=>exact⟨m+1,by omega,by omega,by go_num,HN.o⟩
           case measure=>simp[intOf];omega
        ·have aBN:¬(m:Int)+1<s.size:=(by omega);have HE:Hid (Pl.Sk s i k false):=HA.o k false (.opn HL.o (fun x h1 h2=>HM.o x h1 (by omega) h2));go_wp2_with fail
         go_ret2;exact⟨⟨k,false,HE.o,.inr ⟨rfl,_,rfl⟩⟩,rfl⟩
      ·have ed2:(d == 42)=false:=(by simp[Du]);have HE:Hid (Pl.Sk s i k true):=HA.o k true (.stop (.inr ⟨by rw[<- HC.o];exact hb,fun h=>WL (HD.o.trans h.2.2),fun h=>Du (HD.o.trans h.2.2)⟩));clear Du WL;go_wp2_with (go_at_call 124;refine (oG _ _).mono ?_;rintro e u1 ⟨rfl,hu1⟩;rw[hu1];clear hu1;rw[hb])
       go_ret2;exact⟨⟨k,true,HE.o,.inl ⟨rfl,rfl⟩⟩,rfl⟩
    ·have HE:Hid (Pl.Sk s i k true):=HA.o k true (.stop (.inr ⟨by rw[<- HC.o];exact hb,fun h=>h47 ⟨HC.o.trans h.2.1,h.1⟩,fun h=>h47 ⟨HC.o.trans h.2.1,h.1⟩⟩));by_cases hc47:c=47
     ·have e47:(c == 47)=true:=(by simp[hc47]);have h1':¬(k:Int)+1<s.size:=fun q=>h47 ⟨hc47,by omega⟩;clear hc47 h47;go_wp2_with (go_at_call 124;refine (oG _ _).mono ?_;rintro e u1 ⟨rfl,hu1⟩;rw[hu1];clear hu1;rw[hb])
      go_ret2;exact⟨⟨k,true,HE.o,.inl ⟨rfl,rfl⟩⟩,rfl⟩
     ·have e47:(c == 47)=false:=(by simp[hc47]);clear hc47 h47;go_wp2_with (go_at_call 124;refine (oG _ _).mono ?_;rintro e u1 ⟨rfl,hu1⟩;rw[hu1];clear hu1;rw[hb])
      go_ret2;exact⟨⟨k,true,HE.o,.inl ⟨rfl,rfl⟩⟩,rfl⟩
  ·have hlt':¬(k:Int)<s.size:=(by omega);have HE:Hid (Pl.Sk s i k true):=HA.o k true (.stop (.inl (by omega)));go_wp2_with fail
   go_ret2;exact⟨⟨k,true,HE.o,.inl ⟨rfl,rfl⟩⟩,rfl⟩
theorem WM (s:ByteArray) (hs:s.size<=1048576) (n:Nat) (hn:n<=s.size) (w:World):Calls Tryz.prog 117 #[.string s,.int .i64 n] w fun e w'=>e=.returned (.tuple #[.int .i64 (Pl.ln s n),.int .i64 (Pl.cn s n)])/\w'=w:=by
 go_enter Tryz.func117,Tryz.ntmps117;go_wp2_with fail
 go_loop [6,7,8] (fun a b x=>∃k:Nat,k<=n/\x=.int .i64 k/\a=.int .i64 (Pl.ln s k)/\b=.int .i64 (Pl.cn s k)) (fun _ _ x=>n-(intOf x).toNat)
 case atStart=>exact⟨0,Nat.zero_le _,rfl,rfl,rfl⟩
 case round=>
  obtain⟨k,hk,rfl,rfl,rfl⟩:=hrel;obtain⟨l0,l1⟩:=Pl.Dp s k;obtain⟨c0,c1⟩:=Pl.Dq s k;by_cases hlt:k<n
  ·have hlt':(k:Int)<n:=(by omega);have hks:(k:Int)<s.size:=(by omega);have hg:=Pl.aJ s k (by omega);have H1:Hid (Pl.ln s (k+1)=if Pl.aD s k=10 then Pl.ln s k+1 else Pl.ln s k):=rfl;have H2:Hid (Pl.cn s (k+1)=if Pl.aD s k=10 then 1 else Pl.cn s k+1):=rfl;obtain⟨c,hc⟩:∃c,c=Pl.aD s k:=⟨_,rfl⟩;obtain⟨a,ha⟩:∃a,a=Pl.ln s k:=⟨_,rfl⟩;obtain⟨b,hb⟩:∃b,b=Pl.cn s k:=⟨_,rfl⟩;rw[<- hc]at hg H1 H2;rw[<- ha]at H1 l0 l1 ⊢;rw[<- hb]at H2 c0 c1 ⊢;clear hc ha hb;by_cases h10:c=10
   ·have e1:(c == 10)=true:=(by simp[h10]);have K1:Hid (Pl.ln s (k+1)=a+1):=H1.o.trans (if_pos h10);have K2:Hid (Pl.cn s (k+1)=1):=H2.o.trans (if_pos h10);clear h10 H1 H2;go_wp2_with fail
    go_round
    case rel=>exact⟨k+1,by omega,by go_num,by rw[K1.o],by rw[K2.o]⟩
    case measure=>simp[intOf];omega
   ·have e1:(c == 10)=false:=(by simp[h10]);have K1:Hid (Pl.ln s (k+1)=a):=H1.o.trans (if_neg h10);have K2:Hid (Pl.cn s (k+1)=b+1):=H2.o.trans (if_neg h10);clear h10 H1 H2;go_wp2_with fail
    go_round
    case rel=>exact⟨k+1,by omega,by go_num,by rw[K1.o],by rw[K2.o]⟩
    case measure=>simp[intOf];omega
  ·have hke:k=n:=(by omega);subst hke;go_wp2_with fail
   go_ret2;exact⟨rfl,rfl⟩
end W
namespace Pl
def xX:Array Value:=(kyB.map fun r=>Value.string ⟨r.toArray⟩).toArray
def QJ:Array Value:=(wJ.map fun r=>Value.string ⟨r.toArray⟩).toArray
theorem WN (rs:List (List UInt8)) (k:Nat) (h:k<rs.length):((rs.map fun r=>Value.string ⟨r.toArray⟩).toArray)[k]?=some (.string ⟨(rs.getD k []).toArray⟩):=by
 rw[List.getElem?_toArray,List.getElem?_map,List.getD_eq_getElem?_getD,List.getElem?_eq_getElem h];rfl
theorem Au {rs:List (List UInt8)}{s:ByteArray}{k:Nat}(hk:k<rs.length) (h:rs.getD k []=s.toList):(rs.any fun r=>s.toList == r)=true:=by
 rw[List.any_eq_true];refine⟨rs.getD k [],?_,by rw[h];exact beq_self_eq_true _⟩;rw[List.getD_eq_getElem?_getD,List.getElem?_eq_getElem hk];exact List.getElem_mem _
theorem aBP {rs:List (List UInt8)}{s:ByteArray}(h:∀k,k<rs.length->rs.getD k []≠s.toList):(rs.any fun r=>s.toList == r)=false:=by
 rw[List.any_eq_false];intro x hx;obtain⟨k,hk,rfl⟩:=List.mem_iff_getElem.1 hx;have:=h k hk;rw[List.getD_eq_getElem?_getD,List.getElem?_eq_getElem hk]at this;intro q;exact this (eq_of_beq q).symm
theorem JN (r:List UInt8):(⟨r.toArray⟩:ByteArray).toList=r:=by rw[ByteArray.toList_eq]
end Pl
namespace W
open Go.RowKit
theorem qZ (w:World):Calls Tryz.prog 84 #[] w fun e w'=>e=.returned (.slice (some ⟨w.heap.size,0,none⟩) 23 23)/\w'=w.alloc (.cells Pl.xX 9):=by
 go_enter Tryz.func84,Tryz.ntmps84;go_wp2_with (refine Great.wpList_buildSliceTo rfl 59 9 23 _ rfl w.heap.size rfl _ rfl Tryz.underlying59 Pl.xX (by kernel_rfl) ?_)
 go_ret;exact⟨rfl,rfl⟩
theorem WO (w:World):Calls Tryz.prog 128 #[] w fun e w'=>e=.returned (.slice (some ⟨w.heap.size,0,none⟩) 45 45)/\w'=w.alloc (.cells Pl.QJ 9):=by
 go_enter Tryz.func128,Tryz.ntmps128;go_wp2_with (refine Great.wpList_buildSliceTo rfl 59 9 45 _ rfl w.heap.size rfl _ rfl Tryz.underlying59 Pl.QJ (by kernel_rfl) ?_)
 go_ret;exact⟨rfl,rfl⟩
theorem Lt (rs:List (List UInt8)) (g n:Nat) (hn:rs.length=n) (hn2:n<=100) (t:ByteArray) (w:World) (h:∀k,k<n->w.cell? ⟨g,k,none⟩=some (.string ⟨(rs.getD k []).toArray⟩)) :
  Calls Tryz.prog 54 #[.slice (some ⟨g,0,none⟩) n n,.string t] w fun e w'=>e=.returned (.bool (rs.any fun r=>t.toList == r))/\w'=w:=by
 have H:Hid (∀k,k<n->w.cell? ⟨g,k,none⟩=some (.string ⟨(rs.getD k []).toArray⟩)):=h;have HN:Hid (rs.length=n):=hn;clear h hn;go_enter Tryz.func54,Tryz.ntmps54;go_wp2_with fail
 go_loop [5] (fun i=>∃k:Nat,k<=n/\i=.int .i64 k/\(∀j,j<k->rs.getD j []≠t.toList)) (fun i=>n-(intOf i).toNat)
 case atStart=>exact⟨0,Nat.zero_le _,rfl,fun j hj=>absurd hj (Nat.not_lt_zero _)⟩
 case round=>
  obtain⟨k,hk,rfl,hall⟩:=hrel;have HA:Hid (∀j,j<k->rs.getD j []≠t.toList):=hall;clear hall;by_cases hlt:k<n
  ·have hc:=H.o k hlt;obtain⟨x,hx⟩:∃x:ByteArray,x=⟨(rs.getD k []).toArray⟩:=⟨_,rfl⟩;rw[<- hx]at hc;have HX:Hid (x.toList=rs.getD k []):=(by rw[hx];exact Pl.JN _);clear hx;have hi:(k:Int)<(n:Int):=(by omega);cases he:(x.toList == t.toList)
   ·go_wp2_with fail
    go_round
    case rel=>exact⟨k+1,by omega,by go_num,fun j hj=>by
     by_cases e:j=k
     ·rw[e,<- HX.o];exact ne_of_beq_false he
     ·exact HA.o j (by omega)⟩
    case measure=>simp[intOf];omega
   ·go_wp2_with fail
    go_ret;exact⟨aC (Pl.Au (k:=k) (by rw[HN.o];exact hlt) (by rw[<- HX.o];exact eq_of_beq he)).symm,rfl⟩
  ·have hke:k=n:=(by omega);have hi:¬((k:Int)<(n:Int)):=(by omega);have HF:Hid ((rs.any fun r=>t.toList == r)=false):=Pl.aBP (fun j hj=>HA.o j (by rw[HN.o]at hj;omega));clear hke;go_wp2;go_ret;exact⟨aC HF.o.symm,rfl⟩
theorem JO (t:ByteArray) (u:World):Calls Tryz.prog 54 #[.slice (some ⟨u.heap.size,0,none⟩) 23 23,.string t] (u.alloc (.cells Pl.xX 9)) fun e w'=>e=.returned (.bool (Pl.isK t))/\w'=u.alloc (.cells Pl.xX 9):=
 Lt Pl.kyB u.heap.size 23 rfl (by decide) t _ fun k hk=>by
  rw[cell_of_row _ _ k Pl.xX 9 (0,0) (heap_alloc_new u _)];exact Pl.WN Pl.kyB k hk
end W
end Go.Proofs.YtjcdiegfnoaedaaGreatDoor
