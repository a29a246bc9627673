import Derived.Test.YtcgfgmlfbgbkfaaGreatDoorM08
import Derived.Test.YtcgfgmlfbgbkfaaGreatDoorM10
import Derived.Test.YtcgfgmlfbgbkfaaGreatDoorM07
import Derived.Laws.CopyOwn
import Derived.Deep.RegionLaw
import Derived.BigRegion
import Derived.Deep.QuietTactic
import Derived.BigQuiet
import Derived.Deep.DeepCutAuto
set_option linter.unusedVariables false
set_option linter.unusedSimpArgs false
set_option maxHeartbeats 16000000
namespace Go.Proofs.YtcgfgmlfbgbkfaaGreatDoor.Pl
def Bd (P:Nat->Prop) (k:Nat) (fr tt:Int):Prop:=(tt=-1/\fr=0/\∀ i,i<k->¬ P i)\/∃ a b:Nat,fr=(a:Int)/\tt=(b:Int)/\a<k/\b<k/\P a/\P b/\∀ i,i<k->P i->a<=i/\i<=b
theorem Bd.nil (P:Nat->Prop):Bd P 0 0 (-1):=.inl ⟨rfl,rfl,fun i hi=>absurd hi (Nat.not_lt_zero _)⟩
theorem Bd.no {P:Nat->Prop} {k:Nat} {fr tt:Int} (h:Bd P k fr tt) (hn:¬ P k):Bd P (k+1) fr tt:=by
 rcases h with ⟨h1,h2,h3⟩ | ⟨a,b,h1,h2,h3,h4,h5,h6,h7⟩
 ·exact .inl ⟨h1,h2,fun i hi q=>if e:i=k then hn (e ▸ q) else h3 i (by omega) q⟩
 ·exact .inr ⟨a,b,h1,h2,by omega,by omega,h5,h6,fun i hi q=>if e:i=k then absurd (e ▸ q) hn else h7 i (by omega) q⟩
theorem Bd.first {P:Nat->Prop} {k:Nat} {fr tt:Int} (h:Bd P k fr tt) (hp:P k) (ht:tt<0):Bd P (k+1) (k:Int) (k:Int):=by
 rcases h with ⟨h1,h2,h3⟩ | ⟨a,b,h1,h2,h3,h4,h5,h6,h7⟩
 ·exact .inr ⟨k,k,rfl,rfl,by omega,by omega,hp,hp,fun i hi q=>if e:i=k then by omega else absurd q (h3 i (by omega))⟩
 ·omega
theorem Bd.more {P:Nat->Prop} {k:Nat} {fr tt:Int} (h:Bd P k fr tt) (hp:P k) (ht:¬ tt<0):Bd P (k+1) fr (k:Int):=by
 rcases h with ⟨h1,h2,h3⟩ | ⟨a,b,h1,h2,h3,h4,h5,h6,h7⟩
 ·omega
 ·exact .inr ⟨a,k,h1,rfl,by omega,by omega,h5,hp,fun i hi q=>if e:i=k then by omega else by have:=h7 i (by omega) q;omega⟩
theorem Bd.bound {P:Nat->Prop} {k:Nat} {fr tt:Int} (h:Bd P k fr tt):0<=fr/\fr<=k/\-1<=tt/\tt<k/\(tt=-1->fr=0)/\(tt≠-1->0<=tt):=by
 rcases h with ⟨h1,h2,h3⟩ | ⟨a,b,h1,h2,h3,h4,h5,h6,h7⟩ <;> omega
theorem Bd.fn {P:Nat->Prop} {k:Nat} {fr tt fr' tt':Int} (h:Bd P k fr tt) (h':Bd P k fr' tt'):fr=fr'/\tt=tt':=by
 rcases h with ⟨h1,h2,h3⟩ | ⟨a,b,h1,h2,h3,h4,h5,h6,h7⟩ <;> rcases h' with ⟨g1,g2,g3⟩ | ⟨c,d,g1,g2,g3,g4,g5,g6,g7⟩
 ·omega
 ·exact absurd g5 (h3 c g3)
 ·exact absurd h5 (g3 a h3)
 ·have q1:=h7 c g3 g5;have q2:=h7 d g4 g6;have q3:=g7 a h3 h5;have q4:=g7 b h4 h6;omega
def Sd (code:List IrI) (r:Int) (i:Nat):Prop:=Live code r i\/Se code i r
def isCall (code:List IrI) (i:Nat):Prop:=(code.getD i IrI.zero).op=9\/(code.getD i IrI.zero).op=10
def Crs (code:List IrI) (fr:Int) (k:Int) (cr:Bool):Prop:=cr=true↔∃ i:Nat,fr<(i:Int)/\(i:Int)<k/\isCall code i
theorem Crs.yes {code:List IrI} {fr:Int} {k:Nat} (h:fr<(k:Int)) (hc:isCall code k):Crs code fr ((k:Int)+1) true:=⟨fun _=>⟨k,h,by omega,hc⟩,fun _=>rfl⟩
theorem Crs.no {code:List IrI} {fr:Int} {k:Nat} {cr:Bool} (h:Crs code fr (k:Int) cr) (hc:¬ isCall code k):Crs code fr ((k:Int)+1) cr:=by
 unfold Crs at *
 rw[h]
 constructor
 ·rintro⟨i,h1,h2,h3⟩; exact⟨i,h1,by omega,h3⟩
 ·rintro⟨i,h1,h2,h3⟩; exact⟨i,h1,if e:i=k then absurd (e ▸ h3) hc else by omega,h3⟩
theorem Crs.end_ {code:List IrI} {fr j tt:Int} {cr:Bool} (h:Crs code fr j cr) (he:j=tt\/(j<=fr+1/\tt<=fr+1)):Crs code fr tt cr:=by
 unfold Crs at *
 rw[h]
 constructor
 ·rintro⟨i,h1,h2,h3⟩; exact⟨i,h1,by omega,h3⟩
 ·rintro⟨i,h1,h2,h3⟩; exact⟨i,h1,by omega,h3⟩
structure Sp where
 fr:Int
 tt:Int
 cr:Bool
open Classical in
def SpanIs (f:IrF) (r:Nat) (s:Sp):Prop:=∃ fr0,Bd (Sd f.code (r:Int)) f.code.length fr0 s.tt/\s.fr=(if (r:Int)<f.params/\Live f.code (r:Int) 0 then -1 else fr0)/\Crs f.code s.fr s.tt s.cr
theorem SpanIs.fn {f:IrF} {r:Nat} {s s':Sp} (h:SpanIs f r s) (h':SpanIs f r s'):s=s':=by
 obtain⟨a,h1,h2,h3⟩:=h
 obtain⟨b,g1,g2,g3⟩:=h'
 obtain⟨e1,e2⟩:=h1.fn g1
 subst e1
 obtain⟨fr,tt,cr⟩:=s
 obtain⟨fr',tt',cr'⟩:=s'
 simp only at e2 h2 g2 h3 g3
 subst e2
 have e3:fr=fr':=h2.trans g2.symm
 subst e3
 have e4:cr=cr':=by rw[Bool.eq_iff_iff];exact h3.trans g3.symm
 rw[e4]
def Sp.cells (s:Sp):List Value:=[.int .i64 s.fr,.int .i64 s.tt,.bool s.cr]
def spV (n:Nat) (S:Nat->Sp):List Value:=(List.range n).flatMap fun r=>(S r).cells
theorem spV_len (n:Nat) (S:Nat->Sp):(spV n S).length=n*3:=by
 unfold spV
 induction n with
 | zero=>rfl
 | succ n ih=>rw[List.range_succ,List.flatMap_append,List.length_append,ih];simp[Sp.cells];omega
theorem spV_succ (n:Nat) (S:Nat->Sp) (s:Sp) (h:S n=s):spV (n+1) S=spV n S ++ s.cells:=by
 unfold spV
 rw[List.range_succ,List.flatMap_append]
 simp[h]
theorem spV_congr {n:Nat} {S S':Nat->Sp} (h:∀ r,r<n->S r=S' r):spV n S=spV n S':=by
 induction n with
 | zero=>rfl
 | succ n ih=>rw[spV_succ n S _ rfl,spV_succ n S' _ rfl,ih (fun r hr=>h r (by omega)),h n (by omega)]
theorem spV_at {n r j:Nat} (S:Nat->Sp) (hr:r<n) (hj:j<3):(spV n S)[r*3+j]?=(S r).cells[j]?:=by
 induction n with
 | zero=>omega
 | succ n ih=>
  rw[spV_succ n S _ rfl]
  by_cases e:r=n
  ·subst e
   rw[List.getElem?_append_right (by rw[spV_len];omega),spV_len]
   congr 1;omega
  ·rw[List.getElem?_append_left (by rw[spV_len];omega)]
   exact ih (by omega)
def gvL:List Int:=[28,29,30,31,9,18,19,20,21,22,23,24,25,26,27,8]
def gv (k:Nat):Int:=gvL.getD k 0
theorem gv_pos:∀ k,k<16->0<gv k:=by decide +kernel
theorem gv_inj:∀ k,k<16->∀ j,j<16->gv k=gv j->k=j:=by decide +kernel
structure Pc where
 reg:Int
 spill:Int
def Pc.cells (p:Pc):List Value:=[.int .i64 p.reg,.int .i64 p.spill]
def up {α:Type} (f:Nat->α) (i:Nat) (x:α) (k:Nat):α:=if k=i then x else f k
theorem up_i {α:Type} (f:Nat->α) (i:Nat) (x:α):up f i x i=x:=if_pos rfl
theorem up_o {α:Type} (f:Nat->α) {i k:Nat} (x:α) (h:k≠i):up f i x k=f k:=if_neg h
structure Al where
 pl:Nat->Pc
 ow:Nat->Int
 sp:Int
def bk (S:Nat->Sp) (fr:Int) (ow:Nat->Int) (k:Nat):Int:=if ow k≠-1/\(S (ow k).toNat).tt<fr then -1 else ow k
def lo4 (cr:Bool):Nat:=if cr then 4 else 0
theorem lo4_le (cr:Bool):lo4 cr<=4:=by cases cr <;> decide
def Ls (S:Nat->Sp) (x y:Nat):Prop:=(S x).tt<(S y).tt\/((S x).tt=(S y).tt/\x<y)
theorem Ls.asym {S:Nat->Sp} {x y:Nat} (h:Ls S x y) (k:Ls S y x):False:=by unfold Ls at *; omega
theorem Ls.trans {S:Nat->Sp} {x y z:Nat} (h:Ls S x y) (k:Ls S y z):Ls S x z:=by unfold Ls at *; omega
def Fst (lo:Nat) (ow:Nat->Int) (k:Nat):Prop:=lo<=k/\k<16/\ow k=-1/\∀ j,lo<=j->j<k->ow j≠-1
def Ful (lo:Nat) (ow:Nat->Int):Prop:=∀ j,lo<=j->j<16->ow j≠-1
def Lng (S:Nat->Sp) (lo:Nat) (ow:Nat->Int) (k:Nat):Prop:=lo<=k/\k<16/\∀ j,lo<=j->j<16->j≠k->Ls S (ow j).toNat (ow k).toNat
def Gvn (S:Nat->Sp) (a:Al) (r:Nat) (b:Al):Prop:=
  (∃ k,Fst (lo4 (S r).cr) a.ow k/\b=⟨up a.pl r ⟨gv k,-1⟩,up a.ow k (r:Int),a.sp⟩)\/
  (Ful (lo4 (S r).cr) a.ow/\∃ k,Lng S (lo4 (S r).cr) a.ow k/\
    (((S r).tt<(S (a.ow k).toNat).tt/\b=⟨up (up a.pl (a.ow k).toNat ⟨0,a.sp⟩) r ⟨gv k,-1⟩,up a.ow k (r:Int),a.sp+1⟩)\/
     (¬ (S r).tt<(S (a.ow k).toNat).tt/\b=⟨up a.pl r ⟨0,a.sp⟩,a.ow,a.sp+1⟩)))
theorem Fst.fn {lo:Nat} {ow:Nat->Int} {k j:Nat} (h:Fst lo ow k) (g:Fst lo ow j):k=j:=by
 rcases Nat.lt_trichotomy k j with c | c | c
 ·exact absurd h.2.2.1 (g.2.2.2 k h.1 c)
 ·exact c
 ·exact absurd g.2.2.1 (h.2.2.2 j g.1 c)
theorem Fst.ful {lo:Nat} {ow:Nat->Int} {k:Nat} (h:Fst lo ow k) (g:Ful lo ow):False:=g k h.1 h.2.1 h.2.2.1
theorem Lng.fn {S:Nat->Sp} {lo:Nat} {ow:Nat->Int} {k j:Nat} (h:Lng S lo ow k) (g:Lng S lo ow j):k=j:=by
 by_cases c:k=j
 ·exact c
 ·exact ((g.2.2 k h.1 h.2.1 c).asym (h.2.2 j g.1 g.2.1 (fun e=>c e.symm))).elim
theorem Gvn.fn {S:Nat->Sp} {a b b':Al} {r:Nat} (h:Gvn S a r b) (g:Gvn S a r b'):b=b':=by
 rcases h with ⟨k,h1,h2⟩ | ⟨h0,k,h1,h2⟩ <;> rcases g with ⟨j,g1,g2⟩ | ⟨g0,j,g1,g2⟩
 ·have:=h1.fn g1;subst this;rw[h2,g2]
 ·exact (h1.ful g0).elim
 ·exact (g1.ful h0).elim
 ·have:=h1.fn g1;subst this
  rcases h2 with ⟨h3,h4⟩ | ⟨h3,h4⟩ <;> rcases g2 with ⟨g3,g4⟩ | ⟨g3,g4⟩
  ·rw[h4,g4]
  ·exact absurd h3 g3
  ·exact absurd g3 h3
  ·rw[h4,g4]
def Stp (S:Nat->Sp) (a:Al) (r:Nat) (b:Al):Prop:=Gvn S ⟨a.pl,bk S (S r).fr a.ow,a.sp⟩ r b
inductive Rn (S:Nat->Sp):Al->List Nat->Al->Prop
 | nil (a:Al):Rn S a [] a
 | snoc {a b c:Al} {l:List Nat} {r:Nat}:Rn S a l b->Stp S b r c->Rn S a (l ++ [r]) c
theorem Rn.fn {S:Nat->Sp} {a b b':Al} {l:List Nat} (h:Rn S a l b):Rn S a l b'->b=b':=by
 induction h generalizing b' with
 | nil=>
  intro g
  generalize e:([]:List Nat)=l at g
  cases g with
  | nil=>rfl
  | snoc _ _=>simp at e
 | @snoc b c l r h1 h2 ih=>
  intro g
  generalize e:l ++ [r]=m at g
  cases g with
  | nil=>simp at e
  | @snoc b2 _ l2 r2 g1 g2=>
   obtain⟨e1,e2⟩:=List.append_inj' e rfl
   simp at e2
   subst e1 e2
   have:=ih g1
   subst this
   exact h2.fn g2
def al0:Al:=⟨fun _=>⟨0,-1⟩,fun _=>-1,0⟩
structure Ok (S:Nat->Sp) (n:Nat) (a:Al) (fr:Int) (R:Nat->Prop):Prop where
 o1:∀ k,k<16->a.ow k=-1\/∃ q:Nat,q<n/\a.ow k=q/\a.pl q=⟨gv k,-1⟩
 o2:∀ q,q<n->0<(a.pl q).reg->fr<=(S q).tt->∃ k,k<16/\a.ow k=(q:Int)
 o3:∀ q,R q->a.pl q=⟨0,-1⟩
 o4:∀ q,0<(a.pl q).reg\/(a.pl q).reg=0
 o5:0<=a.sp
theorem Ok.start (S:Nat->Sp) (n:Nat) (fr:Int) (R:Nat->Prop):Ok S n al0 fr R:=⟨fun k hk=>.inl rfl,fun q hq h=>by simp[al0]at h,fun q hq=>rfl,fun q=>.inr rfl,by decide⟩
theorem Ok.back {S:Nat->Sp} {n:Nat} {a:Al} {fr:Int} {R:Nat->Prop} (h:Ok S n a fr R) {f:Int} (hf:fr<=f):Ok S n ⟨a.pl,bk S f a.ow,a.sp⟩ f R/\∀ k,k<16->bk S f a.ow k≠-1->f<=(S (bk S f a.ow k).toNat).tt:=by
 refine⟨⟨fun k hk=>?_,fun q hq h1 h2=>?_,h.o3,h.o4,h.o5⟩,fun k hk hn=>?_⟩
 ·show bk S f a.ow k=-1\/∃ q:Nat,q<n/\bk S f a.ow k=q/\_
  unfold bk
  split
  ·exact .inl rfl
  ·exact h.o1 k hk
 ·obtain⟨k,hk,e⟩:=h.o2 q hq h1 (by omega)
  refine⟨k,hk,?_⟩
  show bk S f a.ow k=_
  unfold bk
  rw[if_neg,e]
  rintro⟨_,c⟩
  rw[e]at c
  simp at c
  omega
 ·unfold bk at hn ⊢
  split at hn
  ·exact absurd rfl hn
  ·rename_i c
   rw[if_neg c]
   have:¬ (S (a.ow k).toNat).tt<f:=fun d=>c ⟨hn,d⟩
   omega
theorem Ok.own {S:Nat->Sp} {n:Nat} {a:Al} {fr:Int} {R:Nat->Prop} (h:Ok S n a fr R) {k:Nat} (hk:k<16) (hn:a.ow k≠-1):∃ q:Nat,q<n/\a.ow k=q/\(a.ow k).toNat=q/\a.pl q=⟨gv k,-1⟩:=by
 obtain⟨q,h1,h2,h3⟩:=(h.o1 k hk).resolve_left hn
 exact⟨q,h1,h2,by rw[h2];rfl,h3⟩
theorem Ok.oneRank {S:Nat->Sp} {n:Nat} {a:Al} {fr:Int} {R:Nat->Prop} (h:Ok S n a fr R) {k j q:Nat} (hk:k<16) (hj:j<16) (e:a.ow k=(q:Int)) (e2:a.ow j=(q:Int)):k=j:=by
 obtain⟨p,_,p2,p3⟩:=(h.o1 k hk).resolve_left (by omega)
 obtain⟨p',_,p2',p3'⟩:=(h.o1 j hj).resolve_left (by omega)
 have:p=p':=by omega
 subst this
 rw[p3]at p3'
 injection p3' with q1 q2
 exact gv_inj k hk j hj q1
theorem Ok.give {S:Nat->Sp} {n:Nat} {a b:Al} {f:Int} {R:Nat->Prop} {r:Nat} (h:Ok S n a f R) (hr:R r) (hrn:r<n) (hg:Gvn S a r b) (hfr:f=(S r).fr) (R':Nat->Prop) (hR:∀ q,R' q->R q/\q≠r):Ok S n b f R':=by
 have hr0:=h.o3 r hr
 have hnr:∀ k,k<16->a.ow k≠(r:Int):=fun k hk e=>by
  obtain⟨q,_,q2,q3⟩:=(h.o1 k hk).resolve_left (by omega)
  have:q=r:=by omega
  subst this
  rw[hr0]at q3
  injection q3 with q4
  have:=gv_pos k hk
  omega
 rcases hg with ⟨k,h1,rfl⟩ | ⟨h0,k,h1,⟨h2,rfl⟩ | ⟨h2,rfl⟩⟩
 ·refine⟨fun j hj=>?_,fun q hq g1 g2=>?_,fun q hq=>?_,fun q=>?_,h.o5⟩
  ·by_cases c:j=k
   ·subst c;exact .inr ⟨r,hrn,up_i _ _ _,up_i _ _ _⟩
   ·show up a.ow k _ j=-1\/∃ q:Nat,q<n/\up a.ow k _ j=q/\up a.pl r _ q=_
    rw[up_o _ _ c]
    rcases h.o1 j hj with e | ⟨q,q1,q2,q3⟩
    ·exact .inl e
    ·refine .inr ⟨q,q1,q2,?_⟩
     rw[up_o _ _ (fun e=>hnr j hj (by rw[q2,e]))];exact q3
  ·dsimp only at g1 ⊢
   by_cases c:q=r
   ·subst c;exact⟨k,h1.2.1,up_i _ _ _⟩
   ·rw[up_o _ _ c]at g1
    obtain⟨j,hj,e⟩:=h.o2 q hq g1 g2
    refine⟨j,hj,?_⟩
    rw[up_o _ _ (fun e2=>by rw[e2,h1.2.2.1]at e;omega)];exact e
  ·show up a.pl r _ q=_
   rw[up_o _ _ (hR q hq).2];exact h.o3 q (hR q hq).1
  ·dsimp only
   by_cases c:q=r
   ·subst c;rw[up_i];exact .inl (gv_pos k h1.2.1)
   ·rw[up_o _ _ c];exact h.o4 q
 ·obtain⟨o,ho1,ho2,ho3,ho4⟩:=h.own h1.2.1 (h0 k h1.1 h1.2.1)
  rw[ho3]
  have hor:o≠r:=fun e=>hnr k h1.2.1 (by rw[ho2,e])
  refine⟨fun j hj=>?_,fun q hq g1 g2=>?_,fun q hq=>?_,fun q=>?_,by have:=h.o5;show 0<=a.sp+1;omega⟩
  ·by_cases c:j=k
   ·subst c;exact .inr ⟨r,hrn,up_i _ _ _,up_i _ _ _⟩
   ·show up a.ow k _ j=-1\/∃ q:Nat,q<n/\up a.ow k _ j=q/\up (up a.pl o _) r _ q=_
    rw[up_o _ _ c]
    rcases h.o1 j hj with e | ⟨q,q1,q2,q3⟩
    ·exact .inl e
    ·refine .inr ⟨q,q1,q2,?_⟩
     rw[up_o _ _ (fun e=>hnr j hj (by rw[q2,e])),up_o _ _ (fun e=>c (h.oneRank hj h1.2.1 (q2.trans (by rw[e])) ho2))];exact q3
  ·dsimp only at g1 ⊢
   by_cases c:q=r
   ·subst c;exact⟨k,h1.2.1,up_i _ _ _⟩
   ·rw[up_o _ _ c]at g1
    by_cases c2:q=o
    ·subst c2;rw[up_i]at g1;exact absurd g1 (Int.lt_irrefl 0)
    ·rw[up_o _ _ c2]at g1
     obtain⟨j,hj,e⟩:=h.o2 q hq g1 g2
     refine⟨j,hj,?_⟩
     rw[up_o _ _ (fun e2=>by rw[e2,ho2]at e;omega)];exact e
  ·show up (up a.pl o _) r _ q=_
   have hq0:=h.o3 q (hR q hq).1
   rw[up_o _ _ (hR q hq).2,up_o _ _ (fun e=>by rw[e,ho4]at hq0;injection hq0 with q4;have:=gv_pos k h1.2.1;omega)];exact hq0
  ·dsimp only
   by_cases c:q=r
   ·subst c;rw[up_i];exact .inl (gv_pos k h1.2.1)
   ·rw[up_o _ _ c]
    by_cases c2:q=o
    ·subst c2;rw[up_i];exact .inr rfl
    ·rw[up_o _ _ c2];exact h.o4 q
 ·refine⟨fun j hj=>?_,fun q hq g1 g2=>?_,fun q hq=>?_,fun q=>?_,by have:=h.o5;show 0<=a.sp+1;omega⟩
  ·rcases h.o1 j hj with e | ⟨q,q1,q2,q3⟩
   ·exact .inl e
   ·refine .inr ⟨q,q1,q2,?_⟩
    show up a.pl r _ q=_
    rw[up_o _ _ (fun e=>hnr j hj (by rw[q2,e]))];exact q3
  ·dsimp only at g1 ⊢
   by_cases c:q=r
   ·subst c;rw[up_i]at g1;exact absurd g1 (Int.lt_irrefl 0)
   ·rw[up_o _ _ c]at g1;exact h.o2 q hq g1 g2
  ·show up a.pl r _ q=_
   rw[up_o _ _ (hR q hq).2];exact h.o3 q (hR q hq).1
  ·dsimp only
   by_cases c:q=r
   ·subst c;rw[up_i];exact .inr rfl
   ·rw[up_o _ _ c];exact h.o4 q
def Hd (S:Nat->Sp) (a:Al) (f:Int) (q:Nat):Prop:=0<(a.pl q).reg/\f<=(S q).tt
theorem Ok.held {S:Nat->Sp} {n:Nat} {a:Al} {f:Int} {R:Nat->Prop} (h:Ok S n a f R) (hf:∀ k,k<16->a.ow k≠-1->f<=(S (a.ow k).toNat).tt) {k:Nat} (hk:k<16):a.ow k=-1↔¬ ∃ q,q<n/\Hd S a f q/\(a.pl q).reg=gv k:=by
 constructor
 ·rintro e ⟨q,q1,⟨q2,q3⟩,q4⟩
  obtain⟨j,hj,e2⟩:=h.o2 q q1 q2 q3
  obtain⟨p,_,p2,p3⟩:=(h.o1 j hj).resolve_left (by omega)
  have:p=q:=by omega
  subst this
  rw[p3]at q4
  have:=gv_inj j hj k hk q4
  subst this
  omega
 ·intro hn
  rcases h.o1 k hk with e | ⟨q,q1,q2,q3⟩
  ·exact e
  ·refine absurd ⟨q,q1,⟨by rw[q3];exact gv_pos k hk,?_⟩,by rw[q3]⟩ hn
   have:=hf k hk (by omega)
   rw[q2]at this
   exact this
theorem Ok.holder {S:Nat->Sp} {n:Nat} {a:Al} {f:Int} {R:Nat->Prop} (h:Ok S n a f R) {q:Nat} (hq:q<n) (hh:Hd S a f q):∃ k,k<16/\a.ow k=(q:Int)/\a.pl q=⟨gv k,-1⟩:=by
 obtain⟨k,hk,e⟩:=h.o2 q hq hh.1 hh.2
 obtain⟨p,_,p2,p3⟩:=(h.o1 k hk).resolve_left (by omega)
 have:p=q:=by omega
 subst this
 exact⟨k,hk,e,p3⟩
def Wst (S:Nat->Sp) (P:Nat->Prop) (h:List Nat) (w:Int):Prop:=(w=-1/\∀ q,q∈h->¬ P q)\/∃ q:Nat,q∈h/\w=q/\P q/\∀ p,p∈h->P p->p=q\/Ls S p q
theorem Wst.nil (S:Nat->Sp) (P:Nat->Prop):Wst S P [] (-1):=.inl ⟨rfl,fun q hq=>absurd hq List.not_mem_nil⟩
theorem Wst.no {S:Nat->Sp} {P:Nat->Prop} {h:List Nat} {w:Int} (H:Wst S P h w) {x:Nat} (hx:¬ P x):Wst S P (h ++ [x]) w:=by
 rcases H with ⟨h1,h2⟩ | ⟨q,h1,h2,h3,h4⟩
 ·exact .inl ⟨h1,fun q hq hp=>by rcases List.mem_append.1 hq with c | c;exact h2 q c hp;simp at c;subst c;exact hx hp⟩
 ·exact .inr ⟨q,List.mem_append_left _ h1,h2,h3,fun p hp hpp=>by rcases List.mem_append.1 hp with c | c;exact h4 p c hpp;simp at c;subst c;exact absurd hpp hx⟩
theorem Wst.yes {S:Nat->Sp} {P:Nat->Prop} {h:List Nat} {w:Int} (H:Wst S P h w) {x:Nat} (hx:P x) (hasc:∀ q∈h,q<x) (ht:w<0\/(S w.toNat).tt<=(S x).tt):Wst S P (h ++ [x]) (x:Int):=by
 refine .inr ⟨x,List.mem_append_right _ (List.mem_singleton.2 rfl),rfl,hx,fun p hp hpp=>?_⟩
 rcases List.mem_append.1 hp with c | c
 ·refine .inr ?_
  rcases H with ⟨h1,h2⟩ | ⟨q,h1,h2,h3,h4⟩
  ·exact absurd hpp (h2 p c)
  ·have hq:(S q).tt<=(S x).tt:=by rcases ht with e | e;omega;rw[h2]at e;exact e
   have:=hasc q h1
   have hqx:Ls S q x:=by unfold Ls;omega
   rcases h4 p c hpp with e | e
   ·rw[e];exact hqx
   ·exact e.trans hqx
 ·simp at c;exact .inl c
theorem Wst.less {S:Nat->Sp} {P:Nat->Prop} {h:List Nat} {w:Int} (H:Wst S P h w) {x:Nat} (ht:0<=w/\(S x).tt<(S w.toNat).tt):Wst S P (h ++ [x]) w:=by
 rcases H with ⟨h1,h2⟩ | ⟨q,h1,h2,h3,h4⟩
 ·omega
 ·refine .inr ⟨q,List.mem_append_left _ h1,h2,h3,fun p hp hpp=>?_⟩
  rcases List.mem_append.1 hp with c | c
  ·exact h4 p c hpp
  ·simp at c;subst c
   have:=ht.2
   rw[h2]at this
   exact .inr (.inl this)
def Ord (S:Nat->Sp) (n:Nat) (o:List Nat):Prop:=o.Pairwise (Lx fun r=>(S r).fr)/\∀ r,r∈o↔r<n/\(S r).tt≠-1
theorem pairwise_uniq {R:Nat->Nat->Prop} (irr:∀ x,¬ R x x) (tr:∀ x y z,R x y->R y z->R x z):∀ (a b:List Nat),a.Pairwise R->b.Pairwise R->(∀ x,x∈a↔x∈b)->a=b
 | [],[],_,_,_=>rfl
 | [],y :: b,_,_,h=>absurd ((h y).2 List.mem_cons_self) List.not_mem_nil
 | x :: a,[],_,_,h=>absurd ((h x).1 List.mem_cons_self) List.not_mem_nil
 | x :: a,y :: b,ha,hb,h=>by
  obtain⟨a1,a2⟩:=List.pairwise_cons.1 ha
  obtain⟨b1,b2⟩:=List.pairwise_cons.1 hb
  have e:x=y:=by
   rcases List.mem_cons.1 ((h x).1 List.mem_cons_self) with c | c
   ·exact c
   ·rcases List.mem_cons.1 ((h y).2 List.mem_cons_self) with d | d
    ·exact d.symm
    ·exact (irr x (tr x y x (a1 y d) (b1 x c))).elim
  subst e
  congr 1
  refine pairwise_uniq irr tr a b a2 b2 fun z=>⟨fun hz=>?_,fun hz=>?_⟩
  ·rcases List.mem_cons.1 ((h z).1 (List.mem_cons_of_mem _ hz)) with c | c
   ·subst c;exact (irr _ (a1 _ hz)).elim
   ·exact c
  ·rcases List.mem_cons.1 ((h z).2 (List.mem_cons_of_mem _ hz)) with c | c
   ·subst c;exact (irr _ (b1 _ hz)).elim
   ·exact c
theorem Ord.fn {S:Nat->Sp} {n:Nat} {o o':List Nat} (h:Ord S n o) (h':Ord S n o'):o=o':=
 pairwise_uniq (fun _=>Lx.irrefl) (fun _ _ _=>Lx.trans) o o' h.1 h'.1 fun x=>(h.2 x).trans (h'.2 x).symm
end Go.Proofs.YtcgfgmlfbgbkfaaGreatDoor.Pl
namespace Go.Proofs.YtcgfgmlfbgbkfaaGreatDoor.W
open Go.RowKit
theorem run_copy_row2 {P:Program} (w:World) (dT sT ty elem:TypeId) (g o dLen dCap:Nat) (a:Addr) (sLen sCap:Nat) (cur:Array Value) (t:TypeId) (cs:List Value) (m:Nat) (hm:m=Nat.min sLen dLen)
  (hu:P.underlying dT=some (.slice elem)) (hs:(P.info? elem).map (·.size)=some 2)
  (hg:w.heap[g]?=some (.cells cur t (0,0))) (hn:cs.length=m*2)
  (hsrc:∀ j v,cs[j]?=some v->w.cell? (a.add j)=some v) (hfit:o+cs.length<=cur.size) (h1:∀ v∈cs,v.oneCell'=true) :
  (Builtin.copy_ #[dT,sT] ty #[.slice (some ⟨g,o,none⟩) dLen dCap,.slice (some a) sLen sCap]).run P w =
   .ok (goInt m) (w.setRow g (cur.toList.take o ++ cs ++ cur.toList.drop (o+cs.length)).toArray):=by
 have hl:=run_loadCells_list (P:=P) w a cs hsrc
 have hst:=run_storeCells_at P g o t cs 0 cur w hg (by simpa using hfit) h1
 cases hq:P.info? elem with
 | none=>simp[hq]at hs
 | some i=>
  have hi:i.size=2:=by simpa [hq] using hs
  simp only[Builtin.copy_,run_underlying hu,Builtin.lenOf,Builtin.firstCells,sizeOf,typeInfo,hq,hi,<- hm,<- hn,hl,hst,Sem.run_bind,Sem.run_pure,Result.andThen_ok]
  simp[run_underlying hu,Builtin.lenOf,Builtin.firstCells,sizeOf,typeInfo,hq,hi,<- hm,<- hn,hl,hst]
def plc (m:Nat):List Value:=(List.replicate m [Value.int .i64 0,Value.int .i64 (-1)]).flatten
theorem plc_len (m:Nat):(plc m).length=m*2:=by
 unfold plc
 induction m with
 | zero=>rfl
 | succ m ih=>rw[List.replicate_succ,List.flatten_cons,List.length_append,ih];simp;omega
theorem plc_add (m k:Nat):plc (m+k)=plc m ++ plc k:=by
 unfold plc
 rw[<- List.replicate_append_replicate,List.flatten_append]
theorem plc_at {m:Nat}:∀ {j:Nat},j<m*2->(plc m)[j]?=some (.int .i64 (if j % 2=0 then 0 else -1)):=by
 induction m with
 | zero=>intro j hj;omega
 | succ m ih=>
  intro j hj
  have e:plc (m+1)=Value.int .i64 0 :: Value.int .i64 (-1) :: plc m:=by unfold plc;rw[List.replicate_succ,List.flatten_cons];rfl
  rw[e]
  match j,hj with
  | 0,_=>rfl
  | 1,_=>rfl
  | j+2,hj=>rw[List.getElem?_cons_succ,List.getElem?_cons_succ,ih (by omega),show (j+2) % 2=j % 2 by omega]
theorem plc_one:plc 1=[.int .i64 0,.int .i64 (-1)]:=rfl
theorem plc_mem {m:Nat} {v:Value} (h:v∈plc m):v.oneCell'=true:=by
 unfold plc at h
 obtain⟨l,h1,h2⟩:=List.mem_flatten.1 h
 have:=List.eq_of_mem_replicate h1
 subst this
 simp at h2
 rcases h2 with e | e <;> subst e <;> rfl
def prL (n m:Nat):List Value:=plc m ++ List.replicate ((n-m)*2) (.int .i64 0)
theorem prL_len {n m:Nat} (h:m<=n):(prL n m).length=n*2:=by simp[prL,plc_len];omega
theorem prL_splice {n m k:Nat} (h:m+k<=n):(prL n m).take (m*2) ++ plc k ++ (prL n m).drop (m*2+(plc k).length)=prL n (m+k):=by
 unfold prL
 rw[plc_len,List.take_append_of_le_length (by rw[plc_len];exact Nat.le_refl _),List.take_of_length_le (by rw[plc_len];exact Nat.le_refl _),List.drop_append,List.drop_of_length_le (by rw[plc_len];omega),List.nil_append,plc_len,List.drop_replicate,plc_add]
 congr 2
 omega
theorem prL_full (n:Nat):prL n n=plc n:=by simp[prL]
theorem prL_none (n:Nat):prL n 0=List.replicate (n*2) (.int .i64 0):=by simp[prL,plc]
theorem Tryz.infoplaceL:(Tryz.prog.info? 77).map (fun i=>(i.zero,i.size,i.bytes))=some (some (.agg #[.int .i64 0,.int .i64 0]),2,16):=by kernel_rfl
theorem madeCells_two (n:Nat):madeCells (Value.agg #[.int .i64 0,.int .i64 0]).cells (n*2)=(prL n 0).toArray:=by
 apply Array.ext'
 rw[prL_none]
 apply List.ext_getElem?
 intro j
 by_cases hj:j<n*2
 ·rcases (show j % 2=0\/j % 2=1 by omega) with e | e <;> simp[madeCells,hj,Value.cells,e]
 ·simp[madeCells,hj]
def RpSaid (n:Nat) (w:World) (e:Ending) (w':World):Prop:=e=.returned (.slice (some ⟨w.heap.size,0,none⟩) n n)/\w'.heap[w.heap.size]?=some (.cells (plc n).toArray 77 (0,0))/\Below w.heap.size w w'
set_option maxRecDepth 100000 in
theorem repeatP_is (b n:Nat) (hn:n<=8000) (w:World) (hb0:w.cell? ⟨b,0,none⟩=some (.int .i64 0)) (hb:w.cell? ⟨b,1,none⟩=some (.int .i64 (-1))):Calls Tryz.prog 81 #[.slice (some ⟨b,0,none⟩) 1 1,.int .i64 (n:Int)] w fun e w'=>RpSaid n w e w':=by
 have hn0:¬ ((n:Int)<0):=by omega
 have hcv:IntKind.u64.wrap (n:Int)=(n:Int):=by rw[IntKind.wrap_u64];omega
 have hbl:b<w.heap.size:=block_lt_of_cell hb
 obtain⟨i0,hi0,hz0,hz1,hz2⟩:=info_parts Tryz.infoplaceL
 have hsz:(Tryz.prog.info? 77).map (·.size)=some 2:=by rw[hi0];simp[hz1]
 have HSZ:Hid ((Tryz.prog.info? 77).map (·.size)=some 2):=hsz
 have hmk:∀ u:World,(Instr.makeSlice 42 (.int .i64 (n:Int)) (.int .i64 (n:Int))).run Tryz.prog u=.ok (.slice (some ⟨u.heap.size,0,none⟩) n n) (u.alloc (.cells (madeCells (Value.agg #[.int .i64 0,.int .i64 0]).cells (n*2)) 77)):=fun u=>by
  have:=run_makeSlice u 42 77 i0 _ Tryz.underlying42 hi0 hz0 .i64 .i64 (n:Int) (n:Int) (by omega) (by omega) (by rw[hz1];simp;omega) (by rw[hz2];omega) (by omega)
  rw[hz1]at this
  simpa using this
 rw[madeCells_two]at hmk
 have HB:Hid (w.cell? ⟨b,0,none⟩=some (.int .i64 0)/\w.cell? ⟨b,1,none⟩=some (.int .i64 (-1))/\b<w.heap.size):=⟨hb0,hb,hbl⟩
 clear hi0 hz0 hz1 hz2 hb hbl hsz hb0
 have HCP:Hid (∀ (u:World) (m:Nat),1<=m->m<n->u.heap[w.heap.size]?=some (.cells (prL n m).toArray 77 (0,0))->Below w.heap.size w u->∃ u',(Builtin.copy_ #[42,42] 3 #[.slice (some ⟨w.heap.size,m*2,none⟩) (n-m) (n-m),.slice (some ⟨w.heap.size,0,none⟩) m n]).run Tryz.prog u=.ok (.int .i64 ((min m (n-m):Nat):Int)) u'/\u'.heap[w.heap.size]?=some (.cells (prL n (m+min m (n-m))).toArray 77 (0,0))/\Below w.heap.size w u'):=fun u m h1 h2 hu hbu=>by
  have:=run_copy_row2 (P:=Tryz.prog) u 42 42 3 77 w.heap.size (m*2) (n-m) (n-m) ⟨w.heap.size,0,none⟩ m n (prL n m).toArray 77 (plc (min m (n-m))) (min m (n-m)) rfl Tryz.underlying42 HSZ.out hu (plc_len _) (fun j v hj=>by
   have hjl:j<min m (n-m)*2:=by rw[<- plc_len];exact (List.getElem?_eq_some_iff.1 hj).1
   have:(⟨w.heap.size,0,none⟩:Addr).add j=⟨w.heap.size,j,none⟩:=by unfold Addr.add;split <;> simp_all
   rw[this,cell_of_row u _ j _ 77 (0,0) hu,<- hj]
   show (prL n m).toArray[j]?=_
   rw[List.getElem?_toArray,plc_at hjl]
   unfold prL
   rw[List.getElem?_append_left (by rw[plc_len];omega),plc_at (by omega)]) (by rw[plc_len];simp;rw[prL_len (by omega)];omega) (fun v hv=>plc_mem hv)
  refine⟨_,this,?_,below_setRow hbu (Nat.le_refl _) _⟩
  rw[setRow_heap u _ _ _ 77 _ hu]
  have e:=prL_splice (n:=n) (m:=m) (k:=min m (n-m)) (by omega)
  rw[<- e]
 obtain⟨k1,hk1⟩:∃ k1,k1=Nat.min 1 n:=⟨_,rfl⟩
 obtain⟨u1,hc1,H1⟩:∃ u1,(Builtin.copy_ #[42,42] 3 #[.slice (some ⟨w.heap.size,0,none⟩) n n,.slice (some ⟨b,0,none⟩) 1 1]).run Tryz.prog (w.alloc (.cells (prL n 0).toArray 77))=.ok (.int .i64 (k1:Int)) u1/\Hid (u1.heap[w.heap.size]?=some (.cells (prL n k1).toArray 77 (0,0))/\Below w.heap.size w u1):=by
  have hu:=heap_alloc_new w (.cells (prL n 0).toArray 77)
  have hk2:k1<=1/\k1<=n:=by rw[hk1];exact⟨Nat.min_le_left _ _,Nat.min_le_right _ _⟩
  have:=run_copy_row2 (P:=Tryz.prog) (w.alloc (.cells (prL n 0).toArray 77)) 42 42 3 77 w.heap.size 0 n n ⟨b,0,none⟩ 1 1 (prL n 0).toArray 77 (plc k1) k1 hk1 Tryz.underlying42 HSZ.out hu (plc_len _) (fun j v hj=>by
   have hjl:j<k1*2:=by rw[<- plc_len];exact (List.getElem?_eq_some_iff.1 hj).1
   rw[plc_at hjl]at hj
   match j,hjl with
   | 0,_=>simp at hj;subst hj;exact ((below_alloc w _).cell (p:=⟨b,0,none⟩) HB.out.2.2).trans HB.out.1
   | 1,_=>simp at hj;subst hj;exact ((below_alloc w _).cell (p:=⟨b,1,none⟩) HB.out.2.2).trans HB.out.2.1
   | j+2,hh=>omega) (by rw[plc_len];simp;rw[prL_len (by omega)];omega) (fun v hv=>plc_mem hv)
  refine⟨_,this,?_,below_setRow (below_alloc _ _) (Nat.le_refl _) _⟩
  rw[setRow_heap _ _ _ _ 77 _ hu]
  have e:=prL_splice (n:=n) (m:=0) (k:=k1) (by omega)
  rw[show prL n k1=prL n (0+k1) by rw[Nat.zero_add],<- e]
 have hk3:k1<=n/\(k1=0->n=0)/\(k1:Int)<=1:=by
  rw[hk1]
  refine⟨Nat.min_le_right _ _,fun c=>?_,?_⟩
  ·rcases Nat.eq_zero_or_pos n with e | e
   ·exact e
   ·have:Nat.min 1 n=1:=Nat.min_eq_left e
    omega
  ·have h:Nat.min 1 n<=1:=Nat.min_le_left 1 n
   show ((Nat.min 1 n:Nat):Int)<=1
   omega
 clear HB HSZ hk1
 go_enter Tryz.func81,Tryz.ntmps81
 go_wp2_with (go_at_call 103;refine (mul_is n (by omega) _).mono ?_;rintro e z1 ⟨rfl,g1⟩; rw[g1];clear g1 z1)
 go_loopw [8] (fun t wr=>∃ m:Nat,(m=0->n=0)/\m<=n/\t=.int .i64 (m:Int)/\Hid (wr.heap[w.heap.size]?=some (.cells (prL n m).toArray 77 (0,0))/\Below w.heap.size w wr)) (fun t _=>n-(intOf t).toNat)
 case atStart=>exact⟨k1,hk3.2.1,hk3.1,rfl,H1⟩
 case round=>
  obtain⟨m,hm1,hmn,rfl,HW⟩:=hrel
  by_cases hlt:m<n
  rotate_left
  ·have hmi:¬ ((m:Int)<(n:Int)):=by omega
   have hme:m=n:=by omega
   have HE:Hid (wr.heap[w.heap.size]?=some (.cells (plc n).toArray 77 (0,0))):=by
    have h0:=HW.out.1
    rw[hme,prL_full]at h0
    exact h0
   clear hme hm1
   go_wp2_with fail
   go_ret
   exact⟨rfl,HE.out,HW.out.2⟩
  have hmi:(m:Int)<(n:Int):=by omega
  obtain⟨u2,hc2,h21,h22⟩:=HCP.out wr.drew m (by omega) hlt HW.out.1 (Below.drew HW.out.2)
  obtain⟨k,hk⟩:∃ k,k=min m (n-m):=⟨_,rfl⟩
  have hk1:1<=k/\m+k<=n:=by omega
  rw[<- hk]at hc2 h21
  have H2:Hid (u2.heap[w.heap.size]?=some (.cells (prL n (m+k)).toArray 77 (0,0))/\Below w.heap.size w u2):=⟨h21,h22⟩
  have hwk:IntKind.i64.wrap ((m:Int)+(k:Int))=(m:Int)+(k:Int):=by rw[IntKind.wrap_i64];omega
  clear hk h21 h22 HCP hc1 hm1 hk3
  go_upto_region 9 with fail
  go_region
  go_wp2_with fail
  go_roundw
  case rel=>exact⟨m+k,by omega,by omega,by go_num,H2⟩
  case measure=>simp[intOf];omega
theorem nanC_is (x:Int) (w:World):Calls Tryz.prog 122 #[.int .i64 x] w fun e w'=>e=.returned (.bool false)/\w'=w:=by
 go_enter Tryz.func122,Tryz.ntmps122
 go_wp2
 go_ret
 exact⟨by simp,rfl⟩
theorem nanS_is (x:Int) (w:World):Calls Tryz.prog 117 #[.int .i64 x] w fun e w'=>e=.returned (.bool false)/\w'=w:=by
 go_enter Tryz.func117,Tryz.ntmps117
 go_wp2
 go_ret
 exact⟨by simp,rfl⟩
theorem less_is (x y:Int) (w:World):Calls Tryz.prog 116 #[.int .i64 x,.int .i64 y] w fun e w'=>e=.returned (.bool (decide (x<y)))/\w'=w:=by
 go_enter Tryz.func116,Tryz.ntmps116
 go_wp2_with (go_at_call 122;refine (nanC_is _ _).mono ?_;rintro e u ⟨rfl,rfl⟩)
 go_ret
 exact⟨by first | rfl | simp,rfl⟩
def Found (xs:List Int) (n:Nat) (t:Int) (e:Ending):Prop:=∃ (k:Nat) (b:Bool),e=.returned (.tuple #[.int .i64 (k:Int),.bool b])/\k<=n/\(∀ i,i<k->xs.getD i 0<t)/\∀ i,k<=i->i<n->t<=xs.getD i 0
set_option maxRecDepth 100000 in
theorem search_is (g n c:Nat) (xs:List Int) (t:Int) (w:World) (hn:n=xs.length) (hb:n<=10000) (hc:∀ i,i<n->w.cell? ⟨g,i,none⟩=some (.int .i64 (xs.getD i 0))) (hs:∀ i j,i<=j->j<n->xs.getD i 0<=xs.getD j 0) :
  Calls Tryz.prog 102 #[.slice (some ⟨g,0,none⟩) n c,.int .i64 t] w fun e w'=>Found xs n t e/\w'=w:=by
 have HS:Hid (∀ i j,i<=j->j<n->xs.getD i 0<=xs.getD j 0):=hs
 have HC:Hid (∀ i,i<n->w.cell? ⟨g,i,none⟩=some (.int .i64 (xs.getD i 0))):=hc
 clear hs hc hn
 go_enter Tryz.func102,Tryz.ntmps102
 go_wp2_with fail
 go_loopw [7,8] (fun p q W=>W=w/\∃ i j:Nat,p=.int .i64 (i:Int)/\q=.int .i64 (j:Int)/\i<=j/\j<=n/\Hid ((∀ r,r<i->xs.getD r 0<t)/\∀ r,j<=r->r<n->t<=xs.getD r 0)) (fun p q _=>(intOf q).toNat-(intOf p).toNat)
 case atStart=>exact⟨rfl,0,n,rfl,by go_num,Nat.zero_le _,Nat.le_refl _,fun r hr=>absurd hr (Nat.not_lt_zero _),fun r h1 h2=>by omega⟩
 case round=>
  obtain⟨rfl,i,j,rfl,rfl,hij,hjn,HX⟩:=hrel
  by_cases hlt:i<j
  ·have hli:(i:Int)<(j:Int):=by omega
   obtain⟨m,hm⟩:∃ m:Nat,m=(i+j) / 2:=⟨_,rfl⟩
   have e1:((i:Int)+(j:Int)) / 2=(m:Int):=by omega
   have hm1:m<n:=by omega
   have hm2:(m:Int)<(n:Int):=by omega
   have c1:=HC.out m hm1
   obtain⟨x,hxx⟩:∃ x,x=xs.getD m 0:=⟨_,rfl⟩
   rw[<- hxx]at c1
   have HXX:Hid (x=xs.getD m 0):=hxx
   clear hxx
   have HM:Hid (i<=m/\m<j):=⟨by omega,by omega⟩
   clear hm
   by_cases hx:x<t
   ·have hd:decide (x<t)=true:=by simp[hx]
    go_wp2_with (go_at_call 116;refine (less_is _ _ _).mono ?_;rintro e u ⟨rfl,rfl⟩)
    refine⟨⟨trivial,m+1,j,by go_num,rfl,by have:=HM.out;omega,hjn,fun r hr=>?_,HX.out.2⟩,?_⟩
    ·have:=HS.out r m (by omega) hm1;have:=HXX.out;omega
    ·have:=HM.out;simp[intOf];omega
   ·have hd:decide (x<t)=false:=by simp;omega
    go_wp2_with (go_at_call 116;refine (less_is _ _ _).mono ?_;rintro e u ⟨rfl,rfl⟩)
    refine⟨⟨trivial,i,m,rfl,by go_num,HM.out.1,by omega,HX.out.1,fun r h1 h2=>?_⟩,?_⟩
    ·have:=HS.out m r h1 h2;have:=HXX.out;omega
    ·have:=HM.out;simp[intOf];omega
  ·have hli:¬ (i:Int)<(j:Int):=by omega
   have hE:∃ (k:Nat),k=i/\k<=n/\(∀ r,r<k->xs.getD r 0<t)/\∀ r,k<=r->r<n->t<=xs.getD r 0:=⟨i,rfl,by omega,HX.out.1,fun r h1 h2=>HX.out.2 r (by omega) h2⟩
   have HE:Hid (i<=n/\(∀ r,r<i->xs.getD r 0<t)/\∀ r,i<=r->r<n->t<=xs.getD r 0):=⟨by omega,HX.out.1,fun r h1 h2=>HX.out.2 r (by omega) h2⟩
   clear hE
   by_cases hin:i<n
   ·have hii:(i:Int)<(n:Int):=by omega
    have c1:=HC.out i hin
    obtain⟨x,hxx⟩:∃ x,x=xs.getD i 0:=⟨_,rfl⟩
    rw[<- hxx]at c1
    clear hxx
    by_cases hx:x=t
    ·have hx1:(x == t)=true:=by simp[hx]
     go_wp2_with fail
     refine bodyPost_ret (results_tmp2 rfl _ _ _) rfl ?_
     exact⟨⟨i,_,rfl,HE.out⟩,rfl⟩
    ·have hx1:(x == t)=false:=by simp[hx]
     go_wp2_with (go_at_call 117;refine (nanS_is _ _).mono ?_;rintro e u ⟨rfl,rfl⟩)
     refine bodyPost_ret (results_tmp2 rfl _ _ _) rfl ?_
     exact⟨⟨i,_,rfl,HE.out⟩,rfl⟩
   ·have hii:¬ (i:Int)<(n:Int):=by omega
    go_wp2_with fail
    refine bodyPost_ret (results_tmp2 rfl _ _ _) rfl ?_
    exact⟨⟨i,_,rfl,HE.out⟩,rfl⟩
def IR (g n:Nat) (d:Nat->Nat) (u:World):Prop:=∃ cs,u.heap[g]?=some (.cells cs 3 (0,0))/\n<=cs.size/\∀ i,i<n->cs[i]?=some (.int .i64 ((d i:Nat):Int))
theorem IR.lt {g n:Nat} {d:Nat->Nat} {u:World} (h:IR g n d u):g<u.heap.size:=by
 obtain⟨cs,h1,_⟩:=h;exact (Array.getElem?_eq_some_iff.1 h1).1
theorem IR.at_ {g n:Nat} {d:Nat->Nat} {u:World} (h:IR g n d u) {i:Nat} (hi:i<n):u.cell? ⟨g,i,none⟩=some (.int .i64 ((d i:Nat):Int)):=by
 obtain⟨cs,h1,h2,h3⟩:=h;rw[cell_of_row u g i _ _ (0,0) h1];exact h3 i hi
theorem IR.fz {g n:Nat} {d:Nat->Nat} {u:World} (h:IR g n d u) (q:Nat):u.frozen? ⟨g,q,none⟩=false:=by
 obtain⟨cs,h1,h2,h3⟩:=h;exact frozen_of_row u _ q _ _ h1
theorem IR.keep {g n:Nat} {d:Nat->Nat} {u u':World} (h:IR g n d u) (hb:u'.heap[g]?=u.heap[g]?):IR g n d u':=by
 obtain⟨cs,h1,h2,h3⟩:=h;exact⟨cs,hb.trans h1,h2,h3⟩
theorem IR.congr {g n:Nat} {d d':Nat->Nat} {u:World} (h:IR g n d u) (hd:∀ i,i<n->d' i=d i):IR g n d' u:=by
 obtain⟨cs,h1,h2,h3⟩:=h;exact⟨cs,h1,h2,fun i hi=>by rw[hd i hi];exact h3 i hi⟩
theorem IR.swap {g n:Nat} {d:Nat->Nat} {u:World} (h:IR g n d u) {i j:Nat} (hi:i<n) (hj:j<n) (hij:i≠j):IR g n (Pl.sw d i j) ((u.setCell ⟨g,i,none⟩ (.int .i64 ((d j:Nat):Int))).setCell ⟨g,j,none⟩ (.int .i64 ((d i:Nat):Int))):=by
 obtain⟨cs,h1,h2,h3⟩:=h
 refine⟨_,heap_setCell_same _ g j _ _ _ (heap_setCell_same _ g i _ _ _ h1),by simp;exact h2,fun k hk=>?_⟩
 unfold Pl.sw
 by_cases e:k=j
 ·subst e
  rw[Array.getElem?_setIfInBounds_self_of_lt (by simp;omega),if_neg (by omega),if_pos rfl]
 ·rw[Array.getElem?_setIfInBounds_ne (by omega)]
  by_cases e2:k=i
  ·subst e2
   rw[Array.getElem?_setIfInBounds_self_of_lt (by omega),if_pos rfl]
  ·rw[Array.getElem?_setIfInBounds_ne (by omega),if_neg e2,if_neg e];exact h3 k hk
theorem IR.swap' {g n:Nat} {d:Nat->Nat} {u:World} (h:IR g n d u) {i j:Nat} (hi:i<n) (hj:j<n) (hij:i≠j):IR g n (Pl.sw d i j) ((u.setCell ⟨g,j,none⟩ (.int .i64 ((d i:Nat):Int))).setCell ⟨g,i,none⟩ (.int .i64 ((d j:Nat):Int))):=by
 have:=h.swap hj hi (fun c=>hij c.symm)
 have e:Pl.sw d j i=Pl.sw d i j:=by funext k;unfold Pl.sw;split <;> split <;> first | rfl | (subst_vars;rfl)
 rw[e]at this
 exact this
set_option maxRecDepth 100000 in
theorem swapRange_is (g n c:Nat) (d:Nat->Nat) (a b k:Nat) (F:Value) (w:World) (h:IR g n d w) (hn:n<=4000) (hab:a+k<=b) (hb:b+k<=n) :
  Calls Tryz.prog 128 #[.slice (some ⟨g,0,none⟩) n c,.int .i64 (a:Int),.int .i64 (b:Int),.int .i64 (k:Int),F] w fun e w'=>e=.returned (.tuple #[])/\IR g n (Pl.swr d a b k) w'/\OnlyG g w w':=by
 have H0:Hid (IR g n d w):=h
 have HB:Hid (a+k<=b/\b+k<=n):=⟨hab,hb⟩
 have hz:(a:Int)<=4000/\(b:Int)<=4000/\(k:Int)<=4000/\(n:Int)<=4000:=by omega
 clear h hab hb
 go_enter Tryz.func128,Tryz.ntmps128
 go_wp2_with fail
 go_loopw [10] (fun t W=>∃ i:Nat,i<=k/\t=.int .i64 (i:Int)/\Hid (IR g n (Pl.swr d a b i) W/\OnlyG g w W)) (fun t _=>k-(intOf t).toNat)
 case atStart=>exact⟨0,Nat.zero_le _,rfl,by rw[Pl.swr_zero];exact H0.out,OnlyG.refl _ _⟩
 case round=>
  obtain⟨i,hi,rfl,HX⟩:=hrel
  by_cases hlt:i<k
  rotate_left
  ·have hii:¬ ((i:Int)<(k:Int)):=by omega
   have hie:i=k:=by omega
   have HE:Hid (IR g n (Pl.swr d a b k) wr/\OnlyG g w wr):=hie ▸ HX.out
   clear hie HX
   go_wp2_with fail
   go_end0
   exact⟨rfl,HE.out⟩
  have hii:(i:Int)<(k:Int):=by omega
  obtain⟨p,hp⟩:∃ p,p=a+i:=⟨_,rfl⟩
  obtain⟨q,hq⟩:∃ q,q=b+i:=⟨_,rfl⟩
  have HBo:=HB.out
  have e1:(a:Int)+(i:Int)=(p:Int):=by omega
  have e2:(b:Int)+(i:Int)=(q:Int):=by omega
  have hpn:p<n:=by omega
  have hqn:q<n:=by omega
  have hpi:(p:Int)<(n:Int):=by omega
  have hqi:(q:Int)<(n:Int):=by omega
  have hpq:¬ p=q:=by omega
  have hqp:¬ q=p:=by omega
  obtain⟨x,hx⟩:∃ x,x=((Pl.swr d a b i p:Nat):Int):=⟨_,rfl⟩
  obtain⟨y,hy⟩:∃ y,y=((Pl.swr d a b i q:Nat):Int):=⟨_,rfl⟩
  have c1:=HX.out.1.at_ hpn
  have c2:=HX.out.1.at_ hqn
  rw[<- hx]at c1
  rw[<- hy]at c2
  have fz:=HX.out.1.fz
  have HN:Hid (IR g n (Pl.swr d a b (i+1)) ((wr.setCell ⟨g,p,none⟩ (.int .i64 y)).setCell ⟨g,q,none⟩ (.int .i64 x))/\IR g n (Pl.swr d a b (i+1)) ((wr.setCell ⟨g,q,none⟩ (.int .i64 x)).setCell ⟨g,p,none⟩ (.int .i64 y))):=by
   rw[Pl.swr_succ d a b i (by omega),<- hp,<- hq,hx,hy]
   exact⟨HX.out.1.swap hpn hqn hpq,HX.out.1.swap' hpn hqn hpq⟩
  have HO:Hid (OnlyG g w wr):=HX.out.2
  clear hp hq hx hy HX HBo
  go_upto_region 3 with fail
  go_region
  all_goals (
   go_wp2_with fail
   exact⟨⟨i+1,by omega,by go_num,HN.out.1.keep rfl,HO.out.trans (((OnlyG.setCell wr g _ _).trans (OnlyG.setCell _ g _ _)).drew)⟩,by simp[intOf];omega⟩)
set_option maxRecDepth 100000 in
theorem rotate_is (g n c:Nat) (d:Nat->Nat) (a m b:Nat) (F:Value) (w:World) (h:IR g n d w) (hn:n<=4000) (ham:a<m) (hmb:m<b) (hb:b<=n) :
  Calls Tryz.prog 127 #[.slice (some ⟨g,0,none⟩) n c,.int .i64 (a:Int),.int .i64 (m:Int),.int .i64 (b:Int),F] w fun e w'=>e=.returned (.tuple #[])/\IR g n (Pl.rot d a m b) w'/\OnlyG g w w':=by
 have H0:Hid (IR g n d w):=h
 have HB:Hid (a<m/\m<b/\b<=n):=⟨ham,hmb,hb⟩
 have hz:(a:Int)<=4000/\(b:Int)<=4000/\(m:Int)<=4000/\(n:Int)<=4000:=by omega
 have e1:(m:Int)-(a:Int)=((m-a:Nat):Int):=by omega
 have e2:(b:Int)-(m:Int)=((b-m:Nat):Int):=by omega
 clear h ham hmb hb
 go_enter Tryz.func127,Tryz.ntmps127
 go_wp2_with fail
 clear e1 e2
 go_loopw [10,11] (fun t s W=>∃ (i j:Nat) (D:Nat->Nat),0<i/\0<j/\i<=m/\m+j<=n/\t=.int .i64 (i:Int)/\s=.int .i64 (j:Int)/\Hid (IR g n D W/\OnlyG g w W/\Pl.rot D (m-i) m (m+j)=Pl.rot d a m b)) (fun t s _=>(intOf t).toNat+(intOf s).toNat)
 case atStart=>
  have:=HB.out
  refine⟨m-a,b-m,d,by omega,by omega,by omega,by omega,rfl,rfl,H0.out,OnlyG.refl _ _,?_⟩
  rw[show m-(m-a)=a by omega,show m+(b-m)=b by omega]
 case round=>
  obtain⟨i,j,D,hi0,hj0,him,hjn,rfl,rfl,HX⟩:=hrel
  have hzi:(i:Int)<=4000/\(j:Int)<=4000:=by omega
  by_cases hne:i=j
  ·subst hne
   have hb1:((i:Int) != (i:Int))=false:=by simp
   have hb2:¬ ((i:Int)≠(i:Int)):=by simp
   have e1:(m:Int)-(i:Int)=((m-i:Nat):Int):=by omega
   have HC:Hid (Calls Tryz.prog 128 #[.slice (some ⟨g,0,none⟩) n c,.int .i64 ((m-i:Nat):Int),.int .i64 (m:Int),.int .i64 (i:Int),F] wr fun e w'=>e=.returned (.tuple #[])/\IR g n (Pl.swr D (m-i) m i) w'/\OnlyG g wr w'):=swapRange_is g n c D (m-i) m i F wr HX.out.1 hn (by omega) (by omega)
   go_wp2_with (go_at_call 128;refine HC.out.mono ?_;rintro e u ⟨rfl,q1,q2⟩; have HD:Hid (IR g n (Pl.swr D (m-i) m i) u/\OnlyG g wr u):=⟨q1,q2⟩; clear q1 q2)
   go_end0
   refine⟨rfl,?_,HX.out.2.1.trans HD.out.2⟩
   rw[<- HX.out.2.2,<- Pl.rot_same D m i him]
   exact HD.out.1
  have hb1:((i:Int) != (j:Int))=true:=by simp;omega
  have hb2:¬ ((i:Int)=(j:Int)):=by omega
  by_cases hgt:j<i
  ·have hg1:(j:Int)<(i:Int):=by omega
   have e1:(m:Int)-(i:Int)=((m-i:Nat):Int):=by omega
   have HC:Hid (Calls Tryz.prog 128 #[.slice (some ⟨g,0,none⟩) n c,.int .i64 ((m-i:Nat):Int),.int .i64 (m:Int),.int .i64 (j:Int),F] wr fun e w'=>e=.returned (.tuple #[])/\IR g n (Pl.swr D (m-i) m j) w'/\OnlyG g wr w'):=swapRange_is g n c D (m-i) m j F wr HX.out.1 hn (by omega) (by omega)
   go_wp2_with (go_at_call 128;refine HC.out.mono ?_;rintro e u ⟨rfl,q1,q2⟩; have HD:Hid (IR g n (Pl.swr D (m-i) m j) u/\OnlyG g wr u):=⟨q1,q2⟩; clear q1 q2)
   refine⟨⟨i-j,j,Pl.swr D (m-i) m j,by omega,hj0,by omega,hjn,by congr 1;omega,rfl,HD.out.1,HX.out.2.1.trans HD.out.2,?_⟩,by simp[intOf];omega⟩
   rw[<- HX.out.2.2]
   exact Pl.rot_more D m i j him hgt hj0
  ·have hg1:¬ (j:Int)<(i:Int):=by omega
   have e1:(m:Int)-(i:Int)=((m-i:Nat):Int):=by omega
   have e2:(m:Int)+(j:Int)-(i:Int)=((m+j-i:Nat):Int):=by omega
   have HC:Hid (Calls Tryz.prog 128 #[.slice (some ⟨g,0,none⟩) n c,.int .i64 ((m-i:Nat):Int),.int .i64 ((m+j-i:Nat):Int),.int .i64 (i:Int),F] wr fun e w'=>e=.returned (.tuple #[])/\IR g n (Pl.swr D (m-i) (m+j-i) i) w'/\OnlyG g wr w'):=swapRange_is g n c D (m-i) (m+j-i) i F wr HX.out.1 hn (by omega) (by omega)
   go_wp2_with (go_at_call 128;refine HC.out.mono ?_;rintro e u ⟨rfl,q1,q2⟩; have HD:Hid (IR g n (Pl.swr D (m-i) (m+j-i) i) u/\OnlyG g wr u):=⟨q1,q2⟩; clear q1 q2)
   refine⟨⟨i,j-i,Pl.swr D (m-i) (m+j-i) i,hi0,by omega,him,by omega,rfl,by congr 1;omega,HD.out.1,HX.out.2.1.trans HD.out.2,?_⟩,by simp[intOf];omega⟩
   rw[<- HX.out.2.2]
   exact Pl.rot_less D m i j him (by omega) hi0
def cmpV (x y:Int):Int:=if x<y then -1 else if y<x then 1 else 0
theorem cmpV_lt {x y:Int}:cmpV x y<0↔x<y:=by unfold cmpV;split <;> (try split) <;> omega
theorem compare_is (x y:Int) (w:World):Calls Tryz.prog 107 #[.int .i64 x,.int .i64 y] w fun e w'=>e=.returned (.int .i64 (cmpV x y))/\w'=w:=by
 unfold cmpV
 by_cases h1:x<y
 ·rw[if_pos h1]
  go_enter Tryz.func107,Tryz.ntmps107
  go_wp2_with (go_at_call 122;refine (nanC_is _ _).mono ?_;rintro e u ⟨rfl,rfl⟩)
  go_ret
  exact⟨rfl,rfl⟩
 ·rw[if_neg h1]
  by_cases h2:y<x
  ·rw[if_pos h2]
   go_enter Tryz.func107,Tryz.ntmps107
   go_wp2_with (go_at_call 122;refine (nanC_is _ _).mono ?_;rintro e u ⟨rfl,rfl⟩)
   go_ret
   exact⟨rfl,rfl⟩
  ·rw[if_neg h2]
   go_enter Tryz.func107,Tryz.ntmps107
   go_wp2_with (go_at_call 122;refine (nanC_is _ _).mono ?_;rintro e u ⟨rfl,rfl⟩)
   go_ret
   exact⟨rfl,rfl⟩
structure Cm (gx ga gs N cs:Nat) (K:Nat->Int) (u:World):Prop where
 bx:u.cell? ⟨gx,0,none⟩=some (.pointer (some ⟨ga,0,none⟩))
 sp:0<N->u.cell? ⟨ga,0,none⟩=some (.slice (some ⟨gs,0,none⟩) N cs)
 fr:∀ x,x<N->u.cell? ⟨gs,x*3,none⟩=some (.int .i64 (K x))
theorem Cm.only {gx ga gs N cs g:Nat} {K:Nat->Int} {u u':World} (h:Cm gx ga gs N cs K u) (ho:OnlyG g u u') (h1:gx≠g) (h2:ga≠g) (h3:gs≠g):Cm gx ga gs N cs K u':=
 ⟨(ho.cell (p:=⟨gx,0,none⟩) h1).trans h.bx,fun h0=>(ho.cell (p:=⟨ga,0,none⟩) h2).trans (h.sp h0),fun x hx=>(ho.cell (p:=⟨gs,x*3,none⟩) h3).trans (h.fr x hx)⟩
theorem Cm.drewN {gx ga gs N cs:Nat} {K:Nat->Int} {u:World} (h:Cm gx ga gs N cs K u) (n:Nat):Cm gx ga gs N cs K (u.drewN n):=⟨h.bx,h.sp,h.fr⟩
set_option maxRecDepth 100000 in
theorem order1_is {gx ga gs N cs:Nat} {K:Nat->Int} (x y:Nat) (u:World) (h:Cm gx ga gs N cs K u) (hx:x<N) (hy:y<N) (hN:N<=4000) :
  Calls Tryz.prog 106 #[.int .i64 (x:Int),.int .i64 (y:Int),.pointer (some ⟨gx,0,none⟩)] u fun e u'=>e=.returned (.int .i64 (cmpV (K x) (K y)))/\∃ k,u'=u.drewN k:=by
 obtain⟨h1,h2,h3⟩:=h
 replace h2:=h2 (by omega)
 have c1:=h3 x hx
 have c2:=h3 y hy
 have hxi:(x:Int)<(N:Int):=by omega
 have hyi:(y:Int)<(N:Int):=by omega
 have hNi:(N:Int)<=4000:=by omega
 clear h3
 go_enter Tryz.func106,Tryz.ntmps106
 go_wp2_with fail
 go_quiet ((go_at_call 107;exact Calls.quiet_of_same (compare_is _ _ _)))
 go_wp2_with fail
 go_ret
 exact⟨rfl,_,rfl⟩
end Go.Proofs.YtcgfgmlfbgbkfaaGreatDoor.W
namespace Go.Proofs.YtcgfgmlfbgbkfaaGreatDoor.Pl
structure Is (K:Nat->Int) (d D:Nat->Nat) (a b i:Nat):Prop where
 sam:Sam a b d D
 rest:∀ q,i<=q->D q=d q
 srt:Srt K D a i
 apt:∀ p q,a<=p->p<i->i<=q->q<b->D p<D q
theorem Is.start {K:Nat->Int} {d:Nat->Nat} {a b:Nat} (h:∀ i j,a<=i->i<j->j<b->d i<d j):Is K d d a b (a+1):=⟨Sam.refl _ _ _,fun _ _=>rfl,Srt.nil (Nat.le_refl _),fun p q h1 h2 h3 h4=>h p q h1 (by omega) h4⟩
theorem Is.next {K:Nat->Int} {d D:Nat->Nat} {a b i j:Nat} (h:Is K d D a b i) (hasc:∀ i j,a<=i->i<j->j<b->d i<d j) (hj:a<=j) (hji:j<=i) (hib:i<b) (h1:∀ h,j<=h->h<i->Lx K (D i) (D h)) (h2:∀ h,a<=h->h<j->Lx K (D h) (D i)):Is K d (rot D j i (i+1)) a b (i+1):=by
 refine⟨h.sam.trans (Sam.rot D hj hji (by omega) (by omega)),fun q hq=>?_,ins_right hj hji h.srt h1 h2,fun p q p1 p2 q1 q2=>?_⟩
 ·rw[rot_out hji (by omega) (.inr hq)];exact h.rest q (by omega)
 ·obtain⟨y,y1,y2,e⟩:=(Sam.rot (b:=i+1) D hj hji (by omega) (Nat.le_refl _)).to_ p p1 p2
  rw[e,rot_out hji (by omega) (.inr q1)]
  by_cases c:y=i
  ·subst c;rw[h.rest y (Nat.le_refl _),h.rest q (by omega)];exact hasc y q (by omega) (by omega) q2
  ·exact h.apt y q y1 (by omega) (by omega) q2
end Go.Proofs.YtcgfgmlfbgbkfaaGreatDoor.Pl
namespace Go.Proofs.YtcgfgmlfbgbkfaaGreatDoor.W
open Go.RowKit
def SrtSaid (K:Nat->Int) (g n a b:Nat) (d:Nat->Nat) (w:World) (e:Ending) (w':World):Prop:=e=.returned (.tuple #[])/\∃ d',IR g n d' w'/\OnlyG g w w'/\Pl.Sam a b d d'/\Pl.Srt K d' a b
structure Sg (gx ga gs N cs g n:Nat) (K:Nat->Int) (d:Nat->Nat) (w:World):Prop where
 row:IR g n d w
 cm:Cm gx ga gs N cs K w
 n1:gx≠g
 n2:ga≠g
 n3:gs≠g
 val:∀ i,i<n->d i<N
 nN:N<=4000
 nn:n<=4000
theorem Sg.on {gx ga gs N cs g n:Nat} {K:Nat->Int} {d d':Nat->Nat} {w w':World} (h:Sg gx ga gs N cs g n K d w) {a b:Nat} (hr:IR g n d' w') (ho:OnlyG g w w') (hs:Pl.Sam a b d d') (hb:b<=n):Sg gx ga gs N cs g n K d' w':=by
 refine⟨hr,h.cm.only ho h.n1 h.n2 h.n3,h.n1,h.n2,h.n3,fun i hi=>?_,h.nN,h.nn⟩
 by_cases c:a<=i/\i<b
 ·obtain⟨j,j1,j2,e⟩:=hs.to_ i c.1 c.2;rw[e];exact h.val j (by omega)
 ·rw[hs.out i (by omega)];exact h.val i hi
set_option maxRecDepth 100000 in
theorem insort_is {gx ga gs N cs g n c:Nat} {K:Nat->Int} (d:Nat->Nat) (a b:Nat) (w:World) (h:Sg gx ga gs N cs g n K d w) (hab:a<=b) (hb:b<=n) (hasc:∀ i j,a<=i->i<j->j<b->d i<d j) :
  Calls Tryz.prog 125 #[.slice (some ⟨g,0,none⟩) n c,.int .i64 (a:Int),.int .i64 (b:Int),.func (.func 106) #[] #[.pointer (some ⟨gx,0,none⟩)]] w fun e w'=>SrtSaid K g n a b d w e w':=by
 have H0:Hid (Sg gx ga gs N cs g n K d w/\∀ i j,a<=i->i<j->j<b->d i<d j):=⟨h,hasc⟩
 have hz:(a:Int)<=4000/\(b:Int)<=4000/\(n:Int)<=4000:=by have:=h.nn;omega
 have HNN:Hid (N<=4000/\n<=4000):=⟨h.nN,h.nn⟩
 clear h hasc
 go_enter Tryz.func125,Tryz.ntmps125
 go_wp2_with fail
 go_loopw [8] (fun t W=>∃ i:Nat,a+1<=i/\(i<=b\/i=a+1)/\t=.int .i64 (i:Int)/\Hid (∃ D,IR g n D W/\OnlyG g w W/\Pl.Is K d D a b i)) (fun t _=>(b+1)-(intOf t).toNat)
 case atStart=>exact⟨a+1,Nat.le_refl _,.inr rfl,by go_num,d,H0.out.1.row,OnlyG.refl _ _,Pl.Is.start H0.out.2⟩
 case round=>
  obtain⟨i,hi1,hi2,rfl,HX⟩:=hrel
  by_cases hlt:i<b
  rotate_left
  ·have hii:¬ ((i:Int)<(b:Int)):=by omega
   have HE:Hid (SrtSaid K g n a b d w (.returned (.tuple #[])) wr):=by
    obtain⟨D,q1,q2,q3⟩:=HX.out
    exact⟨rfl,D,q1,q2,q3.sam,q3.srt.le (Nat.le_refl _) (by omega)⟩
   clear HX
   go_wp2_with fail
   go_end0
   exact HE.out
  have hii:(i:Int)<(b:Int):=by omega
  obtain⟨D,x1,x2,x3⟩:=HX.out
  have HD:Hid (IR g n D wr/\OnlyG g w wr/\Pl.Is K d D a b i):=⟨x1,x2,x3⟩
  have HV:Hid (∀ q,q<n->D q<N):=(H0.out.1.on x1 x2 x3.sam hb).val
  clear HX x1 x2 x3
  rename World=>wo
  go_wp2_with fail
  go_loopw [9] (fun t W=>∃ j:Nat,a<=j/\j<=i/\t=.int .i64 (j:Int)/\Hid (IR g n (Pl.rot D j i (i+1)) W/\OnlyG g w W/\∀ q,j<=q->q<i->Pl.Lx K (D i) (D q))) (fun t _=>(intOf t).toNat)
  case atStart=>
   refine⟨i,by omega,Nat.le_refl _,by go_num,?_,HD.out.2.1,fun q q1 q2=>by omega⟩
   rw[Pl.rot_nil1 D i (i+1) (by omega)];exact HD.out.1
  case round=>
   obtain⟨j,hj1,hj2,rfl,HY⟩:=hrel
   by_cases hja:a<j
   rotate_left
   ·have hg:decide ((a:Int)<(j:Int))=false:=by simp;omega
    have hg2:¬ ((a:Int)<(j:Int)):=by omega
    have HE:Hid (∀ k,∃ D',IR g n D' (wr.drewN k)/\OnlyG g w (wr.drewN k)/\Pl.Is K d D' a b (i+1)):=fun k=>⟨_,HY.out.1,⟨HY.out.2.1.os,HY.out.2.1.tape,HY.out.2.1.output,HY.out.2.1.size,HY.out.2.1.block⟩,HD.out.2.2.next H0.out.2 hj1 hj2 hlt HY.out.2.2 (fun q q1 q2=>by omega)⟩
    clear HY
    go_upto_region 4 with fail
    go_quiet (fail)
    go_wp2_with fail
    exact⟨⟨i+1,by omega,.inl (by omega),by go_num,HE.out _⟩,by simp[intOf];omega⟩
   have hg:decide ((a:Int)<(j:Int))=true:=by simp;omega
   have hg2:(a:Int)<(j:Int):=by omega
   have hjn:j<n:=by omega
   have hjn':j-1<n:=by omega
   obtain⟨p,hp⟩:∃ p,p=j-1:=⟨_,rfl⟩
   have e1:(j:Int)-1=(p:Int):=by omega
   have hpi:(p:Int)<(n:Int):=by omega
   have hji:(j:Int)<(n:Int):=by omega
   have hpj:¬ p=j:=by omega
   have hjp:¬ j=p:=by omega
   have c1:=HY.out.1.at_ hjn
   have c2:=HY.out.1.at_ (show p<n by omega)
   have v1:Pl.rot D j i (i+1) j=D i:=by rw[Pl.rot_lo (Nat.le_refl _) (by omega)];congr 1;omega
   have v2:Pl.rot D j i (i+1) p=D p:=Pl.rot_out hj2 (by omega) (.inl (by omega))
   rw[v1]at c1
   rw[v2]at c2
   obtain⟨x,hx⟩:∃ x,x=D i:=⟨_,rfl⟩
   obtain⟨y,hy⟩:∃ y,y=D p:=⟨_,rfl⟩
   rw[<- hx]at c1
   rw[<- hy]at c2
   have fz:=HY.out.1.fz
   have HC:Hid (∀ u,u=wr\/(∃ k,u=wr.drewN k)->Calls Tryz.prog 106 #[.int .i64 (x:Int),.int .i64 (y:Int),.pointer (some ⟨gx,0,none⟩)] u fun e u'=>e=.returned (.int .i64 (cmpV (K x) (K y)))/\∃ k,u'=u.drewN k):=by
    have hcm:=H0.out.1.cm.only HY.out.2.1 H0.out.1.n1 H0.out.1.n2 H0.out.1.n3
    have hxN:x<N:=by rw[hx];exact HV.out i (by omega)
    have hyN:y<N:=by rw[hy];exact HV.out p (by omega)
    rintro u (rfl | ⟨k,rfl⟩)
    ·exact order1_is x y _ hcm hxN hyN HNN.out.1
    ·exact order1_is x y _ (hcm.drewN k) hxN hyN HNN.out.1
   have hyx:y<x:=by rw[hx,hy];exact HD.out.2.2.apt p i (by omega) (by omega) (Nat.le_refl _) hlt
   obtain⟨z,hzz⟩:∃ z,z=cmpV (K x) (K y):=⟨_,rfl⟩
   rw[<- hzz]at HC
   by_cases hK:K x<K y
   rotate_left
   ·have hzn:¬ z<0:=by rw[hzz];exact fun q=>hK (cmpV_lt.1 q)
    have hzd:decide (z<0)=false:=by simp;omega
    have HE:Hid (∀ k,∃ D',IR g n D' (wr.drewN k)/\OnlyG g w (wr.drewN k)/\Pl.Is K d D' a b (i+1)):=fun k=>by
     have hl:Pl.Lx K (D p) (D i):=by rw[<- hx,<- hy];exact Pl.Lx.no hyx hK
     refine⟨_,HY.out.1,⟨HY.out.2.1.os,HY.out.2.1.tape,HY.out.2.1.output,HY.out.2.1.size,HY.out.2.1.block⟩,HD.out.2.2.next H0.out.2 hj1 hj2 hlt HY.out.2.2 (fun q q1 q2=>?_)⟩
     by_cases e:q=p
     ·subst e;exact hl
     ·exact (HD.out.2.2.srt q p q1 (by omega) (by omega)).trans hl
    clear HY v1 v2 hx hy hyx hzz hp hK
    go_upto_region 4 with fail
    go_quiet ((go_at_call 106;exact Calls.quiet_of (HC.out _ (.inr ⟨_,rfl⟩))))
    go_wp2_with fail
    exact⟨⟨i+1,by omega,.inl (by omega),by go_num,HE.out _⟩,by simp[intOf];omega⟩
   have hzn:z<0:=by rw[hzz];exact cmpV_lt.2 hK
   have hzd:decide (z<0)=true:=by simp;omega
   have HN:Hid (∀ k,IR g n (Pl.rot D (j-1) i (i+1)) (((wr.drewN k).setCell ⟨g,j,none⟩ (.int .i64 (y:Int))).setCell ⟨g,p,none⟩ (.int .i64 (x:Int)))):=fun k=>by
    have q1:IR g n (Pl.rot D j i (i+1)) (wr.drewN k):=HY.out.1
    have q2:=q1.swap hjn (show p<n by omega) hjp
    rw[v1,v2,<- hx,<- hy]at q2
    have q3:Pl.sw (Pl.rot D j i (i+1)) j p=Pl.rot D (j-1) i (i+1):=by rw[hp];exact Pl.rot_down D j i (by omega) hj2
    rw[q3]at q2
    exact q2
   have HO:Hid (∀ k,OnlyG g w (wr.drewN k)):=fun k=>⟨HY.out.2.1.os,HY.out.2.1.tape,HY.out.2.1.output,HY.out.2.1.size,HY.out.2.1.block⟩
   have HL:Hid (∀ q,j-1<=q->q<i->Pl.Lx K (D i) (D q)):=fun q q1 q2=>by
    by_cases e:q=p
    ·subst e;rw[<- hx,<- hy];exact Pl.Lx.yes hyx hK
    ·exact HY.out.2.2 q (by omega) q2
   have hj0:1<=j:=by omega
   clear HY v1 v2 hx hy hyx hzz hp hK
   go_upto_region 4 with fail
   go_quiet ((go_at_call 106;exact Calls.quiet_of (HC.out _ (.inr ⟨_,rfl⟩))))
   go_upto_region 6 with fail
   go_region
   all_goals (
    go_wp2_with fail
    exact⟨⟨j-1,by omega,by omega,by congr 1;omega,HN.out _,(HO.out _).trans ((OnlyG.setCell _ g _ _).trans (OnlyG.setCell _ g _ _)),HL.out⟩,by simp[intOf];omega⟩)
set_option maxRecDepth 100000 in
theorem symMerge_1 {gx ga gs N cs g n c:Nat} {K:Nat->Int} (d:Nat->Nat) (a m b:Nat) (w:World) (h:Sg gx ga gs N cs g n K d w) (ham:a<m) (hmb:m<b) (hb:b<=n) (hs:Pl.Srt K d a m) (ht:Pl.Srt K d m b) (hn:Pl.Apt d a m b) (h1:m=a+1) :
  Calls Tryz.prog 126 #[.slice (some ⟨g,0,none⟩) n c,.int .i64 (a:Int),.int .i64 (m:Int),.int .i64 (b:Int),.func (.func 106) #[] #[.pointer (some ⟨gx,0,none⟩)]] w fun e w'=>SrtSaid K g n a b d w e w':=by
 have H0:Hid (Sg gx ga gs N cs g n K d w/\Pl.Srt K d a m/\Pl.Srt K d m b/\Pl.Apt d a m b):=⟨h,hs,ht,hn⟩
 have hz:(a:Int)<=4000/\(m:Int)<=4000/\(b:Int)<=4000/\(n:Int)<=4000:=by have:=h.nn;omega
 have hz2:n<=4000:=h.nn
 clear h hs ht hn
 have HM:Hid (m=a+1):=h1
 have e0:(m:Int)-(a:Int)=1:=by omega
 clear h1
 go_enter Tryz.func126,Tryz.ntmps126
 go_wp2_with fail
 go_loopw [10,11] (fun p q W=>∃ i j:Nat,p=.int .i64 (i:Int)/\q=.int .i64 (j:Int)/\m<=i/\i<=j/\j<=b/\Hid (IR g n d W/\OnlyG g w W/\(∀ q,m<=q->q<i->Pl.Lx K (d q) (d a))/\∀ q,j<=q->q<b->Pl.Lx K (d a) (d q))) (fun p q _=>(intOf q).toNat-(intOf p).toNat)
 case atStart=>exact⟨m,b,rfl,rfl,Nat.le_refl _,by omega,Nat.le_refl _,H0.out.1.row,OnlyG.refl _ _,fun q q1 q2=>by omega,fun q q1 q2=>by omega⟩
 case round=>
  obtain⟨i,j,rfl,rfl,hmi,hij,hjb,HY⟩:=hrel
  by_cases hlt:i<j
  ·have hli:(i:Int)<(j:Int):=by omega
   obtain⟨h,hh⟩:∃ h:Nat,h=(i+j) / 2:=⟨_,rfl⟩
   have e1:((i:Int)+(j:Int)) / 2=(h:Int):=by omega
   have hh1:i<=h/\h<j:=by omega
   have hhn:(h:Int)<(n:Int):=by omega
   have han:(a:Int)<(n:Int):=by omega
   clear hh
   have c1:=HY.out.1.at_ (show h<n by omega)
   have c2:=HY.out.1.at_ (show a<n by omega)
   obtain⟨x,hx⟩:∃ x,x=d h:=⟨_,rfl⟩
   obtain⟨y,hy⟩:∃ y,y=d a:=⟨_,rfl⟩
   rw[<- hx]at c1
   rw[<- hy]at c2
   have hyx:y<x:=by rw[hx,hy];exact H0.out.2.2.2 a h (Nat.le_refl _) ham (by omega) (by omega)
   have HC:Hid (∀ u,(∃ k,u=wr.drewN k)->Calls Tryz.prog 106 #[.int .i64 (x:Int),.int .i64 (y:Int),.pointer (some ⟨gx,0,none⟩)] u fun e u'=>e=.returned (.int .i64 (cmpV (K x) (K y)))/\∃ k,u'=u.drewN k):=by
    have hcm:=H0.out.1.cm.only HY.out.2.1 H0.out.1.n1 H0.out.1.n2 H0.out.1.n3
    have hxN:x<N:=by rw[hx];exact H0.out.1.val h (by omega)
    have hyN:y<N:=by rw[hy];exact H0.out.1.val a (by omega)
    rintro u ⟨k,rfl⟩
    exact order1_is x y _ (hcm.drewN k) hxN hyN H0.out.1.nN
   obtain⟨z,hzz⟩:∃ z,z=cmpV (K x) (K y):=⟨_,rfl⟩
   rw[<- hzz]at HC
   have HO:Hid (∀ k,IR g n d (wr.drewN k)/\OnlyG g w (wr.drewN k)):=fun k=>⟨HY.out.1,HY.out.2.1.os,HY.out.2.1.tape,HY.out.2.1.output,HY.out.2.1.size,HY.out.2.1.block⟩
   by_cases hK:K x<K y
   ·have HL:Hid (∀ q,m<=q->q<h+1->Pl.Lx K (d q) (d a)):=fun q q1 q2=>by
     have hl:Pl.Lx K (d h) (d a):=by rw[<- hx,<- hy];exact Pl.Lx.yes hyx hK
     by_cases e:q=h
     ·subst e;exact hl
     ·exact (H0.out.2.2.1 q h q1 (by omega) (by omega)).trans hl
    have HR:Hid (∀ q,j<=q->q<b->Pl.Lx K (d a) (d q)):=HY.out.2.2.2
    have hzn:z<0:=by rw[hzz];exact cmpV_lt.2 hK
    have hzd:decide (z<0)=true:=by simp;omega
    clear HY hx hy hyx hzz hK
    go_upto_region 5 with fail
    go_quiet ((go_at_call 106;exact Calls.quiet_of (HC.out _ ⟨_,rfl⟩)))
    go_wp2_with fail
    exact⟨⟨h+1,j,by go_num,rfl,by omega,by omega,hjb,(HO.out _).1,(HO.out _).2,HL.out,HR.out⟩,by simp[intOf];omega⟩
   ·have HR:Hid (∀ q,h<=q->q<b->Pl.Lx K (d a) (d q)):=fun q q1 q2=>by
     have hl:Pl.Lx K (d a) (d h):=by rw[<- hx,<- hy];exact Pl.Lx.no hyx hK
     by_cases e:q=h
     ·subst e;exact hl
     ·exact hl.trans (H0.out.2.2.1 h q (by omega) (by omega) q2)
    have HL:Hid (∀ q,m<=q->q<i->Pl.Lx K (d q) (d a)):=HY.out.2.2.1
    have hzn:¬ z<0:=by rw[hzz];exact fun q=>hK (cmpV_lt.1 q)
    have hzd:decide (z<0)=false:=by simp;omega
    clear HY hx hy hyx hzz hK
    go_upto_region 5 with fail
    go_quiet ((go_at_call 106;exact Calls.quiet_of (HC.out _ ⟨_,rfl⟩)))
    go_wp2_with fail
    exact⟨⟨i,h,rfl,by go_num,hmi,by omega,by omega,(HO.out _).1,(HO.out _).2,HL.out,HR.out⟩,by simp[intOf];omega⟩
  ·have hli:¬ (i:Int)<(j:Int):=by omega
   have hje:i=j:=by omega
   have HX:=HY
   rename World=>wo
   have HZ:Hid (IR g n d wo/\OnlyG g w wo/\(∀ q,m<=q->q<i->Pl.Lx K (d q) (d a))/\∀ q,i<=q->q<b->Pl.Lx K (d a) (d q)):=by subst hje;exact HX.out
   obtain⟨i1,hi1⟩:∃ i1,i1=i-1:=⟨_,rfl⟩
   have e1:(i:Int)-1=(i1:Int):=by omega
   have hi2:i=i1+1:=by omega
   have HI:Hid (i=i1+1):=hi2
   have hai:a<=i1:=by omega
   have hib:i1<b:=by omega
   clear HX HY hje hi1 hi2
   go_wp2_with fail
   go_loopw [13] (fun t W=>∃ k:Nat,a<=k/\k<=i1/\t=.int .i64 (k:Int)/\Hid (IR g n (Pl.rot d a (a+1) (k+1)) W/\OnlyG g w W)) (fun t _=>b-(intOf t).toNat)
   case atStart=>exact⟨a,Nat.le_refl _,hai,rfl,by rw[Pl.rot_nil2 d a (a+1) (by omega)];exact HZ.out.1,HZ.out.2.1⟩
   case round=>
    obtain⟨k,hk1,hk2,rfl,HY⟩:=hrel
    by_cases hki:k<i1
    ·have hkl:(k:Int)<(i1:Int):=by omega
     obtain⟨k2,hk3⟩:∃ k2,k2=k+1:=⟨_,rfl⟩
     have e2:(k:Int)+1=(k2:Int):=by omega
     have hkn:(k:Int)<(n:Int):=by omega
     have hkn2:(k2:Int)<(n:Int):=by omega
     have hne1:¬ k=k2:=by omega
     have hne2:¬ k2=k:=by omega
     have hrot:Pl.sw (Pl.rot d a (a+1) (k+1)) k k2=Pl.rot d a (a+1) (k2+1):=by rw[hk3];exact Pl.rot_up d a k hk1
     have hk4:a<=k2/\k2<=i1/\k<k2:=by omega
     clear hk3
     have c1:=HY.out.1.at_ (show k<n by omega)
     have c2:=HY.out.1.at_ (show k2<n by omega)
     obtain⟨x,hx⟩:∃ x,x=Pl.rot d a (a+1) (k+1) k:=⟨_,rfl⟩
     obtain⟨y,hy⟩:∃ y,y=Pl.rot d a (a+1) (k+1) k2:=⟨_,rfl⟩
     rw[<- hx]at c1
     rw[<- hy]at c2
     have fz:=HY.out.1.fz
     have HN:Hid (IR g n (Pl.rot d a (a+1) (k2+1)) ((wr.setCell ⟨g,k,none⟩ (.int .i64 (y:Int))).setCell ⟨g,k2,none⟩ (.int .i64 (x:Int)))):=by
      have q:=HY.out.1.swap (show k<n by omega) (show k2<n by omega) (by omega)
      rw[<- hx,<- hy]at q
      exact (show _=Pl.rot d a (a+1) (k2+1) from hrot) ▸ q
     have HO:Hid (OnlyG g w wr):=HY.out.2
     clear hx hy hrot HY
     go_upto_region 11 with fail
     go_region
     all_goals (
      go_wp2_with fail
      exact⟨⟨k2,hk4.1,hk4.2.1,by go_num,HN.out.keep rfl,HO.out.trans (((OnlyG.setCell _ g _ _).trans (OnlyG.setCell _ g _ _)).drew)⟩,by simp[intOf];omega⟩)
    ·have hkl:¬ (k:Int)<(i1:Int):=by omega
     have hke:k=i1:=by omega
     have HE:Hid (SrtSaid K g n a b d w (.returned (.tuple #[])) wr):=by
      subst hke
      rw[<- HI.out]at HY
      have hm:=HM.out
      subst hm
      exact⟨rfl,_,HY.out.1,HY.out.2,Pl.Sam.rot d (Nat.le_refl _) (by omega) (by have:=HI.out;omega) (by have:=HI.out;omega),Pl.ins_left (by have:=HI.out;omega) (by have:=HI.out;omega) H0.out.2.2.1 HZ.out.2.2.1 HZ.out.2.2.2⟩
     clear HY hke
     go_wp2_with fail
     go_end0
     exact HE.out
set_option maxRecDepth 100000 in
theorem symMerge_2 {gx ga gs N cs g n c:Nat} {K:Nat->Int} (d:Nat->Nat) (a m b:Nat) (w:World) (h:Sg gx ga gs N cs g n K d w) (ham:a<m) (hmb:m<b) (hb:b<=n) (hs:Pl.Srt K d a m) (ht:Pl.Srt K d m b) (hn:Pl.Apt d a m b) (h1:m≠a+1) (h2:b=m+1) :
  Calls Tryz.prog 126 #[.slice (some ⟨g,0,none⟩) n c,.int .i64 (a:Int),.int .i64 (m:Int),.int .i64 (b:Int),.func (.func 106) #[] #[.pointer (some ⟨gx,0,none⟩)]] w fun e w'=>SrtSaid K g n a b d w e w':=by
 have H0:Hid (Sg gx ga gs N cs g n K d w/\Pl.Srt K d a m/\Pl.Srt K d m b/\Pl.Apt d a m b):=⟨h,hs,ht,hn⟩
 have hz:(a:Int)<=4000/\(m:Int)<=4000/\(b:Int)<=4000/\(n:Int)<=4000:=by have:=h.nn;omega
 have hz2:n<=4000:=h.nn
 clear h hs ht hn
 have HM:Hid (b=m+1):=h2
 have e0:((m:Int)-(a:Int) == 1)=false:=by simp;omega
 have e9:(b:Int)-(m:Int)=1:=by omega
 clear h1 h2
 go_enter Tryz.func126,Tryz.ntmps126
 go_wp2_with fail
 go_loopw [14,15] (fun p q W=>∃ i j:Nat,p=.int .i64 (i:Int)/\q=.int .i64 (j:Int)/\a<=i/\i<=j/\j<=m/\Hid (IR g n d W/\OnlyG g w W/\(∀ q,a<=q->q<i->Pl.Lx K (d q) (d m))/\∀ q,j<=q->q<m->Pl.Lx K (d m) (d q))) (fun p q _=>(intOf q).toNat-(intOf p).toNat)
 case atStart=>exact⟨a,m,rfl,rfl,Nat.le_refl _,by omega,Nat.le_refl _,H0.out.1.row,OnlyG.refl _ _,fun q q1 q2=>by omega,fun q q1 q2=>by omega⟩
 case round=>
  obtain⟨i,j,rfl,rfl,hmi,hij,hjb,HY⟩:=hrel
  by_cases hlt:i<j
  ·have hli:(i:Int)<(j:Int):=by omega
   obtain⟨h,hh⟩:∃ h:Nat,h=(i+j) / 2:=⟨_,rfl⟩
   have e1:((i:Int)+(j:Int)) / 2=(h:Int):=by omega
   have hh1:i<=h/\h<j:=by omega
   have hhn:(h:Int)<(n:Int):=by omega
   have han:(m:Int)<(n:Int):=by omega
   clear hh
   have c1:=HY.out.1.at_ (show m<n by omega)
   have c2:=HY.out.1.at_ (show h<n by omega)
   obtain⟨x,hx⟩:∃ x,x=d m:=⟨_,rfl⟩
   obtain⟨y,hy⟩:∃ y,y=d h:=⟨_,rfl⟩
   rw[<- hx]at c1
   rw[<- hy]at c2
   have hyx:y<x:=by rw[hx,hy];exact H0.out.2.2.2 h m (by omega) (by omega) (Nat.le_refl _) hmb
   have HC:Hid (∀ u,(∃ k,u=wr.drewN k)->Calls Tryz.prog 106 #[.int .i64 (x:Int),.int .i64 (y:Int),.pointer (some ⟨gx,0,none⟩)] u fun e u'=>e=.returned (.int .i64 (cmpV (K x) (K y)))/\∃ k,u'=u.drewN k):=by
    have hcm:=H0.out.1.cm.only HY.out.2.1 H0.out.1.n1 H0.out.1.n2 H0.out.1.n3
    have hxN:x<N:=by rw[hx];exact H0.out.1.val m (by omega)
    have hyN:y<N:=by rw[hy];exact H0.out.1.val h (by omega)
    rintro u ⟨k,rfl⟩
    exact order1_is x y _ (hcm.drewN k) hxN hyN H0.out.1.nN
   obtain⟨z,hzz⟩:∃ z,z=cmpV (K x) (K y):=⟨_,rfl⟩
   rw[<- hzz]at HC
   have HO:Hid (∀ k,IR g n d (wr.drewN k)/\OnlyG g w (wr.drewN k)):=fun k=>⟨HY.out.1,HY.out.2.1.os,HY.out.2.1.tape,HY.out.2.1.output,HY.out.2.1.size,HY.out.2.1.block⟩
   by_cases hK:K x<K y
   ·have HR:Hid (∀ q,h<=q->q<m->Pl.Lx K (d m) (d q)):=fun q q1 q2=>by
     have hl:Pl.Lx K (d m) (d h):=by rw[<- hx,<- hy];exact Pl.Lx.yes hyx hK
     by_cases e:q=h
     ·subst e;exact hl
     ·exact hl.trans (H0.out.2.1 h q (by omega) (by omega) q2)
    have HL:Hid (∀ q,a<=q->q<i->Pl.Lx K (d q) (d m)):=HY.out.2.2.1
    have hzn:z<0:=by rw[hzz];exact cmpV_lt.2 hK
    have hzd:decide (z<0)=true:=by simp;omega
    clear HY hx hy hyx hzz hK
    go_upto_region 17 with fail
    go_quiet ((go_at_call 106;exact Calls.quiet_of (HC.out _ ⟨_,rfl⟩)))
    go_wp2_with fail
    exact⟨⟨i,h,rfl,by go_num,hmi,by omega,by omega,(HO.out _).1,(HO.out _).2,HL.out,HR.out⟩,by simp[intOf];omega⟩
   ·have HL:Hid (∀ q,a<=q->q<h+1->Pl.Lx K (d q) (d m)):=fun q q1 q2=>by
     have hl:Pl.Lx K (d h) (d m):=by rw[<- hx,<- hy];exact Pl.Lx.no hyx hK
     by_cases e:q=h
     ·subst e;exact hl
     ·exact (H0.out.2.1 q h q1 (by omega) (by omega)).trans hl
    have HR:Hid (∀ q,j<=q->q<m->Pl.Lx K (d m) (d q)):=HY.out.2.2.2
    have hzn:¬ z<0:=by rw[hzz];exact fun q=>hK (cmpV_lt.1 q)
    have hzd:decide (z<0)=false:=by simp;omega
    clear HY hx hy hyx hzz hK
    go_upto_region 17 with fail
    go_quiet ((go_at_call 106;exact Calls.quiet_of (HC.out _ ⟨_,rfl⟩)))
    go_wp2_with fail
    exact⟨⟨h+1,j,by go_num,rfl,by omega,by omega,hjb,(HO.out _).1,(HO.out _).2,HL.out,HR.out⟩,by simp[intOf];omega⟩
  ·have hli:¬ (i:Int)<(j:Int):=by omega
   have hje:i=j:=by omega
   have HX:=HY
   rename World=>wo
   have HZ:Hid (IR g n d wo/\OnlyG g w wo/\(∀ q,a<=q->q<i->Pl.Lx K (d q) (d m))/\∀ q,i<=q->q<m->Pl.Lx K (d m) (d q)):=by subst hje;exact HX.out
   have him:i<=m:=by omega
   clear HX HY hje
   go_wp2_with fail
   go_loopw [17] (fun t W=>∃ k:Nat,i<=k/\k<=m/\t=.int .i64 (k:Int)/\Hid (IR g n (Pl.rot d k m (m+1)) W/\OnlyG g w W)) (fun t _=>(intOf t).toNat)
   case atStart=>exact⟨m,him,Nat.le_refl _,rfl,by rw[Pl.rot_nil1 d m (m+1) (by omega)];exact HZ.out.1,HZ.out.2.1⟩
   case round=>
    obtain⟨k,hk1,hk2,rfl,HY⟩:=hrel
    by_cases hki:i<k
    ·have hkl:(i:Int)<(k:Int):=by omega
     obtain⟨k2,hk3⟩:∃ k2,k2=k-1:=⟨_,rfl⟩
     have e2:(k:Int)-1=(k2:Int):=by omega
     have hkn:(k:Int)<(n:Int):=by omega
     have hkn2:(k2:Int)<(n:Int):=by omega
     have hne1:¬ k=k2:=by omega
     have hne2:¬ k2=k:=by omega
     have hrot:Pl.sw (Pl.rot d k m (m+1)) k k2=Pl.rot d k2 m (m+1):=by rw[hk3];exact Pl.rot_down d k m (by omega) hk2
     have hk4:i<=k2/\k2<=m/\k2<k:=by omega
     clear hk3
     have c1:=HY.out.1.at_ (show k<n by omega)
     have c2:=HY.out.1.at_ (show k2<n by omega)
     obtain⟨x,hx⟩:∃ x,x=Pl.rot d k m (m+1) k:=⟨_,rfl⟩
     obtain⟨y,hy⟩:∃ y,y=Pl.rot d k m (m+1) k2:=⟨_,rfl⟩
     rw[<- hx]at c1
     rw[<- hy]at c2
     have fz:=HY.out.1.fz
     have HN:Hid (IR g n (Pl.rot d k2 m (m+1)) ((wr.setCell ⟨g,k,none⟩ (.int .i64 (y:Int))).setCell ⟨g,k2,none⟩ (.int .i64 (x:Int)))):=by
      have q:=HY.out.1.swap (show k<n by omega) (show k2<n by omega) (by omega)
      rw[<- hx,<- hy]at q
      exact (show _=Pl.rot d k2 m (m+1) from hrot) ▸ q
     have HO:Hid (OnlyG g w wr):=HY.out.2
     clear hx hy hrot HY
     go_upto_region 23 with fail
     go_region
     all_goals (
      go_wp2_with fail
      exact⟨⟨k2,hk4.1,hk4.2.1,by go_num,HN.out.keep rfl,HO.out.trans (((OnlyG.setCell _ g _ _).trans (OnlyG.setCell _ g _ _)).drew)⟩,by simp[intOf];omega⟩)
    ·have hkl:¬ (i:Int)<(k:Int):=by omega
     have hke:k=i:=by omega
     have HE:Hid (SrtSaid K g n a b d w (.returned (.tuple #[])) wr):=by
      subst hke
      have hm:=HM.out
      subst hm
      exact⟨rfl,_,HY.out.1,HY.out.2,Pl.Sam.rot d hmi him (by omega) (Nat.le_refl _),Pl.ins_right hmi him H0.out.2.1 HZ.out.2.2.2 HZ.out.2.2.1⟩
     clear HY hke
     go_wp2_with fail
     go_end0
     exact HE.out
end Go.Proofs.YtcgfgmlfbgbkfaaGreatDoor.W
