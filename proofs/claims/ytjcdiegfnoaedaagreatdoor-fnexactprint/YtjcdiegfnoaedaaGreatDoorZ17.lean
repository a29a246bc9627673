import Derived.Test.YtjcdiegfnoaedaaGreatDoorZ16
import Derived.Test.YtjcdiegfnoaedaaGreatDoorZ23
set_option linter.unusedVariables false
set_option linter.unusedSimpArgs false
set_option maxHeartbeats 16000000
namespace Go.Proofs.YtjcdiegfnoaedaaGreatDoor
namespace Pl
/-! integers and signs read back -/
theorem Bd:∀(d u:Nat),u<=d->∀c∈Lib.decDigits u,48<=c.toNat/\c.toNat<=57:=by
 intro d
 induction d with
 | zero=>
  intro u hu c hc;obtain rfl:u=0:=by omega
  rw[aY (by omega)]at hc;rw[List.mem_singleton.1 hc]
  decide
 | succ d ih=>
  intro u hu c hc;by_cases h:u<10
  ·rw[aY h]at hc;rw[List.mem_singleton.1 hc,UInt8.toNat_ofNat'];omega
  ·rw[sI h,List.mem_append]at hc;rcases hc with q|q
   ·exact ih (u / 10) (by omega) c q
   ·rw[List.mem_singleton.1 q,UInt8.toNat_ofNat'];omega
theorem JW:∀(d u:Nat),u<=d->0<u->∃c r,Lib.decDigits u=c :: r/\c.toNat≠48:=by
 intro d
 induction d with
 | zero=>intro u hu h0;omega
 | succ d ih=>
  intro u hu h0;by_cases h:u<10
  ·refine⟨_,[],aY h,?_⟩;rw[UInt8.toNat_ofNat'];omega
  ·obtain⟨c,r,h1,h2⟩:=ih (u / 10) (by omega) (by omega);exact⟨c,r++[UInt8.ofNat (48+u % 10)],by rw[sI h,h1];rfl,h2⟩
theorem Uw:∀(k u:Nat),u<10 ^ (k+1)->(Lib.decDigits u).length<=k+1:=by
 intro k
 induction k with
 | zero=>intro u h;rw[aY (by simpa using h)];simp
 | succ k ih=>
  intro u h;by_cases q:u<10
  ·rw[aY q];simp
  ·rw[sI q,List.length_append,List.length_singleton];have:=ih (u / 10) (by rw[Nat.pow_succ]at h;omega);omega
def vL (b:Int) (l:List UInt8):Int:=l.foldl (fun a c=>a*b+hx (c.toNat:Int)) 0
theorem Be (b:Int) (l:List UInt8) (c:UInt8):vL b (l++[c])=vL b l*b+hx (c.toNat:Int):=by
 unfold vL;rw[List.foldl_append];rfl
theorem QQ (b:Int) (l:List UInt8):∀k,k<=l.length->val ⟨l.toArray⟩ b k=vL b (l.take k):=by
 intro k
 induction k with
 | zero=>intro _;rfl
 | succ k ih=>
  intro hk;have e:aD ⟨l.toArray⟩ k=((l[k]'(by omega)).toNat:Int):=by
   unfold aD;rw[List.getD_eq_getElem?_getD];simp[List.getElem?_eq_getElem (show k<l.length by omega)]
  rw[List.take_succ_eq_append_getElem (by omega),Be,<- ih (by omega),<- e];rfl
theorem aB3:∀(d u:Nat),u<=d->vL 10 (Lib.decDigits u)=u:=by
 intro d
 induction d with
 | zero=>
  intro u hu;obtain rfl:u=0:=by omega
  rw[aY (by omega)]
  decide
 | succ d ih=>
  intro u hu;have hd:∀n:Nat,n<10->hx ((UInt8.ofNat (48+n)).toNat:Int)=n:=fun n hn=>by
   rw[UInt8.toNat_ofNat',uB _ (by omega) (by omega)];omega
  by_cases h:u<10
  ·rw[aY h];show 0*10+hx _=_;rw[hd u h];omega
  ·rw[sI h,Be,ih (u / 10) (by omega),hd (u % 10) (by omega)];omega
theorem aEc {c:UInt8}(h:48<=c.toNat/\c.toNat<=57):kT (c.toNat:Int)=true:=by
 unfold kT dg;rw[decide_eq_true (by omega)];rfl
theorem Ms (u:Nat) (T:List UInt8) (hT:T=[117]\/(T=[]/\u<=2147483647)) (hu:u<=4294967295):iU ⟨(Lib.decDigits u++T).toArray⟩=.ok (⟨T.toArray⟩,(u:Int)):=by
 obtain⟨c,r,hd,hc1,hc2⟩:=vE _ u (Nat.le_refl _);have hall:=Bd _ u (Nat.le_refl _);have hlen:0<(Lib.decDigits u).length:=by rw[hd];simp
 generalize hx':(⟨(Lib.decDigits u++T).toArray⟩:ByteArray)=x;have hxl:x.data.toList=Lib.decDigits u++T:=by rw[<- hx']
 have hxs:x.size=(Lib.decDigits u).length+T.length:=by rw[kU,hxl,List.length_append]
 have hb:∀j,aD x j=(((Lib.decDigits u++T).getD j 0).toNat:Int):=fun j=>by unfold aD;rw[hxl]
 have hb0:aD x 0=(c.toNat:Int):=by rw[hb,hd];rfl
 have hD:∀j (h:j<(Lib.decDigits u).length),aD x j=(((Lib.decDigits u)[j]'h).toNat:Int):=fun j h=>by
  rw[hb,List.getD_eq_getElem?_getD,List.getElem?_append_left h,List.getElem?_eq_getElem h];rfl
 have hlast:(uu (aD x (x.size-1))=true↔T=[117])/\nQ x=(Lib.decDigits u).length:=by
  rcases hT with e|⟨e,_⟩
  ·have e1:aD x (x.size-1)=117:=by
    rw[hb,hxs,e,List.getD_eq_getElem?_getD];simp
   unfold nQ;rw[e1];refine⟨⟨fun _=>e,fun _=>rfl⟩,?_⟩;rw[if_pos (by decide),hxs,e];simp
  ·have e1:uu (aD x (x.size-1))=false:=by
    have hj:x.size-1<(Lib.decDigits u).length:=(by rw[hxs,e];simp;omega);rw[hD _ hj];have:=hall _ (List.getElem_mem hj);unfold uu;simp only[Bool.or_eq_false_iff,beq_eq_false_iff_ne,ne_eq];omega
   unfold nQ;rw[e1];refine⟨⟨fun q=>(by cases q),fun q=>by rw[e]at q;cases q⟩,?_⟩;rw[if_neg (by decide),hxs,e];simp
 have aB4:DV x=false:=by
  by_cases h0:u=0
  ·have h1:aD x 1≠120/\aD x 1≠88:=by
    rw[hb,h0,aY (by omega)];rcases hT with e|⟨e,_⟩ <;> rw[e] <;> decide
   unfold DV;simp only[Bool.and_eq_false_iff,Bool.or_eq_false_iff,beq_eq_false_iff_ne];exact .inr h1
  ·obtain⟨c',r',hd',hn⟩:=JW _ u (Nat.le_refl _) (by omega);rw[hd]at hd';cases hd';unfold DV;simp only[Bool.and_eq_false_iff,Bool.or_eq_false_iff,beq_eq_false_iff_ne];exact .inl (.inr (by rw[hb0];omega))
 have hoff:qR x=0:=by unfold qR;rw[aB4,if_neg (by decide)]
 have hig:bN x=⟨(Lib.decDigits u).toArray⟩:=by
  unfold bN;rw[hoff,hlast.2];have:=Dr.ext (s:=x) (i:=0) (a:=Lib.decDigits u) (b:=T) (by unfold Dr;rw[List.drop_zero,hxl]);rw[Nat.zero_add]at this;exact this
 have Ux:(bN x).size=(Lib.decDigits u).length:=by rw[hig,kU]
 have aEd:∀j,j<(bN x).size->48<=aD (bN x) j/\aD (bN x) j<=57:=fun j hj=>by
  rw[Ux]at hj;have:aD (bN x) j=(((Lib.decDigits u)[j]'hj).toNat:Int):=by
   rw[hig];unfold aD;rw[List.getD_eq_getElem?_getD];simp[List.getElem?_eq_getElem hj]
  rw[this];have:=hall _ (List.getElem_mem hj);omega
 have hv:val (bN x) (iG x) (bN x).size=u/\∀j,j<(bN x).size->hx (aD (bN x) j)<iG x:=by
  by_cases h0:u=0
  ·have e8:iG x=8:=by
    unfold iG;rw[aB4,if_neg (by decide),hb0];rw[h0,aY (by omega)]at hd;cases hd;rfl
   rw[e8];refine⟨?_,fun j hj=>?_⟩
   ·rw[Ux,hig,QQ 8 _ _ (Nat.le_refl _),List.take_length,h0,aY (by omega)]
    decide
   ·have hj0:j=0:=(by rw[Ux,h0,aY (by omega)]at hj;simp at hj;omega);subst hj0;rw[hig,h0,aY (by omega)]
    decide
  ·obtain⟨c',r',hd',hn⟩:=JW _ u (Nat.le_refl _) (by omega);rw[hd]at hd';cases hd';have e10:iG x=10:=by
    unfold iG;rw[aB4,if_neg (by decide),hb0,if_neg (by omega)]
   rw[e10];refine⟨?_,fun j hj=>?_⟩
   ·rw[Ux,hig,QQ 10 _ _ (Nat.le_refl _),List.take_length,aB3 _ u (Nat.le_refl _)]
   ·have:=aEd j hj;rw[uB _ this.1 this.2];omega
 rw[LV (by rw[hoff,hlast.2];omega) (fun j hj=>?_) hv.2 (by rw[hv.1];omega),hv.1]
 ·congr 2;rcases hT with e|⟨e,h⟩
  ·rw[if_pos (.inl (hlast.1.2 e)),e]
  ·rw[if_neg (by rintro (q|q);have:=hlast.1.1 q;rw[e]at this;cases this;omega),e]
 ·have:=aEd j hj;unfold qF;rw[uB _ this.1 this.2,decide_eq_false (by omega),decide_eq_false (by omega)];simp
theorem Mv {s:ByteArray}{i:Nat}{r:List UInt8}(u:Nat) (T:List UInt8) (hT:T=[117]\/(T=[]/\u<=2147483647)) (hu:u<=4294967295) (hr:Ends r) (h:Dr s i ((Lib.decDigits u++T)++r)):aM s i=.ok (3,⟨T.toArray⟩,(u:Int),i+(Lib.decDigits u++T).length):=by
 obtain⟨c,q,hd,hc1,hc2⟩:=vE _ u (Nat.le_refl _);refine JV h hr (fun x hx=>?_) (by rw[hd];simp) ?_
 ·rw[List.mem_append]at hx;rcases hx with p|p
  ·exact aEc (Bd _ u (Nat.le_refl _) x p)
  ·rcases hT with e|⟨e,_⟩
   ·rw[e]at p;rw[List.mem_singleton.1 p]
    decide
   ·rw[e]at p;cases p
 ·unfold mE;have:aD ⟨(Lib.decDigits u++T).toArray⟩ 0=(c.toNat:Int):=by rw[hd,List.cons_append];exact vG _ _
  rw[this,if_pos (by unfold dg;rw[decide_eq_true (by omega)]),Ms u T hT hu]
theorem MP {t:ByteArray}:BR t=true↔t.data.toList∈wJ:=by
 unfold BR;rw[List.any_eq_true,ByteArray.toList_eq];constructor
 ·rintro⟨r,hr,he⟩;rw[eq_of_beq he];exact hr
 ·intro h;exact⟨_,h,by simp⟩
theorem CK:∀l∈wJ,1<=l.length/\l.length<=3:=by decide
theorem aEe:∀l∈wJ,∀c∈l,c≠32:=by decide
theorem QR:∀l∈wJ,kT ((l.getD 0 0).toNat:Int)=false/\((l.getD 0 0).toNat:Int)≠39/\((l.getD 0 0).toNat:Int)≠34/\blk ((l.getD 0 0).toNat:Int)=false/\(l.getD 0 0=47->l=[47]\/l=[47,61]):=by decide
theorem MG {t:ByteArray}{l r:List UInt8}(hl:l∈wJ) (hr:Ends r) (h:t.data.toList=l++r):uV t=l.length:=by
 have hn:=CK l hl;have hs:t.size=l.length+r.length:=by rw[kU,h,List.length_append]
 have big:∀n,l.length<n->¬(n<=t.size/\BR (t.extract 0 n)=true):=by
  rintro n hn ⟨h1,h2⟩;rcases hr with e|⟨q,e⟩
  ·rw[hs,e]at h1;simp at h1;omega
  ·rw[MP,ext_list,List.drop_zero,h,e]at h2;refine aEe _ h2 32 ?_ rfl;rw[Nat.sub_zero,List.take_append,List.mem_append];right;obtain⟨m,hm⟩:∃m,n-l.length=m+1:=⟨n-l.length-1,by omega⟩;rw[hm];simp
 have fit:∀n,n=l.length->n<=t.size/\BR (t.extract 0 n)=true:=by
  rintro n rfl;refine⟨by omega,?_⟩;rw[MP,ext_list,List.drop_zero,h,Nat.sub_zero,List.take_left];exact hl
 unfold uV;have:l.length=1\/l.length=2\/l.length=3:=by omega
 rcases this with e|e|e
 ·rw[if_neg (big 3 (by omega)),if_neg (big 2 (by omega)),if_pos (fit 1 e.symm),e]
 ·rw[if_neg (big 3 (by omega)),if_pos (fit 2 e.symm),e]
 ·rw[if_pos (fit 3 e.symm),e]
theorem Mw {s:ByteArray}{i:Nat}{l r:List UInt8}(hl:l∈wJ) (hr:Ends r) (h:Dr s i (l++r)):aM s i=.ok (5,⟨l.toArray⟩,0,i+l.length):=by
 have hn:=CK l hl;obtain⟨f1,f2,f3,_,_⟩:=QR l hl;have hb:aD s i=((l.getD 0 0).toNat:Int):=by
  obtain⟨c,l',rfl⟩:∃c l',l=c :: l':=by
   cases l with
   | nil=>simp at hn
   | cons c l'=>exact⟨c,l',rfl⟩
  exact Dr.b0 h
 have hsg:uV (s.extract i s.size)=l.length:=MG hl hr h.rest;unfold aM;rw[hb,if_neg (by rw[f1];decide),if_neg f2,if_neg f3,hsg,if_neg (by omega),h.ext]
inductive Vt:Int->ByteArray->Int->Prop
 | wrd {k:Int} {S:ByteArray} {N:Int}:k=1\/k=2->0<S.size->S.size<=40->(∀c∈S.data.toList,kT (c.toNat:Int)=true)->mE S=.ok (k,S,N)->N=0->Vt k S N
 | int {S:ByteArray} {N:Int}:0<=N->N<=4294967295->(S=⟨#[117]⟩\/(S=⟨#[]⟩/\N<=2147483647))->Vt 3 S N
 | BF (b:UInt8):Vt 3 ⟨#[99]⟩ (nr 1 (b.toNat:Int))
 | str {S:ByteArray}:S.size<=200->Vt 4 S 0
 | uV {S:ByteArray}:S.data.toList∈wJ->Vt 5 S 0
theorem aB5 {s:ByteArray}{b:Int}(hb:0<=b):∀k,(∀j,j<k->0<=hx (aD s j))->0<=val s b k:=by
 intro k
 induction k with
 | zero=>intro _;exact Int.le_refl _
 | succ k ih=>
  intro h;have h1:=ih fun j hj=>h j (by omega);have h2:=h k (by omega);have h3:=Int.mul_nonneg h1 hb;show 0<=val s b k*b+hx (aD s k);omega
theorem Uy {s S:ByteArray}{N:Int}(h:iU s=.ok (S,N)):0<=N/\N<=4294967295/\(S=⟨#[117]⟩\/(S=⟨#[]⟩/\N<=2147483647)):=by
 unfold iU at h;split at h
 ·cases h
 rename_i h1;split at h
 ·cases h
 rename_i h2;have hi:=Except.ok.inj h;have e1:=congrArg Prod.fst hi;have e2:=congrArg Prod.snd hi;simp only at e1 e2;have hn:0<=val (bN s) (iG s) (bN s).size:=by
  refine aB5 (by rcases EG s with e|e|e <;> omega) _ fun j hj=>?_;rcases Int.lt_or_le (hx (aD (bN s) j)) 0 with q|q
  ·refine absurd (.inr ⟨j,hj,?_⟩) h1;unfold qF;rw[decide_eq_true q];rfl
  ·exact q
 have hm:val (bN s) (iG s) (bN s).size<=4294967295:=by
  rcases Int.lt_or_le 4294967295 (val (bN s) (iG s) (bN s).size) with q|q
  ·exact absurd (.inr q) h2
  ·exact q
 rw[<- e2];refine⟨hn,hm,?_⟩;rw[<- e1];split
 ·exact .inl rfl
 ·rename_i q;refine .inr ⟨rfl,?_⟩;rcases Int.lt_or_le 2147483647 (val (bN s) (iG s) (bN s).size) with p|p
  ·exact absurd (.inr p) q
  ·exact p
theorem Uz {s:ByteArray}{c:UInt8}(h:c∈s.data.toList):∃j,j<s.size/\aD s j=(c.toNat:Int):=by
 obtain⟨j,hj,e⟩:=List.getElem_of_mem h;refine⟨j,by rw[kU];exact hj,?_⟩;unfold aD;rw[List.getD_eq_getElem?_getD,List.getElem?_eq_getElem hj,e];rfl
theorem Bf {s:ByteArray}{i:Nat}(hi:i<s.size){k N:Int}{S:ByteArray}{n:Nat}(h:aM s i=.ok (k,S,N,n)):Vt k S N:=by
 have hsz:=bC s i;unfold aM at h;split at h
 ·rename_i hw;have hr:=pJ kT (s.extract i s.size);split at h
  ·cases h
  ·rename_i k' S' N' hk;cases h;generalize hW:s.extract i (i+run kT (s.extract i s.size))=Wd at hk;have hb0:aD (s.extract i s.size) 0=aD s i:=(by rw[jS s i 0 (by omega),Nat.add_zero]);have hp:0<run kT (s.extract i s.size):=LY (by omega) (by rw[hb0];exact hw);have hWs:Wd.size=run kT (s.extract i s.size):=(by rw[<- hW,ext_size];have:=hr.1;omega);have hall:∀c∈Wd.data.toList,kT (c.toNat:Int)=true:=by
    intro c hc;obtain⟨j,hj,e⟩:=Uz hc;rw[<- e,<- hW,nP s i _ j (by omega) (by have:=hr.1;omega)];have:=hr.2.1 j (by omega);rw[jS s i j (by have:=hr.1;omega)]at this;exact this
   have hk0:=hk;unfold mE at hk;split at hk
   ·split at hk
    ·cases hk
    ·rename_i hi';cases hk;obtain⟨q1,q2,q3⟩:=Uy hi';exact .int q1 q2 q3
   ·split at hk
    ·cases hk
    ·rename_i Uo;split at hk
     ·cases hk;exact .wrd (.inr rfl) (by omega) (by omega) hall hk0 rfl
     ·cases hk;exact .wrd (.inl rfl) (by omega) (by omega) hall hk0 rfl
 ·split at h
  ·split at h
   ·cases h
   ·split at h
    ·cases h;exact .BF _
    ·cases h
  ·split at h
   ·split at h
    ·cases h
    ·split at h
     ·cases h
     ·rename_i hb;cases h;refine .str ?_;simp[ByteArray.size];omega
   ·split at h
    ·cases h
    ·rename_i hz;cases h;refine .uV ?_;have:=WK _ hz;have hle:=(EI (s.extract i s.size)).1;rw[xQ s i s.size 0 _ (by omega) (Nat.le_refl _) (Nat.zero_le _),Nat.add_zero]at this;exact MP.1 this
theorem nr1:∀n:Nat,n<256->(nr 1 (n:Int) % 256).toNat=n/\0<=nr 1 (n:Int)/\nr 1 (n:Int)<=4294967295:=by decide +kernel
theorem Bg {N:Int}{S:ByteArray}{T:List UInt8}(hN:0<=N) (hS:S=⟨T.toArray⟩) (hT:T=[117]\/T=[]) (l c:Int):(nH ⟨3,S,N,l,c⟩).data.toList=Lib.decDigits N.toNat++T:=by
 unfold nH
 dsimp only
 rw[if_neg (by omega),if_pos rfl];rcases hT with e|e
 ·rw[hS,e,if_neg (by decide),if_pos rfl,vV hN];show ((⟨(Lib.decDigits N.toNat).toArray⟩:ByteArray)++⟨[117].toArray⟩).data.toList=_;rw[vH]
 ·rw[hS,e,if_neg (by decide),if_neg (by decide),vV hN,List.append_nil]
theorem JX {c:Int}(h:kT c=true):blk c=false/\c≠47:=by
 unfold kT dg lt at h;simp only[Bool.or_eq_true,decide_eq_true_eq,beq_iff_eq]at h;unfold blk;simp only[Bool.or_eq_false_iff,beq_eq_false_iff_ne,Bool.and_eq_false_iff,decide_eq_false_iff_not];omega
theorem Va {k:Int}{S:ByteArray}{N:Int}(hv:Vt k S N) (l c:Int){s:ByteArray}{i:Nat}{r:List UInt8}(hr:Ends r) (h:Dr s i ((nH ⟨k,S,N,l,c⟩).data.toList++r)):aM s i=.ok (k,S,N,i+(nH ⟨k,S,N,l,c⟩).size)/\i<s.size/\blk (aD s i)=false/\¬lc s i/\¬bc s i:=by
 have QS:aD s i≠47->¬lc s i/\¬bc s i:=fun q=>⟨fun e=>q e.2.1,fun e=>q e.2.1⟩;cases hv with
 | wrd hk h0 Uo hall hw hN=>
  have e:nH ⟨k,S,N,l,c⟩=S:=by unfold nH;dsimp only;rw[if_pos (by omega)]
  rw[e]at h ⊢;obtain⟨b,t,hb⟩:∃b t,S.data.toList=b :: t:=by
   cases q:S.data.toList with
   | nil=>rw[kU,q]at h0;simp at h0
   | cons b t=>exact⟨b,t,rfl⟩
  have hS:(⟨S.data.toList.toArray⟩:ByteArray)=S:=by simp
  have:=JV h hr hall (by rw[hb];simp) (by rw[hS];exact hw);rw[hb]at h;have hw0:kT (aD s i)=true:=by rw[Dr.b0 h];exact hall b (by rw[hb];simp)
  obtain⟨q1,q2⟩:=JX hw0;exact⟨by rw[kU];exact this,Dr.lt h,q1,QS q2⟩
 | int h0 h1 hS=>
  obtain⟨T,rfl,hT⟩:∃T:List UInt8,S=⟨T.toArray⟩/\(T=[117]\/(T=[]/\N.toNat<=2147483647)):=by
   rcases hS with e|⟨e,h⟩
   ·exact⟨[117],e,.inl rfl⟩
   ·exact⟨[],e,.inr ⟨rfl,by omega⟩⟩
  have e:=Bg h0 rfl (T:=T) (by rcases hT with e|⟨e,_⟩;exact .inl e;exact .inr e) l c;rw[e]at h;have:=Mv N.toNat T hT (by omega) hr h;rw[show ((N.toNat:Nat):Int)=N by omega]at this;obtain⟨b,t,hd,hc1,hc2⟩:=vE _ N.toNat (Nat.le_refl _);rw[hd]at h;have hb:aD s i=(b.toNat:Int):=Dr.b0 h;obtain⟨q1,q2⟩:=JX (aEc ⟨hc1,hc2⟩);refine⟨by rw[kU,e];exact this,Dr.lt h,by rw[hb];exact q1,QS (by rw[hb];exact q2)⟩
 | BF b=>
  have e:nH ⟨3,⟨#[99]⟩,nr 1 (b.toNat:Int),l,c⟩=Pl.BF b.toNat:=by
   unfold nH
   dsimp only
   rw[if_neg (by omega),if_pos rfl,if_pos rfl,(nr1 b.toNat b.toNat_lt).1]
  rw[e]at h ⊢;have hb:aD s i=39:=by
   have:Dr s i (39 :: (shown b.toNat 39++[39]++r)):=by
    have e2:(Pl.BF b.toNat).data.toList++r=39 :: (shown b.toNat 39++[39]++r):=by
     unfold Pl.BF;simp
    rw[e2]at h;exact h
   exact this.b0
  have hlt:i<s.size:=by
   rcases Nat.lt_or_ge i s.size with q|q
   ·exact q
   ·rw[LC s i q]at hb;cases hb
  exact⟨Mr h,hlt,by rw[hb];decide,QS (by rw[hb];decide)⟩
 | str hS=>
  have e:nH ⟨4,S,0,l,c⟩=qt S 34:=by
   unfold nH
   dsimp only
   rw[if_neg (by omega),if_neg (by omega),if_pos rfl]
  rw[e]at h ⊢;have hb:aD s i=34:=by
   have e2:(qt S 34).data.toList++r=34 :: ((S.data.toList.take S.size).flatMap (fun b=>shown b.toNat 34)++[34]++r):=by
    unfold qt qc;simp
   rw[e2]at h;exact h.b0
  have hlt:i<s.size:=by
   rcases Nat.lt_or_ge i s.size with q|q
   ·exact q
   ·rw[LC s i q]at hb;cases hb
  exact⟨EL hS h,hlt,by rw[hb];decide,QS (by rw[hb];decide)⟩
 | uV hS=>
  have e:nH ⟨5,S,0,l,c⟩=S:=by unfold nH;dsimp only;rw[if_pos (by omega)]
  rw[e]at h ⊢;have hSS:(⟨S.data.toList.toArray⟩:ByteArray)=S:=by simp
  have:=Mw hS hr h;rw[hSS]at this;obtain⟨_,_,_,f4,f5⟩:=QR _ hS;have hn:=CK _ hS;obtain⟨b,t,hbt⟩:∃b t,S.data.toList=b :: t:=by
   cases q:S.data.toList with
   | nil=>rw[q]at hn;simp at hn
   | cons b t=>exact⟨b,t,rfl⟩
  rw[hbt]at h f4 f5;have hb:aD s i=(b.toNat:Int):=Dr.b0 h;refine⟨by rw[kU];exact this,Dr.lt h,by rw[hb];exact f4,?_⟩;by_cases h47:b=47
  ·have nb:aD s (i+1)≠47/\aD s (i+1)≠42:=by
    rcases f5 h47 with q|q
    ·cases q;rcases hr with e|⟨p,e⟩
     ·rw[e]at h;have:=(Dr.tl h).nil;rw[LC s _ this]
      decide
     ·rw[e]at h;rw[show aD s (i+1)=32 from Dr.b1 h]
      decide
    ·cases q;rw[show aD s (i+1)=61 from Dr.b1 h]
     decide
   exact⟨fun q=>nb.1 q.2.2,fun q=>nb.2 q.2.2⟩
  ·refine QS fun q=>h47 ?_;rw[hb]at q;exact UInt8.toNat_inj.1 (by show b.toNat=47;omega)
theorem uF {k:Int}{S:ByteArray}{N:Int}(hv:Vt k S N) (l c:Int):(nH ⟨k,S,N,l,c⟩).size<=802/\0<(nH ⟨k,S,N,l,c⟩).size/\S.size<=200/\0<=N/\N<=4294967295/\1<=k/\k<=5:=by
 cases hv with
 | wrd hk h0 Uo hall hw hN=>
  have e:nH ⟨k,S,N,l,c⟩=S:=by unfold nH;dsimp only;rw[if_pos (by omega)]
  rw[e];omega
 | int h0 h1 hS=>
  obtain⟨T,rfl,hT⟩:∃T:List UInt8,S=⟨T.toArray⟩/\(T=[117]\/T=[]):=by
   rcases hS with e|⟨e,h⟩
   ·exact⟨[117],e,.inl rfl⟩
   ·exact⟨[],e,.inr rfl⟩
  have e:=Bg h0 rfl hT l c;have hl:=Uw 9 N.toNat (by omega);obtain⟨b,t,hd,_⟩:=vE _ N.toNat (Nat.le_refl _);have hTl:T.length<=1:=by rcases hT with e|e <;> rw[e] <;> simp
  have hd1:0<(Lib.decDigits N.toNat).length:=by rw[hd];simp
  rw[kU,e,List.length_append,kU];show _/\_/\T.length<=200/\_;omega
 | BF b=>
  have e:nH ⟨3,⟨#[99]⟩,nr 1 (b.toNat:Int),l,c⟩=Pl.BF b.toNat:=by
   unfold nH
   dsimp only
   rw[if_neg (by omega),if_pos rfl,if_pos rfl,(nr1 b.toNat b.toNat_lt).1]
  have h1:=oH b.toNat 39;have h2:(Pl.BF b.toNat).size=(shown b.toNat 39).length+2:=by
   rw[kU];unfold Pl.BF;simp
  have h3:=nr1 b.toNat b.toNat_lt;rw[e,h2];show _/\_/\1<=200/\_;omega
 | str hS=>
  have e:nH ⟨4,S,0,l,c⟩=qt S 34:=by
   unfold nH
   dsimp only
   rw[if_neg (by omega),if_neg (by omega),if_pos rfl]
  have hf:∀a:List UInt8,(a.flatMap fun b=>shown b.toNat 34).length<=4*a.length:=by
   intro a
   induction a with
   | nil=>simp
   | cons x a ih=>
    rw[List.flatMap_cons,List.length_append,List.length_cons];have:=oH x.toNat 34;omega
  have h2:(qt S 34).size=(S.data.toList.flatMap fun b=>shown b.toNat 34).length+2:=by
   rw[kU];unfold qt qc;rw[kU S,List.take_length];simp
  have:=hf S.data.toList;rw[<- kU]at this;rw[e,h2];omega
 | uV hS=>
  have e:nH ⟨5,S,0,l,c⟩=S:=by unfold nH;dsimp only;rw[if_pos (by omega)]
  have hn:=CK _ hS;rw[<- kU]at hn;rw[e];omega
end Pl
namespace W
open Go.RowKit
structure Touch (a:Option Addr) (w w':World):Prop where
 os:w'.os=w.os
 tape:w'.tape=w.tape
 output:w'.output=w.output
 size:w'.heap.size=w.heap.size
 block:∀k,(∀ad,a=some ad->k≠ad.block)->w'.heap[k]?=w.heap[k]?
theorem Touch.refl (a:Option Addr) (w:World):Touch a w w:=⟨rfl,rfl,rfl,rfl,fun _ _=>rfl⟩
theorem Touch.setCell {a:Option Addr}{w u:World}(h:Touch a w u){g:Nat}(hp:a=some ⟨g,0,none⟩) (x:Value){i:Nat}:Touch a w (u.setCell ⟨g,i,none⟩ x):=
 ⟨h.os,h.tape,h.output,by simpa using h.size,fun k hk=>(Below.heap_setCell u ⟨g,i,none⟩ x k (show k≠g from hk ⟨g,0,none⟩ hp)).trans (h.block k hk)⟩
theorem WW (k:Int) (len:Nat) (hk:0<=k/\k+len<=4611686018427387904):∀n∈(List.range len).map (fun (i:Nat)=>(k+(i:Int)) % 256),(Lit.int .u8 n).wf=true:=by
 intro n hn;obtain⟨i,hi,rfl⟩:=List.mem_map.1 hn;have h1:0<=(k+(i:Int)) % 256:=by omega
 have h2:(k+(i:Int)) % 256<=255:=by omega
 generalize (k+(i:Int)) % 256=y at h1 h2;simp[Lit.wf,IntKind.min,IntKind.max,IntKind.signed,IntKind.bits];omega
def oD (k:Int) (len:Nat):List Int:=(List.range len).map fun (i:Nat)=>(k+(i:Int)) % 256
theorem dD (k:Int) (len:Nat):(oD k len).length=len:=by simp[oD]
theorem QU (k:Int) (len i:Nat) (h:i<len):(oD k len).getD i 0=(k+(i:Int)) % 256:=by
 rw[List.getD_eq_getElem?_getD];simp[oD,h]
def oP (k:Int) (zs:List Int) (j:Nat):List Int:=(oD k zs.length).take j++zs.drop j
theorem MQ (k:Int) (zs:List Int):oP k zs 0=zs:=by simp[oP]
theorem MR (k:Int) (zs:List Int){j:Nat}(h:zs.length<=j):oP k zs j=oD k zs.length:=by
 unfold oP;rw[List.take_of_length_le (by rw[dD];exact h),List.drop_of_length_le h,List.append_nil]
theorem EM (k:Int) (zs:List Int) (j:Nat):(oP k zs j).length=zs.length:=by
 unfold oP;rw[List.length_append,List.length_take,List.length_drop,dD];omega
theorem QV (k:Int) (zs:List Int){j:Nat}(h:j<zs.length):(oP k zs j).set j ((k+(j:Int)) % 256)=oP k zs (j+1):=by
 have hx:(oD k zs.length)[j]?=some ((k+(j:Int)) % 256):=by simp[oD,h]
 apply List.ext_getElem?;intro i;unfold oP;rw[List.getElem?_set,List.length_append,List.length_take,List.length_drop,dD];by_cases h1:j=i
 ·subst h1;rw[if_pos rfl,if_pos (by omega),List.getElem?_append_left (by rw[List.length_take,dD];omega),List.getElem?_take,if_pos (by omega),hx]
 ·rw[if_neg h1];by_cases h2:i<j
  ·rw[List.getElem?_append_left (by rw[List.length_take,dD];omega),List.getElem?_append_left (by rw[List.length_take,dD];omega),List.getElem?_take,List.getElem?_take,if_pos h2,if_pos (by omega)]
  ·rw[List.getElem?_append_right (by rw[List.length_take,dD];omega),List.getElem?_append_right (by rw[List.length_take,dD];omega),List.length_take,List.length_take,dD,List.getElem?_drop,List.getElem?_drop];congr 1;omega
theorem IA {lo:Nat}(a:Option Addr) (len cap:Nat) (zs:List Int) (k:Int) (w:World) (h:Own .u8 5 lo w a len cap zs) (hk:0<=k/\k+len<=4611686018427387904) :
  Calls Tryz.prog 11 #[.slice a len cap,.int .i64 k] w fun e w'=>e=.returned (.int .i64 (k+len))/\Own .u8 5 lo w' a len cap (oD k len)/\Touch a w w':=by
 have hsm:=h.row.small;have hl:=h.row.1;have HO:Hid (w.ownsRow lo 5 1 (.slice a len cap) len (zs.map (Value.int .u8))):=h.1;have HL:Hid (zs.length=len):=hl;have HF:Hid (len=0\/∃g,a=some ⟨g,0,none⟩):=by
  rcases h.1.2 with ⟨h0,h1⟩|⟨g,_,_,h0,_⟩
  ·exact .inl h1
  ·simp only[Value.slice.injEq]at h0;exact .inr ⟨g,h0.1⟩
 clear h hl;go_enter Tryz.func11,Tryz.ntmps11;go_wp2;go_loopw [1,5] (fun x i wr=>∃j:Nat,j<=len/\i=.int .i64 j/\x=.int .i64 (k+(j:Int))/\wr.ownsRow lo 5 1 (.slice a len cap) len ((oP k zs j).map (Value.int .u8))/\Touch a w wr) (fun _ i _=>len-(intOf i).toNat)
 case atStart=>exact⟨0,Nat.zero_le _,rfl,by simp,by rw[MQ];exact HO.o,Touch.refl _ _⟩
 case round=>
  obtain⟨j,hj,rfl,rfl,ho,ht⟩:=hrel;clear HO;have HO:Hid (wr.ownsRow lo 5 1 (.slice a len cap) len ((oP k zs j).map (Value.int .u8))):=ho;have HT:Hid (Touch a w wr):=ht;clear ho ht;by_cases hlt:j<len
  ·obtain⟨g,rfl⟩:=HF.o.resolve_left (by omega);have hfz:wr.frozen? ⟨g,j,none⟩=false:=HO.o.frozenAt j;obtain⟨y,hy⟩:∃y,wr.cell? ⟨g,j,none⟩=some (.int .u8 y):=by
    have:=HO.o.cellAt j (by omega);rw[List.getElem?_map,List.getElem?_eq_getElem (by rw[EM];have:=HL.o;omega)]at this;exact⟨_,this⟩
   go_wp2;go_roundw
   case rel=>
    have st:=HO.o.stored j (.int .u8 ((k+(j:Int)) % 256));refine⟨j+1,by omega,by go_num,congrArg (Value.int .i64) (by omega),?_,HT.o.setCell rfl _⟩;rw[<- QV k zs (by have:=HL.o;omega),List.map_set];exact st.1
   case measure=>simp[intOf];omega
  ·have hje:j=len:=(by omega);subst hje;go_wp2;go_ret;refine⟨rfl,⟨?_,WW k _ hk⟩,HT.o⟩;have:=HO.o
   rwa [MR k zs (by have:=HL.o;omega),HL.o]at this
theorem IC {lo:Nat}(a:Option Addr) (len cap:Nat) (k:Int) (w:World) (h:Row .u8 lo w a len cap (oD k len)) (hk:0<=k/\k+len<=4611686018427387904) :
  Calls Tryz.prog 12 #[.slice a len cap,.int .i64 k] w fun e w'=>e=.returned (.int .i64 (k+len))/\Bw w w':=by
 have hsm:=h.small;have HR:Hid (len=0\/∃b off,a=some ⟨b,off,none⟩/\lo<=b/\b<w.heap.size/\∀i,i<len->w.cell? ⟨b,off+i,none⟩=some (.int .u8 ((oD k len).getD i 0))):=h.2.2.2.2;clear h;go_enter Tryz.func12,Tryz.ntmps12;go_wp2;go_loopw [1,5] (fun x i wr=>∃j:Nat,j<=len/\i=.int .i64 j/\x=.int .i64 (k+(j:Int))/\Bw w wr) (fun _ i _=>len-(intOf i).toNat)
 case atStart=>exact⟨0,Nat.zero_le _,rfl,by simp,Below.refl _ _⟩
 case round=>
  obtain⟨j,hj,rfl,rfl,hb⟩:=hrel;have HB:Hid (Bw w wr):=hb;clear hb;by_cases hlt:j<len
  ·obtain⟨b,off,rfl,_,hbl,hc⟩:=HR.o.resolve_left (by omega);have hcell:wr.cell? ⟨b,off+j,none⟩=some (.int .u8 ((k+(j:Int)) % 256)):=(by rw[HB.o.cell (by exact hbl),hc j hlt,QU k len j hlt]);clear hc;go_wp2;go_roundw
   case rel=>exact⟨j+1,by omega,by go_num,congrArg (Value.int .i64) (by omega),HB.o⟩
   case measure=>simp[intOf];omega
  ·have hje:j=len:=(by omega);subst hje;go_wp2;go_ret;exact⟨rfl,HB.o⟩
end W
namespace Pl
end Pl
namespace W
open Go.RowKit
end W
namespace Pl
def mtx:Nat->Int->ByteArray->ByteArray
 | 0,_,s=>s
 | f+1,n,s=>if n<=0 then s else mtx f (n / 10) (ByteArray.empty.push (UInt8.ofNat (48+n % 10).toNat)++s)
def aA9 (k:Int):ByteArray:=(⟨#[109]⟩:ByteArray)++mtx k.toNat k ⟨#[]⟩
theorem Mx (f:Nat) (n:Int) (h:n<=0) (s:ByteArray):mtx f n s=s:=by
 cases f
 ·rfl
 ·exact if_pos h
end Pl
namespace W
open Go.RowKit
theorem JY (w:World) (c:Int):(convert 26 9 (.slice (some ⟨w.heap.size,0,none⟩) 1 1)).run Tryz.prog (w.alloc (.cells #[.int .u8 c] 5))=.ok (.string (ByteArray.empty.push (UInt8.ofNat c.toNat))) (w.alloc (.cells #[.int .u8 c] 5)):=by
 rw[run_convert_bytes_string _ 26 9 5 _ _ _ Tryz.underlying26 Tryz.underlying5 Tryz.underlying9];refine run_bytesToString _ _ 1 1 [c] ?_;refine (run_loadCells_list _ _ [.int .u8 c] ?_).trans rfl;intro j v hj;rcases j with _|j
 ·cases hj;exact cell_of_row _ w.heap.size 0 _ 5 (0,0) (heap_alloc_new w _)
 ·simp at hj
set_option maxRecDepth 8000 in
theorem QW (k:Int) (hk:1<=k/\k<=4611686018427387904) (w:World):Calls Tryz.prog 47 #[.int .i64 k] w fun e w'=>e=.returned (.string (Pl.aA9 k))/\Bw w w':=by
 have h0:¬k<=0:=by omega
 go_enter Tryz.func47,Tryz.ntmps47;go_wp2_with fail
 go_loopw [0,3] (fun x v wr=>∃(n:Int) (s:ByteArray) (m f:Nat),x=.int .i64 n/\v=.string s/\0<=n/\n<=4611686018427387904/\n<10 ^ m/\s.size+m<=19/\n<=f/\Pl.mtx f n s=Pl.mtx k.toNat k ⟨#[]⟩/\Bw w wr) (fun x _ _=>(intOf x).toNat)
 case atStart=>exact⟨k,⟨#[]⟩,19,k.toNat,rfl,rfl,by omega,hk.2,by omega,by decide,by omega,rfl,Below.refl _ _⟩
 case round=>
  obtain⟨n,s,m,f,rfl,rfl,hn0,hn1,hnm,hsm,hf,hmt,hbel⟩:=hrel;have HB:Hid (Bw w wr):=hbel;have HM:Hid (n<10 ^ m):=hnm;have HT:Hid (Pl.mtx f n s=Pl.mtx k.toNat k ⟨#[]⟩):=hmt;have HF:Hid (n<=f):=hf;clear hbel hnm hmt hf;by_cases hp:0<n
  ·have hcv:=JY wr;go_wp2;go_roundw
   case rel=>
    obtain⟨m,rfl⟩:∃m',m=m'+1:=by
     rcases m with _|m
     ·have:=HM.o;simp at this;omega
     ·exact⟨m,rfl⟩
    obtain⟨f,rfl⟩:∃f',f=f'+1:=by
     rcases f with _|f
     ·have:=HF.o;omega
     ·exact⟨f,rfl⟩
    have hq:n / 10<10 ^ m:=by
     have:=HM.o;rw[Int.pow_succ]at this;omega
    have hff:=HF.o;refine⟨n / 10,_,m,f,by go_num,rfl,by omega,by omega,hq,by simp;omega,by omega,?_,HB.o.trans ((aB wr _).mono HB.o.size)⟩;rw[<- HT.o];show _=if n<=0 then s else _
    rw[if_neg (by omega)]
   case measure=>simp[intOf];omega
  ·go_wp2;go_ret;refine⟨?_,HB.o⟩;unfold Pl.aA9;rw[<- HT.o,Pl.Mx _ _ (by omega)];rfl
end W
namespace Pl
def Tk.zero:Tk:=⟨0,⟨#[]⟩,0,0,0⟩
theorem Tk.all_cons (t:Tk) (ts:List Tk):Tk.all (t :: ts)=.int .i64 t.k :: .string t.S :: .int .i64 t.N :: .int .i64 t.l :: .int .i64 t.c :: Tk.all ts:=rfl
theorem Tk.WX (ts:List Tk):(Tk.all ts).length=ts.length*5:=by
 induction ts with
 | nil=>rfl
 | cons t ts ih=>rw[Tk.all_cons];simp[ih];omega
theorem Tk.Bh:∀(ts:List Tk) (k j:Nat),k<ts.length->j<5->(Tk.all ts)[k*5+j]?=(ts.getD k Tk.zero).cells[j]?
 | [],k,j,hk,hj=>by simp at hk
 | t :: ts,0,j,hk,hj=>by
  rw[Tk.all_cons];rcases j with _|_|_|_|_|j
  ·rfl
  ·rfl
  ·rfl
  ·rfl
  ·rfl
  ·omega
 | t :: ts,k+1,j,hk,hj=>by
  rw[Tk.all_cons,show (k+1)*5+j=(k*5+j)+1+1+1+1+1 by omega];simp only[List.getElem?_cons_succ,List.getD_cons_succ];exact Tk.Bh ts k j (by simpa using hk) hj
end Pl
namespace W
open Go.RowKit
theorem Vb {w:World}{lo len cap:Nat}{a:Option Addr}{ts:List Pl.Tk}(h:w.ownsRow lo 102 5 (.slice a len cap) len (Pl.Tk.all ts)):ts.length=len/\len<=9223372036854775807:=by
 have h1:=h.1;rw[Pl.Tk.WX]at h1;refine⟨by omega,?_⟩;rcases h.2 with ⟨h0,h2⟩|⟨g,c,cur,h0,_,_,hn,hc,_⟩
 ·omega
 ·unfold maxLen at hc;omega
theorem zC {w:World}{lo len cap:Nat}{a:Option Addr}{ts:List Pl.Tk}(h:w.ownsRow lo 102 5 (.slice a len cap) len (Pl.Tk.all ts)){k:Nat}(hk:k<len):∃g,a=some ⟨g,0,none⟩/\lo<=g/\g<w.heap.size/\∃x,x=ts.getD k Pl.Tk.zero/\w.cell? ⟨g,k*5,none⟩=some (.int .i64 x.k)/\w.cell? ⟨g,k*5+1,none⟩=some (.string x.S)/\w.cell? ⟨g,k*5+2,none⟩=some (.int .i64 x.N)/\w.cell? ⟨g,k*5+3,none⟩=some (.int .i64 x.l)/\w.cell? ⟨g,k*5+4,none⟩=some (.int .i64 x.c):=by
 have hl:=(Vb h).1;obtain⟨g,rfl,hlo,hg⟩:∃g,a=some ⟨g,0,none⟩/\lo<=g/\g<w.heap.size:=by
  rcases h.2 with ⟨h0,h2⟩|⟨g,c,cur,h0,hlo,hg,_⟩
  ·omega
  ·simp only[Value.slice.injEq]at h0;exact⟨g,h0.1,hlo,(Array.getElem?_eq_some_iff.1 hg).1⟩
 have c:=fun j (hj:j<5)=>(h.cellAt (k*5+j) (by omega)).trans (Pl.Tk.Bh ts k j (by omega) hj);exact⟨g,rfl,hlo,hg,_,rfl,c 0 (by omega),c 1 (by omega),c 2 (by omega),c 3 (by omega),c 4 (by omega)⟩
end W
namespace Pl
theorem Lx.last {s:ByteArray}{i:Nat}{acc:List Tk}{r:List Tk × Int × Int × Int}(h:Lx s i acc r):r.1=[]\/(r.2.1=0/\∃l j,r.1=l++[AA s j]):=by
 induction h with
 | opn _=>exact .inl rfl
 | fin _ _=>exact .inr ⟨rfl,_,_,rfl⟩
 | bad _ _ _=>exact .inl rfl
 | many _ _ _ _=>exact .inl rfl
 | go _ _ _ _ _ ih=>exact ih
theorem Lx.all {s:ByteArray}{i:Nat}{acc:List Tk}{r:List Tk × Int × Int × Int}(h:Lx s i acc r) (ha:∀t∈acc,Vt t.k t.S t.N) (hl:acc.length<=6000):(r.1=[]/\r.2.1≠0)\/(r.2.1=0/\∃l j,r.1=l++[AA s j]/\l.length<=6000/\∀t∈l,Vt t.k t.S t.N):=by
 induction h with
 | opn _=>exact .inl ⟨rfl,fun q=>absurd (show (3:Int)=0 from q) (by decide)⟩
 | fin _ _=>exact .inr ⟨rfl,_,_,rfl,hl,ha⟩
 | bad _ _ h=>exact .inl ⟨rfl,EJ h⟩
 | many _ _ _ _=>exact .inl ⟨rfl,fun q=>absurd (show (9:Int)=0 from q) (by decide)⟩
 | go hsk hj pE hn _ ih=>
  refine ih (fun t ht=>?_) (by rw[List.length_append,List.length_singleton];omega);rcases List.mem_append.1 ht with q|q
  ·exact ha t q
  ·rw[List.mem_singleton.1 q];exact Bf hj pE
theorem nG.all {s:ByteArray}{ts:List Tk}{c l k:Int}(h:W.nG s (ts,c,l,k)):(ts=[]/\c≠0)\/(c=0/\∃us j,ts=us++[AA s j]/\us.length<=6000/\∀t∈us,Vt t.k t.S t.N):=by
 rcases h with ⟨_,h⟩|⟨_,h⟩
 ·cases h;exact .inl ⟨rfl,by decide⟩
 ·exact h.all (fun t ht=>(by cases ht)) (Nat.zero_le _)
theorem aB6 {k:Int}{S:ByteArray}{N:Int}(hv:Vt k S N) (l c:Int):W.nG (nH ⟨k,S,N,l,c⟩) ([⟨k,S,N,1,1⟩,AA (nH ⟨k,S,N,l,c⟩) (nH ⟨k,S,N,l,c⟩).size],0,0,0):=by
 obtain⟨z1,z2,_⟩:=uF hv l c;generalize hx:nH ⟨k,S,N,l,c⟩=x at *;obtain⟨h1,h2,h3,h4,h5⟩:=Va hv l c (s:=x) (i:=0) (r:=[]) (.inl rfl) (by rw[hx,List.append_nil];exact Uu x);rw[hx,Nat.zero_add]at h1;refine .inr ⟨by omega,?_⟩;exact .go (.stop (.inr ⟨h3,h4,h5⟩)) h2 h1 (by decide) (.fin (acc:=[⟨k,S,N,ln x 0,cn x 0⟩]) (.stop (.inl (Nat.le_refl _))) rfl)
theorem Na {t:Tk}(hv:Vt t.k t.S t.N):EK t=nH t:=by
 refine CJ ?_;obtain⟨k,S,N,l,c⟩:=t;exact⟨_,_,0,0,0,aB6 hv l c,rfl⟩
def Nb (a b:Tk):Prop:=a.k=b.k/\a.S=b.S/\a.N=b.N
inductive wM:List Tk->List Tk->Prop
 | nil:wM [] []
 | cons {a b:Tk} {x y:List Tk}:Nb a b->wM x y->wM (a :: x) (b :: y)
theorem wM.snoc {x y:List Tk}{a b:Tk}(h:wM x y) (hab:Nb a b):wM (x++[a]) (y++[b]):=by
 induction h with
 | nil=>exact .cons hab .nil
 | cons h _ ih=>exact .cons h ih
theorem wM.len {x y:List Tk}(h:wM x y):x.length=y.length:=by
 induction h with
 | nil=>rfl
 | cons _ _ ih=>simp[ih]
theorem wM.at {x y:List Tk}(h:wM x y):∀j,Nb (x.getD j Tk.zero) (y.getD j Tk.zero):=by
 induction h with
 | nil=>intro j;exact⟨rfl,rfl,rfl⟩
 | cons h _ ih=>
  intro j;cases j with
  | zero=>exact h
  | succ j=>exact ih j
end Pl
namespace W
open Go.RowKit
def EN (lo:Nat) (w:World) (a:Option Addr) (len cap:Nat) (ss:List ByteArray):Prop:=
 (ss.length=len/\∀x∈ss,x.size<=maxLen)/\len<=cap/\cap<=maxLen/\(len=0\/∃b off,a=some ⟨b,off,none⟩/\lo<=b/\b<w.heap.size/\∀i,i<len->w.cell? ⟨b,off+i,none⟩=some (.string (ss.getD i ⟨#[]⟩)))
theorem EN.keep {lo:Nat}{w w':World}{a:Option Addr}{len cap:Nat}{ss:List ByteArray}(h:EN lo w a len cap ss) (hb:Bw w w'):EN lo w' a len cap ss:=by
 obtain⟨h1,h2,h3,h4⟩:=h;refine⟨h1,h2,h3,?_⟩;rcases h4 with h4|⟨b,off,ha,hlo,hlt,hc⟩
 ·exact .inl h4
 ·exact .inr ⟨b,off,ha,hlo,Nat.lt_of_lt_of_le hlt hb.size,fun i hi=>(hb.cell (p:=⟨b,off+i,none⟩) hlt).trans (hc i hi)⟩
theorem EN.at {lo:Nat}{w:World}{a:Option Addr}{len cap:Nat}{ss:List ByteArray}(h:EN lo w a len cap ss){k:Nat}(hk:k<len) :
  ∃(b off:Nat),a=some ⟨b,off,none⟩/\lo<=b/\b<w.heap.size/\w.cell? ⟨b,off+k,none⟩=some (.string (ss.getD k ⟨#[]⟩))/\(ss.getD k ⟨#[]⟩).size<=maxLen:=by
 obtain⟨h1,h2,h3,h4⟩:=h;rcases h4 with h4|⟨b,off,ha,hlo,hlt,hc⟩
 ·omega
 ·refine⟨b,off,ha,hlo,hlt,hc k hk,?_⟩;rw[List.getD_eq_getElem?_getD,List.getElem?_eq_getElem (by rw[h1.1];exact hk)];exact h1.2 _ (List.getElem_mem _)
theorem EN.small {lo:Nat}{w:World}{a:Option Addr}{len cap:Nat}{ss:List ByteArray}(h:EN lo w a len cap ss):len<=9223372036854775807:=by
 have:=h.2.1;have h3:=h.2.2.1;unfold maxLen at h3;omega
end W
namespace Pl
def GA (ss:List ByteArray) (s:ByteArray):Bool:=ss.any fun x=>x.toList == s.toList
theorem Vd {ss:List ByteArray}{s:ByteArray}{k:Nat}(hk:k<ss.length) (h:(ss.getD k ⟨#[]⟩).toList=s.toList):GA ss s=true:=by
 unfold GA;rw[List.any_eq_true];refine⟨ss.getD k ⟨#[]⟩,?_,by rw[h];exact beq_self_eq_true _⟩;rw[List.getD_eq_getElem?_getD,List.getElem?_eq_getElem hk];exact List.getElem_mem _
theorem aB7 {ss:List ByteArray}{s:ByteArray}(h:∀k,k<ss.length->(ss.getD k ⟨#[]⟩).toList≠s.toList):GA ss s=false:=by
 unfold GA;rw[List.any_eq_false];intro x hx;obtain⟨k,hk,rfl⟩:=List.mem_iff_getElem.1 hx;have:=h k hk;rw[List.getD_eq_getElem?_getD,List.getElem?_eq_getElem hk]at this;simpa using this
end Pl
namespace W
open Go.RowKit
theorem Nc {lo:Nat}(a:Option Addr) (len cap:Nat) (ss:List ByteArray) (t:ByteArray) (w:World) (h:EN lo w a len cap ss) :
  Calls Tryz.prog 54 #[.slice a len cap,.string t] w fun e w'=>e=.returned (.bool (Pl.GA ss t))/\Bw w w':=by
 have hs1:(len:Int)<=9223372036854775807:=by have:=h.small;omega
 have H:Hid (EN lo w a len cap ss):=h;clear h;go_enter Tryz.func54,Tryz.ntmps54;go_wp2_with fail
 go_loopw [5] (fun i wr=>∃k:Nat,k<=len/\i=.int .i64 k/\(∀j,j<k->(ss.getD j ⟨#[]⟩).toList≠t.toList)/\Bw w wr) (fun i _=>len-(intOf i).toNat)
 case atStart=>exact⟨0,Nat.zero_le _,rfl,fun j hj=>absurd hj (Nat.not_lt_zero _),Below.refl _ _⟩
 case round=>
  obtain⟨k,hk,rfl,hall,hb⟩:=hrel;have HA:Hid (∀j,j<k->(ss.getD j ⟨#[]⟩).toList≠t.toList):=hall;have HB:Hid (Bw w wr):=hb;clear hb hall;by_cases hlt:k<len
  ·obtain⟨b1,o1,rfl,_,_,hc1,_⟩:=(H.o.keep HB.o).at hlt;obtain⟨x,hx⟩:∃x,x=ss.getD k ⟨#[]⟩:=⟨_,rfl⟩;rw[<- hx]at hc1;have HX:Hid (x=ss.getD k ⟨#[]⟩):=hx;clear hx;have hi:(k:Int)<(len:Int):=(by omega);cases he:(x.toList == t.toList);rotate_left
   ·go_wp2_with fail
    go_ret;exact⟨aC (Pl.Vd (k:=k) (by rw[H.o.1.1];exact hlt) (by rw[<- HX.o];exact eq_of_beq he)).symm,HB.o⟩
   ·go_wp2_with fail
    go_roundw
    case rel=>exact⟨k+1,by omega,by go_num,fun j hj=>by
     by_cases e:j=k
     ·rw[e,<- HX.o];exact ne_of_beq_false he
     ·exact HA.o j (by omega),HB.o⟩
    case measure=>simp[intOf];omega
  ·have hke:k=len:=(by omega);have hi:¬((k:Int)<(len:Int)):=(by omega);go_wp2;go_ret;exact⟨aC (Pl.aB7 (fun j hj=>HA.o j (by rw[H.o.1.1]at hj;omega))).symm,HB.o⟩
end W
namespace Pl
def pR (s:ByteArray):Bool:=decide (1<=s.size) && decide (s.size<=40) && !dg (aD s 0) && !isK s && (List.range s.size).all fun i=>kT (aD s i)
def IE (k:Int):Int:=
 if k=5\/k=10\/k=11\/k=38\/k=39 then 2 else if k=6 then 3 else if k=7 then 4 else if k=8\/k=9\/(12<=k/\k<=14)\/k=28\/k=29\/k=35 then 1 else if k=33\/k=34 then 5 else 0
def CL (x:Nd):Bool:=
 if x.k=5 then decide (1<=x.m/\x.m<=3) else if x.k=10\/x.k=40\/x.k=41 then decide (x.m=1\/x.m=2) else if x.k=42 then decide (1<=x.m/\x.m<=6) else if x.k=46 then decide (1<=x.m/\x.m<=18) else if x.k=48 then decide ((0<=x.m/\x.m<=7)\/(14<=x.m/\x.m<=16)) else decide (x.m=0)
open Classical in
noncomputable def GD (x:Nd) (al:List ByteArray):Bool:=
 if IE x.k=5 then (if x.k=33 then decide (QN ⟨3,x.s,x.n,0,0⟩≠⟨#[]⟩) else decide (x.n=0/\x.s.size<=200))
 else if x.k=1 then decide (1<=x.n/\x.n<=7/\x.s.size=0)
 else if x.n≠0 then false
 else if IE x.k=0\/(IE x.k=4/\x.s.size=0) then decide (x.s.size=0)
 else pR x.s && (decide (IE x.k=2) || (GA al x.s == decide (IE x.k=3)))
open Classical in
noncomputable def wdB (x:Nd) (al:List ByteArray):Bool:=
 if x.s.size=0/\(rl x.k).word=3 then true
 else if (rl x.k).word=1 then pR x.s
 else if (rl x.k).word=2\/(rl x.k).word=3 then pR x.s && !GA al x.s
 else if (rl x.k).word=4 then GA al x.s
 else if (rl x.k).word=5 then decide (EK ⟨if x.k=34 then 4 else 3,x.s,x.n,0,0⟩≠⟨#[]⟩)
 else decide (x.s.size=0)
theorem aB8 {s:ByteArray}(h:pR s=true):1<=s.size:=by unfold pR at h;simp at h;omega
theorem toList_nil {s:ByteArray}(h:s.size≠0):s≠⟨#[]⟩:=fun e=>h (by rw[e];rfl)
theorem QY {t:Tk}(h:EK t≠⟨#[]⟩):Vt t.k t.S t.N:=by
 unfold EK at h;by_cases q:Two (nH t) (Pi t)
 ·obtain⟨j,n,h1,_,h3⟩:=yC (JU q);exact Bf h1 h3
 ·exact absurd (vF q) h
theorem Nf {s:ByteArray}{n:Int}(h:EK ⟨3,s,n,0,0⟩≠⟨#[]⟩):0<=n/\n<=4294967295:=by
 obtain⟨_,_,_,h1,h2,_⟩:=uF (QY h) 0 0;exact⟨h1,h2⟩
theorem EO {s:ByteArray}:EK ⟨4,s,0,0,0⟩≠⟨#[]⟩↔s.size<=200:=by
 constructor
 ·intro h;obtain⟨_,_,h1,_⟩:=uF (QY h) 0 0;exact h1
 ·intro h;have hv:Vt 4 s 0:=.str h;rw[Na (t:=⟨4,s,0,0,0⟩) hv];obtain⟨_,h1,_⟩:=uF hv 0 0;exact toList_nil (by omega)
set_option synthInstance.maxHeartbeats 400000 in
set_option synthInstance.maxSize 2000 in
theorem Ng:∀k:Fin 50,k.val≠0->k.val≠18->let r:=DL.getD k.val Rl.zero;let a:=IE ((k.val:Nat):Int)
  (k.val≠1->k.val≠33->r.xP=0/\r.rX=0)/\(k.val=1->r.xP=1/\r.rX=7/\r.word=0)/\(k.val=33->r.xP=0/\r.rX=4294967295)/\
  ((r.word=0/\a=0)\/(r.word=1/\a=2)\/(r.word=2/\a=1)\/(r.word=3/\a=4)\/(r.word=4/\a=3)\/(r.word=5/\a=5/\(k.val=33\/k.val=34)))/\
  (k.val=1->a=0)/\((k.val=33\/k.val=34)->a=5):=by decide +kernel
theorem EP:∀k:Fin 50,(aH ((k.val:Nat):Int)≠0↔(k.val≠0/\k.val≠18))/\((DL.getD k.val Rl.zero).xO≠0↔(k.val≠0/\k.val≠18/\k.val≠15)):=by decide +kernel
set_option synthInstance.maxHeartbeats 400000 in
set_option synthInstance.maxSize 2000 in
theorem Nh:∀k:Fin 50,let r:=DL.getD k.val Rl.zero
  (k.val=5->r.uZ=1/\r.pQ=3)/\((k.val=10\/k.val=40\/k.val=41)->r.uZ=1/\r.pQ=2)/\(k.val=42->r.uZ=1/\r.pQ=6)/\(k.val=46->r.uZ=1/\r.pQ=18)/\(k.val=48->r.uZ=0/\r.pQ=16)/\
  (k.val≠5->k.val≠10->k.val≠40->k.val≠41->k.val≠42->k.val≠46->k.val≠48->r.uZ=0/\r.pQ=0):=by decide +kernel
def yD (m:Int):Bool:=decide ((0<=m/\m<=7)\/(14<=m/\m<=16))
theorem JZ {x:Nd}{k:Nat}(hk:k<50) (he:x.k=k):CL x=true↔((rl x.k).uZ<=x.m/\x.m<=(rl x.k).pQ)/\(x.k=48->yD x.m=true):=by
 obtain⟨h5,h10,h42,h46,h48,h0⟩:=Nh ⟨k,hk⟩;simp only at h5 h10 h42 h46 h48 h0;rw[he,zX hk];unfold CL yD;rw[he];by_cases c5:k=5
 ·obtain⟨a,b⟩:=h5 c5;rw[a,b,if_pos (by omega)];simp;omega
 rw[if_neg (by omega)];by_cases c10:k=10\/k=40\/k=41
 ·obtain⟨a,b⟩:=h10 c10;rw[a,b,if_pos (by omega)];simp;omega
 rw[if_neg (by omega)];by_cases kV:k=42
 ·obtain⟨a,b⟩:=h42 kV;rw[a,b,if_pos (by omega)];simp;omega
 rw[if_neg (by omega)];by_cases c46:k=46
 ·obtain⟨a,b⟩:=h46 c46;rw[a,b,if_pos (by omega)];simp;omega
 rw[if_neg (by omega)];by_cases kQ:k=48
 ·obtain⟨a,b⟩:=h48 kQ;rw[a,b,if_pos (by omega)];simp only[decide_eq_true_eq];constructor
  ·intro h;exact⟨by omega,fun _=>h⟩
  ·intro h;exact h.2 (by omega)
 rw[if_neg (by omega)];obtain⟨a,b⟩:=h0 c5 (by omega) (by omega) (by omega) kV c46 kQ;rw[a,b];simp;omega
theorem KA {x:Nd}{k:Nat}(hk:k<50) (h0:k≠0) (h18:k≠18) (he:x.k=k){al:List ByteArray}(hal:∀s∈al,pR s=true):GD x al=true↔((rl x.k).xP<=x.n/\x.n<=(rl x.k).rX)/\wdB x al=true:=by
 obtain⟨t1,t2,t3,t4,t5,t6⟩:=Ng ⟨k,hk⟩ h0 h18;simp only at t1 t2 t3 t4 t5 t6;have hin:GA al x.s=true->pR x.s=true:=by
  intro h;unfold GA at h;rw[List.any_eq_true]at h;obtain⟨s,hs,e⟩:=h;have:s=x.s:=by
   have e2:s.toList=x.s.toList:=(by simpa using e);rw[ByteArray.toList_eq,ByteArray.toList_eq]at e2;apply ByteArray.ext;exact Array.toList_inj.mp e2
  rw[<- this];exact hal s hs
 unfold GD wdB;rw[he,zX hk];by_cases jU:k=33
 ·obtain⟨a,b⟩:=t3 jU;have e5:=t6 (.inl jU);have w5:(DL.getD k Rl.zero).word=5:=by rcases t4 with q|q|q|q|q|q <;> omega
  rw[e5,if_pos rfl,if_pos (by omega),a,b,w5];simp only[decide_eq_true_eq];rw[if_neg (by omega),if_neg (by omega),if_neg (by omega),if_neg (by omega),if_pos trivial,if_neg (by omega)];simp only[decide_eq_true_eq];rw[MO];exact⟨fun h=>⟨Nf h,h⟩,fun h=>h.2⟩
 by_cases c34:k=34
 ·obtain⟨a,b⟩:=t1 (by omega) (by omega);have e5:=t6 (.inr c34);have w5:(DL.getD k Rl.zero).word=5:=by rcases t4 with q|q|q|q|q|q <;> omega
  rw[e5,if_pos rfl,if_neg (by omega),a,b,w5];simp only[decide_eq_true_eq];rw[if_neg (by omega),if_neg (by omega),if_neg (by omega),if_neg (by omega),if_pos trivial,if_pos (by omega)];simp only[decide_eq_true_eq];constructor
  ·rintro⟨h1,h2⟩;refine⟨by omega,?_⟩;rw[h1];exact EO.mpr h2
  ·rintro⟨h1,h2⟩;have:x.n=0:=(by omega);rw[this]at h2;exact⟨this,EO.mp h2⟩
 have n5:IE (k:Int)≠5:=by rcases t4 with q|q|q|q|q|q <;> omega
 rw[if_neg n5];by_cases c1:k=1
 ·obtain⟨a,b,w⟩:=t2 c1;rw[if_pos (by omega),a,b,w];simp only[decide_eq_true_eq];rw[if_neg (by omega),if_neg (by omega),if_neg (by omega),if_neg (by omega),if_neg (by omega)];simp only[decide_eq_true_eq];omega
 rw[if_neg (by omega)];obtain⟨a,b⟩:=t1 c1 jU;rw[a,b];by_cases hn:x.n=0
 ·rw[if_neg (by omega)];have hnn:((0:Int)<=x.n/\x.n<=0):=by omega
  rcases t4 with ⟨q1,q2⟩|⟨q1,q2⟩|⟨q1,q2⟩|⟨q1,q2⟩|⟨q1,q2⟩|⟨q1,q2,q3⟩
  ·rw[q1,q2,if_pos (.inl rfl),if_neg (by omega),if_neg (by omega),if_neg (by omega),if_neg (by omega),if_neg (by omega)];simp[hnn]
  ·rw[q1,q2,if_neg (by omega),if_neg (by omega),if_pos rfl];simp[hnn]
  ·rw[q1,q2,if_neg (by omega),if_neg (by omega),if_neg (by omega),if_pos (by omega)];simp[hnn]
  ·rw[q1,q2];by_cases hs:x.s.size=0
   ·rw[if_pos (.inr ⟨rfl,hs⟩),if_pos ⟨hs,rfl⟩];simp[hnn,hs]
   ·rw[if_neg (by omega),if_neg (by omega),if_neg (by omega),if_pos (by omega)];simp[hnn]
  ·rw[q1,q2,if_neg (by omega),if_neg (by omega),if_neg (by omega),if_neg (by omega),if_pos rfl];simp[hnn];exact hin
  ·omega
 ·rw[if_pos hn];constructor
  ·intro h;cases h
  ·rintro⟨h,_⟩;omega
def WY (n:Int):Bool:=decide (0<=n/\n<=1000000)
def GG (o:List Bool) (x:Nd):Bool:=(decide (x.k=21) && decide (x.kids.length=2)) || (decide (x.k=21\/x.k=22\/(24<=x.k/\x.k<=28)) && o.getD (x.kids.getD (x.kids.length-1) 0).toNat false)
def pU (xs:List Nd):Nat->List Bool
 | 0=>[]
 | i+1=>pU xs i++[GG (pU xs i) (nd xs i)]
def rV (xs:List Nd):Nat->List ByteArray
 | 0=>[]
 | i+1=>if (nd xs i).k=12 then rV xs i++[(nd xs i).s] else rV xs i
def kinds (xs:List Nd) (i:Nat):List Int:=(nd xs i).kids.map fun c=>(nd xs c.toNat).k
theorem aX (xs:List Nd) (i:Nat):(kinds xs i).length=(nd xs i).kids.length:=by unfold kinds;rw[List.length_map]
theorem rM (xs:List Nd){i q:Nat}(h:q<(nd xs i).kids.length):(kinds xs i).getD q 0=(nd xs ((nd xs i).kids.getD q 0).toNat).k:=by
 unfold kinds;rw[List.getD_eq_getElem?_getD,List.getElem?_map,List.getElem?_eq_getElem h];have:(nd xs i).kids.getD q 0=(nd xs i).kids[q]:=by rw[List.getD_eq_getElem?_getD,List.getElem?_eq_getElem h];rfl
 rw[this];rfl
def wN (xs:List Nd) (p:Nat):Prop:=(nd xs p).s.size=0/\(nd xs ((nd xs p).kids.getD 0 0).toNat).k=1/\(nd xs ((nd xs p).kids.getD 0 0).toNat).n=1
structure wH (xs:List Nd) (n i:Nat):Prop where
 sort:aH (nd xs i).k≠0
 kids:kS (dM.getD (nd xs i).k.toNat []) (kinds xs i) false=true
 mark:CL (nd xs i)=true
 text:GD (nd xs i) (rV xs i)=true
 line:WY (nd xs i).line=true
 aQ:WY (nd xs i).aQ=true
 Ni:hij (oW xs i) (nd xs i).kids (nd xs i).kids.length<=200
 els:¬((nd xs i).k=21/\(nd xs i).kids.length=3/\(pU xs i).getD ((nd xs i).kids.getD 1 0).toNat false=true)
 void:¬((nd xs i).k=4/\(nd xs i).kids.length=2/\wN xs (i-1))
 unit:(nd xs i).k=15↔i+1=n
def aZ (xs:List Nd):Prop:=1<=xs.length/\xs.length<=4000/\∃l,vP xs xs.length=some l/\l.getD (xs.length-1) 0=0/\∀i,i<xs.length->wH xs xs.length i
structure Dx (xs:List Nd) (i:Nat):Prop where
 mark:(rl (nd xs i).k).uZ<=(nd xs i).m/\(nd xs i).m<=(rl (nd xs i).k).pQ
 num:(rl (nd xs i).k).xP<=(nd xs i).n/\(nd xs i).n<=(rl (nd xs i).k).rX
 line:WY (nd xs i).line=true
 aQ:WY (nd xs i).aQ=true
 word:wdB (nd xs i) (rV xs i)=true
 kids:kI (rl (nd xs i).k) (kinds xs i)
 asn:(nd xs i).k=48->yD (nd xs i).m=true
 void:(nd xs i).k=4->(nd xs i).kids.length=2->¬wN xs ((nd xs i).kids.getD 1 0).toNat
 els:(nd xs i).k=21->(nd xs i).kids.length=3->¬(pU xs i).getD ((nd xs i).kids.getD 1 0).toNat false=true
def zD (xs:List Nd):Prop:=1<=xs.length/\xs.length<=4000/\(nd xs (xs.length-1)).k=15/\(∃l,vP xs xs.length=some l/\l.getD (xs.length-1) 0=0)/\(¬ ∃c d,yT xs xs.length c d/\200<d)/\∀i,i<xs.length->Dx xs i
theorem Bi {xs:List Nd}:∀ {i:Nat},(∀j,j<i->(nd xs j).k=12->pR (nd xs j).s=true)->∀s∈rV xs i,pR s=true
 | 0,_,s,hs=>by cases hs
 | i+1,h,s,hs=>by
  unfold rV at hs;split at hs
  ·rename_i h12;rcases List.mem_append.mp hs with q|q
   ·exact Bi (fun j hj=>h j (by omega)) s q
   ·rw[List.mem_singleton.mp q];exact h i (by omega) h12
  ·exact Bi (fun j hj=>h j (by omega)) s hs
theorem aEf:IE 12=1:=by decide
theorem aB9:(rl 12).word=2:=by decide
theorem aFF {x:Nd}{al:List ByteArray}(hk:x.k=12) (h:GD x al=true):pR x.s=true:=by
 unfold GD at h;rw[hk,aEf,if_neg (by decide),if_neg (by decide)]at h;split at h
 ·cases h
 ·rw[if_neg (by omega)]at h;simp only[Bool.and_eq_true]at h;exact h.1
theorem aFG {x:Nd}{al:List ByteArray}(hk:x.k=12) (h:wdB x al=true):pR x.s=true:=by
 unfold wdB at h;rw[hk,aB9,if_neg (by omega),if_neg (by decide),if_pos (.inl rfl)]at h;simp only[Bool.and_eq_true]at h;exact h.1
theorem ER {xs:List Nd}{n i:Nat}{l:List Nat}(O:qQ xs n l) (hi:i<n) (h2:(nd xs i).kids.length=2):((nd xs i).kids.getD 1 0).toNat=i-1:=by
 obtain⟨h1,h3⟩:=O.last i hi (by intro e;rw[e]at h2;cases h2);rw[h2]at h3;have h4:(nd xs i).kids.getD 1 0=(i:Int)-1:=h3;omega
theorem Ve (xs:List Nd):aZ xs↔zD xs:=by
 unfold aZ zD;constructor
 ·rintro⟨h1,h2,l,hb,hl,hn⟩;have O:=yS hb;refine⟨h1,h2,(hn _ (by omega)).unit.mpr (by omega),⟨l,hb,hl⟩,?_,fun i hi=>?_⟩
  ·rw[PR O 200];rintro⟨i,hi,h3⟩;rw[wT xs hi]at h3;have:=(hn i hi).Ni;omega
  ·have S:=hn i hi;have hk:0<=(nd xs i).k/\(nd xs i).k<=49:=by
    by_cases q:(nd xs i).k<0\/49<(nd xs i).k
    ·exact absurd (KW q) S.sort
    ·omega
   obtain⟨k,ek⟩:∃k:Nat,(nd xs i).k=k:=⟨(nd xs i).k.toNat,by omega⟩;have BG:k<50:=(by omega);have hz:=(EP ⟨k,BG⟩).1.mp (by rw[<- ek];exact S.sort);simp only at hz;have hal:=Bi (xs:=xs) (i:=i) fun j hj e=>aFF e (hn j (by omega)).text;obtain⟨m1,m2⟩:=(JZ BG ek).mp S.mark;obtain⟨t1,t2⟩:=(KA BG hz.1 hz.2 ek hal).mp S.text;have hf:=O.few i hi;refine⟨m1,t1,S.line,S.aQ,t2,?_,m2,fun e4 e2 hv=>?_,fun e21 e3 ho=>?_⟩
   ·have:=S.kids;rw[ek,Int.toNat_natCast]at this;rw[ek];exact (JJ BG (by rw[aX];omega)).mp this
   ·rw[ER O hi e2]at hv;exact S.void ⟨e4,e2,hv⟩
   ·exact S.els ⟨e21,e3,ho⟩
 ·rintro⟨h1,h2,hu,⟨l,hb,hl⟩,ht,hn⟩;have O:=yS hb;refine⟨h1,h2,l,hb,hl,fun i hi=>?_⟩;have I:=hn i hi;have hsrt:0<=(nd xs i).k/\(nd xs i).k<=49/\(nd xs i).k≠0/\(nd xs i).k≠18/\((nd xs i).k=15↔i+1=xs.length):=by
   by_cases e:i+1=xs.length
   ·have:i=xs.length-1:=(by omega);subst this;rw[hu];exact⟨by decide,by decide,by decide,by decide,⟨fun _=>e,fun _=>rfl⟩⟩
   ·obtain⟨p,hp,hk⟩:=O.cover (xs.length-1) (by omega) i (by rw[hl];omega) (by omega);obtain⟨q,hq,eq⟩:=xN hk;have h3:=(hn p (by omega)).kids.2.2 q (by rw[aX];exact hq);rw[rM xs hq,eq,Int.toNat_natCast]at h3;have hs:(rl (nd xs i).k).xO≠0:=by
     intro z;rw[z]at h3;simp at h3
    have hr:0<=(nd xs i).k/\(nd xs i).k<=49:=by
     by_cases q:(nd xs i).k<0\/49<(nd xs i).k
     ·rw[yU q]at hs;exact absurd rfl hs
     ·omega
    obtain⟨k,ek⟩:∃k:Nat,(nd xs i).k=k:=⟨(nd xs i).k.toNat,by omega⟩;have BG:k<50:=(by omega);rw[ek,zX BG]at hs;have:=(EP ⟨k,BG⟩).2.mp hs;simp only at this;exact⟨hr.1,hr.2,by omega,by omega,by omega⟩
  obtain⟨r1,r2,r3,r4,r5⟩:=hsrt;obtain⟨k,ek⟩:∃k:Nat,(nd xs i).k=k:=⟨(nd xs i).k.toNat,by omega⟩;have BG:k<50:=by omega
  have hal:=Bi (xs:=xs) (i:=i) fun j hj e=>aFG e (hn j (by omega)).word;have hf:=O.few i hi;refine⟨?_,?_,(JZ BG ek).mpr ⟨I.mark,I.asn⟩,(KA BG (by omega) (by omega) ek hal).mpr ⟨I.num,I.word⟩,I.line,I.aQ,?_,?_,?_,r5⟩
  ·rw[ek];exact (EP ⟨k,BG⟩).1.mpr ⟨by show k≠0;omega,by show k≠18;omega⟩
  ·have:=I.kids;rw[ek]at this ⊢;rw[Int.toNat_natCast];exact (JJ BG (by rw[aX];omega)).mpr this
  ·rw[PR O 200]at ht;rcases Nat.lt_or_ge 200 (hij (oW xs i) (nd xs i).kids (nd xs i).kids.length) with q|q
   ·exact absurd ⟨i,hi,by rw[wT xs hi];exact q⟩ ht
   ·exact q
  ·rintro⟨a,b,c⟩;exact I.els a b c
  ·rintro⟨a,b,c⟩;refine I.void a b ?_;rw[ER O hi b];exact c
theorem uI (D:ByteArray) (j:Nat) (x:UInt8):D.data.toList[j]?=some x↔(j<D.size/\aD D j=((x.toNat:Nat):Int)):=by
 obtain⟨⟨l⟩⟩:=D;show l[j]?=some x↔(j<l.length/\(((l.getD j 0).toNat:Nat):Int)=((x.toNat:Nat):Int));rcases Nat.lt_or_ge j l.length with q|q
 ·rw[List.getElem?_eq_getElem q,List.getD_eq_getElem?_getD,List.getElem?_eq_getElem q];simp only[Option.some.injEq,Option.getD_some];exact⟨fun h=>⟨q,by rw[h]⟩,fun h=>UInt8.toNat_inj.1 (by have:=h.2;omega)⟩
 ·rw[List.getElem?_eq_none q];exact⟨fun h=>(by cases h),fun h=>by omega⟩
theorem aCv (l:List UInt8) (a:UInt8) (j:Nat):Lib.occAt l [a] j=true↔l[j]?=some a:=by
 unfold Lib.occAt;rw[<- List.head?_drop];cases l.drop j with
 | nil=>simp[List.isPrefixOf]
 | cons x t=>simp[List.isPrefixOf];exact eq_comm
theorem aCw (l:List UInt8) (a b:UInt8) (j:Nat):Lib.occAt l [a,b] j=true↔(l[j]?=some a/\l[j+1]?=some b):=by
 unfold Lib.occAt;have h1:l[j]?=(l.drop j)[0]?:=by simp
 have h2:l[j+1]?=(l.drop j)[1]?:=by simp
 rw[h1,h2];rcases l.drop j with _|⟨x,_|⟨y,t⟩⟩
 ·simp[List.isPrefixOf]
 ·simp[List.isPrefixOf]
 ·simp[List.isPrefixOf];exact⟨fun h=>⟨h.1.symm,h.2.symm⟩,fun h=>⟨h.1.symm,h.2.symm⟩⟩
theorem aGe (t:ByteArray):∃k,Dl t 0 k/\(Lib.cut t.data.toList [10]).1.length=k:=by
 have hsz:t.data.toList.length=t.size:=by simp
 rcases Lib.index_spec t.data.toList [10] with ⟨h1,h2⟩|⟨i,h1,h2,h3,h4⟩
 ·refine⟨t.size,⟨Nat.zero_le _,Nat.le_refl _,fun m _ hm e=>?_,.inl rfl⟩,?_⟩
  ·have:=h2 m (by omega);have q:Lib.occAt t.data.toList [10] m=true:=(aCv _ _ _).2 ((uI t m 10).2 ⟨hm,e⟩);rw[this]at q;cases q
  ·unfold Lib.cut;rw[h1,if_neg (by decide)];exact hsz
 ·have hi:=(uI t i 10).1 ((aCv _ _ _).1 h3);refine⟨i,⟨Nat.zero_le _,by omega,fun m _ hm e=>?_,.inr hi.2⟩,?_⟩
  ·have:=h4 m hm;have q:Lib.occAt t.data.toList [10] m=true:=(aCv _ _ _).2 ((uI t m 10).2 ⟨by omega,e⟩);rw[this]at q;cases q
  ·unfold Lib.cut;rw[h1,if_pos (by omega)];simp;omega
theorem aGf (t:ByteArray):(∃k,GQ t 0 k/\(Lib.cut t.data.toList [42,47]).2.2=true/\(Lib.cut t.data.toList [42,47]).1.length=k)\/(Dm t 0/\(Lib.cut t.data.toList [42,47]).2.2=false):=by
 have hsz:t.data.toList.length=t.size:=by simp
 have key:∀m,m+1<t.size->(aD t m=42/\aD t (m+1)=47)->Lib.occAt t.data.toList [42,47] m=true:=fun m hm e=>
  (aCw _ _ _ _).2 ⟨(uI t m 42).2 ⟨by omega,e.1⟩,(uI t (m+1) 47).2 ⟨hm,e.2⟩⟩
 rcases Lib.index_spec t.data.toList [42,47] with ⟨h1,h2⟩|⟨i,h1,h2,h3,h4⟩
 ·right;refine⟨fun m _ hm e=>?_,?_⟩
  ·have q:=key m hm e;rw[h2 m (by omega)]at q;cases q
  ·unfold Lib.cut;rw[h1,if_neg (by decide)]
 ·left;obtain⟨q1,q2⟩:=(aCw _ _ _ _).1 h3;have a1:=(uI t i 42).1 q1;have a2:=(uI t (i+1) 47).1 q2;refine⟨i,⟨Nat.zero_le _,a2.1,⟨a1.2,a2.2⟩,fun m _ hm e=>?_⟩,?_,?_⟩
  ·have q:=key m (by omega) e;rw[h4 m hm]at q;cases q
  ·unfold Lib.cut;rw[h1,if_pos (by omega)]
  ·unfold Lib.cut;rw[h1,if_pos (by omega)];simp;omega
theorem Bq (x:UInt8):List.contains [32,9,10,11,12,13] x=blk ((x.toNat:Nat):Int):=by
 have:∀n:Nat,n<256->List.contains [32,9,10,11,12,13] (UInt8.ofNat n)=blk (n:Int):=by decide +kernel
 have h:=this x.toNat x.toNat_lt
 rwa [UInt8.ofNat_toNat]at h
theorem Nz (p:UInt8->Bool):∀l:List UInt8,(l.takeWhile p).length+(l.dropWhile p).length=l.length/\(∀j,j<(l.takeWhile p).length->p (l.getD j 0)=true)/\((l.takeWhile p).length=l.length\/p (l.getD (l.takeWhile p).length 0)=false)
 | []=>⟨rfl,fun j hj=>absurd hj (Nat.not_lt_zero _),.inl rfl⟩
 | x :: l=>by
  obtain⟨h1,h2,h3⟩:=Nz p l;cases hp:p x
  ·rw[List.takeWhile_cons_of_neg (by simp[hp]),List.dropWhile_cons_of_neg (by simp[hp])];exact⟨by simp,fun j hj=>absurd hj (Nat.not_lt_zero _),.inr (by simpa using hp)⟩
  ·rw[List.takeWhile_cons_of_pos hp,List.dropWhile_cons_of_pos hp];refine⟨by simp;omega,fun j hj=>?_,?_⟩
   ·rcases j with _|j
    ·simpa using hp
    ·simp at hj ⊢;have:=h2 j hj;simpa using this
   ·rcases h3 with e|e
    ·left;simp;exact e
    ·right;simpa using e
theorem aEq (t:ByteArray):(⟨(Lib.trimLeftS t.data.toList [32,9,10,11,12,13]).toArray⟩:ByteArray).size=t.size-run blk t:=by
 obtain⟨h1,h2,h3⟩:=Nz (fun x=>List.contains [32,9,10,11,12,13] x) t.data.toList;have hsz:t.data.toList.length=t.size:=by simp
 have hr:run blk t=(t.data.toList.takeWhile (fun x=>List.contains [32,9,10,11,12,13] x)).length:=run_eq ⟨by omega,fun j hj=>by
  have:=h2 j hj;rw[Bq]at this;exact this,by
  rcases h3 with e|e
  ·left;omega
  ·right;rw[Bq]at e;exact e⟩
 show (Lib.trimLeftS t.data.toList [32,9,10,11,12,13]).toArray.size=_;rw[List.size_toArray];unfold Lib.trimLeftS;omega
theorem aBb (D:ByteArray) (a b:UInt8):Lib.hasPrefix D.data.toList (⟨#[a,b]⟩:ByteArray).data.toList=true↔(0+1<D.size/\aD D 0=((a.toNat:Nat):Int)/\aD D (0+1)=((b.toNat:Nat):Int)):=by
 have:Lib.hasPrefix D.data.toList (⟨#[a,b]⟩:ByteArray).data.toList=Lib.occAt D.data.toList [a,b] 0:=by unfold Lib.occAt;rfl
 rw[this,aCw,uI,uI];constructor
 ·rintro⟨⟨_,h1⟩,h2,h3⟩;exact⟨h2,h1,h3⟩
 ·rintro⟨h1,h2,h3⟩;exact⟨⟨by omega,h2⟩,h1,h3⟩
end Pl
namespace W
open Go.RowKit
def RI (t:ByteArray) (n:Nat) (b:Bool):Prop:=(Pl.lc t 0/\Pl.Dl t 0 n/\b=true)\/(Pl.bc t 0/\(∃k,Pl.GQ t 2 k/\n=k+2)/\b=true)\/(Pl.bc t 0/\Pl.Dm t 2/\n=0/\b=false)\/(¬Pl.lc t 0/\¬Pl.bc t 0/\n=Pl.run Pl.blk t/\b=true)
theorem jX {B:Nat}{a w:World}(h:Below B a w) (m:Nat):Below B a (w.drewN m):=⟨h.os,h.tape,h.output,h.size,h.block⟩
set_option maxRecDepth 100000 in
theorem MZ (t:ByteArray) (ht:t.size<=1048576) (w:World) (hE:nR w):Calls Tryz.prog 179 #[.string t] w fun e w'=>(∃n b,RI t n b/\e=.returned (.tuple #[.int .i64 n,.bool b]))/\Bw w w':=by
 have hp1:=Pl.aBb t 47 47;have hp2:=Pl.aBb t 47 42;have Lm:Hid (∀u:World,Calls Tryz.prog 145 #[.string t,.string ⟨#[47,47]⟩] u fun e w'=>e=.returned (.bool (Lib.hasPrefix t.data.toList (⟨#[47,47]⟩:ByteArray).data.toList))/\w'=u):=fun u=>Tryz.strings_HasPrefix t ⟨#[47,47]⟩ u;have Lp:Hid (∀u:World,Calls Tryz.prog 145 #[.string t,.string ⟨#[47,42]⟩] u fun e w'=>e=.returned (.bool (Lib.hasPrefix t.data.toList (⟨#[47,42]⟩:ByteArray).data.toList))/\w'=u):=fun u=>Tryz.strings_HasPrefix t ⟨#[47,42]⟩ u;obtain⟨_,_,m,hm⟩:=hE;obtain⟨P1,hP1⟩:∃P1,P1=Lib.hasPrefix t.data.toList (⟨#[47,47]⟩:ByteArray).data.toList:=⟨_,rfl⟩;obtain⟨P2,hP2⟩:∃P2,P2=Lib.hasPrefix t.data.toList (⟨#[47,42]⟩:ByteArray).data.toList:=⟨_,rfl⟩;rw[<- hP1]at hp1 Lm;rw[<- hP2]at hp2 Lp;clear hP1 hP2;have HM:Hid (w.cell? ⟨3,0,none⟩=some (.int .i64 m)):=hm;clear hm;cases P1
 ·have hnl:¬Pl.lc t 0:=fun h=>absurd (hp1.2 h) (by decide);cases P2
  ·have hnb:¬Pl.bc t 0:=fun h=>absurd (hp2.2 h) (by decide);have HB:Hid (RI t (Pl.run Pl.blk t) true):=.inr (.inr (.inr ⟨hnl,hnb,rfl,rfl⟩));have hr:=Pl.WJ Pl.blk t;have HTL:Hid (∀u:World,Calls Tryz.prog 195 #[.string t,.string ⟨#[32,9,10,11,12,13]⟩] u fun e w'=>e=.returned (.string ⟨(Lib.trimLeftS t.data.toList [32,9,10,11,12,13]).toArray⟩)/\Bw u w'):=fun u=>Any.strings_TrimLeft_laid Tryz.lays161 (by kernel_rfl) t ⟨#[32,9,10,11,12,13]⟩ u (by decide) (ascii_of_all (by decide));have hsz:=Pl.aEq t;obtain⟨D,hD⟩:∃D:ByteArray,D=⟨(Lib.trimLeftS t.data.toList [32,9,10,11,12,13]).toArray⟩:=⟨_,rfl⟩;rw[<- hD]at HTL hsz;obtain⟨n,hn⟩:∃n,n=Pl.run Pl.blk t:=⟨_,rfl⟩;rw[<- hn]at HB hr hsz;have Sy:Hid (D.size=t.size-n):=hsz;have hDt:(D.size:Int)<=t.size:=(by omega);clear hD hn hp1 hp2 hnl hnb hsz;go_enter Tryz.func179,Tryz.ntmps179;go_wp2_with (first|(go_at_call 145;first|(refine (Lm.o _).mono ?_;rintro e uu ⟨rfl,rfl⟩)|(refine (Lp.o _).mono ?_;rintro e uu ⟨rfl,rfl⟩))|(go_at_call 195;refine (HTL.o _).mono ?_;rintro e u2 ⟨rfl,g2⟩;have G2:Hid _:=g2;clear g2))
   go_ret2;exact⟨⟨n,true,HB.o,by have:=Sy.o;show Ending.returned (.tuple #[.int .i64 ((t.size:Int)-(D.size:Int)),.bool true])=_;rw[show (t.size:Int)-(D.size:Int)=(n:Int) by omega]⟩,G2.o⟩
  ·have hb:Pl.bc t 0:=hp2.1 rfl;have h2:2<=t.size:=(by have:=hb.1;omega);have h2':(2:Int)<=t.size:=(by omega);have hc2:=Pl.aGf (t.extract 2 t.size);have HCT:Hid (∀u:World,u.cell? ⟨3,0,none⟩=some (.int .i64 m)->Calls Tryz.prog 194 #[.string (t.extract 2 t.size),.string ⟨#[42,47]⟩] u _):=fun u hu=>Tryz.strings_Cut (t.extract 2 t.size) ⟨#[42,47]⟩ m u (by rw[Pl.bC];omega) hu;have HBE:Hid (∀k,Pl.GQ (t.extract 2 t.size) 0 k->Pl.GQ t 2 (k+2)):=fun k h=>by
    obtain⟨h1,h3,h4,h5⟩:=h;rw[Pl.bC]at h3;rw[Pl.jS t 2 k (by omega),Pl.jS t 2 (k+1) (by omega),show 2+(k+1)=2+k+1 by omega,show 2+k=k+2 by omega]at h4;refine⟨by omega,by omega,h4,fun x hx1 hx2 e=>?_⟩;have:=h5 (x-2) (Nat.zero_le _) (by omega);rw[Pl.jS t 2 (x-2) (by omega),Pl.jS t 2 (x-2+1) (by omega),show 2+(x-2+1)=x+1 by omega,show 2+(x-2)=x by omega]at this;exact this e
   have VK:Hid (Pl.Dm (t.extract 2 t.size) 0->Pl.Dm t 2):=fun h x hx1 hx2 e=>by
    have:=h (x-2) (Nat.zero_le _) (by rw[Pl.bC];omega);rw[Pl.jS t 2 (x-2) (by omega),Pl.jS t 2 (x-2+1) (by omega),show 2+(x-2+1)=x+1 by omega,show 2+(x-2)=x by omega]at this;exact this e
   obtain⟨c1,hc1⟩:∃c1:ByteArray,c1=⟨(Lib.cut (t.extract 2 t.size).data.toList (⟨#[42,47]⟩:ByteArray).data.toList).1.toArray⟩:=⟨_,rfl⟩;have Oa:c1.size=(Lib.cut (t.extract 2 t.size).data.toList [42,47]).1.length:=(by rw[hc1];exact List.size_toArray);obtain⟨c2,hc2'⟩:∃c2,c2=(Lib.cut (t.extract 2 t.size).data.toList (⟨#[42,47]⟩:ByteArray).data.toList).2.2:=⟨_,rfl⟩;rw[<- hc1,<- hc2']at HCT;have hc22:(Lib.cut (t.extract 2 t.size).data.toList [42,47]).2.2=c2:=hc2'.symm;rw[hc22,<- Oa]at hc2;clear hc1 hc2' Oa hc22 hp1 hp2 hnl;rcases hc2 with ⟨k,hbe,rfl,hcs⟩|⟨hne,rfl⟩
   ·have HB:Hid (RI t (k+2+2) true):=.inr (.inl ⟨hb,⟨k+2,HBE.o k hbe,rfl⟩,rfl⟩);have hkt:k<=1048576:=(by have:=hbe.2.1;rw[Pl.bC]at this;omega);have Ob:Hid (c1.size=k):=hcs;clear hbe hb HBE VK hcs;go_enter Tryz.func179,Tryz.ntmps179;go_wp2_with (first|(go_at_call 145;first|(refine (Lm.o _).mono ?_;rintro e uu ⟨rfl,rfl⟩)|(refine (Lp.o _).mono ?_;rintro e uu ⟨rfl,rfl⟩))|(go_at_call 194;refine (HCT.o _ HM.o).mono ?_;rintro e u2 ⟨rfl,dn,hu2⟩;rw[hu2];clear hu2;have aGY:(c1.size:Int)<=1048576:=(by have:=Ob.o;omega)))
    go_ret2;exact⟨⟨k+2+2,true,HB.o,by have:=Ob.o;show Ending.returned (.tuple #[.int .i64 (4+(c1.size:Int)),.bool true])=_;rw[show (4:Int)+(c1.size:Int)=((k+2+2:Nat):Int) by omega]⟩,jX (Below.refl _ _) _⟩
   ·have HB:Hid (RI t 0 false):=.inr (.inr (.inl ⟨hb,VK.o hne,rfl,rfl⟩));clear hne hb HBE VK;go_enter Tryz.func179,Tryz.ntmps179;go_wp2_with (first|(go_at_call 145;first|(refine (Lm.o _).mono ?_;rintro e uu ⟨rfl,rfl⟩)|(refine (Lp.o _).mono ?_;rintro e uu ⟨rfl,rfl⟩))|(go_at_call 194;refine (HCT.o _ HM.o).mono ?_;rintro e u2 ⟨rfl,dn,hu2⟩;rw[hu2];clear hu2))
    go_ret2;exact⟨⟨0,false,HB.o,rfl⟩,jX (Below.refl _ _) _⟩
 ·have hl:Pl.lc t 0:=hp1.1 rfl;obtain⟨k,hle,hck⟩:=Pl.aGe t;have HCT:Hid (∀u:World,u.cell? ⟨3,0,none⟩=some (.int .i64 m)->Calls Tryz.prog 194 #[.string t,.string ⟨#[10]⟩] u _):=fun u hu=>Tryz.strings_Cut t ⟨#[10]⟩ m u (by omega) hu;obtain⟨c1,hc1⟩:∃c1:ByteArray,c1=⟨(Lib.cut t.data.toList (⟨#[10]⟩:ByteArray).data.toList).1.toArray⟩:=⟨_,rfl⟩;have Oa:c1.size=(Lib.cut t.data.toList [10]).1.length:=by rw[hc1];exact List.size_toArray
  rw[<- hc1]at HCT;rw[<- Oa]at hck;have Ob:Hid (c1.size=k):=hck;have HB:Hid (RI t k true):=.inl ⟨hl,hle,rfl⟩;clear hc1 Oa hck hp1 hp2 hl hle;go_enter Tryz.func179,Tryz.ntmps179;go_wp2_with (first|(go_at_call 145;first|(refine (Lm.o _).mono ?_;rintro e uu ⟨rfl,rfl⟩)|(refine (Lp.o _).mono ?_;rintro e uu ⟨rfl,rfl⟩))|(go_at_call 194;refine (HCT.o _ HM.o).mono ?_;rintro e u2 ⟨rfl,dn,hu2⟩;rw[hu2];clear hu2))
  go_ret2;exact⟨⟨k,true,HB.o,by rw[<- Ob.o];rfl⟩,jX (Below.refl _ _) _⟩
end W
namespace Pl
theorem Sk.blanks {s:ByteArray}{j:Nat}{c:Bool}:∀n k,k+n<=s.size->(∀x,k<=x->x<k+n->blk (aD s x)=true)->Sk s (k+n) j c->Sk s k j c
 | 0,k,_,_,h=>h
 | n+1,k,h1,h2,h=>.blank (by omega) (h2 k (Nat.le_refl _) (by omega)) (Sk.blanks n (k+1) (by omega) (fun x a b=>h2 x (by omega) (by omega)) (by rw[show k+1+n=k+(n+1) by omega];exact h))
end Pl
namespace W
open Go.RowKit
theorem RI.to {s:ByteArray}{k n:Nat}{b:Bool}(hk:k<=s.size) (h:RI (s.extract k s.size) n b):(n=0/\Pl.Sk s k k b)\/(0<n/\k+n<=s.size/\∀j c,Pl.Sk s (k+n) j c->Pl.Sk s k j c):=by
 have hsz:=Pl.bC s k;have hb:∀j,k+j<s.size->Pl.aD (s.extract k s.size) j=Pl.aD s (k+j):=fun j hj=>Pl.jS s k j hj;have hlc:Pl.lc (s.extract k s.size) 0↔Pl.lc s k:=by
  unfold Pl.lc;rw[hsz];constructor
  ·rintro⟨h1,h2,h3⟩;rw[hb 0 (by omega)]at h2;rw[hb (0+1) (by omega)]at h3;exact⟨by omega,h2,by rw[<- h3]⟩
  ·rintro⟨h1,h2,h3⟩;refine⟨by omega,?_,?_⟩
   ·rw[hb 0 (by omega)];exact h2
   ·rw[hb (0+1) (by omega),<- h3]
 have hbc:Pl.bc (s.extract k s.size) 0↔Pl.bc s k:=by
  unfold Pl.bc;rw[hsz];constructor
  ·rintro⟨h1,h2,h3⟩;rw[hb 0 (by omega)]at h2;rw[hb (0+1) (by omega)]at h3;exact⟨by omega,h2,by rw[<- h3]⟩
  ·rintro⟨h1,h2,h3⟩;refine⟨by omega,?_,?_⟩
   ·rw[hb 0 (by omega)];exact h2
   ·rw[hb (0+1) (by omega),<- h3]
 rcases h with ⟨h1,h2,rfl⟩|⟨h1,⟨m,h2,rfl⟩,rfl⟩|⟨h1,h2,rfl,rfl⟩|⟨h1,h2,rfl,rfl⟩
 ·right;have hl:=hlc.1 h1;obtain⟨_,e2,e3,e4⟩:=h2;rw[hsz]at e2 e4;have hn2:2<=n:=by
   have a1:=h1.1;have a2:=h1.2.1;have a3:=h1.2.2;rw[hsz]at a1;rcases e4 with e|e
   ·omega
   ·rcases Nat.lt_or_ge n 2 with q|q
    ·have:n=0\/n=1:=(by omega);rcases this with rfl|rfl
     ·rw[a2]at e;exact absurd e (by decide)
     ·rw[a3]at e;exact absurd e (by decide)
    ·exact q
  refine⟨by omega,by omega,fun j c hj=>.line hl ⟨by omega,by omega,fun x hx1 hx2=>?_,?_⟩ hj⟩
  ·have:=e3 (x-k) (Nat.zero_le _) (by omega);rw[hb (x-k) (by omega),show k+(x-k)=x by omega]at this;exact this
  ·rcases e4 with e|e
   ·left;omega
   ·rcases Nat.lt_or_ge (k+n) s.size with q|q
    ·right;rw[<- hb n q];exact e
    ·left;omega
 ·right;have hl:=hbc.1 h1;obtain⟨e1,e2,e3,e4⟩:=h2;rw[hsz]at e2;rw[hb m (by omega),hb (m+1) (by omega)]at e3;refine⟨by omega,by omega,fun j c hj=>.GR hl (k:=k+m) ⟨by omega,by omega,e3,fun x hx1 hx2 e=>?_⟩ (by rw[show k+m+2=k+(m+2) by omega];exact hj)⟩;have:=e4 (x-k) (by omega) (by omega);rw[hb (x-k) (by omega),hb (x-k+1) (by omega),show k+(x-k+1)=x+1 by omega,show k+(x-k)=x by omega]at this;exact this e
 ·left;refine⟨rfl,.opn (hbc.1 h1) fun x hx1 hx2 e=>?_⟩;have:=h2 (x-k) (by omega) (by rw[hsz];omega);rw[hb (x-k) (by omega),hb (x-k+1) (by omega),show k+(x-k+1)=x+1 by omega,show k+(x-k)=x by omega]at this;exact this e
 ·have hr:=Pl.pJ Pl.blk (s.extract k s.size);have hr1:=hr.1;rw[hsz]at hr1;rcases Nat.eq_zero_or_pos (Pl.run Pl.blk (s.extract k s.size)) with e|e
  ·left;refine⟨e,.stop ?_⟩;rcases Nat.lt_or_ge k s.size with q|q
   ·right;refine⟨?_,fun h=>h1 (hlc.2 h),fun h=>h2 (hbc.2 h)⟩;have:=hr.2.2;rw[e,hsz]at this;rcases this with x|x
    ·omega
    ·rw[hb 0 (by omega)]at x;exact x
   ·exact .inl q
  ·right;refine⟨e,by omega,fun j c hj=>Pl.Sk.blanks _ k (by omega) (fun x hx1 hx2=>?_) hj⟩;have:=hr.2.1 (x-k) (by omega);rw[hb (x-k) (by omega),show k+(x-k)=x by omega]at this;exact this
theorem nR.onX {g:Nat}{w w':World}(h:nR w) (hg:4<=g) (hx:aO g w w'):nR w':=h.keep (n:=4) (Nat.le_refl _) (hx.below hg h.big)
def XI (g:Nat) (w:World):Nat:=match w.cell? ⟨g,1,none⟩ with|some (.int _ n)=>n.toNat|_=>0
theorem jT.at {g k:Nat}{s:ByteArray}{w:World}(h:jT g s k w):XI g w=k:=by
 unfold XI;rw[cell_of_row w g 1 _ 218 (0,0) h];simp
set_option maxRecDepth 100000 in
theorem IU (g:Nat) (Vx:4<=g) (s:ByteArray) (hs:s.size<=1048576) (k:Nat) (hk:k<=s.size) (w:World) (hL:jT g s k w) (hE:nR w):Calls Tryz.prog 164 #[.pointer (some ⟨g,0,none⟩)] w fun e w'=>∃j b,Pl.Sk s k j b/\e=.returned (.bool b)/\jT g s j w'/\aO g w w':=by
 have HL:Hid (jT g s k w):=hL;have HE:Hid (nR w):=hE;clear hL hE;go_enter Tryz.func164,Tryz.ntmps164;go_wp2_with fail
 go_loopw [3] (fun _ wr=>∃m:Nat,m<=s.size/\jT g s m wr/\aO g w wr/\∀j b,Pl.Sk s m j b->Pl.Sk s k j b) (fun _ wr=>s.size-XI g wr)
 case atStart=>exact⟨k,hk,HL.o,aO.refl _ _,fun j b h=>h⟩
 case round=>
  obtain⟨m,hm,hst,hox,hsk⟩:=hrel;have HST:Hid (jT g s m wr):=hst;have Vy:Hid (aO g w wr):=hox;have HSK:Hid (∀j b,Pl.Sk s m j b->Pl.Sk s k j b):=hsk;have HEr:Hid (nR wr):=HE.o.onX Vx hox;have hc0:wr.cell? ⟨g,0,none⟩=some (.string s):=cell_of_row wr g 0 _ 218 (0,0) hst;have hc1:wr.cell? ⟨g,1,none⟩=some (.int .i64 m):=cell_of_row wr g 1 _ 218 (0,0) hst;have hm':(m:Int)<=s.size:=by omega
  have HBS:Hid (∀u:World,nR u->Calls Tryz.prog 179 #[.string (s.extract m s.size)] u fun e w'=>(∃n b,RI (s.extract m s.size) n b/\e=.returned (.tuple #[.int .i64 n,.bool b]))/\Bw u w'):=fun u hu=>MZ (s.extract m s.size) (by rw[Pl.bC];omega) u hu;have HGD:Hid (∀i,nR (wr.drewN i)):=fun i=>HEr.o.on (jX (Below.refl _ _) i);clear hst hox hsk;go_wp2_with fail
  go_region_with (go_at_call 179;refine (HBS.o _ (by first|exact HEr.o|exact HGD.o _)).mono ?_;rintro e u2 ⟨⟨n,b,hblk,rfl⟩,g2⟩)
  all_goals
   have G2:Hid (aO g w u2):=Vy.o.trans (aO.of_below (by first|exact g2|exact (jX (Below.refl _ _) _).trans g2));have EY:Hid (jT g s m u2):=(HST.o.keep (jX (Below.refl _ _) _)).keep g2;have hto:=hblk.to hm;clear hblk g2;rcases hto with ⟨rfl,hst⟩|⟨hn,hmn,hst⟩
   ·have HF:Hid (Pl.Sk s k m b):=HSK.o _ _ hst;clear hst;go_wp2_with fail
    go_ret;exact⟨m,b,HF.o,rfl,EY.o,G2.o⟩
   ·have HF:Hid (∀j b,Pl.Sk s (m+n) j b->Pl.Sk s k j b):=fun j b h=>HSK.o j b (hst j b h);have en:((n:Int) == 0)=false:=(by simp;omega);have HPA:Hid (∀u:World,jT g s m u->Calls Tryz.prog 166 #[.pointer (some ⟨g,0,none⟩),.int .i64 n] u fun e w'=>(∃v,e=.returned v)/\jT g s (m+n) w'/\aO g u w'):=fun u hu=>Bc g s hs m n hmn u hu;clear hst;go_wp2_with (go_at_call 166;refine (HPA.o _ EY.o).mono ?_;rintro e u3 ⟨⟨v,rfl⟩,hl3,ho3⟩)
    go_roundw
    case rel=>exact⟨m+n,hmn,hl3,G2.o.trans ho3,HF.o⟩
    case measure=>rw[hl3.at,HST.o.at];omega
section
variable {P:Program}{ops:Array Oper}{Q:Exit->Act->World->Prop}{md:Region.Mode}
def RL (md:Region.Mode) (ops:Array Oper):Bool:=(List.range ops.size).all fun i=>((ops[i]?).map fun o=>o.after.all fun e=>!Region.binds md e || decide (e.on<i)).getD true
theorem Oc (h:RL md ops=true){i:Nat}{o:Oper}(ho:ops[i]?=some o):∀e∈o.after,Region.binds md e=true->e.on<i:=by
 unfold RL at h;rw[List.all_eq_true]at h;have h1:=h i (List.mem_range.2 (Array.getElem?_eq_some_iff.1 ho).1);rw[ho]at h1;simp only[Option.map_some,Option.getD_some]at h1;intro e he hb;have h2:=Array.all_eq_true_iff_forall_mem.1 h1 e he;rw[hb]at h2;simpa using h2
theorem rO (hac:RL md ops=true){L:Array Bool}(hs:L.size=ops.size) (hr:Region.ready md ops L=[]):∀i,i<ops.size->L.getD i true=true:=by
 intro i
 induction i using Nat.strongRecOn with
 | ind i ih=>
  intro hi;cases hb:L.getD i true with
  | true=>rfl
  | false=>
   exfalso;have hm:i∈Region.ready md ops L:=mem_ready.2 ⟨hb,ops[i],Array.getElem?_eq_getElem hi,fun e he hbe=>by
    have hlt:=Oc hac (Array.getElem?_eq_getElem hi) e he hbe;have h1:=ih e.on hlt (by omega);have h2:e.on<L.size:=(by omega);simp[h2]at h1 ⊢;exact h1⟩
   rw[hr]at hm;cases hm
theorem Ef (I:Array Bool->Act->World->Prop)
  (hdone:∀L a w,I L a w->(∀i,i<ops.size->up L i=true)->Q .normal a w)
  (hac:RL md ops=true)
  (hstep:∀(L:Array Bool) (a:Act) (w:World) (i:Nat) (o:Oper),I L a w->i<L.size->L.size=ops.size->up L i=false->Vw md ops L->(∀e∈o.after,Region.binds md e=true->up L e.on=true)->ops[i]?=some o->∀K:Act->World->Prop,(∀a w,I (L.setIfInBounds i true) a w->K a w)->if Region.wanted o (yielded ops a.tmps)=true then Oper.wp P o a w K Q else K (a.put o.dst undef) w)
  (fuel n:Nat) (a:Act) (w:World) (hn:n=ops.size) (hI:I (Array.replicate n false) a w) (hf:n<=fuel):wpAny P md ops Q fuel (Array.replicate n false) a w:=by
 refine KC (fun L a w=>I L a w/\Vw md ops L/\L.size=ops.size) (fun L a w h hs ha=>hdone L a w h.1 fun i hi=>Bu (ha i hi) (by omega)) (fun L hs hr=>rO hac hs hr) (fun L a w i o h hs hi ho K hK=>?_) fuel _ a w ⟨hI,?_,by simp[hn]⟩ (by simp[hn]) ?_
 ·obtain⟨h0,o',ho',hd⟩:=mem_ready.1 hi;rw[ho]at ho';cases ho';have hlt:i<L.size:=by rw[hs];exact (Array.getElem?_eq_some_iff.1 ho).1
  have hd':∀e∈o.after,Region.binds md e=true->up L e.on=true:=hd;refine hstep L a w i o h.1 hlt hs (EW h0) h.2.1 hd' ho K fun a' w' h'=>hK a' w' ⟨h',fun j oj hoj hj e he hb=>?_,by simpa using hs⟩;rw[aP hlt]at hj;by_cases q:i=j
  ·subst q;rw[ho]at hoj;cases hoj;exact vX hlt (hd' e he hb)
  ·rw[if_neg q]at hj;exact vX hlt (h.2.1 j oj hoj hj e he hb)
 ·intro j o ho hj;rw[nL]at hj;cases hj
 ·have:∀k:Nat,ET (List.replicate k false)=k:=fun k=>by
   induction k with
   | zero=>rfl
   | succ k ih=>show ET (false :: List.replicate k false)=k+1;unfold ET at ih ⊢;rw[List.map_cons,List.sum_cons,ih];simp;omega
  rw[Array.toList_replicate,this];exact hf
end
set_option maxRecDepth 8000 in
theorem RN (s:ByteArray) (w:World):Calls Tryz.prog 132 #[.string s] w fun e w'=>e=.returned (.bool (Pl.isK s))/\w'=w:=by
 have HE:Hid (Pl.isK s=(Pl.kyB.any fun r=>s.toList == r)):=rfl;go_enter Tryz.func132,Tryz.ntmps132;go_wp2;all_goals (go_ret;refine⟨aC ?_,rfl⟩;rw[HE.o];simp only[Pl.kyB,List.any_cons,List.any_nil];simp_all)
theorem EZ (c:Int) (w:World):Calls Tryz.prog 129 #[.int .i32 c] w fun e w'=>e=.returned (.bool (Pl.kT c))/\w'=w:=by
 cases hd:Pl.dg c
 ·have hn:¬(48<=c/\c<=57):=by simpa [Pl.dg] using hd
  go_enter Tryz.func129,Tryz.ntmps129;go_wp2_with (go_at_call 143;refine (rZ _ _).mono ?_;rintro e u1 ⟨rfl,rfl⟩;rw[hd])
  all_goals (go_ret;refine⟨aC ?_,rfl⟩;rw[Bool.eq_iff_iff];simp[Pl.dg,Pl.lt,Pl.kT] <;> omega)
 ·have hn:48<=c/\c<=57:=by simpa [Pl.dg] using hd
  go_enter Tryz.func129,Tryz.ntmps129;go_wp2_with (go_at_call 143;refine (rZ _ _).mono ?_;rintro e u1 ⟨rfl,rfl⟩;rw[hd])
  all_goals (go_ret;refine⟨aC ?_,rfl⟩;rw[Bool.eq_iff_iff];simp[Pl.dg,Pl.lt,Pl.kT] <;> omega)
theorem zJ (c:Int) (h:128<=c):Pl.kT c=false:=by
 rw[Bool.eq_false_iff];simp[Pl.kT,Pl.lt,Pl.dg];omega
theorem AP (s:ByteArray) (pos:Nat) (h:pos<s.size):Pl.kT ((Utf8.decode s pos).1:Nat)=Pl.kT (Pl.aD s pos):=by
 by_cases ha:(s[pos]'h).toNat<128
 ·rw[decode_ascii s pos h ha,<- Pl.aJ s pos h]
 ·rw[zJ _ (by have:=(decode_high s pos h (by omega)).1;omega),zJ _ (by rw[<- Pl.aJ s pos h];omega)]
theorem NC (s:ByteArray) (pos:Nat) (h:pos<s.size) (hw:Pl.kT (Pl.aD s pos)=true):(Utf8.decode s pos).2=1:=by
 by_cases ha:(s[pos]'h).toNat<128
 ·rw[decode_ascii s pos h ha]
 ·rw[zJ _ (by rw[<- Pl.aJ s pos h];omega)]at hw;cases hw
set_option maxRecDepth 100000 in
theorem KE (s:ByteArray) (hs:s.size<=9223372036854775807) (w:World):Calls Tryz.prog 120 #[.string s] w fun e w'=>e=.returned (.string (s.extract 0 (Pl.run Pl.kT s)))/\Bw w w':=by
 go_enter Tryz.func120,Tryz.ntmps120;go_wp2;go_loopw [3] (fun _ w'=>∃pos:Nat,pos<=s.size/\w'=w.iter s pos/\(∀j,j<pos->Pl.kT (Pl.aD s j)=true)) (fun _ w'=>s.size-w'.iterPos w.heap.size)
 case atStart=>exact⟨0,Nat.zero_le _,rfl,fun j hj=>absurd hj (Nat.not_lt_zero _)⟩
 case round=>
  obtain⟨pos,hps,rfl,hall⟩:=hrel;have HA:Hid (∀j,j<pos->Pl.kT (Pl.aD s j)=true):=hall;clear hall;by_cases hp:pos<s.size
  ·have hnx:∀ty,(Instr.next (.pointer (some ⟨w.heap.size,0,none⟩)) true ty).run Tryz.prog (w.iter s pos)=_:=fun ty=>run_next_any w s pos ty hp;have hpi:(pos:Int)<=(s.size:Int):=(by omega);cases hc:Pl.kT (Pl.aD s pos)
   ·have HR:Hid (Pl.run Pl.kT s=pos):=Pl.run_eq ⟨hps,HA.o,.inr hc⟩;go_wp2_with (go_at_call 129;refine (EZ _ _).mono ?_;rintro e u1 ⟨rfl,rfl⟩;rw[AP s pos hp,hc])
    go_ret;exact⟨by rw[HR.o];rfl,rY _ _ _⟩
   ·have hd2:=NC s pos hp hc;have HD:Hid ((Utf8.decode s pos).2=1):=hd2;clear hd2;go_wp2_with (go_at_call 129;refine (EZ _ _).mono ?_;rintro e u1 ⟨rfl,rfl⟩;rw[AP s pos hp,hc])
    go_roundw
    case rel=>exact⟨pos+1,by omega,by rw[HD.o],fun j hj=>by
     by_cases e:j=pos
     ·rw[e];exact hc
     ·exact HA.o j (by omega)⟩
    case measure=>rw[HD.o];simp;omega
  ·have hnx:∀ty,(Instr.next (.pointer (some ⟨w.heap.size,0,none⟩)) true ty).run Tryz.prog (w.iter s pos)=_:=fun ty=>run_next_end w s pos ty hp;have HR:Hid (Pl.run Pl.kT s=s.size):=Pl.run_eq ⟨Nat.le_refl _,by rw[show s.size=pos by omega];exact HA.o,.inl rfl⟩;go_wp2;go_ret;exact⟨by rw[HR.o];simp,rY _ _ _⟩
def IW (s:ByteArray) (e:Ending):Prop:=match Pl.mE s with
 | .ok (k,S,N)=>e=.returned (.tuple #[.agg #[.int .i64 k,.string S,.int .i64 N,.int .i64 0,.int .i64 0],.int .i64 0])
 | .error f=>e=.returned (.tuple #[.agg #[.int .i64 0,.string ⟨#[]⟩,.int .i64 0,.int .i64 0,.int .i64 0],.int .i64 f])
theorem Bv {s:ByteArray}{f:Int}(h:Pl.mE s=.error f):IW s (.returned (.tuple #[.agg #[.int .i64 0,.string ⟨#[]⟩,.int .i64 0,.int .i64 0,.int .i64 0],.int .i64 f])):=by unfold IW;rw[h]
theorem ND {s S:ByteArray}{k N:Int}(h:Pl.mE s=.ok (k,S,N)):IW s (.returned (.tuple #[.agg #[.int .i64 k,.string S,.int .i64 N,.int .i64 0,.int .i64 0],.int .i64 0])):=by unfold IW;rw[h]
set_option maxRecDepth 100000 in
theorem AQ (s:ByteArray) (hpos:0<s.size) (hs:s.size<=1048576) (w:World) (hE:nR w):Calls Tryz.prog 121 #[.string s] w fun e w'=>IW s e/\Bw w w':=by
 have HE:Hid (nR w):=hE;clear hE;cases hd:Pl.dg (Pl.aD s 0)
 ·by_cases hb:(40:Int)<(s.size:Int)
  ·have HR:Hid (Pl.mE s=.error 8):=(by show Pl.mE s=_;unfold Pl.mE;rw[hd,if_neg (by decide),if_pos (by omega)]);go_enter Tryz.func121,Tryz.ntmps121;go_wp2_with (go_at_call 130;refine (oF _ _).mono ?_;rintro e u1 ⟨rfl,rfl⟩;rw[Pl.aJ s 0 hpos,hd])
   exact bodyPost_ret (v:=.tuple #[.agg #[.int .i64 0,.string ⟨#[]⟩,.int .i64 0,.int .i64 0,.int .i64 0],.int .i64 8]) (by simp[results,Tryz.results121,go_sem]) rfl ⟨Bv HR.o,aB _ _⟩
  ·cases hk:Pl.isK s
   ·have HR:Hid (Pl.mE s=.ok (1,s,0)):=(by show Pl.mE s=_;unfold Pl.mE;rw[hd,if_neg (by decide),if_neg (by omega),hk];rfl);go_enter Tryz.func121,Tryz.ntmps121;go_wp2_with (first|(go_at_call 130;refine (oF _ _).mono ?_;rintro e u1 ⟨rfl,rfl⟩;rw[Pl.aJ s 0 hpos,hd])|(go_at_call 132;refine (RN s _).mono ?_;rintro e u1 ⟨rfl,rfl⟩;rw[hk]))
    exact bodyPost_ret (v:=.tuple #[.agg #[.int .i64 1,.string s,.int .i64 0,.int .i64 0,.int .i64 0],.int .i64 0]) (by simp[results,Tryz.results121,go_sem]) rfl ⟨ND HR.o,aB _ _⟩
   ·have HR:Hid (Pl.mE s=.ok (2,s,0)):=(by show Pl.mE s=_;unfold Pl.mE;rw[hd,if_neg (by decide),if_neg (by omega),hk];rfl);go_enter Tryz.func121,Tryz.ntmps121;go_wp2_with (first|(go_at_call 130;refine (oF _ _).mono ?_;rintro e u1 ⟨rfl,rfl⟩;rw[Pl.aJ s 0 hpos,hd])|(go_at_call 132;refine (RN s _).mono ?_;rintro e u1 ⟨rfl,rfl⟩;rw[hk]))
    exact bodyPost_ret (v:=.tuple #[.agg #[.int .i64 2,.string s,.int .i64 0,.int .i64 0,.int .i64 0],.int .i64 0]) (by simp[results,Tryz.results121,go_sem]) rfl ⟨ND HR.o,aB _ _⟩
 ·have HR:Hid (Pl.mE s=(match Pl.iU s with|.error f=>.error f|.ok (S,N)=>.ok (3,S,N))):=by show Pl.mE s=_;unfold Pl.mE;rw[if_pos hd];rfl
  go_enter Tryz.func121,Tryz.ntmps121;go_wp2_with (go_at_call 130;refine (oF _ _).mono ?_;rintro e u1 ⟨rfl,ek⟩;rw[ek];clear ek;rw[Pl.aJ s 0 hpos,hd])
  refine (EH s hpos hd hs _ (HE.o.on (aB w _))).mono ?_;rintro e u2 ⟨hi,g2⟩;have Q2:Hid (u2.heap[w.heap.size]?=some (.cells #[.int .i64 0,.string ⟨#[]⟩,.int .i64 0,.int .i64 0,.int .i64 0] 102 (0,0))):=(g2.block w.heap.size (by simp)).trans (heap_alloc_new w _);have B2:Hid (Bw w u2):=(aB w _).trans (g2.mono (by simp));clear g2;unfold Dj at hi;cases hq:Pl.iU s with
  | error f=>
   rw[hq]at hi;subst hi;have HR2:Hid (Pl.mE s=.error f):=(by show Pl.mE s=_;rw[HR.o,hq]);clear HR hq;go_wp2_with (refine wpList_store_row rfl 102 _ _ rfl w.heap.size #[.int .i64 0,.string ⟨#[]⟩,.int .i64 0,.int .i64 0,.int .i64 0] ?hx ?hy 102 #[.int .i64 0,.string ⟨#[]⟩,.int .i64 0,.int .i64 0,.int .i64 0] ?hg ?hi ?ho ?h1 ?_;(case hx=>rfl);(case hy=>rfl);(case hg=>exact Q2.o);(case hi=>kernel_rfl);(case ho=>kernel_rfl);(case h1=>kernel_rfl))
   refine bodyPost_ret (v:=.tuple #[.agg #[.int .i64 0,.string ⟨#[]⟩,.int .i64 0,.int .i64 0,.int .i64 0],.int .i64 f]) ?hr ?hdf ?nX
   case hr=>
    refine bO Tryz.results121 _ _ (w.heap.size) 102 #[.int .i64 0,.string ⟨#[]⟩,.int .i64 0,.int .i64 0,.int .i64 0] (0,0) _ (.int .i64 f) ?hp ?hq ?hg Tryz.underlying102 ?hd ?hi
    case hp=>rfl
    case hq=>rfl
    case hg=>exact setRow_heap _ _ _ _ _ _ Q2.o
    case hd=>rfl
    case hi=>kernel_rfl
   case hdf=>rfl
   case nX=>exact⟨Bv HR2.o,below_setRow B2.o (Nat.le_refl _) _⟩
  | ok q=>
   obtain⟨S,n⟩:=q;rw[hq]at hi;subst hi;have HR2:Hid (Pl.mE s=.ok (3,S,n)):=(by show Pl.mE s=_;rw[HR.o,hq]);clear HR hq;go_wp2_with (refine wpList_store_row rfl 102 _ _ rfl w.heap.size #[.int .i64 3,.string S,.int .i64 n,.int .i64 0,.int .i64 0] ?hx ?hy 102 #[.int .i64 0,.string ⟨#[]⟩,.int .i64 0,.int .i64 0,.int .i64 0] ?hg ?hi ?ho ?h1 ?_;(case hx=>rfl);(case hy=>rfl);(case hg=>exact Q2.o);(case hi=>kernel_rfl);(case ho=>kernel_rfl);(case h1=>kernel_rfl))
   refine bodyPost_ret (v:=.tuple #[.agg #[.int .i64 3,.string S,.int .i64 n,.int .i64 0,.int .i64 0],.int .i64 0]) ?hr ?hdf ?nX
   case hr=>
    refine bO Tryz.results121 _ _ (w.heap.size) 102 #[.int .i64 3,.string S,.int .i64 n,.int .i64 0,.int .i64 0] (0,0) _ (.int .i64 0) ?hp ?hq ?hg Tryz.underlying102 ?hd ?hi
    case hp=>rfl
    case hq=>rfl
    case hg=>exact setRow_heap _ _ _ _ _ _ Q2.o
    case hd=>rfl
    case hi=>kernel_rfl
   case hdf=>rfl
   case nX=>exact⟨ND HR2.o,below_setRow B2.o (Nat.le_refl _) _⟩
end W
end Go.Proofs.YtjcdiegfnoaedaaGreatDoor
