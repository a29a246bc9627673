import Derived.Deep.RegionHeld3
import Derived.Test.YtjcdiegfnoaedaaGreatDoorZ17
set_option linter.unusedVariables false
set_option linter.unusedSimpArgs false
set_option maxHeartbeats 16000000
namespace Go.Proofs.YtjcdiegfnoaedaaGreatDoor
namespace Pl
def Tx.m (t:Tx):Nat:=max t.pr.length (max (t.bf.length+t.bh.length) t.th.length)
def gS (ks:List Tx):Nat:=(ks.map fun t=>t.m+6).sum
theorem wV (s:ByteArray):(say s).length=s.size+1:=by unfold say;rw[List.length_append,Array.length_toList];rfl
theorem WZ (t:List UInt8):(brk t).length=t.length+4:=by
 unfold brk;simp only[List.length_append,wV];show 1+1+t.length+(1+1)=_;omega
theorem IG (t:Tx):t.pr.length<=t.m/\t.bf.length+t.bh.length<=t.m/\t.th.length<=t.m/\t.op.length<=t.m+4/\t.ar.length<=t.m+4/\∀s:ByteArray,(t.dc s).length<=t.m+s.size+1:=by
 have h:t.m=max t.pr.length (max (t.bf.length+t.bh.length) t.th.length):=rfl;refine⟨by omega,by omega,by omega,?_,?_,fun s=>?_⟩
 ·unfold Tx.op;split <;> (try rw[WZ]) <;> omega
 ·unfold Tx.ar;split <;> (try rw[WZ]) <;> omega
 ·unfold Tx.dc;simp only[List.length_append];split
  ·simp only[List.length_nil];omega
  ·simp only[List.length_append,Array.length_toList,List.length_cons,List.length_nil];have:s.data.size=s.size:=rfl;omega
theorem MS (t:Tx) (l:List Tx):gS (t :: l)=t.m+6+gS l:=by simp[gS]
theorem MU (ks:List Tx) (j:Nat):(ks.getD j Tx.no).m+gS (ks.drop (j+1))<=gS (ks.drop j):=by
 by_cases h:j<ks.length
 ·rw[List.drop_eq_getElem_cons h,MS,List.getD_eq_getElem?_getD,List.getElem?_eq_getElem h];show ks[j].m+_<=_;omega
 ·rw[List.drop_eq_nil_of_le (by omega),List.drop_eq_nil_of_le (by omega),List.getD_eq_getElem?_getD,List.getElem?_eq_none (by omega)]
  decide
theorem aFH (l:List Tx):(wF l).length<=gS l:=by
 induction l with
 | nil=>exact Nat.le_refl _
 | cons t l ih=>rw[MS];have:=(IG t).1;show (t.pr++wF l).length<=_;rw[List.length_append];omega
theorem aCa (l:List Tx) (s:ByteArray) (f:Tx->List UInt8) (hs:s.size<=4) (hf:∀t,(say s++f t).length<=t.m+6):(l.flatMap fun t=>say s++f t).length<=gS l:=by
 induction l with
 | nil=>exact Nat.zero_le _
 | cons t l ih=>rw[MS,List.flatMap_cons,List.length_append];have:=hf t;omega
theorem aEg (l:List Tx):(wG l).length<=gS l:=by
 cases l with
 | nil=>exact Nat.zero_le _
 | cons t l=>
  rw[MS];show (t.ar++_).length<=_;rw[List.length_append];have h1:=(IG t).2.2.2.2.1;have h2:=aCa l ⟨#[44]⟩ Tx.ar (by decide) fun t=>by have:=(IG t).2.2.2.2.1;rw[List.length_append,wV];show 1+1+_<=_;omega
  omega
theorem aEh (l:List Tx):(FZ l).length<=gS l:=aCa l ⟨#[61]⟩ Tx.ar (by decide) fun t=>by have:=(IG t).2.2.2.2.1;rw[List.length_append,wV];show 1+1+_<=_;omega
theorem aFI (l:List Tx):(l.flatMap fun t=>say ⟨#[101,108,115,101]⟩++t.pr).length<=gS l:=aCa l _ Tx.pr (by decide) fun t=>by have:=(IG t).1;rw[List.length_append,wV];show 4+1+_<=_;omega
theorem zF {l:List ByteArray}(h:(l.all fun b=>decide (b.size<=14))=true) (m:Int):(CX l m).size<=14:=by
 unfold CX;rw[List.getD_eq_getElem?_getD];by_cases q:m.toNat<l.length
 ·rw[List.getElem?_eq_getElem q];exact of_decide_eq_true (List.all_eq_true.1 h _ (List.getElem_mem q))
 ·rw[List.getElem?_eq_none (by omega)]
  decide
theorem aEi {c:Prop} [Decidable c] {a b:Tx}{n:Nat}(h1:a.m<=n) (h2:b.m<=n):(if c then a else b).m<=n:=by split <;> assumption
theorem mk_le (lit:Nd->ByteArray) (x:Nd) (ks:List Tx) (hs:x.s.size<=200) (hl:(lit x).size<=802):(aR lit x ks).m<=940+gS ks:=by
 have h0:(ks.getD 0 Tx.no).m+gS (ks.drop 1)<=gS ks:=MU ks 0;have h1:(ks.getD 1 Tx.no).m+gS (ks.drop 2)<=gS (ks.drop 1):=MU ks 1;have h2:(ks.getD 2 Tx.no).m+gS (ks.drop 3)<=gS (ks.drop 2):=MU ks 2;have h3:(ks.getD 3 Tx.no).m+gS (ks.drop 4)<=gS (ks.drop 3):=MU ks 3;have a0:=IG (ks.getD 0 Tx.no);have a1:=IG (ks.getD 1 Tx.no);have a2:=IG (ks.getD 2 Tx.no);have a3:=IG (ks.getD 3 Tx.no);have d0:=a0.2.2.2.2.2 x.s;have d1:=a0.2.2.2.2.2 ⟨#[]⟩;have l0:=aFH ks;have l1:=aEg ks;have l2:=aEg (ks.drop 1);have l3:=aEh ks;have l4:=aEh (ks.drop 1);have l5:=aFI (ks.drop 2);have w1:=zF (l:=PM) (by decide) x.n;have w2:=zF (l:=BA) (by decide) x.m;have w3:=zF (l:=stepW) (by decide) x.m;have w4:=zF (l:=unW) (by decide) x.m;have w5:=zF (l:=uU) (by decide) x.m;have w6:=zF (l:=PL) (by decide) x.m;have z1:∀a:UInt8,(⟨#[a]⟩:ByteArray).size=1:=fun _=>rfl;have z2:∀a b:UInt8,(⟨#[a,b]⟩:ByteArray).size=2:=fun _ _=>rfl;have z4:∀a b c d:UInt8,(⟨#[a,b,c,d]⟩:ByteArray).size=4:=fun _ _ _ _=>rfl;have z5:∀a b c d e:UInt8,(⟨#[a,b,c,d,e]⟩:ByteArray).size=5:=fun _ _ _ _ _=>rfl;have z6:∀a b c d e f:UInt8,(⟨#[a,b,c,d,e,f]⟩:ByteArray).size=6:=fun _ _ _ _ _ _=>rfl;have z7:∀a b c d e f g:UInt8,(⟨#[a,b,c,d,e,f,g]⟩:ByteArray).size=7:=fun _ _ _ _ _ _ _=>rfl;have z8:∀a b c d e f g h:UInt8,(⟨#[a,b,c,d,e,f,g,h]⟩:ByteArray).size=8:=fun _ _ _ _ _ _ _ _=>rfl;have z3:∀a b c:UInt8,(⟨#[a,b,c]⟩:ByteArray).size=3:=fun _ _ _=>rfl;have z0:(⟨#[]⟩:ByteArray).size=0:=rfl;have key:∀t:Tx,t.pr.length<=940+gS ks->t.bf.length+t.bh.length<=940+gS ks->t.th.length<=940+gS ks->t.m<=940+gS ks:=fun t q1 q2 q3=>by unfold Tx.m;omega
 unfold aR
 repeat' refine aEi ?_ ?_
 all_goals refine key _ ?_ ?_ ?_
 all_goals simp only[uW,nD,rU,List.length_append,List.length_nil,wV,WZ,z0,z1,z2,z3,z4,z5,z6,z7,z8]
 all_goals (repeat' split) <;> (try simp only[List.length_nil,wV,z1,z4]) <;> omega
theorem Bj {f:Int->Nat}{l:List Nat}{ks:List Int}{i:Nat}(hb:∀p,p<i->l.getD p 0<=p) (hf:∀c:Nat,c<i->f (c:Int)+4<=1000*(c+1-l.getD c 0)):∀ {j a:Nat},tK l ks i j=some a->j<=ks.length->((ks.drop (ks.length-j)).map f).sum+4*j<=1000*(i-a)/\a<=i
 | 0,a,h,_=>by cases h;simp
 | j+1,a,h,hj=>by
  obtain⟨a',h1,h2,h3,rfl⟩:=tL h;obtain⟨q1,q2⟩:=Bj hb hf h1 (by omega);have e:ks.drop (ks.length-(j+1))=ks.getD (ks.length-1-j) 0 :: ks.drop (ks.length-j):=by
   rw[List.drop_eq_getElem_cons (by omega),List.getD_eq_getElem?_getD,List.getElem?_eq_getElem (show ks.length-1-j<ks.length by omega)];congr 1
   ·simp only[Option.getD_some];congr 1;omega
   ·congr 1;omega
  have h4:=hb (a'-1) (by omega);have h5:=hf (a'-1) (by omega);rw[e,List.map_cons,List.sum_cons,h3,show (a':Int)-1=((a'-1:Nat):Int) by omega];omega
theorem Nj (lit:Nd->ByteArray) (xs:List Nd) (hx:∀i,i<xs.length->(nd xs i).s.size<=200/\(lit (nd xs i)).size<=802):∀(n:Nat) (l:List Nat),n<=xs.length->vP xs n=some l->∀i,i<n->(tx lit xs i).m+10<=1000*(i+1-l.getD i 0)
 | 0,_,_,_,i,hi=>absurd hi (Nat.not_lt_zero _)
 | n+1,l,hn,hl,i,hi=>by
  obtain⟨l0,b,h0,hw,rfl⟩:=DJ hl;have hlen:=KU h0;by_cases e:i=n
  ·subst e;have O:=yS h0;have O1:=yS hl;have ih:=Nj lit xs hx i l0 (by omega) h0;rw[show (l0++[b]).getD i 0=b by rw[<- hlen];exact uY];rw[xL lit xs i (fun k hk=>by obtain⟨c,rfl,hc,-⟩:=O1.kid i (by omega) k hk;omega)];have h1:=mk_le lit (nd xs i) ((nd xs i).kids.map fun k=>tx lit xs k.toNat) (hx i (by omega)).1 (hx i (by omega)).2;have h2:=(Bj (f:=fun k=>(tx lit xs k.toNat).m+6) O.le (fun c hc=>by have:=ih c hc;show _+6+4<=_;exact this) hw (Nat.le_refl _));rw[Nat.sub_self,List.drop_zero]at h2;have h3:gS ((nd xs i).kids.map fun k=>tx lit xs k.toNat)=((nd xs i).kids.map fun k=>(tx lit xs k.toNat).m+6).sum:=(by unfold gS;rw[List.map_map];rfl);rw[h3]at h1;show (aR lit (nd xs i) ((nd xs i).kids.map fun k=>tx lit xs k.toNat)).m+10<=_;omega
  ·rw[uX (by omega)];exact Nj lit xs hx n l0 (by omega) h0 i (by omega)
def fx (k:Int):Option Nat:=if (rG (dM.getD k.toNat [])).2.2=0 then some (rG (dM.getD k.toNat [])).1.length else none
def lets (k:Int) (n:Nat):List Int:=(List.range n).map fun j=>if j<(rG (dM.getD k.toNat [])).1.length then (rG (dM.getD k.toNat [])).1.getD j 0 else (rG (dM.getD k.toNat [])).2.1
end Pl
namespace W
open Go.RowKit
structure Ns where
 a:Option Addr
 len:Nat
 cap:Nat
 xs:List Pl.Nd
 T:Nat->Pl.Tx
def Ns.On (N:Ns) (B:Nat) (u:World):Prop:=∃(w0:World) (lo:Nat),w0.heap.size<=B/\aT lo w0 N.a N.len N.cap N.xs/\Bw w0 u
theorem Ns.On.step {N:Ns}{B:Nat}{u u':World}:N.On B u->Below B u u'->N.On B u':=by
 rintro⟨w0,lo,h1,h2,h3⟩ d;exact⟨w0,lo,h1,h2,h3.trans (d.mono h1)⟩
theorem Ns.On.up {N:Ns}{B B':Nat}{u:World}:N.On B u->B<=B'->N.On B' u:=by
 rintro⟨w0,lo,h1,h2,h3⟩ d;exact⟨w0,lo,Nat.le_trans h1 d,h2,h3⟩
def Wu (N:Ns) (B:Nat) (u:World) (f:FuncId) (args:List Value) (t:List UInt8):Prop:=
 ∀(g:Nat) (ts:List UInt8) (z:World),Wr B g (.slice N.a N.len N.cap) ts z->N.On B z->Fr B u z->ts.length+t.length<=Pl.room->Calls Tryz.prog f (.pointer (some ⟨g,0,none⟩) :: args).toArray z fun e z'=>e=.returned (.tuple #[])/\Wr B g (.slice N.a N.len N.cap) (ts++t) z'/\Fr B z z'
def Wx (N:Ns) (f:FuncId) (args:List Value) (t:List UInt8):Prop:=∀B u,Wu N B u f args t
theorem Wx.u {N:Ns}{f:FuncId}{args:List Value}{t:List UInt8}{B:Nat}{u:World}(X:Wx N f args t):Wu N B u f args t:=X B u
structure Sg (N:Ns) (B g:Nat) (u:World) (W r:List UInt8) (z:World):Prop where
 w:∃ts,ts++r=W/\Wr B g (.slice N.a N.len N.cap) ts z
 n:W.length<=Pl.room
 d:Fr B u z
 a:N.On B z
section
variable {N:Ns}{B g n0:Nat}{cs:Array Value}{u z y:World}{W r R t ts:List UInt8}
theorem Wr.size {nv:Value}(h:Wr B g nv ts u):B<=u.heap.size:=Nat.le_trans h.ge (Nat.le_of_lt h.lt)
theorem Sg.size (S:Sg N B g u W r z):B<=z.heap.size:=by
 obtain⟨ts,e,h⟩:=S.w;exact h.size
theorem Sg.on (S:Sg N B g u W r z) (d:Bw z y):Sg N B g u W r y:=by
 obtain⟨ts,e,h⟩:=S.w;exact⟨⟨ts,e,h.keep d⟩,S.n,S.d.trans (Fr.below d h.size),S.a.step (d.mono h.size)⟩
theorem Sg.call {f:FuncId}{args:List Value}(S:Sg N B g u W R z) (d:Bw z y:=by apply_rules [Below.refl,Below.drew,below_drewN,dL]) (X:Wu N B u f args t:=by first|exact uS _|assumption|exact Wx.u ‹_›|exact Kd.ex ‹_›|exact Kd.op ‹_›|exact Kd.ie ‹_›|exact Kd.st ‹_›|exact qH _ _|exact XA _ ‹_›|exact uG _ ‹_› ‹_›|exact Kd.sv ‹_›|exact Kd.sx ‹_›) (hR:t++r=R:=by first|rfl|exact List.append_nil _|(simp only[List.append_assoc];rfl)):Calls Tryz.prog f (.pointer (some ⟨g,0,none⟩) :: args).toArray y fun e z'=>e=.returned (.tuple #[])/\Sg N B g u W r z'/\Fr B z z':=by
 have S1:=S.on d;obtain⟨ts,e,h⟩:=S1.w;subst hR;have hn:=S.n;rw[<- e]at hn;simp only[List.length_append]at hn;refine (X g ts y h S1.a S1.d (by omega)).mono ?_;rintro _ z' ⟨rfl,h1,h2⟩;exact⟨rfl,⟨⟨ts++t,by rw[List.append_assoc];exact e,h1⟩,S.n,S1.d.trans h2,S1.a.step h2.b⟩,(Fr.below d S.size).trans h2⟩
theorem Sg.begin (h:Wr B g (.slice N.a N.len N.cap) ts u) (na:N.On B u) (hn:ts.length+t.length<=Pl.room) (e:t=r):Sg N B g u (ts++t) r u:=by
 subst e;exact⟨⟨ts,rfl,h⟩,by rw[List.length_append];exact hn,Fr.refl _ _,na⟩
theorem Sg.cell (S:Sg N B g u W r z):z.cell? ⟨g,0,none⟩=some (.slice N.a N.len N.cap):=by
 obtain⟨ts,e,h⟩:=S.w;obtain⟨vo,hb,_⟩:=h.ex;rw[cell_of_row z g 0 _ 42 (0,0) hb];rfl
theorem Sg.ce (S:Sg N B g u W r z):(∀k j,k<B->z.cell? ⟨k,j,none⟩=u.cell? ⟨k,j,none⟩)/\z.cell? ⟨g,0,none⟩=some (.slice N.a N.len N.cap):=⟨fun k j hk=>S.d.b.cell (p:=⟨k,j,none⟩) hk,S.cell⟩
theorem Sg.fin (S:Sg N B g u W [] z):Wr B g (.slice N.a N.len N.cap) W z/\Fr B u z:=by
 obtain⟨ts,e,h⟩:=S.w;rw[List.append_nil]at e;subst e;exact⟨h,S.d⟩
structure Sb (N:Ns) (B g n0:Nat) (cs:Array Value) (u:World) (W r:List UInt8) (z:World):Prop where
 s:Sg N B g u W r z
 q:z.heap[n0]?=some (.cells cs 45)
abbrev Ce (N:Ns) (B g n0:Nat) (cs:Array Value) (u z:World):Prop:=(∀j,z.cell? ⟨n0,j,none⟩=cs[j]?)/\(∀k j,k<B->z.cell? ⟨k,j,none⟩=u.cell? ⟨k,j,none⟩)/\z.cell? ⟨g,0,none⟩=some (.slice N.a N.len N.cap)/\n0<z.heap.size/\g<z.heap.size/\B<=z.heap.size
theorem Ce.on (h:Ce N B g n0 cs u z) (d:Bw z y:=by apply_rules [Below.refl,Below.drew,below_drewN,dL]):Ce N B g n0 cs u y:=
 ⟨fun j=>(d.cell (p:=⟨n0,j,none⟩) h.2.2.2.1).trans (h.1 j),fun k j hk=>(d.cell (p:=⟨k,j,none⟩) (Nat.lt_of_lt_of_le hk h.2.2.2.2.2)).trans (h.2.1 k j hk),(d.cell (p:=⟨g,0,none⟩) h.2.2.2.2.1).trans h.2.2.1,Nat.lt_of_lt_of_le h.2.2.2.1 d.size,Nat.lt_of_lt_of_le h.2.2.2.2.1 d.size,Nat.le_trans h.2.2.2.2.2 d.size⟩
theorem Sb.ce (S:Sb N B g n0 cs u W r z):Ce N B g n0 cs u z:=by
 obtain⟨ts,e,h⟩:=S.s.w;exact⟨fun j=>cell_of_row z n0 j _ 45 (0,0) S.q,fun k j hk=>S.s.d.b.cell (p:=⟨k,j,none⟩) hk,S.s.cell,(Array.getElem?_eq_some_iff.1 S.q).1,h.lt,h.size⟩
theorem Sb.f (S:Sb N B g n0 cs u W r z):Ce N B g n0 cs u z/\∀o,Ce N B g n0 cs u (z.alloc o):=⟨S.ce,fun o=>S.ce.on (aA z o)⟩
theorem Sb.call {f:FuncId}{args:List Value}(S:Sb N B g n0 cs u W R z) (d:Bw z y:=by apply_rules [Below.refl,Below.drew,below_drewN,dL]) (X:Wu N B u f args t:=by first|exact uS _|assumption|exact Wx.u ‹_›|exact Kd.ex ‹_›|exact Kd.op ‹_›|exact Kd.ie ‹_›|exact Kd.st ‹_›|exact qH _ _|exact XA _ ‹_›|exact uG _ ‹_› ‹_›|exact Kd.sv ‹_›|exact Kd.sx ‹_›) (hR:t++r=R:=by first|rfl|exact List.append_nil _|(simp only[List.append_assoc];rfl)):Calls Tryz.prog f (.pointer (some ⟨g,0,none⟩) :: args).toArray y fun e z'=>e=.returned (.tuple #[])/\Sb N B g n0 cs u W r z':=by
 refine (S.s.call d X hR).mono ?_;rintro _ z' ⟨rfl,h1,h2⟩;exact⟨rfl,h1,h2.k _ _ _ _ S.q (by decide) (by decide)⟩
theorem Sb.aEj {f:FuncId}{args:List Value}{nf:Nat}{cf:Array Value}(S:Sb N B g n0 cs u W R z) (q:z.heap[nf]?=some (.cells cf 45)) (d:Bw z y:=by apply_rules [Below.refl,Below.drew,below_drewN,dL]) (X:Wu N B u f args t:=by first|exact uS _|assumption|exact Wx.u ‹_›|exact Kd.ex ‹_›|exact Kd.op ‹_›|exact Kd.ie ‹_›|exact Kd.st ‹_›|exact qH _ _|exact XA _ ‹_›|exact uG _ ‹_› ‹_›|exact Kd.sv ‹_›|exact Kd.sx ‹_›) (hR:t++r=R:=by first|rfl|exact List.append_nil _|(simp only[List.append_assoc];rfl)):Calls Tryz.prog f (.pointer (some ⟨g,0,none⟩) :: args).toArray y fun e z'=>e=.returned (.tuple #[])/\Sb N B g n0 cs u W r z'/\z'.heap[nf]?=some (.cells cf 45):=by
 refine (S.s.call d X hR).mono ?_;rintro _ z' ⟨rfl,h1,h2⟩;exact⟨rfl,⟨h1,h2.k _ _ _ _ S.q (by decide) (by decide)⟩,h2.k _ _ _ _ q (by decide) (by decide)⟩
theorem Sb.on (S:Sb N B g n0 cs u W r z) (d:Bw z y):Sb N B g n0 cs u W r y:=⟨S.s.on d,(d.block n0 (Array.getElem?_eq_some_iff.1 S.q).1).trans S.q⟩
theorem Sb.begin (cs:Array Value) (h:Wr B g (.slice N.a N.len N.cap) ts u) (na:N.On B u) (hn:ts.length+t.length<=Pl.room) (hy:y=u.alloc (.cells cs 45)) (e:t=r):Sb N B g u.heap.size cs u (ts++t) r y:=by
 subst hy;exact⟨(Sg.begin h na hn e).on (aA u _),heap_alloc_new u _⟩
theorem dL {o:Obj}(h:Bw u z):Bw u (z.alloc o):=h.trans ((aA z o).mono h.size)
theorem uS (s:ByteArray):Wu N B u 30 [.string s] (Pl.say s):=fun g ts z h na _ hn=>by
 have e:(Pl.say s).length=s.size+1:=by unfold Pl.say;rw[List.length_append,Array.length_toList];rfl
 exact (Ki s z h (by omega)).mono fun _ _ q=>⟨q.1,q.2.1,q.2.2.1⟩
end
def Kr (B:Nat) (u:World) (v:SV) (kids:List Int):Prop:=v.len=kids.length/\v.len<=v.cap/\v.cap<=maxLen/\(v.len=0\/∃b9 o9,v.a=some ⟨b9,o9,none⟩/\b9<B/\∀j,j<v.len->u.cell? ⟨b9,o9+j,none⟩=some (.int .i64 (kids.getD j 0)))
theorem Kr.on {B:Nat}{u z:World}{v:SV}{kids:List Int}(K:Kr B u v kids) (d:Below B u z):Kr B z v kids:=⟨K.1,K.2.1,K.2.2.1,K.2.2.2.imp id fun ⟨b9,o9,ea,eb,ec⟩=>⟨b9,o9,ea,eb,fun j hj=>(d.cell (p:=⟨b9,o9+j,none⟩) eb).trans (ec j hj)⟩⟩
theorem Ns.On.node {N:Ns}{B:Nat}{u:World}(h:N.On B u){i:Nat}(hi:i<N.len){x:Pl.Nd}(hx:N.xs.getD i Pl.Nd.zero=x):∃(b off:Nat) (v:SV),N.a=some ⟨b,off,none⟩/\b<B/\(u.cell? ⟨b,off+i*7,none⟩=some (.int .i64 x.k)/\u.cell? ⟨b,off+i*7+1,none⟩=some (.int .i64 x.m)/\u.cell? ⟨b,off+i*7+2,none⟩=some (.int .i64 x.n)/\u.cell? ⟨b,off+i*7+3,none⟩=some (.string x.s)/\u.cell? ⟨b,off+i*7+4,none⟩=some (.slice v.a v.len v.cap)/\u.cell? ⟨b,off+i*7+5,none⟩=some (.int .i64 x.line)/\u.cell? ⟨b,off+i*7+6,none⟩=some (.int .i64 x.aQ))/\Kr B u v x.kids/\(i:Int)<(N.len:Int):=by
 obtain⟨w0,lo,h1,h2,h3⟩:=h;obtain⟨b,off,v,ha,_,hlt,hc,hr,_⟩:=h2.at hi;rw[hx]at hc hr;have key:∀j,j<7->u.cell? ⟨b,off+i*7+j,none⟩=(x.cells v)[j]?:=fun j hj=>(h3.cell (p:=⟨b,off+i*7+j,none⟩) hlt).trans (hc j hj);refine⟨b,off,v,ha,Nat.lt_of_lt_of_le hlt h1,⟨key 0 (by decide),key 1 (by decide),key 2 (by decide),key 3 (by decide),key 4 (by decide),key 5 (by decide),key 6 (by decide)⟩,?_,by omega⟩;obtain⟨q1,q2,q3,q4,q5⟩:=hr.keep h3;refine⟨q1.symm,q2,q3,?_⟩;rcases q5 with q5|⟨b9,o9,e,r1,r2,r3⟩
 ·exact .inl q5
 ·obtain⟨p1,p2,p3,p4,p5⟩:=hr;rcases p5 with p5|⟨b8,o8,e8,s1,s2,s3⟩
  ·exact .inl p5
  ·rw[e]at e8;cases e8;exact .inr ⟨b9,o9,e,Nat.lt_of_lt_of_le s2 h1,r3⟩
def Br (L:Nat) (u:World) (a:Option Addr) (n:Nat) (l:List UInt8):Prop:=l.length=n/\∃ad:Addr,a=some ad/\(L<=ad.block/\ad.block<u.heap.size)/\∀j u',(Pl.bl l)[j]?=some u'->u.cell? (ad.add j)=some u'
def Bs (N:Ns) (b:Nat):Prop:=(N.xs.getD b Pl.Nd.zero).k=1\/(N.xs.getD b Pl.Nd.zero).k=5\/(N.xs.getD b Pl.Nd.zero).k=6
def ArG (N:Ns) (L:Nat) (R:List UInt8) (u:World) (e:Ending) (u':World):Prop:=∃(a':Option Addr) (n' c':Nat) (base:Nat) (d:List UInt8),e=.returned (.tuple #[.slice a' n' c',.int .i64 (base:Int)])/\Br L u' a' n' d/\Bw u u'/\base<N.len/\Bs N base/\(N.T base).bf++d=R
def Ar (N:Ns) (i:Int) (t:Pl.Tx):Prop:=∀(L g:Nat) (a0:Option Addr) (m0 c0:Nat) (inner:List UInt8) (u:World),u.cell? ⟨g,0,none⟩=some (.slice N.a N.len N.cap)->g<u.heap.size->N.On u.heap.size u->L<=u.heap.size->Br L u a0 m0 inner->t.bf.length+inner.length+t.bh.length<=Pl.room->Calls Tryz.prog 55 #[.pointer (some ⟨g,0,none⟩),.int .i64 i,.slice a0 m0 c0] u fun e u'=>ArG N L (t.bf++(inner++t.bh)) u e u'
structure Sd (N:Ns) (c k:Int) (t:Pl.Tx):Prop where
 ex:Pl.aH k=8->Wx N 56 [.int .i64 c] t.pr
 op:Pl.aH k=8->Wx N 87 [.int .i64 c] t.op
 it:Pl.aH k=4\/Pl.aH k=6\/Pl.aH k=8->Wx N 34 [.int .i64 c] t.ar
 st:Pl.aH k=7\/Pl.aH k=10->Wx N 33 [.int .i64 c] t.pr
 tp:Pl.aH k=5\/Pl.aH k=10->Wx N 15 [.int .i64 c] t.pr
 dc:Pl.aH k=1->∀s:ByteArray,s.size<=40->Wx N 31 [.int .i64 c,.string s] (t.dc s)
 ar:Pl.aH k=1->Ar N c t/\(t.sf=true↔k=3\/k=4)
 nd:∃(c':Nat) (y:Pl.Nd),c=(c':Int)/\c'<N.len/\N.xs.getD c' Pl.Nd.zero=y/\y.k=k/\(k=20->t.th=[])/\(k=19->0<y.kids.length/\Wx N 56 [.int .i64 (y.kids.getD 0 0)] t.th)/\(k=7\/k=8->0<y.kids.length/\t.rk=0/\∃d,Wx N 31 [.int .i64 (y.kids.getD 0 0),.string y.s] d/\t.pr=if k=7 then d else d++Pl.say ⟨#[59]⟩)
def Kd (N:Ns) (l c:Int) (t:Pl.Tx):Prop:=∃k,Pl.aL l k=true/\Sd N c k t
section
variable {N:Ns}{c:Int}{t:Pl.Tx}{B:Nat}{u:World}
theorem Kd.ex:Kd N 101 c t->Wu N B u 56 [.int .i64 c] t.pr:=fun ⟨_,h,S⟩=>(S.ex (Pl.Af h)) _ _
theorem Kd.op:Kd N 101 c t->Wu N B u 87 [.int .i64 c] t.op:=fun ⟨_,h,S⟩=>(S.op (Pl.Af h)) _ _
theorem Kd.ie:Kd N 101 c t->Wu N B u 34 [.int .i64 c] t.ar:=fun ⟨_,h,S⟩=>(S.it (.inr (.inr (Pl.Af h)))) _ _
theorem Kd.ii:Kd N 105 c t->Wu N B u 34 [.int .i64 c] t.ar:=fun ⟨_,h,S⟩=>(S.it (.inr (Pl.aDP h))) _ _
theorem Kd.st:Kd N 115 c t->Wu N B u 33 [.int .i64 c] t.pr:=fun ⟨_,h,S⟩=>(S.st (.inl (Pl.aDN h))) _ _
theorem Kd.sv:Kd N 118 c t->Wu N B u 33 [.int .i64 c] t.pr:=fun ⟨_,h,S⟩=>(S.st (by rcases Pl.aDW h with rfl|rfl|rfl <;> decide)) _ _
theorem Kd.sx:Kd N 120 c t->Wu N B u 33 [.int .i64 c] t.pr:=fun ⟨_,h,S⟩=>(S.st (by rcases Pl.Kv h with rfl|rfl <;> decide)) _ _
theorem Kd.sB:Kd N 66 c t->Wu N B u 33 [.int .i64 c] t.pr:=fun ⟨_,h,S⟩=>(S.st (by rw[Pl.aDV h];decide)) _ _
theorem Kd.dt (s:ByteArray) (hs:s.size<=40):Kd N 116 c t->Wu N B u 31 [.int .i64 c,.string s] (t.dc s):=fun ⟨_,h,S⟩=>(S.dc (Pl.tN h) s hs) _ _
theorem Kd.dF (s:ByteArray) (hs:s.size<=40):Kd N 70 c t->Wu N B u 31 [.int .i64 c,.string s] (t.dc s):=fun ⟨_,h,S⟩=>(S.dc (by rw[Pl.aA3 h];decide) s hs) _ _
theorem Kd.ar (h:Kd N 116 c t):Ar N c t/\∃(c':Nat) (y:Pl.Nd),c=(c':Int)/\c'<N.len/\N.xs.getD c' Pl.Nd.zero=y/\(t.sf=true↔y.k=3\/y.k=4):=by
 obtain⟨k,h,S⟩:=h;obtain⟨c',y,e1,e2,e3,rfl,-⟩:=S.nd;exact⟨(S.ar (Pl.tN h)).1,c',y,e1,e2,e3,(S.ar (Pl.tN h)).2⟩
end
structure Nk (N:Ns) (lit:Pl.Nd->ByteArray) (i:Nat) (x:Pl.Nd) (ks:List Pl.Tx):Prop where
 hi:i<N.len
 hx:N.xs.getD i Pl.Nd.zero=x
 kl:ks.length=x.kids.length
 kf:(Pl.rG (Pl.dM.getD x.k.toNat [])).1.length<=x.kids.length/\x.kids.length<=(Pl.rG (Pl.dM.getD x.k.toNat [])).1.length+(Pl.rG (Pl.dM.getD x.k.toNat [])).2.2
 kd:∀j,j<x.kids.length->Kd N (if j<(Pl.rG (Pl.dM.getD x.k.toNat [])).1.length then (Pl.rG (Pl.dM.getD x.k.toNat [])).1.getD j 0 else (Pl.rG (Pl.dM.getD x.k.toNat [])).2.1) (x.kids.getD j 0) (ks.getD j Pl.Tx.no)
 sz:x.k≠34->x.s.size<=40
 s2:x.s.size<=200
 nn:x.n<=4294967295
section
variable {N:Ns}{lit:Pl.Nd->ByteArray}{i:Nat}{x:Pl.Nd}{ks:List Pl.Tx}{B:Nat}{u:World}{v:SV}
theorem Nk.len {n:Nat}(V:Nk N lit i x ks) (h:Pl.fx x.k=some n):x.kids.length=n:=by
 obtain⟨q1,q2⟩:=V.kf;unfold Pl.fx at h;split at h
 ·rename_i q;cases h;omega
 ·cases h
theorem Nk.kn {n:Nat}{L:List Int}(V:Nk N lit i x ks) (K:Kr B u v x.kids) (hn:Pl.fx x.k=some n\/x.kids.length=n) (h:Pl.lets x.k n=L) (h0:0<n):∃b9 o9,v.a=some ⟨b9,o9,none⟩/\b9<B/\v.len=n/\ks.length=n/\x.kids.length=n/\∀j,j<n->u.cell? ⟨b9,o9+j,none⟩=some (.int .i64 (x.kids.getD j 0))/\Kd N (L.getD j 0) (x.kids.getD j 0) (ks.getD j Pl.Tx.no):=by
 have hn:x.kids.length=n:=hn.elim V.len id;obtain⟨e1,e2,e3,e4⟩:=K;rcases e4 with e4|⟨b9,o9,ea,eb,ec⟩
 ·omega
 refine⟨b9,o9,ea,eb,e1.trans hn,V.kl.trans hn,hn,fun j hj=>⟨ec j (by omega),?_⟩⟩;have:=V.kd j (by omega);rw[<- h];unfold Pl.lets
 rwa [List.getD_eq_getElem?_getD,List.getElem?_map,List.getElem?_range hj]
theorem Nk.kj {l:Int}{j:Nat}(V:Nk N lit i x ks) (hj:j<x.kids.length) (h:(Pl.rG (Pl.dM.getD x.k.toNat [])).1.length<=j/\(Pl.rG (Pl.dM.getD x.k.toNat [])).2.1=l):Kd N l (x.kids.getD j 0) (ks.getD j Pl.Tx.no):=by
 have:=V.kd j hj
 rwa [if_neg (by omega),h.2]at this
theorem Nk.ka {l:Int}{m:Nat}{j:Nat}(V:Nk N lit i x ks) (hj:j<x.kids.length) (h:Pl.rG (Pl.dM.getD x.k.toNat [])=([l],l,m)):Kd N l (x.kids.getD j 0) (ks.getD j Pl.Tx.no):=by
 have:=V.kd j hj;rw[h]at this
 match j,this with
 | 0,q=>exact q
 | j+1,q=>exact q
theorem Nk.k0 (V:Nk N lit i x ks) (K:Kr B u v x.kids) (hn:Pl.fx x.k=some 0\/x.kids.length=0):ks=[]/\v.len=0:=by
 have hn:x.kids.length=0:=hn.elim V.len id;exact⟨List.eq_nil_of_length_eq_zero (V.kl.trans hn),K.1.trans hn⟩
theorem Nk.k1 {l:Int}(V:Nk N lit i x ks) (K:Kr B u v x.kids) (hn:Pl.fx x.k=some 1\/x.kids.length=1) (h:Pl.lets x.k 1=[l]):∃b9 o9 i0 t0,v.a=some ⟨b9,o9,none⟩/\b9<B/\v.len=1/\ks=[t0]/\u.cell? ⟨b9,o9,none⟩=some (.int .i64 i0)/\Kd N l i0 t0:=by
 obtain⟨b9,o9,ea,eb,el,hk,_,q⟩:=V.kn K hn h (by decide)
 match ks,hk with
 | [t0],_=>exact⟨b9,o9,_,t0,ea,eb,el,rfl,q 0 (by decide)⟩
theorem Nk.kc {l:Int}(V:Nk N lit i x ks) (K:Kr B u v x.kids) (h1:1<=(Pl.rG (Pl.dM.getD x.k.toNat [])).1.length) (h:Pl.lets x.k 1=[l]):∃b9 o9 i0 t0 kt,v.a=some ⟨b9,o9,none⟩/\b9<B/\1<=v.len/\ks=t0 :: kt/\u.cell? ⟨b9,o9,none⟩=some (.int .i64 i0)/\Kd N l i0 t0:=by
 obtain⟨e1,e2,e3,e4⟩:=K;have h2:=Nat.le_trans h1 V.kf.1;have h3:=V.kl;have h5:=V.kd 0 h2;have h6:(Pl.lets x.k 1).getD 0 0=l:=by rw[h];rfl
 rcases e4 with e4|⟨b9,o9,ea,eb,ec⟩
 ·omega
 match ks,h3 with
 | t0 :: kt,_=>exact⟨b9,o9,_,t0,kt,ea,eb,by omega,rfl,ec 0 (by omega),h6 ▸ h5⟩
 | [],h3=>exact absurd h3 (by simp;omega)
theorem Nk.k2 {l l':Int}(V:Nk N lit i x ks) (K:Kr B u v x.kids) (hn:Pl.fx x.k=some 2\/x.kids.length=2) (h:Pl.lets x.k 2=[l,l']):∃b9 o9 i0 i1 t0 t1,v.a=some ⟨b9,o9,none⟩/\b9<B/\v.len=2/\ks=[t0,t1]/\(u.cell? ⟨b9,o9,none⟩=some (.int .i64 i0)/\Kd N l i0 t0)/\u.cell? ⟨b9,o9+1,none⟩=some (.int .i64 i1)/\Kd N l' i1 t1:=by
 obtain⟨b9,o9,ea,eb,el,hk,_,q⟩:=V.kn K hn h (by decide)
 match ks,hk with
 | [t0,t1],_=>exact⟨b9,o9,_,_,t0,t1,ea,eb,el,rfl,q 0 (by decide),q 1 (by decide)⟩
theorem Nk.k3 {l l' l2:Int}(V:Nk N lit i x ks) (K:Kr B u v x.kids) (hn:Pl.fx x.k=some 3\/x.kids.length=3) (h:Pl.lets x.k 3=[l,l',l2]):∃b9 o9 i0 i1 i2 t0 t1 t2,v.a=some ⟨b9,o9,none⟩/\b9<B/\v.len=3/\ks=[t0,t1,t2]/\(u.cell? ⟨b9,o9,none⟩=some (.int .i64 i0)/\Kd N l i0 t0)/\(u.cell? ⟨b9,o9+1,none⟩=some (.int .i64 i1)/\Kd N l' i1 t1)/\u.cell? ⟨b9,o9+2,none⟩=some (.int .i64 i2)/\Kd N l2 i2 t2:=by
 obtain⟨b9,o9,ea,eb,el,hk,_,q⟩:=V.kn K hn h (by decide)
 match ks,hk with
 | [t0,t1,t2],_=>exact⟨b9,o9,_,_,_,t0,t1,t2,ea,eb,el,rfl,q 0 (by decide),q 1 (by decide),q 2 (by decide)⟩
end
end W
set_option maxRecDepth 4000
namespace W
open Go.RowKit
section
variable {N:Ns}{B:Nat}{u:World}{c d:Int}{t t':Pl.Tx}
theorem qH (a b:ByteArray):Wu N B u 29 [.string a,.string b] (Pl.say a++Pl.say b):=by
 intro g ts u h na _ hn;have S:=Sg.begin h na hn rfl;clear h na hn;go_in;go_wp2_with ((with_reducible show Calls _ _ _ _ _);((with_reducible refine S.call.mono ?_);clear S;rintro e z ⟨rfl,S,-⟩))
 go_end0;exact⟨rfl,S.fin⟩
theorem aEk {T:List UInt8}(X:Wx N 56 [.int .i64 c] T):Wu N B u 59 [.int .i64 c] (Pl.brk T):=by
 intro g ts u h na _ hn;have S:=Sg.begin h na hn (show _=Pl.say ⟨#[40]⟩++(T++Pl.say ⟨#[41]⟩) from List.append_assoc ..);clear h na hn;go_in;go_wp2_with ((with_reducible show Calls _ _ _ _ _);((with_reducible refine S.call.mono ?_);clear S;rintro e z ⟨rfl,S,-⟩))
 go_end0;exact⟨rfl,S.fin⟩
theorem XA (s:ByteArray) (K:Kd N 101 c t):Wu N B u 57 [.string s,.int .i64 c] (Pl.say s++Pl.brk t.pr):=by
 intro g ts u h na _ hn;have S:=Sg.begin h na hn (show _=Pl.say s++(Pl.say ⟨#[40]⟩++(t.pr++Pl.say ⟨#[41]⟩)) by unfold Pl.brk;rw[List.append_assoc]);clear h na hn;go_in;go_wp2_with ((with_reducible show Calls _ _ _ _ _);((with_reducible refine S.call.mono ?_);clear S;rintro e z ⟨rfl,S,-⟩))
 go_end0;exact⟨rfl,S.fin⟩
theorem uG (s:ByteArray) (K:Kd N 101 c t) (K':Kd N 101 d t'):Wu N B u 88 [.int .i64 c,.string s,.int .i64 d] (t.op++(Pl.say s++t'.op)):=by
 intro g ts u h na _ hn;have S:=Sg.begin h na hn rfl;clear h na hn;go_in;go_wp2_with ((with_reducible show Calls _ _ _ _ _);((with_reducible refine S.call.mono ?_);clear S;rintro e z ⟨rfl,S,-⟩))
 go_end0;exact⟨rfl,S.fin⟩
end
end W
set_option maxRecDepth 4000
namespace Pl
def Vf (l:List Tx) (k:Nat):List UInt8:=if k=0 then wG l else (l.drop k).flatMap fun u=>say ⟨#[44]⟩++u.ar
theorem drop_at {l:List Tx}{k:Nat}(h:k<l.length):l.drop k=l.getD k Tx.no :: l.drop (k+1):=by
 rw[List.drop_eq_getElem_cons h,List.getD_eq_getElem?_getD,List.getElem?_eq_getElem h];rfl
theorem XB {l:List Tx}{k:Nat}(h:k<l.length):Vf l k=if k=0 then (l.getD k Tx.no).ar++Vf l (k+1) else say ⟨#[44]⟩++((l.getD k Tx.no).ar++Vf l (k+1)):=by
 unfold Vf;rw[if_neg (Nat.succ_ne_zero k)];split
 ·rename_i q;subst q
  match l,h with
  | t :: l,_=>rfl
 ·rw[drop_at h,List.flatMap_cons,List.append_assoc]
theorem XC {l:List Tx}{k:Nat}(h:l.length<=k):Vf l k=[]:=by
 unfold Vf;split
 ·rw[List.eq_nil_of_length_eq_zero (l:=l) (by omega)];rfl
 ·rw[List.drop_eq_nil_of_le h];rfl
theorem aCb {k:Int}(h:aH k=8):33<=k/\k<=49:=by unfold aH at h;(repeat' split at h) <;> omega
theorem aFJ {k:Int}(h:aH k=4):k=9:=by unfold aH at h;(repeat' split at h) <;> omega
theorem aFK {k:Int}(h:aH k=6):k=16:=by unfold aH at h;(repeat' split at h) <;> omega
theorem aBa (lit:Nd->ByteArray){x:Nd}(ks:List Tx) (h:33<=x.k/\x.k<=49):(aR lit x ks).rk=if x.k<=40 then 0 else if x.k<=47 then 1 else 2:=by
 have q:x.k=33\/x.k=34\/x.k=35\/x.k=36\/x.k=37\/x.k=38\/x.k=39\/x.k=40\/x.k=41\/x.k=42\/x.k=43\/x.k=44\/x.k=45\/x.k=46\/x.k=47\/x.k=48\/x.k=49:=by omega
 rcases q with q|q|q|q|q|q|q|q|q|q|q|q|q|q|q|q|q;all_goals simp only[aR,q];rfl
end Pl
namespace W
open Go.RowKit
variable {N:Ns}{lit:Pl.Nd->ByteArray}{i:Nat}{x:Pl.Nd}{ks:List Pl.Tx}{B:Nat}{u:World}{v:SV}
theorem XD {kids:List Int}(K:Kr B u v kids) (l:List Pl.Tx) (hl:l.length=kids.length) (X:∀j,j<kids.length->Wx N 34 [.int .i64 (kids.getD j 0)] (l.getD j Pl.Tx.no).ar):Wu N B u 32 [.slice v.a v.len v.cap] (Pl.wG l):=by
 intro g ts z h na d hn;obtain⟨k1,k2,k3,k4⟩:=K.on d.b;have S:=Sg.begin h na hn rfl;generalize ts++Pl.wG l=W at S ⊢;clear h na hn d K;have hm:(v.len:Int)<=9223372036854775807:=by unfold maxLen at k3;omega
 have HL:Hid (v.len=kids.length/\l.length=kids.length):=⟨k1,hl⟩;clear k1 hl k3;go_in;go_wp2_with fail
 go_loopw [4] (fun i wr=>∃k:Nat,i=.int .i64 (k:Int)/\k<=v.len/\Sg N B g z W (Pl.Vf l k) wr) (fun i _=>v.len-(intOf i).toNat)
 case atStart=>exact⟨0,rfl,Nat.zero_le _,S⟩
 case round=>
  clear S;obtain⟨k,rfl,hk,S⟩:=hrel;have F:=S.ce;by_cases hlt:k<v.len
  ·have hi:(k:Int)<(v.len:Int):=(by omega);rcases k4 with k4|⟨b9,o9,ea,eb,ec⟩
   ·omega
   have q:=ec k hlt;have X1:=X k (by have:=HL.o;omega) B z;rw[Pl.XB (by have:=HL.o;omega)]at S;generalize kids.getD k 0=c at q X1;rw[ea];clear ec X ea;rcases Nat.eq_zero_or_pos k with rfl|hz
   ·rw[if_pos rfl]at S;have q0:z.cell? ⟨b9,o9,none⟩=some (.int .i64 c):=q;clear q;go_wp2_with ((with_reducible show Calls _ _ _ _ _);((with_reducible refine S.call.mono ?_);clear S F;rintro e z ⟨rfl,S,-⟩;have F:=S.ce))
    go_roundw
    case rel=>exact⟨1,rfl,by omega,S⟩
    case measure=>simp[intOf];omega
   ·rw[if_neg (by omega)]at S;have hk0:(0:Int)<(k:Int):=(by omega);go_wp2_with ((with_reducible show Calls _ _ _ _ _);((with_reducible refine S.call.mono ?_);clear S F;rintro e z ⟨rfl,S,-⟩;have F:=S.ce))
    go_roundw
    case rel=>exact⟨k+1,by go_num,by omega,S⟩
    case measure=>simp[intOf];omega
  ·have hi:¬(k:Int)<(v.len:Int):=(by omega);rw[Pl.XC (by have:=HL.o;omega)]at S;go_wp2;go_end0;exact⟨rfl,S.fin⟩
theorem Dy (V:Nk N lit i x ks) (hs:Pl.aH x.k=8) (X:Wx N 56 [.int .i64 (i:Int)] (Pl.aR lit x ks).pr):Wx N 87 [.int .i64 (i:Int)] (Pl.aR lit x ks).op:=by
 intro B _ g ts u h na _ hn;obtain⟨b,off,v,ea,hb,c,K,hi⟩:=na.node V.hi V.hx;have X1:=X B u;have X2:=aEk (B:=B) (u:=u) X;have hs:=Pl.aCb hs;have S:=Sg.begin h na hn (show _=if x.k<=40 then (Pl.aR lit x ks).pr else Pl.brk (Pl.aR lit x ks).pr by unfold Pl.Tx.op;rw[Pl.aBa lit ks hs];(repeat' split) <;> first|rfl|omega);generalize ts++(Pl.aR lit x ks).op=W at S ⊢;generalize (Pl.aR lit x ks).pr=T at S X1 X2;have F:=S.ce;have q1:=hs.1;clear h na hn X hs;go_in;by_cases q:x.k<=40
 all_goals
  simp only[q,if_true,if_false]at S;go_wp2_with ((with_reducible show Calls _ _ _ _ _);((with_reducible refine S.call.mono ?_);clear S F;rintro e z ⟨rfl,S,-⟩;have F:=S.ce))
  go_end0;exact⟨rfl,S.fin⟩
theorem aCc (V:Nk N lit i x ks) (hs:Pl.aH x.k=4\/Pl.aH x.k=6\/Pl.aH x.k=8) (X:Pl.aH x.k=8->Wx N 56 [.int .i64 (i:Int)] (Pl.aR lit x ks).pr):Wx N 34 [.int .i64 (i:Int)] (Pl.aR lit x ks).ar:=by
 intro B _ g ts u h na _ hn;obtain⟨T,hT⟩:∃T,T=(Pl.aR lit x ks).ar:=⟨_,rfl⟩;rw[<- hT]at hn ⊢;obtain⟨b,off,v,ea,hb,c,K,hi⟩:=na.node V.hi V.hx;have w0:=(Sg.begin h na hn rfl).cell;have HC:Hid (T=(Pl.aR lit x ks).ar):=hT;clear hT;go_in;go_upto_region 1 with fail
 refine aG fun y hy=>?_;have S0:=fun r e=>Sb.begin (r:=r) _ h na hn hy e;generalize u.heap.size=n0 at S0 ⊢;clear hy w0 c h na hn;have hk:(x.k=9/\x.kids.length=0)\/(x.k=9/\x.kids.length=1)\/x.k=16\/x.k=48\/(¬x.k=48/\x.k=49)\/33<=x.k/\x.k<=47:=by
  rcases hs with hs|hs|hs
  ·have h9:=Pl.aFJ hs;have:=V.kf.2;rw[h9]at this;have:x.kids.length<=1:=this;omega
  ·have:=Pl.aFK hs;omega
  ·have:=Pl.aCb hs;omega
 have hT:=HC.o;clear HC hs;rcases hk with ⟨hk,hl⟩|⟨hk,hl⟩|hk|hk|hk|hk
 ·obtain⟨rfl,el⟩:=V.k0 K (.inr hl);have S:=S0 _ (hT.trans (show _=Pl.say x.s by simp[Pl.aR,hk,Pl.nD,Pl.Tx.ar,Pl.FZ]));clear hT S0 X;have F:=S.f;go_wp2_with ((with_reducible show Calls _ _ _ _ _);((with_reducible refine S.call.mono ?_);clear S F;rintro e z ⟨rfl,S⟩;have F:=S.f))
  go_end0;exact⟨rfl,S.s.fin⟩
 ·obtain⟨b9,o9,i0,t0,e9,l9,el,rfl,q0,K0⟩:=V.k1 K (.inr hl) (show _=[101] by rw[hk];rfl);have S:=S0 _ (hT.trans (show _=Pl.say x.s++(Pl.say ⟨#[61]⟩++t0.ar) by simp[Pl.aR,hk,Pl.nD,Pl.Tx.ar,Pl.FZ]));clear hT S0 X;have F:=S.f;go_wp2_with ((with_reducible show Calls _ _ _ _ _);((with_reducible refine S.call.mono ?_);clear S F;rintro e z ⟨rfl,S⟩;have F:=S.f))
  go_end0;exact⟨rfl,S.s.fin⟩
 ·have L:=XD K ks V.kl (fun j hj=>by obtain⟨k,h,S⟩:=V.ka (l:=73) (m:=4000) hj (by rw[hk];rfl);exact S.it (.inr (Pl.aDQ h)));have S:=S0 _ (hT.trans (show _=Pl.say ⟨#[123]⟩++(Pl.wG ks++Pl.say ⟨#[125]⟩) by simp[Pl.aR,hk,Pl.nD,Pl.Tx.ar]));clear hT S0 X;have F:=S.f;go_wp2_with ((with_reducible show Calls _ _ _ _ _);((with_reducible refine S.call.mono ?_);clear S F;rintro e z ⟨rfl,S⟩;have F:=S.f))
  go_end0;exact⟨rfl,S.s.fin⟩
 all_goals
  have X1:=X (by unfold Pl.aH;(repeat' split) <;> omega) B u;have X2:=aEk (B:=B) (u:=u) (X (by unfold Pl.aH;(repeat' split) <;> omega));have e:=Pl.aBa lit ks (by omega:33<=x.k/\x.k<=49);unfold Pl.Tx.ar at hT;rw[e]at hT;clear e X
 rotate_right 1
 ·rw[if_neg (by (repeat' split) <;> omega)]at hT;have S:=S0 _ hT;clear hT S0;generalize (Pl.aR lit x ks).pr=T' at S X1 X2;have k1:¬x.k=16:=by omega
  have k2:¬x.k=9:=by omega
  have k3:(x.k == 48)=false:=beq_eq_false_iff_ne.2 (by omega);have k4:(x.k == 49)=false:=beq_eq_false_iff_ne.2 (by omega);clear hk;have F:=S.f;go_wp2_with ((with_reducible show Calls _ _ _ _ _);((with_reducible refine S.call.mono ?_);clear S F;rintro e z ⟨rfl,S⟩;have F:=S.f))
  go_end0;exact⟨rfl,S.s.fin⟩
 all_goals
  rw[if_pos (by (repeat' split) <;> omega)]at hT;have S:=S0 _ hT;clear hT S0;generalize (Pl.aR lit x ks).pr=T' at S X1 X2;have F:=S.f;go_wp2_with ((with_reducible show Calls _ _ _ _ _);((with_reducible refine S.call.mono ?_);clear S F;rintro e z ⟨rfl,S⟩;have F:=S.f))
  go_end0;exact⟨rfl,S.s.fin⟩
section
variable {P:Program}{ops:Array Oper}{Q:Exit->Act->World->Prop}{md:Region.Mode}{S:World->Prop}
def Tks (P:Program) (md:Region.Mode) (ops:Array Oper) (Q:Exit->Act->World->Prop) (S:World->Prop) (w:World):List Nat->Nat->Array Bool->Act->Prop
 | [],n,L,a=>wpAnyH P md ops Q S n L a w
 | i :: is,n,L,a=>∃o v m,ops[i]?=some o/\n=m+1/\(Region.noSelect ops && Region.free md ops L i && (Region.ready md ops L).contains i)=true/\Region.wanted o (yielded ops a.tmps)=true/\(∀c a w,Q (.panic c) (a.put o.dst v) w->Q (.panic c) a w)/\(∀w,S w->(execOp a.eval o).run P w=.ok (.value v) w)/\Tks P md ops Q S w is m (L.setIfInBounds i true) (a.put o.dst v)
theorem Vg:∀(is:List Nat){n:Nat}{L:Array Bool}{a:Act}{w:World}(_:S w) (_:Tks P md ops Q S w is n L a),wpAnyH P md ops Q S n L a w
 | [],_,_,_,_,_,h=>h
 | i :: is,_,_,_,_,hS,⟨_,_,_,hi,hn,hb,hw,hQ,hy,h⟩=>by
  subst hn;simp only[Bool.and_eq_true]at hb;exact wpAnyH_take hi hb.1.1 hb.1.2 hb.2 hQ (.inl ⟨hw,hy⟩) hS (Vg is hS h)
theorem one (i:Nat){o:Oper}{fuel:Nat}{L:Array Bool}{a:Act}{w:World}(hr:Region.ready md ops L=[i]) (hi:ops[i]?=some o) (h:∀K':Act->World->Prop,Shut (∀a w,S w->(S w->wpAnyH P md ops Q S fuel (L.setIfInBounds i true) a w)->K' a w)->if Region.wanted o (yielded ops a.tmps)=true then Oper.wp P o a w K' Q else K' (a.put o.dst undef) w):wpAnyH P md ops Q S (fuel+1) L a w:=
 wpAnyH_ready hr (by simp) (AllReadyH.cons hi h AllReadyH.nil)
def Ons (P:Program) (md:Region.Mode) (ops:Array Oper) (Q:Exit->Act->World->Prop) (S:World->Prop) (w:World):List Nat->Nat->Array Bool->Act->Prop
 | [],n,L,a=>wpAnyH P md ops Q S n L a w
 | i :: is,n,L,a=>∃o v m,ops[i]?=some o/\n=m+1/\Region.ready md ops L=[i]/\Region.wanted o (yielded ops a.tmps)=true/\(execOp a.eval o).run P w=.ok (.value v) w/\Ons P md ops Q S w is m (L.setIfInBounds i true) (a.put o.dst v)
theorem Ei:∀(is:List Nat){n:Nat}{L:Array Bool}{a:Act}{w:World}(_:S w) (_:Ons P md ops Q S w is n L a),wpAnyH P md ops Q S n L a w
 | [],_,_,_,_,_,h=>h
 | i :: is,_,_,_,_,hS,⟨_,_,_,hi,hn,hr,hw,hy,h⟩=>by
  subst hn;refine one i hr hi fun K hK=>?_;rw[if_pos hw];unfold Oper.wp;rw[hy];exact hK.out _ _ hS fun hS=>Ei is hS h
end
end W
set_option maxRecDepth 4000
namespace Pl
theorem Bl {ks:List Tx}{k:Nat}(h:k<ks.length):wF (ks.drop k)=(ks.getD k Tx.no).pr++wF (ks.drop (k+1)):=by rw[drop_at h];rfl
end Pl
namespace W
open Go.RowKit
variable {N:Ns}{lit:Pl.Nd->ByteArray}{i:Nat}{x:Pl.Nd}{ks:List Pl.Tx}{B:Nat}{u:World}{v:SV}
theorem Nl (V:Nk N lit i x ks) (hk:x.k=17):Wx N 33 [.int .i64 (i:Int)] (Pl.aR lit x ks).pr:=by
 have HK:Hid (x.k=17):=hk;clear hk;intro B _ g ts u h na _ hn;obtain⟨T,hT⟩:∃T,T=(Pl.aR lit x ks).pr:=⟨_,rfl⟩;rw[<- hT]at hn ⊢;obtain⟨b,off,v,ea,hb,c,K,hi⟩:=na.node V.hi V.hx;have w0:=(Sg.begin h na hn rfl).cell;have HC:Hid (T=(Pl.aR lit x ks).pr):=hT;clear hT;go_in;go_upto_region 1 with fail
 refine aG fun y hy=>?_;have S0:=fun r e=>Sb.begin (r:=r) _ h na hn hy e;generalize u.heap.size=n0 at S0 ⊢;clear hy w0 c h na hn;have hk:=HK.o;have hT:=HC.o;have KD:∀j,j<x.kids.length->Wu N B u 33 [.int .i64 (x.kids.getD j 0)] (ks.getD j Pl.Tx.no).pr:=fun j hj=>by
  obtain⟨k,h,S⟩:=V.kj (l:=83) hj (by rw[hk];exact⟨Nat.zero_le _,rfl⟩);exact (S.st (Pl.aDO h)).u
 simp[Pl.aR,hk,Pl.nD]at hT;have S:=S0 _ hT;have F:=S.f;have hm:(v.len:Int)<=9223372036854775807:=by have:=K.2.2.1;unfold maxLen at this;have:=K.2.1;omega
 have HL:Hid (v.len=x.kids.length/\ks.length=x.kids.length):=⟨K.1,V.kl⟩;obtain⟨-,-,-,k4⟩:=K;clear hT S0 HC V;go_wp2_with ((with_reducible show Calls _ _ _ _ _);((with_reducible refine S.call.mono ?_);clear S F;rintro e z ⟨rfl,S⟩;have F:=S.f))
 go_loopw [5] (fun i wr=>∃k:Nat,i=.int .i64 (k:Int)/\k<=v.len/\Sb N B g n0 #[.int .i64 x.k,.int .i64 x.m,.int .i64 x.n,.string x.s,.slice v.a v.len v.cap,.int .i64 x.line,.int .i64 x.aQ] u (ts++T) (Pl.wF (ks.drop k)++Pl.say ⟨#[125]⟩) wr) (fun i _=>v.len-(intOf i).toNat)
 case atStart=>exact⟨0,rfl,Nat.zero_le _,S⟩
 case round=>
  clear S F;obtain⟨k,rfl,hkk,S⟩:=hrel;have F:=S.f;by_cases hlt:k<v.len
  ·have hi9:(k:Int)<(v.len:Int):=(by omega);rcases k4 with k4|⟨b9,o9,Bn,eb,ec⟩
   ·omega
   have q:=ec k hlt;have X:=KD k (by have:=HL.o;omega);rw[Pl.Bl (by have:=HL.o;omega),List.append_assoc]at S;generalize x.kids.getD k 0=c at q X;rw[Bn]at S ⊢;clear ec KD F Bn;have F:=S.f;go_wp2_with ((with_reducible show Calls _ _ _ _ _);((with_reducible refine S.call.mono ?_);clear S F;rintro e z ⟨rfl,S⟩;have F:=S.f))
   go_roundw
   case rel=>exact⟨k+1,by go_num,by omega,S⟩
   case measure=>simp[intOf];omega
  ·have hi9:¬(k:Int)<(v.len:Int):=(by omega);rw[List.drop_eq_nil_of_le (by have:=HL.o;omega)]at S;replace S:Sb N B g n0 #[.int .i64 x.k,.int .i64 x.m,.int .i64 x.n,.string x.s,.slice v.a v.len v.cap,.int .i64 x.line,.int .i64 x.aQ] u (ts++T) (Pl.say ⟨#[125]⟩) wr:=S;go_wp2_with ((with_reducible show Calls _ _ _ _ _);((with_reducible refine S.call.mono ?_);clear S F;rintro e z ⟨rfl,S⟩;have F:=S.f))
   go_end0;exact⟨rfl,S.s.fin⟩
theorem Nn (V:Nk N lit i x ks) (hk:x.k=24):Wx N 33 [.int .i64 (i:Int)] (Pl.aR lit x ks).pr:=by
 have HK:Hid (x.k=24):=hk;clear hk;intro B _ g ts u h na _ hn;obtain⟨T,hT⟩:∃T,T=(Pl.aR lit x ks).pr:=⟨_,rfl⟩;rw[<- hT]at hn ⊢;obtain⟨b,off,v,ea,hb,c,K,hi⟩:=na.node V.hi V.hx;have w0:=(Sg.begin h na hn rfl).cell;have HC:Hid (T=(Pl.aR lit x ks).pr):=hT;clear hT;go_in;go_upto_region 1 with fail
 refine aG fun y hy=>?_;have S0:=fun r e=>Sb.begin (r:=r) _ h na hn hy e;generalize u.heap.size=n0 at S0 ⊢;clear hy w0 c h hn;have hk:=HK.o;have hT:=HC.o;obtain⟨b9,o9,e9,l9,el,q5,q6,q7⟩:=V.kn (n:=4) (L:=[118,120,120,115]) K (.inl (by rw[hk];rfl)) (by rw[hk];rfl) (by decide);obtain⟨t0,t1,t2,t3,rfl⟩:∃t0 t1 t2 t3,ks=[t0,t1,t2,t3]:=by
  match ks,q5 with
  | [t0,t1,t2,t3],_=>exact⟨t0,t1,t2,t3,rfl⟩
 obtain⟨q0,K0⟩:=q7 0 (by decide);obtain⟨q1,K1⟩:=q7 1 (by decide);obtain⟨q2,k,hf,S2⟩:=q7 2 (by decide);obtain⟨q3,K3⟩:=q7 3 (by decide);have K0:Kd N 118 (x.kids.getD 0 0) t0:=K0;have K1:Kd N 120 (x.kids.getD 1 0) t1:=K1;have K3:Kd N 115 (x.kids.getD 3 0) t3:=K3;replace q0:u.cell? ⟨b9,o9,none⟩=some (.int .i64 (x.kids.getD 0 0)):=q0;obtain⟨c,y2,ec,hc,hy2,hyk,h20,h19,-⟩:=S2.nd;replace h20:k=20->t2.th=[]:=h20;replace h19:k=19->_/\Wx N 56 [.int .i64 (y2.kids.getD 0 0)] t2.th:=h19;obtain⟨b2,aCd,v2,Vh,hb2,c2,K2,hc2⟩:=na.node hc hy2;rw[ea]at Vh;cases Vh;rw[ec]at q2;have hf:=Pl.Kv hf;have hl2:=K2.1;obtain⟨-,-,-,k4⟩:=K2;generalize x.kids.getD 0 0=i0 at *;generalize x.kids.getD 1 0=i1 at *;generalize x.kids.getD 3 0=i3 at *;clear HC q7 q5 q6 na S2 ec hy2 V;rcases hf with rfl|rfl
 ·obtain⟨h1,X⟩:=h19 rfl;simp[Pl.aR,hk,Pl.nD]at hT;have S:=S0 _ hT;have F:=S.f;rcases k4 with k4|⟨b7,o7,ea7,eb7,ec7⟩
  ·omega
  have q7:=ec7 0 (by omega);replace q7:u.cell? ⟨b7,o7,none⟩=some (.int .i64 (y2.kids.getD 0 0)):=q7;have l7:(0:Int)<(v2.len:Int):=by omega
  have l8:0<v2.len:=by omega
  generalize y2.kids.getD 0 0=ig at *;clear hT S0 h20 h19 hl2 h1 ec7;go_wp2_with ((with_reducible show Calls _ _ _ _ _);((with_reducible refine S.call.mono ?_);clear S F;rintro e z ⟨rfl,S⟩;have F:=S.f))
  go_region_held3 (fun w=>Ce N B g n0 #[.int .i64 x.k,.int .i64 x.m,.int .i64 x.n,.string x.s,.slice v.a v.len v.cap,.int .i64 x.line,.int .i64 x.aQ] u w) (first|exact F.1|exact Ce.on F.1|exact Ce.on ‹_›) (((with_reducible show Calls _ _ _ _ _);((with_reducible refine S.call.mono ?_);clear S F;rintro e z ⟨rfl,S⟩;have F:=S.f)))
  go_wp2_with ((with_reducible show Calls _ _ _ _ _);((with_reducible refine S.call.mono ?_);clear S F;rintro e z ⟨rfl,S⟩;have F:=S.f))
  go_region_held3 (fun w=>Ce N B g n0 #[.int .i64 x.k,.int .i64 x.m,.int .i64 x.n,.string x.s,.slice v.a v.len v.cap,.int .i64 x.line,.int .i64 x.aQ] u w) (first|exact F.1|exact Ce.on F.1|exact Ce.on ‹_›) (((with_reducible show Calls _ _ _ _ _);((with_reducible refine S.call.mono ?_);clear S F;rintro e z ⟨rfl,S⟩;have F:=S.f)))
  go_wp2_with ((with_reducible show Calls _ _ _ _ _);((with_reducible refine S.call.mono ?_);clear S F;rintro e z ⟨rfl,S⟩;have F:=S.f))
  go_end0;exact⟨rfl,S.s.fin⟩
 ·have h9:=h20 rfl;simp[Pl.aR,hk,Pl.nD,h9]at hT;have S:=S0 _ hT;have F:=S.f;clear hT S0 h20 h19 h9;go_wp2_with ((with_reducible show Calls _ _ _ _ _);((with_reducible refine S.call.mono ?_);clear S F;rintro e z ⟨rfl,S⟩;have F:=S.f))
  go_region_held3 (fun w=>Ce N B g n0 #[.int .i64 x.k,.int .i64 x.m,.int .i64 x.n,.string x.s,.slice v.a v.len v.cap,.int .i64 x.line,.int .i64 x.aQ] u w) (first|exact F.1|exact Ce.on F.1|exact Ce.on ‹_›) (((with_reducible show Calls _ _ _ _ _);((with_reducible refine S.call.mono ?_);clear S F;rintro e z ⟨rfl,S⟩;have F:=S.f)))
  go_wp2_with ((with_reducible show Calls _ _ _ _ _);((with_reducible refine S.call.mono ?_);clear S F;rintro e z ⟨rfl,S⟩;have F:=S.f))
  go_end0;exact⟨rfl,S.s.fin⟩
end W
end Go.Proofs.YtjcdiegfnoaedaaGreatDoor
