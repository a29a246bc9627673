import Derived.Test.YtjcdiegfnoaedaaGreatDoorZ02
set_option linter.unusedVariables false
set_option linter.unusedSimpArgs false
set_option maxHeartbeats 16000000
namespace Go.Proofs.YtjcdiegfnoaedaaGreatDoor
namespace W
open Go.RowKit
theorem Row.set {k:IntKind}{lo:Nat}{w:World}{a:Option Addr}{len cap:Nat}{zs:List Int}(h:Row k lo w a len cap zs){g:Nat}(hg:g<lo) (j:Nat) (x:Value):Row k lo (w.setCell ⟨g,j,none⟩ x) a len cap zs:=by
 obtain⟨h1,h2,h3,h4,h5⟩:=h;refine⟨h1,h2,h3,h4,?_⟩;rcases h5 with h5|⟨b,off,ha,hlo,hlt,hc⟩
 ·exact .inl h5
 ·refine .inr ⟨b,off,ha,hlo,by simpa using hlt,fun i hi=>?_⟩;rw[World.cell?_setCell_other _ _ _ _ (by intro e;injection e with e1 _;omega)];exact hc i hi
theorem mD {g p q:Nat}(h:p≠q):(⟨g,p,none⟩:Addr)≠⟨g,q,none⟩:=fun e=>h (by injection e)
theorem aU {u:World}{p q:Addr}{v:Value}(h:(u.cell? q).isSome=true):((u.setCell p v).cell? q).isSome=true:=by
 obtain⟨x,hx⟩:=Option.isSome_iff_exists.1 h;obtain⟨y,hy⟩:=cell?_setCell_some (p:=p) (x:=v) hx;rw[hy];rfl
def yL (u:World) (g o:Nat) (x:Pl.Nd) (v:SV):World:=((((((u.setCell ⟨g,o,none⟩ (.int .i64 x.k)).setCell ⟨g,o+1,none⟩ (.int .i64 x.m)).setCell ⟨g,o+2,none⟩ (.int .i64 x.n)).setCell ⟨g,o+3,none⟩ (.string x.s)).setCell ⟨g,o+4,none⟩ (.slice v.a v.len v.cap)).setCell ⟨g,o+5,none⟩ (.int .i64 x.line)).setCell ⟨g,o+6,none⟩ (.int .i64 x.aQ)
theorem UR {u:World}{g o q:Nat}(x:Pl.Nd) (v:SV) (h:q<o\/o+7<=q):(yL u g o x v).cell? ⟨g,q,none⟩=u.cell? ⟨g,q,none⟩:=by
 unfold yL;rw[World.cell?_setCell_other _ _ _ _ (mD (by omega)),World.cell?_setCell_other _ _ _ _ (mD (by omega)),World.cell?_setCell_other _ _ _ _ (mD (by omega)),World.cell?_setCell_other _ _ _ _ (mD (by omega)),World.cell?_setCell_other _ _ _ _ (mD (by omega)),World.cell?_setCell_other _ _ _ _ (mD (by omega)),World.cell?_setCell_other _ _ _ _ (mD (by omega))]
theorem Cm {u:World}{g o:Nat}(x:Pl.Nd) (v:SV) (h:∀j,j<7->(u.cell? ⟨g,o+j,none⟩).isSome=true) (j:Nat) (hj:j<7):(yL u g o x v).cell? ⟨g,o+j,none⟩=(x.cells v)[j]?:=by
 have t:=h j hj;unfold yL;rcases (show j=0\/j=1\/j=2\/j=3\/j=4\/j=5\/j=6 by omega) with rfl|rfl|rfl|rfl|rfl|rfl|rfl
 ·change World.cell? _ ⟨g,o,none⟩=_;rw[World.cell?_setCell_other _ _ _ _ (mD (by omega)),World.cell?_setCell_other _ _ _ _ (mD (by omega)),World.cell?_setCell_other _ _ _ _ (mD (by omega)),World.cell?_setCell_other _ _ _ _ (mD (by omega)),World.cell?_setCell_other _ _ _ _ (mD (by omega)),World.cell?_setCell_other _ _ _ _ (mD (by omega))];rw[World.cell?_setCell_same' _ _ _ (show (u.cell? ⟨g,o,none⟩).isSome=true from t)];rfl
 ·rw[World.cell?_setCell_other _ _ _ _ (mD (by omega)),World.cell?_setCell_other _ _ _ _ (mD (by omega)),World.cell?_setCell_other _ _ _ _ (mD (by omega)),World.cell?_setCell_other _ _ _ _ (mD (by omega)),World.cell?_setCell_other _ _ _ _ (mD (by omega))];rw[World.cell?_setCell_same' _ _ _ (aU t)];rfl
 ·rw[World.cell?_setCell_other _ _ _ _ (mD (by omega)),World.cell?_setCell_other _ _ _ _ (mD (by omega)),World.cell?_setCell_other _ _ _ _ (mD (by omega)),World.cell?_setCell_other _ _ _ _ (mD (by omega))];rw[World.cell?_setCell_same' _ _ _ (aU (aU t))];rfl
 ·rw[World.cell?_setCell_other _ _ _ _ (mD (by omega)),World.cell?_setCell_other _ _ _ _ (mD (by omega)),World.cell?_setCell_other _ _ _ _ (mD (by omega))];rw[World.cell?_setCell_same' _ _ _ (aU (aU (aU t)))];rfl
 ·rw[World.cell?_setCell_other _ _ _ _ (mD (by omega)),World.cell?_setCell_other _ _ _ _ (mD (by omega))];rw[World.cell?_setCell_same' _ _ _ (aU (aU (aU (aU t))))];rfl
 ·rw[World.cell?_setCell_other _ _ _ _ (mD (by omega))];rw[World.cell?_setCell_same' _ _ _ (aU (aU (aU (aU (aU t)))))];rfl
 ·rw[World.cell?_setCell_same' _ _ _ (aU (aU (aU (aU (aU (aU t))))))];rfl
theorem ZL {w u:World}{B g:Nat}(h:Below B w u) (hg:B<=g) (o:Nat) (x:Pl.Nd) (v:SV):Below B w (yL u g o x v):=by
 unfold yL;exact ((((((h.setCell (p:=⟨g,o,none⟩) hg _).setCell (p:=⟨g,o+1,none⟩) hg _).setCell (p:=⟨g,o+2,none⟩) hg _).setCell (p:=⟨g,o+3,none⟩) hg _).setCell (p:=⟨g,o+4,none⟩) hg _).setCell (p:=⟨g,o+5,none⟩) hg _).setCell (p:=⟨g,o+6,none⟩) hg _
theorem UT {k:IntKind}{lo:Nat}{w:World}{a:Option Addr}{len cap:Nat}{zs:List Int}(h:Row k lo w a len cap zs){g:Nat}(hg:g<lo) (o:Nat) (x:Pl.Nd) (v:SV):Row k lo (yL w g o x v) a len cap zs:=by
 unfold yL;exact ((((((h.set hg _ _).set hg _ _).set hg _ _).set hg _ _).set hg _ _).set hg _ _).set hg _ _
theorem vN {u:World}{g:Nat}{cs cs':Array Value}{t:TypeId}(q:u.heap[g]?=some (.cells cs t)) (j:Nat) (x:Value) (e:cs.setIfInBounds j x=cs'):(u.setCell ⟨g,j,none⟩ x).heap[g]?=some (.cells cs' t):=by
 rw[<- e];exact heap_setCell_same u g j cs t x q
theorem KO {P:Program}{f:Nat}{args:Array Value}{W:World}{Q:Ending->World->Prop}(h:∀U,U=W->Calls P f args U Q):Calls P f args W Q:=h W rfl
theorem ZM {lo:Nat}(x:Pl.Nd) (v:SV) (w:World) (h:Row .i64 lo w v.a v.len v.cap x.kids) (hl:v.len<=1048576) :
  Calls Tryz.prog 35 #[.agg #[.int .i64 x.k,.int .i64 x.m,.int .i64 x.n,.string x.s,.slice v.a v.len v.cap,.int .i64 x.line,.int .i64 x.aQ]] w fun e w'=>∃v':SV,e=.returned (.agg #[.int .i64 x.k,.int .i64 x.m,.int .i64 x.n,.string x.s,.slice v'.a v'.len v'.cap,.int .i64 x.line,.int .i64 x.aQ])/\Own .i64 3 w.heap.size w' v'.a v'.len v'.cap x.kids/\Bw w w':=by
 have HR:Hid (Row .i64 lo w v.a v.len v.cap x.kids):=h;clear h;go_enter Tryz.func35,Tryz.ntmps35;go_wp2_with fail
 refine KO fun U1 Jy=>?_;have z1:U1.heap.size=w.heap.size+3:=by rw[Jy];simp
 have q0:U1.heap[w.heap.size]?=some (.cells #[.int .i64 x.k,.int .i64 x.m,.int .i64 x.n,.string x.s,.slice v.a v.len v.cap,.int .i64 x.line,.int .i64 x.aQ] 57):=by
  rw[Jy];rw[Below.heap_alloc _ _ _ (by simp;omega),Below.heap_alloc _ _ _ (by simp)];exact heap_alloc_new w _
 have q1:U1.heap[w.heap.size+1]?=some (.cells #[.int .i64 0,.int .i64 0,.int .i64 0,.string ⟨#[]⟩,.slice none 0 0,.int .i64 0,.int .i64 0] 45):=by
  rw[Jy];rw[Below.heap_alloc _ _ _ (by simp)];have:=heap_alloc_new (w.alloc (.cells #[.int .i64 x.k,.int .i64 x.m,.int .i64 x.n,.string x.s,.slice v.a v.len v.cap,.int .i64 x.line,.int .i64 x.aQ] 57)) (.cells #[.int .i64 0,.int .i64 0,.int .i64 0,.string ⟨#[]⟩,.slice none 0 0,.int .i64 0,.int .i64 0] 45);simpa using this
 have q2:U1.heap[w.heap.size+1+1]?=some (.cells #[.int .i64 x.k,.int .i64 x.m,.int .i64 x.n,.string x.s,.slice none 0 0,.int .i64 0,.int .i64 0] 45):=by
  rw[Jy];have:=heap_alloc_new ((w.alloc (.cells #[.int .i64 x.k,.int .i64 x.m,.int .i64 x.n,.string x.s,.slice v.a v.len v.cap,.int .i64 x.line,.int .i64 x.aQ] 57)).alloc (.cells #[.int .i64 0,.int .i64 0,.int .i64 0,.string ⟨#[]⟩,.slice none 0 0,.int .i64 0,.int .i64 0] 45)) (.cells #[.int .i64 x.k,.int .i64 x.m,.int .i64 x.n,.string x.s,.slice none 0 0,.int .i64 0,.int .i64 0] 45);simpa using this
 have b1:Bw w U1:=by
  rw[Jy]
  repeat (first|exact Below.refl _ _|refine Below.setCell ?_ (by simp;omega) _|refine Below.alloc ?_ (by simp <;> omega) _)
 clear Jy;refine (VR v.a v.len v.cap x.kids U1 (HR.o.keep b1) hl).mono ?_;rintro e u1 ⟨rfl,o1,d1⟩;have Q0:=(d1.block w.heap.size (by omega)).trans q0;have Q1:=(d1.block (w.heap.size+1) (by omega)).trans q1;have Q2:=(d1.block (w.heap.size+1+1) (by omega)).trans q2;have B1:Hid (Bw w u1):=b1.trans (d1.mono (by omega));have O1:Hid (Own .i64 3 U1.heap.size u1 (some ⟨U1.heap.size,0,none⟩) v.len v.len x.kids):=o1;have k0:∀j,u1.cell? ⟨w.heap.size,j,none⟩=(#[.int .i64 x.k,.int .i64 x.m,.int .i64 x.n,.string x.s,.slice v.a v.len v.cap,.int .i64 x.line,.int .i64 x.aQ]:Array Value)[j]?:=fun j=>cell_of_row u1 w.heap.size j _ 57 (0,0) Q0;have k1:∀j,u1.cell? ⟨w.heap.size+1,j,none⟩=(#[.int .i64 0,.int .i64 0,.int .i64 0,.string ⟨#[]⟩,.slice none 0 0,.int .i64 0,.int .i64 0]:Array Value)[j]?:=fun j=>cell_of_row u1 (w.heap.size+1) j _ 45 (0,0) Q1;have k2:∀j,u1.cell? ⟨w.heap.size+1+1,j,none⟩=(#[.int .i64 x.k,.int .i64 x.m,.int .i64 x.n,.string x.s,.slice none 0 0,.int .i64 0,.int .i64 0]:Array Value)[j]?:=fun j=>cell_of_row u1 (w.heap.size+1+1) j _ 45 (0,0) Q2;have f1:∀j,u1.frozen? ⟨w.heap.size+1,j,none⟩=false:=fun j=>frozen_of_row u1 (w.heap.size+1) j _ 45 Q1;have f2:∀j,u1.frozen? ⟨w.heap.size+1+1,j,none⟩=false:=fun j=>frozen_of_row u1 (w.heap.size+1+1) j _ 45 Q2;have Z1:Hid (U1.heap.size=w.heap.size+3):=z1;have HQ1:Hid (u1.heap[w.heap.size+1]?=some (.cells #[.int .i64 0,.int .i64 0,.int .i64 0,.string ⟨#[]⟩,.slice none 0 0,.int .i64 0,.int .i64 0] 45)):=Q1;clear Q0 Q1 Q2 q0 q1 q2 b1 o1 d1 z1;go_wp2;refine bodyPost_ret (v:=.agg #[.int .i64 x.k,.int .i64 x.m,.int .i64 x.n,.string x.s,.slice (some ⟨U1.heap.size,0,none⟩) v.len v.len,.int .i64 x.line,.int .i64 x.aQ]) ?_ rfl ⟨⟨some ⟨U1.heap.size,0,none⟩,v.len,v.len⟩,rfl,?_,?_⟩
 ·refine results_cell_row Tryz.results35 _ _ (w.heap.size+1) 45 #[.int .i64 x.k,.int .i64 x.m,.int .i64 x.n,.string x.s,.slice (some ⟨U1.heap.size,0,none⟩) v.len v.len,.int .i64 x.line,.int .i64 x.aQ] (0,0) _ ?hp ?hg Tryz.underlying45 ?hd ?hi
  case hp=>rfl
  case hd=>rfl
  case hi=>kernel_rfl
  case hg=>
   have h0:(((u1.setCell ⟨w.heap.size+1+1,4,none⟩ (.slice (some ⟨U1.heap.size,0,none⟩) v.len v.len)).setCell ⟨w.heap.size+1+1,5,none⟩ (.int .i64 x.line)).setCell ⟨w.heap.size+1+1,6,none⟩ (.int .i64 x.aQ)).heap[w.heap.size+1]?=some (.cells #[.int .i64 0,.int .i64 0,.int .i64 0,.string ⟨#[]⟩,.slice none 0 0,.int .i64 0,.int .i64 0] 45):=by
    rw[heap_setCell_other _ _ _ _ (show w.heap.size+1≠w.heap.size+1+1 by omega),heap_setCell_other _ _ _ _ (show w.heap.size+1≠w.heap.size+1+1 by omega),heap_setCell_other _ _ _ _ (show w.heap.size+1≠w.heap.size+1+1 by omega)];exact HQ1.o
   have h1:=vN (cs':=#[.int .i64 x.k,.int .i64 0,.int .i64 0,.string ⟨#[]⟩,.slice none 0 0,.int .i64 0,.int .i64 0]) h0 0 (.int .i64 x.k) rfl;have h2:=vN (cs':=#[.int .i64 x.k,.int .i64 x.m,.int .i64 0,.string ⟨#[]⟩,.slice none 0 0,.int .i64 0,.int .i64 0]) h1 1 (.int .i64 x.m) rfl;have h3:=vN (cs':=#[.int .i64 x.k,.int .i64 x.m,.int .i64 x.n,.string ⟨#[]⟩,.slice none 0 0,.int .i64 0,.int .i64 0]) h2 2 (.int .i64 x.n) rfl;have h4:=vN (cs':=#[.int .i64 x.k,.int .i64 x.m,.int .i64 x.n,.string x.s,.slice none 0 0,.int .i64 0,.int .i64 0]) h3 3 (.string x.s) rfl;have h5:=vN (cs':=#[.int .i64 x.k,.int .i64 x.m,.int .i64 x.n,.string x.s,.slice (some ⟨U1.heap.size,0,none⟩) v.len v.len,.int .i64 0,.int .i64 0]) h4 4 (.slice (some ⟨U1.heap.size,0,none⟩) v.len v.len) rfl;have h6:=vN (cs':=#[.int .i64 x.k,.int .i64 x.m,.int .i64 x.n,.string x.s,.slice (some ⟨U1.heap.size,0,none⟩) v.len v.len,.int .i64 x.line,.int .i64 0]) h5 5 (.int .i64 x.line) rfl;have h7:=vN (cs':=#[.int .i64 x.k,.int .i64 x.m,.int .i64 x.n,.string x.s,.slice (some ⟨U1.heap.size,0,none⟩) v.len v.len,.int .i64 x.line,.int .i64 x.aQ]) h6 6 (.int .i64 x.aQ) rfl;exact h7
 ·have hz:=Z1.o;have o2:Own .i64 3 (w.heap.size+2+1) u1 (some ⟨U1.heap.size,0,none⟩) v.len v.len x.kids:=by rw[show w.heap.size+2+1=U1.heap.size by omega];exact O1.o
  refine Own.lower (Own.same o2 (B:=w.heap.size+2+1) ?_ (Nat.le_refl _)) (by omega)
  repeat (first|with_reducible exact nW.refl _ _|refine nW.setCell ?_ (by simp <;> omega) _)
 ·repeat (first|with_reducible exact B1.o|refine Below.setCell ?_ (by simp <;> omega) _)
def FT (g len k:Nat) (wr:World) (xs:List Pl.Nd):Prop:=∀i,i<len->∃v:SV,(∀j,j<7->wr.cell? ⟨g,i*7+j,none⟩=((if i<k then xs.getD i Pl.Nd.zero else Pl.Nd.zero).cells v)[j]?)/\Row .i64 (g+1) wr v.a v.len v.cap (if i<k then xs.getD i Pl.Nd.zero else Pl.Nd.zero).kids
theorem FT.keep {g len k:Nat}{w w':World}{xs:List Pl.Nd}(h:FT g len k w xs) (hg:g<w.heap.size) (hb:Bw w w'):FT g len k w' xs:=fun i hi=>by
 obtain⟨v,h1,h2⟩:=h i hi;exact⟨v,fun j hj=>(hb.cell (p:=⟨g,i*7+j,none⟩) hg).trans (h1 j hj),h2.keep hb⟩
theorem FT.some {g len k:Nat}{w:World}{xs:List Pl.Nd}(h:FT g len k w xs){i:Nat}(hi:i<len):∀j,j<7->(w.cell? ⟨g,i*7+j,none⟩).isSome=true:=fun j hj=>by
 obtain⟨v,h1,_⟩:=h i hi;rw[h1 j hj];rcases (show j=0\/j=1\/j=2\/j=3\/j=4\/j=5\/j=6 by omega) with rfl|rfl|rfl|rfl|rfl|rfl|rfl <;> rfl
theorem FT.put {g len k:Nat}{w:World}{xs:List Pl.Nd}(h:FT g len k w xs) (hk:k<len) (v:SV) (hr:Row .i64 (g+1) w v.a v.len v.cap (xs.getD k Pl.Nd.zero).kids):FT g len (k+1) (yL w g (k*7) (xs.getD k Pl.Nd.zero) v) xs:=fun i hi=>by
 by_cases e:i=k
 ·subst e;rw[if_pos (Nat.lt_succ_self _)];exact⟨v,fun j hj=>Cm _ _ (h.some hk) j hj,UT hr (Nat.lt_succ_self _) _ _ _⟩
 ·obtain⟨v',h1,h2⟩:=h i hi;have e1:(if i<k+1 then xs.getD i Pl.Nd.zero else Pl.Nd.zero)=(if i<k then xs.getD i Pl.Nd.zero else Pl.Nd.zero):=by
   by_cases e':i<k
   ·rw[if_pos e',if_pos (by omega)]
   ·rw[if_neg e',if_neg (by omega)]
  rw[e1];exact⟨v',fun j hj=>(UR _ _ (by omega)).trans (h1 j hj),UT h2 (Nat.lt_succ_self _) _ _ _⟩
theorem Rh {k:IntKind}{lo:Nat}{w:World}:Row k lo w none 0 0 []:=⟨rfl,Nat.le_refl _,Nat.zero_le _,fun n hn=>absurd hn (by simp),.inl rfl⟩
def Fz (g len:Nat) (w:World):Prop:=(∀q,w.frozen? ⟨g,q,none⟩=false)/\∀i,i<len->∀v:SV,w.cell? ⟨g,i*7+4,none⟩=some (.slice v.a v.len v.cap)->∀ad,v.a=some ad->g<ad.block/\ad.block<w.heap.size/\∀q,w.frozen? ⟨ad.block,q,none⟩=false
theorem Fz.on {g len:Nat}{w w':World}(h:Fz g len w) (hg:g<w.heap.size) (hs:w.heap.size<=w'.heap.size) (hb:∀k,g<=k->k<w.heap.size->w'.heap[k]?=w.heap[k]?):Fz g len w':=by
 have f:∀k q,g<=k->k<w.heap.size->w'.frozen? ⟨k,q,none⟩=w.frozen? ⟨k,q,none⟩:=fun k q h1 h2=>by simp only[World.frozen?,hb k h1 h2]
 refine⟨fun q=>(f g q (Nat.le_refl _) hg).trans (h.1 q),fun i hi v hv ad e=>?_⟩;obtain⟨h1,h2,h3⟩:=h.2 i hi v (by rw[<- hv];simp only[World.cell?,hb g (Nat.le_refl _) hg]) ad e;exact⟨h1,Nat.lt_of_lt_of_le h2 hs,fun q=>(f _ q (Nat.le_of_lt h1) h2).trans (h3 q)⟩
theorem Fz.put {g len k:Nat}{u:World}{x:Pl.Nd}{v':SV}(h:Fz g len u) (hsm:∀j,j<7->(u.cell? ⟨g,k*7+j,none⟩).isSome=true) (hv:∀ad,v'.a=some ad->g<ad.block/\ad.block<u.heap.size/\∀q,u.frozen? ⟨ad.block,q,none⟩=false):Fz g len (yL u g (k*7) x v'):=by
 have f:∀p,(yL u g (k*7) x v').frozen? p=u.frozen? p:=fun p=>by unfold yL;simp only[World.frozen?_setCell]
 have z:(yL u g (k*7) x v').heap.size=u.heap.size:=by unfold yL;simp only[World.size_setCell]
 refine⟨fun q=>(f _).trans (h.1 q),fun i hi v hc ad e=>?_⟩;simp only[f,z];by_cases q:i=k
 ·subst q;rw[Cm x v' hsm 4 (by decide)]at hc;injection hc with hc;injection hc with h1;exact hv ad (h1.trans e)
 ·rw[UR _ _ (by omega)]at hc;exact h.2 i hi v hc ad e
theorem aDw {k:IntKind}{e:TypeId}{g lo:Nat}{u:World}{a:Option Addr}{n c:Nat}{zs:List Int}(o:Own k e lo u a n c zs) (hl:g<lo):∀ad,a=some ad->g<ad.block/\ad.block<u.heap.size/\∀q,u.frozen? ⟨ad.block,q,none⟩=false:=fun ad h=>by
 subst h;rcases o.1.2 with ⟨q,_⟩|⟨g',cap,cur,q,h1,h2,_⟩
 ·cases q
 ·cases q;exact⟨Nat.lt_of_lt_of_le hl h1,(Array.getElem?_eq_some_iff.1 h2).1,fun q=>frozen_of_row u g' q _ _ h2⟩
theorem UU {lo:Nat}(a:Option Addr) (len cap:Nat) (xs:List Pl.Nd) (w:World) (h:aT lo w a len cap xs) (hl:len<=1048576) (hks:∀i,i<len->(xs.getD i Pl.Nd.zero).kids.length<=1048576):Calls Tryz.prog 16 #[.slice a len cap] w fun e w'=>e=.returned (.slice (some ⟨w.heap.size,0,none⟩) len len)/\aT w.heap.size w' (some ⟨w.heap.size,0,none⟩) len len xs/\Bw w w'/\Fz w.heap.size len w'/\w.heap.size<w'.heap.size:=by
 have HR:Hid (aT lo w a len cap xs):=h;have Ob:Hid (∀i,i<len->(xs.getD i Pl.Nd.zero).kids.length<=1048576):=hks;clear h hks;have hinfo:(Tryz.prog.info? 45).map (fun i=>(i.zero,i.size,i.bytes))=some (some (.agg #[.int .i64 0,.int .i64 0,.int .i64 0,.string ⟨#[]⟩,.slice none 0 0,.int .i64 0,.int .i64 0]),7,80):=by kernel_rfl
 obtain⟨i0,hi0,hz0,hz1,hz2⟩:=info_parts hinfo;have hm:∀u:World,(Instr.makeSlice 29 (.int .i64 (len:Int)) (.int .i64 (len:Int))).run Tryz.prog u=.ok (.slice (some ⟨u.heap.size,0,none⟩) len len) (u.alloc (.cells (madeCells #[.int .i64 0,.int .i64 0,.int .i64 0,.string ⟨#[]⟩,.slice none 0 0,.int .i64 0,.int .i64 0] (len*7)) 45)):=fun u=>by
  have:=run_makeSlice u 29 45 i0 _ Tryz.underlying29 hi0 hz0 .i64 .i64 (len:Int) (len:Int) (by omega) (by omega) (by rw[hz1];simp;omega) (by rw[hz2];omega) (by omega);rw[hz1,Int.toNat_natCast]at this;exact this
 clear hinfo hi0 hz0 hz1 hz2;go_enter Tryz.func16,Tryz.ntmps16;go_wp2_with fail
 clear hm;go_loopw [4] (fun i wr=>∃k:Nat,k<=len/\i=.int .i64 k/\w.heap.size<wr.heap.size/\Fz w.heap.size len wr/\FT w.heap.size len k wr xs/\Bw w wr) (fun i _=>len-(intOf i).toNat)
 case atStart=>
  refine⟨0,Nat.zero_le _,rfl,by simp,⟨fun q=>frozen_of_row _ _ _ _ _ (heap_alloc_new w _),fun i hi v hv ad e=>?_⟩,fun i hi=>⟨⟨none,0,0⟩,fun j hj=>?_,?_⟩,aA w _⟩
  ·rw[cell_of_row _ _ _ _ _ (0,0) (heap_alloc_new w _)]at hv;unfold madeCells at hv;rw[Array.getElem?_map,Array.getElem?_range,if_pos (by omega)]at hv;simp only[Option.map_some,List.size_toArray,List.length_cons,List.length_nil,show (i*7+4) % 7=4 by omega]at hv;injection hv with hv;injection hv with h1;rw[<- h1]at e;cases e
  ·rw[cell_of_row _ _ _ _ _ (0,0) (heap_alloc_new w _),if_neg (Nat.not_lt_zero _)];have e:(i*7+j) % 7=j:=(by omega);have hb:i*7+j<len*7:=(by omega);unfold madeCells;rw[Array.getElem?_map,Array.getElem?_range,if_pos hb];simp only[Option.map_some,List.size_toArray,List.length_cons,List.length_nil,e];rcases (show j=0\/j=1\/j=2\/j=3\/j=4\/j=5\/j=6 by omega) with rfl|rfl|rfl|rfl|rfl|rfl|rfl <;> rfl
  ·rw[if_neg (Nat.not_lt_zero _)];exact Rh
 case round=>
  obtain⟨k,hk,rfl,hz,hfr,hcs,hbel⟩:=hrel;have HC:Hid (FT w.heap.size len k wr xs):=hcs;have HF:Hid (Fz w.heap.size len wr):=hfr;have HB:Hid (Bw w wr):=hbel;clear hcs hbel hfr;by_cases hlt:k<len
  ·have hi:(k:Int)<(len:Int):=(by omega);obtain⟨b,off,v,rfl,hlo,hb1,hc,hrow,hs⟩:=(HR.o.keep HB.o).at hlt;obtain⟨x,hx⟩:∃x,x=xs.getD k Pl.Nd.zero:=⟨_,rfl⟩;rw[<- hx]at hc hrow;obtain⟨c0,c1,c2,c3,c4,c5,c6⟩:=iT hc;have hvl:v.len<=1048576:=(by have h1:=hrow.1;have h2:=Ob.o k hlt;rw[<- hx]at h2;omega);have HX:Hid (x=xs.getD k Pl.Nd.zero):=hx;have HW:Hid (Row .i64 lo wr v.a v.len v.cap x.kids):=hrow;clear hc hx hrow hs;go_wp2_with fail
   refine (ZM x v wr HW.o hvl).mono ?_;rintro e u1 ⟨v',rfl,o1,d1⟩;have F1:Hid (Fz w.heap.size len u1):=HF.o.on hz d1.size fun k _ h=>d1.block k h;have hf1:=F1.o.1;have HC1:Hid (FT w.heap.size len k u1 xs):=HC.o.keep hz d1;obtain⟨v0,hk1,_⟩:=HC1.o k hlt;rw[if_neg (Nat.lt_irrefl _)]at hk1;obtain⟨e0,e1,e2,e3,e4,e5,e6⟩:=iT hk1;have HD:Hid (Bw w u1/\w.heap.size<u1.heap.size):=⟨HB.o.trans (d1.mono HB.o.size),Nat.lt_of_lt_of_le hz d1.size⟩;have HO:Hid (Row .i64 (w.heap.size+1) u1 v'.a v'.len v'.cap x.kids):=o1.row.lower (by omega);have F2:Hid (∀ad,v'.a=some ad->w.heap.size<ad.block/\ad.block<u1.heap.size/\∀q,u1.frozen? ⟨ad.block,q,none⟩=false):=aDw o1 (by omega);clear hk1 d1 o1 c0 c1 c2 c3 c4 c5 c6 HC HF HB HW;go_wp2_with fail
   go_roundw
   case rel=>
    refine⟨k+1,by omega,by go_num,?_,?_,?_,?_⟩
    ·simp only[World.size_setCell];exact HD.o.2
    ·exact F1.o.put (x:=x) (HC1.o.some hlt) F2.o
    ·have hn:=HC1.o.put hlt v' (by rw[<- HX.o];exact HO.o);rw[<- HX.o]at hn;exact hn
    ·exact ZL HD.o.1 (Nat.le_refl _) (k*7) x v'
   case measure=>simp[intOf];omega
  ·have hkk:k=len:=(by omega);have hi:¬((k:Int)<(len:Int)):=(by omega);have HZ:Hid (w.heap.size<wr.heap.size):=hz;go_wp2;go_ret;refine⟨rfl,⟨HR.o.1,Nat.le_refl _,by unfold maxLen;omega,.inr ⟨w.heap.size,0,rfl,Nat.le_refl _,HZ.o,fun i hi=>?_⟩⟩,HB.o,HF.o,HZ.o⟩;obtain⟨v,h1,h2⟩:=HC.o i hi;rw[if_pos (by omega)]at h1 h2;exact⟨v,fun j hj=>by rw[Nat.zero_add];exact h1 j hj,h2.lower (by omega)⟩
theorem Row.above {k:IntKind}{B lo:Nat}{w w':World}{a:Option Addr}{len cap:Nat}{zs:List Int}(h:Row k lo w a len cap zs) (ha:nW B w w') (hB:B<=lo):Row k lo w' a len cap zs:=by
 obtain⟨h1,h2,h3,h4,h5⟩:=h;refine⟨h1,h2,h3,h4,?_⟩;rcases h5 with h5|⟨b,off,rfl,hlo,hlt,hc⟩
 ·exact .inl h5
 ·refine .inr ⟨b,off,rfl,hlo,Nat.lt_of_lt_of_le hlt ha.size,fun i hi=>?_⟩;rw[World.cell?_of_block (a:=⟨b,off+i,none⟩) (ha.block b (Nat.le_trans hB hlo) hlt)];exact hc i hi
theorem aT.above {B lo:Nat}{w w':World}{a:Option Addr}{len cap:Nat}{xs:List Pl.Nd}(h:aT lo w a len cap xs) (ha:nW B w w') (hB:B<=lo):aT lo w' a len cap xs:=by
 obtain⟨h1,h2,h3,h4⟩:=h;refine⟨h1,h2,h3,?_⟩;rcases h4 with h4|⟨b,off,e,hlo,hlt,hc⟩
 ·exact .inl h4
 ·refine .inr ⟨b,off,e,hlo,Nat.lt_of_lt_of_le hlt ha.size,fun i hi=>?_⟩;obtain⟨v,h5,h6⟩:=hc i hi;refine⟨v,fun j hj=>?_,h6.above ha hB⟩;rw[World.cell?_of_block (a:=⟨b,off+i*7+j,none⟩) (ha.block b (Nat.le_trans hB hlo) hlt)];exact h5 j hj
theorem aT.lower {lo lo':Nat}{w:World}{a:Option Addr}{len cap:Nat}{xs:List Pl.Nd}(h:aT lo w a len cap xs) (hl:lo'<=lo):aT lo' w a len cap xs:=by
 obtain⟨h1,h2,h3,h4⟩:=h;refine⟨h1,h2,h3,?_⟩;rcases h4 with h4|⟨b,off,e,hlo,hlt,hc⟩
 ·exact .inl h4
 ·refine .inr ⟨b,off,e,Nat.le_trans hl hlo,hlt,fun i hi=>?_⟩;obtain⟨v,h5,h6⟩:=hc i hi;exact⟨v,h5,h6.lower hl⟩
theorem ZN {lo:Nat}(a:Option Addr) (len cap:Nat) (xs:List Pl.Nd) (w:World) (h:aT lo w a len cap xs) (hl:len<=1048576) (hks:∀i,i<len->(xs.getD i Pl.Nd.zero).kids.length<=1048576):Calls Tryz.prog 6 #[.agg #[.slice a len cap]] w fun e w'=>∃b,e=.returned (.agg #[.slice (some ⟨b,0,none⟩) len len])/\aT w.heap.size w' (some ⟨b,0,none⟩) len len xs/\Bw w w'/\Fz b len w'/\w.heap.size<=b/\b<w'.heap.size:=by
 have HR:Hid (aT lo w a len cap xs):=h;have Ob:Hid (∀i,i<len->(xs.getD i Pl.Nd.zero).kids.length<=1048576):=hks;clear h hks;go_enter Tryz.func6,Tryz.ntmps6;go_wp2_with fail
 refine KO fun U1 Jy=>?_;have z1:U1.heap.size=w.heap.size+3:=by rw[Jy];simp
 have q1:U1.heap[w.heap.size+1]?=some (.cells #[.slice none 0 0] 31):=by
  rw[Jy,Below.heap_alloc _ _ _ (by simp)];have:=heap_alloc_new (w.alloc (.cells #[.slice a len cap] 24)) (.cells #[.slice none 0 0] 31);simpa using this
 have q2:U1.heap[w.heap.size+1+1]?=some (.cells #[.slice none 0 0] 31):=by
  rw[Jy];have:=heap_alloc_new ((w.alloc (.cells #[.slice a len cap] 24)).alloc (.cells #[.slice none 0 0] 31)) (.cells #[.slice none 0 0] 31);simpa using this
 have b1:Bw w U1:=by
  rw[Jy]
  repeat (first|with_reducible exact Below.refl _ _|refine Below.alloc ?_ (by simp <;> omega) _)
 clear Jy;refine (UU a len cap xs U1 (HR.o.keep b1) hl Ob.o).mono ?_;rintro e u1 ⟨rfl,o1,d1,f9,z9⟩;have F9:Hid (Fz U1.heap.size len u1/\U1.heap.size<u1.heap.size):=⟨f9,z9⟩;have Q1:=(d1.block (w.heap.size+1) (by omega)).trans q1;have Q2:=(d1.block (w.heap.size+1+1) (by omega)).trans q2;have B1:Hid (Bw w u1):=b1.trans (d1.mono (by omega));have O1:Hid (aT U1.heap.size u1 (some ⟨U1.heap.size,0,none⟩) len len xs):=o1;have k1:u1.cell? ⟨w.heap.size+1,0,none⟩=some (.slice none 0 0):=cell_of_row u1 (w.heap.size+1) 0 _ 31 (0,0) Q1;have k2:u1.cell? ⟨w.heap.size+1+1,0,none⟩=some (.slice none 0 0):=cell_of_row u1 (w.heap.size+1+1) 0 _ 31 (0,0) Q2;have f1:∀j,u1.frozen? ⟨w.heap.size+1,j,none⟩=false:=fun j=>frozen_of_row u1 (w.heap.size+1) j _ 31 Q1;have f2:∀j,u1.frozen? ⟨w.heap.size+1+1,j,none⟩=false:=fun j=>frozen_of_row u1 (w.heap.size+1+1) j _ 31 Q2;have Z1:Hid (U1.heap.size=w.heap.size+3):=z1;have HQ1:Hid (u1.heap[w.heap.size+1]?=some (.cells #[.slice none 0 0] 31)):=Q1;clear Q1 Q2 q1 q2 b1 o1 d1 z1 f9 z9;go_wp2;refine bodyPost_ret (v:=.agg #[.slice (some ⟨U1.heap.size,0,none⟩) len len]) ?_ rfl ⟨U1.heap.size,rfl,?_,?_,?_,by have:=Z1.o;omega,by simp only[World.size_setCell];exact F9.o.2⟩
 ·refine results_cell_row Tryz.results6 _ _ (w.heap.size+1) 31 #[.slice (some ⟨U1.heap.size,0,none⟩) len len] (0,0) _ ?hp ?hg Tryz.underlying31 ?hd ?hi
  case hp=>rfl
  case hd=>rfl
  case hi=>kernel_rfl
  case hg=>
   have h0:(u1.setCell ⟨w.heap.size+1+1,0,none⟩ (.slice (some ⟨U1.heap.size,0,none⟩) len len)).heap[w.heap.size+1]?=some (.cells #[.slice none 0 0] 31):=by
    rw[heap_setCell_other _ _ _ _ (show w.heap.size+1≠w.heap.size+1+1 by omega)];exact HQ1.o
   have h1:=vN (cs':=#[.slice (some ⟨U1.heap.size,0,none⟩) len len]) h0 0 (.slice (some ⟨U1.heap.size,0,none⟩) len len) rfl;exact h1
 ·have hz:=Z1.o;refine aT.lower (aT.above O1.o (B:=w.heap.size+3) ?_ (by omega)) (by omega)
  repeat (first|with_reducible exact nW.refl _ _|refine nW.setCell ?_ (by simp <;> omega) _)
 ·repeat (first|with_reducible exact B1.o|refine Below.setCell ?_ (by simp <;> omega) _)
 ·have hz:=Z1.o;refine F9.o.1.on F9.o.2 (by simp only[World.size_setCell];exact Nat.le_refl _) fun k h1 h2=>?_;rw[heap_setCell_other _ _ _ _ (show k≠w.heap.size+1 by omega),heap_setCell_other _ _ _ _ (show k≠w.heap.size+1+1 by omega)]
end W
namespace Pl
end Pl
namespace W
open Go.RowKit
end W
namespace Pl
end Pl
namespace W
open Go.RowKit
theorem UW {lo lo2:Nat}(x:Pl.Nd) (v v2:SV) (w:World) (h:Row .i64 lo w v.a v.len v.cap x.kids) (h2:Row .i64 lo2 w v2.a v2.len v2.cap x.kids) :
  Calls Tryz.prog 46 #[.agg #[.int .i64 x.k,.int .i64 x.m,.int .i64 x.n,.string x.s,.slice v.a v.len v.cap,.int .i64 x.line,.int .i64 x.aQ],.agg #[.int .i64 x.k,.int .i64 x.m,.int .i64 x.n,.string x.s,.slice v2.a v2.len v2.cap,.int .i64 x.line,.int .i64 x.aQ]] w fun e w'=>e=.returned (.bool true)/\Bw w w':=by
 have HR:Hid (Row .i64 lo w v.a v.len v.cap x.kids):=h;have HR2:Hid (Row .i64 lo2 w v2.a v2.len v2.cap x.kids):=h2;clear h h2;go_enter Tryz.func46,Tryz.ntmps46;go_wp2_with fail
 refine KO fun u0 hu0=>?_;have p0:u0.heap[w.heap.size]?=some (.cells #[.int .i64 x.k,.int .i64 x.m,.int .i64 x.n,.string x.s,.slice v.a v.len v.cap,.int .i64 x.line,.int .i64 x.aQ] 45):=by
  rw[hu0,Below.heap_alloc _ _ _ (by simp)];exact heap_alloc_new w _
 have q0:u0.heap[w.heap.size+1]?=some (.cells #[.int .i64 x.k,.int .i64 x.m,.int .i64 x.n,.string x.s,.slice v2.a v2.len v2.cap,.int .i64 x.line,.int .i64 x.aQ] 45):=by
  rw[hu0];have:=heap_alloc_new (w.alloc (.cells #[.int .i64 x.k,.int .i64 x.m,.int .i64 x.n,.string x.s,.slice v.a v.len v.cap,.int .i64 x.line,.int .i64 x.aQ] 45)) (.cells #[.int .i64 x.k,.int .i64 x.m,.int .i64 x.n,.string x.s,.slice v2.a v2.len v2.cap,.int .i64 x.line,.int .i64 x.aQ] 45);simpa using this
 have hb:Bw w u0:=by
  rw[hu0];exact ((Below.refl _ _).alloc (Nat.le_refl _) _).alloc (by simp) _
 have hz:w.heap.size+1<u0.heap.size:=by rw[hu0];simp
 clear hu0;refine (VS _ _ _ _ _ _ _ _ u0 (HR.o.keep hb) (HR2.o.keep hb)).mono ?_;rintro e u1 ⟨rfl,d1⟩;rw[show (x.kids == x.kids)=true from beq_self_eq_true _];have P1:=(d1.block _ (by omega)).trans p0;have Q1:=(d1.block _ (by omega)).trans q0;have kb:∀j,u1.cell? ⟨w.heap.size,j,none⟩=(#[.int .i64 x.k,.int .i64 x.m,.int .i64 x.n,.string x.s,.slice v.a v.len v.cap,.int .i64 x.line,.int .i64 x.aQ]:Array Value)[j]?:=fun j=>cell_of_row u1 w.heap.size j _ 45 (0,0) P1;have kc:∀j,u1.cell? ⟨w.heap.size+1,j,none⟩=(#[.int .i64 x.k,.int .i64 x.m,.int .i64 x.n,.string x.s,.slice v2.a v2.len v2.cap,.int .i64 x.line,.int .i64 x.aQ]:Array Value)[j]?:=fun j=>cell_of_row u1 (w.heap.size+1) j _ 45 (0,0) Q1;have B1:Hid (Bw w u1):=hb.trans (d1.mono (by omega));clear d1 p0 q0 hb hz P1 Q1;go_wp2;go_ret;exact⟨rfl,B1.o⟩
set_option maxRecDepth 4000 in
theorem OI {lo lo2:Nat}(a a':Option Addr) (len cap cap':Nat) (xs:List Pl.Nd) (w:World) (h:aT lo w a len cap xs) (h':aT lo2 w a' len cap' xs):Calls Tryz.prog 20 #[.slice a len cap,.slice a' len cap'] w fun e w'=>e=.returned (.bool true)/\Bw w w':=by
 have hm:(len:Int)<=9223372036854775807:=by have:=h.2.1;have h3:=h.2.2.1;unfold maxLen at h3;omega
 have HR:Hid (aT lo w a len cap xs):=h;have QD:Hid (aT lo2 w a' len cap' xs):=h';clear h h';go_enter Tryz.func20,Tryz.ntmps20;go_wp2_with fail
 go_loopw [5] (fun i wr=>∃k:Nat,k<=len/\i=.int .i64 k/\Bw w wr) (fun i _=>len-(intOf i).toNat)
 case atStart=>exact⟨0,Nat.zero_le _,rfl,Below.refl _ _⟩
 case round=>
  obtain⟨k,hk,rfl,hbel⟩:=hrel;have HB:Hid (Bw w wr):=hbel;clear hbel;by_cases hlt:k<len
  ·have hi:(k:Int)<(len:Int):=(by omega);obtain⟨b,off,v,rfl,hlo,hb1,hc,hrow,hs⟩:=(HR.o.keep HB.o).at hlt;obtain⟨b',off',v2,rfl,aHe,hb1',hc',hrow',hs'⟩:=(QD.o.keep HB.o).at hlt;obtain⟨x,hx⟩:∃x,x=xs.getD k Pl.Nd.zero:=⟨_,rfl⟩;rw[<- hx]at hc hrow hc' hrow';obtain⟨c0,c1,c2,c3,c4,c5,c6⟩:=iT hc;obtain⟨g0,g1,g2,g3,g4,g5,g6⟩:=iT hc';have HE:Hid (∀u:World,Bw wr u->Calls Tryz.prog 46 #[.agg #[.int .i64 x.k,.int .i64 x.m,.int .i64 x.n,.string x.s,.slice v.a v.len v.cap,.int .i64 x.line,.int .i64 x.aQ],.agg #[.int .i64 x.k,.int .i64 x.m,.int .i64 x.n,.string x.s,.slice v2.a v2.len v2.cap,.int .i64 x.line,.int .i64 x.aQ]] u fun e w'=>e=.returned (.bool true)/\Bw u w'):=fun u hu=>UW x v v2 u (hrow.keep hu) (hrow'.keep hu);clear hc hc' hx hrow hrow' hs hs';have hU:=Tryz.underlying45;go_wp2_with fail
   go_region_with (go_at_call 46;refine (HE.o _ (by repeat (first|with_reducible exact Below.refl _ _|refine Below.drew ?_|refine below_drewN ?_ _))).mono ?_;rintro e u1 ⟨rfl,d1⟩)
   all_goals
    have D1:Hid _:=d1;clear d1 c0 c1 c2 c3 c4 c5 c6 g0 g1 g2 g3 g4 g5 g6;go_wp2_with fail
    go_roundw
    case rel=>exact⟨k+1,by omega,by go_num,Below.trans (by repeat (first|with_reducible exact HB.o|refine Below.drew ?_|refine below_drewN ?_ _)) (D1.o.mono HB.o.size)⟩
    case measure=>simp[intOf];omega
  ·have hkk:k=len:=(by omega);have hi:¬((k:Int)<(len:Int)):=(by omega);go_wp2;go_ret;exact⟨rfl,HB.o⟩
theorem UX {lo lo2:Nat}(a a':Option Addr) (len cap cap':Nat) (xs:List Pl.Nd) (w:World) (h:aT lo w a len cap xs) (h':aT lo2 w a' len cap' xs):Calls Tryz.prog 9 #[.agg #[.slice a len cap],.agg #[.slice a' len cap']] w fun e w'=>e=.returned (.bool true)/\Bw w w':=by
 have HR:Hid (aT lo w a len cap xs):=h;have QD:Hid (aT lo2 w a' len cap' xs):=h';have B2:Hid (∀A B,Bw w ((w.alloc A).alloc B)):=fun A B=>(aA _ _).alloc (by simp) _;clear h h';go_enter Tryz.func9,Tryz.ntmps9;go_wp2_with (go_at_call 20;refine (OI _ _ _ _ _ xs _ (HR.o.keep (B2.o _ _)) (QD.o.keep (B2.o _ _))).mono ?_;rintro e u1 ⟨rfl,d1⟩)
 go_ret;exact⟨rfl,(B2.o _ _).trans (d1.mono (B2.o _ _).size)⟩
end W
end Go.Proofs.YtjcdiegfnoaedaaGreatDoor
