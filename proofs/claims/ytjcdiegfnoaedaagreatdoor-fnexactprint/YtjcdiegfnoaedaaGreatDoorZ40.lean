import Derived.Test.YtjcdiegfnoaedaaGreatDoorZ34
import Derived.Test.YtjcdiegfnoaedaaGreatDoorZ35
import Derived.Test.YtjcdiegfnoaedaaGreatDoorZ36
import Derived.Test.YtjcdiegfnoaedaaGreatDoorZ39
import Derived.Test.YtjcdiegfnoaedaaGreatDoorZ43
set_option linter.unusedVariables false
set_option linter.unusedSimpArgs false
set_option maxHeartbeats 16000000
namespace Go.Proofs.YtjcdiegfnoaedaaGreatDoor
namespace Pl
theorem FR {x:Nd}{al:List ByteArray}(h:GD x al=true):(x.k≠34->x.s.size<=40)/\x.s.size<=200/\x.n<=4294967295/\(x.k=1->1<=x.n/\x.n<=7):=by
 have h1:x.k=1->IE x.k≠5:=fun e=>by rw[e];decide
 unfold GD at h;split at h
 ·rename_i h5;have hx:x.k≠1:=fun e=>h1 e h5;split at h
  ·have h:=of_decide_eq_true h;rw[MO]at h;have hv:Vt 3 x.s x.n:=QY h;have hs:=uF hv 0 0;refine⟨fun _=>?_,hs.2.2.1,hs.2.2.2.2.1,fun e=>absurd e hx⟩;generalize x.s=s at hv;generalize x.n=n at hv;cases hv with
   | wrd hk=>omega
   | int _ _ h=>rcases h with rfl|⟨rfl,_⟩ <;> decide
   | BF b=>decide
  ·rename_i h33;have h:=of_decide_eq_true h;refine⟨fun e=>?_,h.2,by omega,fun e=>absurd e hx⟩;unfold IE at h5
   (repeat' split at h5) <;> omega
 ·split at h
  ·have h:=of_decide_eq_true h;exact⟨fun _=>by omega,by omega,by omega,fun _=>⟨h.1,h.2.1⟩⟩
  ·rename_i hx;split at h
   ·cases h
   ·rename_i hn;have hn:x.n=0:=(by omega);split at h
    ·have h:=of_decide_eq_true h;exact⟨fun _=>by omega,by omega,by omega,fun e=>absurd e hx⟩
    ·have h:=(Bool.and_eq_true _ _ ▸ h:_/\_).1;have:x.s.size<=40:=(by unfold pR at h;simp at h;omega);exact⟨fun _=>this,by omega,by omega,fun e=>absurd e hx⟩
theorem Rf {k:Int}(h:aH k≠0):1<=k/\k<=49:=by unfold aH at h;(repeat' split at h) <;> omega
theorem aGJ {k:Int}(h:aH k=1):1<=k/\k<=6:=by unfold aH at h;(repeat' split at h) <;> omega
noncomputable def iF (x:Nd):ByteArray:=if x.k=33 then QN ⟨3,x.s,x.n,0,0⟩ else qt x.s 34
theorem zS {f:Int->Tx}{l:List Int}{j:Nat}(h:j<l.length):(l.map f).getD j Tx.no=f (l.getD j 0):=by
 rw[List.getD_eq_getElem?_getD,List.getElem?_map,List.getD_eq_getElem?_getD,List.getElem?_eq_getElem h];rfl
end Pl
namespace W
open Go.RowKit
theorem aDv {xs:List Pl.Nd}(h:Pl.aZ xs){a:Option Addr}{cap:Nat}:∀i,i<xs.length->Sd ⟨a,xs.length,cap,xs,Pl.tx Pl.iF xs⟩ (i:Int) (Pl.nd xs i).k (Pl.tx Pl.iF xs i):=by
 obtain⟨h1,h2,l,hl,-,hN⟩:=h;have O:=Pl.yS hl;obtain⟨N,hNe⟩:∃N:Ns,N=⟨a,xs.length,cap,xs,Pl.tx Pl.iF xs⟩:=⟨_,rfl⟩;rw[<- hNe];have e1:N.len=xs.length:=by rw[hNe]
 have e2:N.xs=xs:=by rw[hNe]
 have e3:N.T=Pl.tx Pl.iF xs:=by rw[hNe]
 clear hNe;have kid:∀i,i<xs.length->∀k∈(Pl.nd xs i).kids,0<=k/\k<i:=fun i hi k hk=>by
  obtain⟨c,rfl,hc,-⟩:=O.kid i hi k hk;omega
 have hBt:∀b y,b<N.len->Bs N b->N.xs.getD b Pl.Nd.zero=y->Bt N b y:=fun b y hb hs hy=>by
  rw[e1]at hb;have D:=hN b hb;have ht:=Pl.xL Pl.iF xs b (kid b hb);have hm:=D.mark;have hx:=(Pl.FR D.text).2.2.2;unfold Bs at hs;rw[e2]at hs hy;unfold Bt;rw[e3,ht];rw[hy]at hs ⊢;unfold Pl.nd at hm hx;rw[hy]at hm hx;rcases hs with hk|hk|hk
  ·exact .inl ⟨hk,(hx hk).1,(hx hk).2,by simp[Pl.aR,hk,Pl.uW]⟩
  ·refine .inr (.inl ?_);have:1<=y.m/\y.m<=3:=(by simpa [Pl.CL,hk] using hm);exact⟨hk,this.1,this.2,by simp[Pl.aR,hk,Pl.uW]⟩
  ·exact .inr (.inr ⟨hk,by simp[Pl.aR,hk,Pl.uW]⟩)
 intro i
 induction i using Nat.strongRecOn with
 | _ i ih=>
  intro hi;have D:=hN i hi;have ht:Pl.tx Pl.iF xs i=Pl.aR Pl.iF (Pl.nd xs i) ((Pl.nd xs i).kids.map fun k=>Pl.tx Pl.iF xs k.toNat):=Pl.xL Pl.iF xs i (kid i hi);obtain⟨hz,hz2,hn,-⟩:=Pl.FR D.text;have hs:=D.sort;have hm:=D.mark;have hr:=Pl.Rf hs;have hf:=Pl.DT (k:=(Pl.nd xs i).k.toNat) (by omega) (ks:=Pl.kinds xs i) (by rw[Pl.aX];have:=O.few i hi;omega) D.kids;have V:Nk N Pl.iF i (Pl.nd xs i) ((Pl.nd xs i).kids.map fun k=>Pl.tx Pl.iF xs k.toNat):=by
   refine⟨by rw[e1];exact hi,by rw[e2],List.length_map ..,?_,fun j hj=>?_,hz,hz2,hn⟩
   ·have:=hf.1;have:=hf.2.1;rw[Pl.aX] at *;omega
   ·have q:=hf.2.2 j (by rw[Pl.aX];exact hj);rw[Pl.rM xs hj]at q;have hmem:(Pl.nd xs i).kids.getD j 0∈(Pl.nd xs i).kids:=by
     rw[List.getD_eq_getElem?_getD,List.getElem?_eq_getElem hj];exact List.getElem_mem _
    obtain⟨c,ec,hc,-⟩:=O.kid i hi _ hmem;rw[Pl.zS hj,ec];rw[ec]at q;exact⟨_,q,ih c hc (by omega)⟩
  generalize hx:Pl.nd xs i=x at *;generalize x.kids.map (fun k=>Pl.tx Pl.iF xs k.toNat)=ks at *;rw[ht];have hxs:N.xs.getD i Pl.Nd.zero=x:=V.hx;have EX:Pl.aH x.k=8->Wx N 56 [.int .i64 (i:Int)] (Pl.aR Pl.iF x ks).pr:=fun h8=>aC0 V h8 hm (fun e=>by unfold Pl.iF;rw[if_pos e]) (fun e=>by unfold Pl.iF;rw[if_neg (by omega)]);have TP:Pl.aH x.k=5\/Pl.aH x.k=10->Wx N 15 [.int .i64 (i:Int)] (Pl.aR Pl.iF x ks).pr:=fun h5=>by
   by_cases h10:x.k=10
   ·exact Xq V h10 hm
   ·exact aEK V (by rcases h5 with h5|h5 <;> (unfold Pl.aH at h5;(repeat' split at h5) <;> omega))
  have AR:Pl.aH x.k=1->Ar N (i:Int) (Pl.aR Pl.iF x ks)/\((Pl.aR Pl.iF x ks).sf=true↔x.k=3\/x.k=4):=fun h1=>by
   have:=Pl.aGJ h1;have hk:x.k=1\/x.k=2\/x.k=3\/x.k=4\/x.k=5\/x.k=6:=(by omega);have hT:Pl.aR Pl.iF x ks=N.T i:=(by rw[e3,ht]);rcases hk with hk|hk|hk|hk|hk|hk
   ·exact⟨FP V (.inl hk) hT (by simp[Pl.aR,hk,Pl.uW]),by simp[Pl.aR,hk,Pl.uW]⟩
   ·exact⟨Qg V hk,by simp[Pl.aR,hk,Pl.uW]⟩
   ·exact⟨SX V (.inl hk),by simp[Pl.aR,hk,Pl.uW]⟩
   ·exact⟨SX V (.inr hk),by simp[Pl.aR,hk,Pl.uW]⟩
   ·exact⟨FP V (.inr (.inl hk)) hT (by simp[Pl.aR,hk,Pl.uW]),by simp[Pl.aR,hk,Pl.uW]⟩
   ·exact⟨FP V (.inr (.inr hk)) hT (by simp[Pl.aR,hk,Pl.uW]),by simp[Pl.aR,hk,Pl.uW]⟩
  have K0:∀ {l:Int},Pl.lets x.k 1=[l]->1<=(Pl.rG (Pl.dM.getD x.k.toNat [])).1.length->0<x.kids.length/\Kd N l (x.kids.getD 0 0) (ks.getD 0 Pl.Tx.no):=fun {l} hl h1=>by
   have h2:=Nat.le_trans h1 V.kf.1;have h3:=V.kd 0 h2;have h4:(Pl.lets x.k 1).getD 0 0=l:=(by rw[hl];rfl);exact⟨h2,h4 ▸ h3⟩
  refine⟨EX,fun h8=>Dy V h8 (EX h8),fun h=>aCc V h EX,fun h=>?_,TP,fun h s hs=>Ey (AR h).1 hBt s hs,AR,i,x,rfl,V.hi,hxs,rfl,fun hk=>by simp[Pl.aR,hk,Pl.nD],fun hk=>?_,fun hk=>?_⟩
  ·by_cases h17:x.k=17
   ·exact Nl V h17
   by_cases h24:x.k=24
   ·exact Nn V h24
   exact aC2 V h h17 h24 fun e=>TP (.inr (by rw[e];decide))
  ·obtain⟨q1,k,q2,S⟩:=K0 (l:=101) (by rw[hk];rfl) (by rw[hk];decide);refine⟨q1,?_⟩;have e:(Pl.aR Pl.iF x ks).th=(ks.getD 0 Pl.Tx.no).pr:=(by simp[Pl.aR,hk]);rw[e];exact S.ex (Pl.Af q2)
  ·rcases hk with hk|hk;all_goals
    obtain⟨q1,k,q2,S⟩:=K0 (l:=116) (by rw[hk];rfl) (by rw[hk];decide);refine⟨q1,by simp[Pl.aR,hk,Pl.nD],_,S.dc (Pl.tN q2) x.s (V.sz (by omega)),by simp[Pl.aR,hk,Pl.nD]⟩
end W
set_option maxRecDepth 4000
namespace W
open Go.RowKit
def aAX (xs:List Pl.Nd) (T:List UInt8) (w:World) (e:Ending) (w':World):Prop:=∃v b t,e=.returned (.tuple #[v,.bool b])/\w'.ownsRow w.heap.size 5 1 v t.length (Pl.bl t)/\Bw w w'/\b=Pl.uN (Pl.aZ xs)/\t=if b=true then T else []
theorem OH {lo:Nat}(a:Option Addr) (len cap:Nat) (xs:List Pl.Nd) (w:World) (h:aT lo w a len cap xs) (hwf:Pl.NN xs) (hk:∀i,i<len->(Pl.nd xs i).kids.length<=1048576) (hs:∀i,i<len->(Pl.nd xs i).s.size<=1048576) (hr:Pl.aZ xs->(Pl.tx Pl.iF xs (len-1)).pr.length<=Pl.room) :
  Calls Tryz.prog 5 #[.agg #[.slice a len cap]] w fun e w'=>aAX xs (Pl.tx Pl.iF xs (len-1)).pr w e w':=by
 obtain⟨R,hR⟩:∃R,R=Pl.uN (Pl.aZ xs):=⟨_,rfl⟩;have TO:Hid (∀y,Bw w y->Calls Tryz.prog 14 #[.agg #[.slice a len cap]] y fun e w'=>e=.returned (.bool R)/\Bw y w'):=fun y d=>by rw[hR];exact JD a len cap xs y (h.keep d) hwf hk hs
 have HRR:Hid (R=Pl.uN (Pl.aZ xs)):=hR;obtain⟨T,hT⟩:∃T,T=(Pl.tx Pl.iF xs (len-1)).pr:=⟨_,rfl⟩;rw[<- hT]at hr ⊢;have hm:(len:Int)<=9223372036854775807:=by have:=h.2.1;have h3:=h.2.2.1;unfold maxLen at h3;omega
 have hxl:=h.1.1;have HW:Hid (Ns.On ⟨a,len,cap,xs,Pl.tx Pl.iF xs⟩ w.heap.size w):=⟨w,lo,Nat.le_refl _,h,Below.refl _ _⟩;clear hwf hk hs h;by_cases ok:Pl.aZ xs
 ·have e:R=true:=hR.trans (Pl.nM ok);subst e;have hr2:=hr ok;have hsd:∀i,i<len->Sd ⟨a,len,cap,xs,Pl.tx Pl.iF xs⟩ (i:Int) (Pl.nd xs i).k (Pl.tx Pl.iF xs i):=by have:=aDv ok (a:=a) (cap:=cap);rwa [hxl]at this
  obtain⟨h1,h2,l,hl,-,hN⟩:=ok;have O:=Pl.yS hl;have D:=hN (len-1) (by omega);obtain⟨N,hNe⟩:∃N:Ns,N=⟨a,len,cap,xs,Pl.tx Pl.iF xs⟩:=⟨_,rfl⟩;rw[<- hNe]at HW hsd;have e1:N.a=a/\N.len=len/\N.cap=cap/\N.xs=xs:=by rw[hNe];exact⟨rfl,rfl,rfl,rfl⟩
  obtain⟨rfl,rfl,rfl,rfl⟩:=e1;obtain⟨x,hx⟩:∃x,Pl.nd N.xs (N.len-1)=x:=⟨_,rfl⟩;obtain⟨b,off,v,ea,hb,c,K,hi⟩:=HW.o.node (i:=N.len-1) (by omega) hx;have hk:x.k=15:=by have:=D.unit.2 (by omega);rw[hx]at this;exact this
  have ht:=Pl.xL Pl.iF N.xs (N.len-1) (fun k hk=>by obtain⟨c,rfl,hc,-⟩:=O.kid _ (by omega) k hk;omega);have hf:=Pl.DT (k:=15) (by decide) (ks:=Pl.kinds N.xs (N.len-1)) (by rw[Pl.aX];have:=O.few (N.len-1) (by omega);omega) (by have:=D.kids;rw[hx,hk]at this;exact this);have X:∀j,j<v.len->Wu N w.heap.size w 15 [.int .i64 (x.kids.getD j 0)] ((x.kids.map fun k=>Pl.tx Pl.iF N.xs k.toNat).getD j Pl.Tx.no).pr:=fun j hj=>by
   have hj:j<x.kids.length:=(by rw[<- K.1];exact hj);have q:=hf.2.2 j (by rw[Pl.aX,hx];exact hj);rw[Pl.rM N.xs (by rw[hx];exact hj),hx]at q;have hmem:x.kids.getD j 0∈(Pl.nd N.xs (N.len-1)).kids:=by
    rw[hx,List.getD_eq_getElem?_getD,List.getElem?_eq_getElem hj];exact List.getElem_mem _
   obtain⟨c,ec,hc,-⟩:=O.kid _ (by omega) _ hmem;rw[Pl.zS hj,ec];rw[ec]at q;exact ((hsd c (by omega)).tp (Pl.aDU q)).u
  have Td:T=Pl.wF (x.kids.map fun k=>Pl.tx Pl.iF N.xs k.toNat):=by
   rw[hT,ht];have:N.xs.getD (N.len-1) Pl.Nd.zero=x:=hx;rw[this];simp[Pl.aR,hk,Pl.nD]
  have HKL:Hid (v.len=x.kids.length/\v.len<=v.cap/\v.cap<=maxLen):=⟨K.1,K.2.1,K.2.2.1⟩;obtain⟨-,-,-,k4⟩:=K;generalize hks:x.kids.map (fun k=>Pl.tx Pl.iF N.xs k.toNat)=ks at *;have Ob:Hid (ks.length=v.len):=by rw[<- hks,List.length_map];exact HKL.o.1.symm
  have HT2:Hid (T=Pl.wF ks/\T.length<=Pl.room):=⟨Td,hr2⟩;have hl1:(0:Int)<=(N.len:Int)-1:=by omega
  have hl2:(N.len:Int)-1<(N.len:Int):=by omega
  have hl3:((N.len:Int)-1).toNat=N.len-1:=by omega
  have hv9:(v.len:Int)<=9223372036854775807:=by have:=HKL.o;unfold maxLen at this;omega
  have HEA:Hid (N.a=some ⟨b,off,none⟩):=ea;clear ea hT hr hr2 Td hsd hks hf ht D O hN hl h1 h2 hNe hx hk hR;go_in;go_upto_region 1 with fail
  refine aG fun y hy=>?_;have D:Hid (Bw w y):=by rw[hy];exact aA w _
  have QT:Hid (y.heap[w.heap.size]?=some (.cells #[.slice N.a N.len N.cap] 31)):=by rw[hy];exact heap_alloc_new w _
  clear hy;have q1:y.cell? ⟨w.heap.size,0,none⟩=some (.slice N.a N.len N.cap):=cell_of_row y w.heap.size 0 _ 31 (0,0) QT.o;go_upto_region 3 with ((with_reducible show Calls _ _ _ _ _);refine (TO.o _ D.o).mono ?_;rintro e z ⟨rfl,d⟩;have D2:Hid (Bw w z):=D.o.trans (d.mono D.o.size);have QT2:Hid (z.heap[w.heap.size]?=some (.cells #[.slice N.a N.len N.cap] 31)):=(d.block _ (Array.getElem?_eq_some_iff.1 QT.o).1).trans QT.o;clear d)
  have q2:∀o:Obj,(z.alloc o).cell? ⟨w.heap.size,0,none⟩=some (.slice N.a N.len N.cap):=fun o=>cell_of_row _ w.heap.size 0 _ 31 (0,0) ((Below.heap_alloc z o _ (Array.getElem?_eq_some_iff.1 QT2.o).1).trans QT2.o);have q3:z.cell? ⟨w.heap.size,0,none⟩=some (.slice N.a N.len N.cap):=cell_of_row z w.heap.size 0 _ 31 (0,0) QT2.o;have q4:∀(o:Obj) (k j:Nat),k<w.heap.size->(z.alloc o).cell? ⟨k,j,none⟩=w.cell? ⟨k,j,none⟩:=fun o k j hk=>(D2.o.trans ((aA z o).mono D2.o.size)).cell (p:=⟨k,j,none⟩) hk;clear q1;have ea:=HEA.o;go_upto_region 5 with fail
  refine aG fun y3 hy3=>?_;have S:Sg N w.heap.size z.heap.size w T (Pl.wF ks) y3:=by
   have d3:Bw w y3:=(by rw[hy3];exact D2.o.trans ((aA z _).mono D2.o.size));refine⟨⟨[],HT2.o.1.symm,⟨.slice none 0 0,?_,World.ownsRow_nil _ _ 5 1⟩,D2.o.size⟩,HT2.o.2,Fr.below d3 (Nat.le_refl _),HW.o.step d3⟩;rw[hy3,ea];exact heap_alloc_new z _
  generalize z.heap.size=gp at S ⊢;clear hy3 q2 q3 q4 c ea HEA;have F:=S.ce;go_wp2_with fail
  go_loopw [6] (fun i wr=>∃k:Nat,i=.int .i64 (k:Int)/\k<=v.len/\Sg N w.heap.size gp w T (Pl.wF (ks.drop k)) wr) (fun i _=>v.len-(intOf i).toNat)
  case atStart=>exact⟨0,rfl,Nat.zero_le _,S⟩
  case round=>
   clear S F;obtain⟨k,rfl,hkk,S⟩:=hrel;have F:=S.ce;by_cases hlt:k<v.len
   ·have hi9:(k:Int)<(v.len:Int):=(by omega);rcases k4 with k4|⟨b9,o9,Bn,eb,ec⟩
    ·omega
    have q:=ec k hlt;have X1:=X k hlt;rw[Pl.Bl (by have:=Ob.o;omega)]at S;generalize x.kids.getD k 0=c at q X1;rw[Bn];clear ec X Bn;go_wp2_with ((with_reducible show Calls _ _ _ _ _);((with_reducible refine S.call.mono ?_);clear S F;rintro e z ⟨rfl,S,-⟩;have F:=S.ce))
    go_roundw
    case rel=>exact⟨k+1,by go_num,by omega,S⟩
    case measure=>simp[intOf];omega
   ·have hi9:¬(k:Int)<(v.len:Int):=(by omega);rw[List.drop_eq_nil_of_le (by have:=Ob.o;omega)]at S;obtain⟨Wf,df⟩:=Sg.fin (show Sg N w.heap.size gp w T [] wr from S);obtain⟨vo,sZ,ho⟩:=Wf.ex;have k1:wr.cell? ⟨gp,1,none⟩=some vo:=(by rw[cell_of_row wr gp 1 _ 42 (0,0) sZ];rfl);have HO:Hid (wr.ownsRow w.heap.size 5 1 vo T.length (Pl.bl T)/\Bw w wr):=⟨ho,df.b⟩;clear sZ ho df Wf;go_wp2;go_ret2;exact⟨vo,true,T,rfl,HO.o.1,HO.o.2,HRR.o,(if_pos rfl).symm⟩
 ·have e:R=false:=hR.trans (Pl.oQ ok);subst e;clear hR hT hr ok hxl HW;go_in;go_wp2_with ((with_reducible show Calls _ _ _ _ _);refine (TO.o _ (aA w _)).mono ?_;rintro e z ⟨rfl,d⟩;have D2:Hid (Bw w z):=(aA w _).trans (d.mono (by simp));clear d)
  go_ret2;refine⟨_,false,[],rfl,World.ownsRow_lit (base:=w.heap.size) (e:=5) (size:=1) z #[] 0 D2.o.size (by unfold maxLen;omega) rfl,D2.o.trans ((aA z _).mono D2.o.size),HRR.o,rfl⟩
end W
end Go.Proofs.YtjcdiegfnoaedaaGreatDoor
