import Derived.Test.YtjcdiegfnoaedaaGreatDoorZ41
set_option linter.unusedVariables false
set_option linter.unusedSimpArgs false
set_option maxHeartbeats 16000000
namespace Go.Proofs.YtjcdiegfnoaedaaGreatDoor
namespace Pl
structure RlS (r:Rl):Prop where
 xO:0<=r.xO/\r.xO<4294967296
 more:0<=r.more/\r.more<4294967296
 kids:∀z∈r.kids,0<=z/\z<4294967296
 most:0<=r.most/\r.most<=4000
 len:r.kids.length<=10
theorem aDu:∀k:Fin 50,(0<=(DL.getD k.val Rl.zero).xO/\(DL.getD k.val Rl.zero).xO<4294967296)/\(0<=(DL.getD k.val Rl.zero).more/\(DL.getD k.val Rl.zero).more<4294967296)/\(∀z∈(DL.getD k.val Rl.zero).kids,0<=z/\z<4294967296)/\(0<=(DL.getD k.val Rl.zero).most/\(DL.getD k.val Rl.zero).most<=4000)/\(DL.getD k.val Rl.zero).kids.length<=10:=by decide +kernel
theorem UQ (k:Int):RlS (rl k):=by
 by_cases h:0<=k/\k<=49
 ·obtain⟨n,rfl⟩:∃n:Nat,k=n:=⟨k.toNat,by omega⟩;have hn:n<50:=by omega
  obtain⟨a,b,c,d,e⟩:=aDu ⟨n,hn⟩;rw[zX hn];exact⟨a,b,c,d,e⟩
 ·rw[yU (by omega)];exact⟨by decide,by decide,fun z hz=>(by cases hz),by decide,by decide⟩
theorem aAW (a b:Nat) (ha:a<4294967296) (hb:b<4294967296):bits .and .i64 (a:Int) (b:Int)=((a &&& b:Nat):Int):=by
 show IntKind.i64.wrap (((BitVec.ofInt 64 (a:Int) &&& BitVec.ofInt 64 (b:Int)).toNat:Nat):Int)=_;have e1:(BitVec.ofInt 64 (a:Int)).toNat=a:=by rw[BitVec.toNat_ofInt];omega
 have e2:(BitVec.ofInt 64 (b:Int)).toNat=b:=by rw[BitVec.toNat_ofInt];omega
 have h:a &&& b<=a:=Nat.and_le_left;rw[BitVec.toNat_and,e1,e2,IntKind.wrap_i64];omega
theorem and_zero {x y:Int}(hx:0<=x/\x<4294967296) (hy:0<=y/\y<4294967296):(bits .and .i64 x y == 0)=decide (x.toNat &&& y.toNat=0):=by
 have:=aAW x.toNat y.toNat (by omega) (by omega);rw[Int.toNat_of_nonneg hx.1,Int.toNat_of_nonneg hy.1]at this;rw[this,Bool.eq_iff_iff];simp
end Pl
namespace W
open Go.RowKit
theorem Re {P:Program}{c:Code}{Q:Exit->Act->World->Prop}{a:Act}{W:World}(h:∀U,U=W->c.wp P Q a U):c.wp P Q a W:=h W rfl
theorem rF {lo:Nat}{w:World}{a:Option Addr}{len cap:Nat}{zs:List Int}(h:Row .i64 lo w a len cap zs){i:Nat}(hi:i<len):∃b off,a=some ⟨b,off,none⟩/\b<w.heap.size/\w.cell? ⟨b,off+i,none⟩=some (.int .i64 (zs.getD i 0)):=by
 obtain⟨_,_,_,_,h5⟩:=h;rcases h5 with h5|⟨b,off,ha,_,hb,hc⟩
 ·omega
 ·exact⟨b,off,ha,hb,hc i hi⟩
set_option maxRecDepth 8000 in
theorem Ij {lo lo2:Nat}(gc:Nat) (a:Option Addr) (len cap:Nat) (xs:List Pl.Nd) (va:Option Addr) (vl vc:Nat) (ks:List Int) (r:Pl.Rl) (v:SV) (w:World) (hc:w.cell? ⟨gc,0,none⟩=some (.slice a len cap)) (hn:aT lo w a len cap xs) (hk:Row .i64 lo w va vl vc ks) (hv:Row .i64 lo2 w v.a v.len v.cap r.kids) (hin:∀q,q<vl->∃c:Nat,ks.getD q 0=(c:Int)/\c<len) (hrs:Pl.RlS r) :
  Calls Tryz.prog 66 #[.pointer (some ⟨gc,0,none⟩),.slice va vl vc,.agg #[.int .i64 r.xO,.int .i64 r.word,.int .i64 r.uZ,.int .i64 r.pQ,.int .i64 r.xP,.int .i64 r.rX,.slice v.a v.len v.cap,.int .i64 r.more,.int .i64 r.most]] w fun e w'=>e=.returned (.bool (Pl.uN (Pl.kI r (ks.map fun c=>(Pl.nd xs c.toNat).k))))/\Bw w w':=by
 obtain⟨R,hR⟩:∃R,R=Pl.uN (Pl.kI r (ks.map fun c=>(Pl.nd xs c.toNat).k)):=⟨_,rfl⟩;rw[<- hR];have HR:Hid (R=Pl.uN (Pl.kI r (ks.map fun c=>(Pl.nd xs c.toNat).k))):=hR;have hvl:(vl:Int)<=9223372036854775807:=by have:=hk.small;omega
 have HKL:Hid (ks.length=vl):=hk.1;have hfl:r.kids.length=v.len:=hv.1;have HFL:Hid (r.kids.length=v.len):=hfl;have aGG:v.len<=10:=by have:=hrs.len;omega
 have hm:=hrs.most;have HRS:Hid (Pl.RlS r):=hrs;have HC:Hid (w.cell? ⟨gc,0,none⟩=some (.slice a len cap)):=hc;have HN:Hid (aT lo w a len cap xs):=hn;have HK:Hid (Row .i64 lo w va vl vc ks):=hk;have HV:Hid (Row .i64 lo2 w v.a v.len v.cap r.kids):=hv;have CG:Hid (∀q,q<vl->∃c:Nat,ks.getD q 0=(c:Int)/\c<len):=hin;have PH:Hid (∀(n a b:Int) (u:World),Calls Tryz.prog 64 #[.int .i64 n,.int .i64 a,.int .i64 b] u fun e w'=>e=.returned (.bool (decide (a<=n/\n<=b)))/\w'=u):=fun n a b u=>lC n a b u;have HRN:Hid (∀(k:Int) (u:World),Calls Tryz.prog 63 #[.int .i64 k] u fun e w'=>zH (Pl.rl k) u e w'):=fun k u=>wP k u;have hgc:gc<w.heap.size:=block_lt_of_cell hc;clear hR hc hn hk hv hin hfl hrs;obtain⟨rs,sJ,qV,qW,rC,rD,rk,pM,sV⟩:=r;simp only at hm;obtain⟨hm1,hm2⟩:=hm;obtain⟨fa,fl,fc⟩:=v;simp only at aGG;by_cases hwi:(fl:Int)<=(vl:Int)/\(vl:Int)<=(fl:Int)+sV
 rotate_left
 ·have HF:Hid (R=false):=by
   show R=false;rw[HR.o];refine Pl.oQ fun q=>hwi ?_;have h1:=q.1;have h2:=q.2.1;have e1:=HFL.o;have e2:=HKL.o;simp only[List.length_map]at h1 h2;simp only at e1;omega
  have hwb:decide ((fl:Int)<=(vl:Int)/\(vl:Int)<=(fl:Int)+sV)=false:=decide_eq_false hwi;go_enter Tryz.func66,Tryz.ntmps66;go_wp2_with (go_at_call 64;refine (PH.o _ _ _ _).mono ?_;rintro e u1 ⟨rfl,g1⟩;rw[g1,hwb];clear g1 u1)
  go_ret;exact⟨aC HF.o.symm,aA _ _⟩
 have hwb:decide ((fl:Int)<=(vl:Int)/\(vl:Int)<=(fl:Int)+sV)=true:=decide_eq_true hwi;have aGH:Hid ((fl:Int)<=(vl:Int)/\(vl:Int)<=(fl:Int)+sV):=hwi;clear hwi;go_enter Tryz.func66,Tryz.ntmps66;go_wp2_with (go_at_call 64;refine (PH.o _ _ _ _).mono ?_;rintro e u1 ⟨rfl,g1⟩;rw[g1,hwb];clear g1 u1)
 refine Re fun w0 hw0=>?_;have HB0:Hid (Bw w w0):=by rw[hw0];exact aA _ _
 have q0:w0.heap[w.heap.size]?=some (.cells #[.int .i64 rs,.int .i64 sJ,.int .i64 qV,.int .i64 qW,.int .i64 rC,.int .i64 rD,.slice fa fl fc,.int .i64 pM,.int .i64 sV] 121 (0,0)):=by rw[hw0];exact heap_alloc_new w _
 have hz0:w.heap.size<w0.heap.size:=(Array.getElem?_eq_some_iff.1 q0).1;have HKC:Hid (∀u:World,Bw w0 u->u.cell? ⟨w.heap.size,6,none⟩=some (.slice fa fl fc)/\u.cell? ⟨w.heap.size,7,none⟩=some (.int .i64 pM)):=fun u hu=>by
  have f:=fun j=>cell_of_row u w.heap.size j _ 121 (0,0) ((hu.block _ hz0).trans q0);exact⟨f 6,f 7⟩
 have HCC:Hid (∀u:World,Bw w0 u->u.cell? ⟨gc,0,none⟩=some (.slice a len cap)):=fun u hu=>(hu.cell (p:=⟨gc,0,none⟩) (by show gc<w0.heap.size;omega)).trans ((HB0.o.cell (p:=⟨gc,0,none⟩) hgc).trans HC.o);have nJ:Hid (∀u:World,Bw w0 u->Bw w u):=fun u hu=>HB0.o.trans (hu.mono (by omega));clear hw0 q0;go_loopw [25] (fun vi wr=>∃q:Nat,q<=vl/\vi=.int .i64 q/\Bw w0 wr/\Hid (∀p,p<q->(Pl.rl (Pl.nd xs (ks.getD p 0).toNat).k).xO.toNat &&& (if p<fl then rk.getD p 0 else pM).toNat≠0)) (fun i _=>vl-(intOf i).toNat)
 case atStart=>exact⟨0,Nat.zero_le _,rfl,Below.refl _ _,fun p hp=>absurd hp (Nat.not_lt_zero _)⟩
 case round=>
  obtain⟨q,hq,rfl,hb,HA⟩:=hrel;have HB:Hid (Bw w0 wr):=hb;clear hb;by_cases hlt:q<vl
  rotate_left
  ·have hqe:q=vl:=(by omega);have hi:¬((q:Int)<(vl:Int)):=(by omega);have HF:Hid (R=true):=by
    show R=true;rw[HR.o];have e1:=HFL.o;have e2:=HKL.o;have e3:=aGH.o;change rk.length=fl at e1;refine Pl.nM ⟨?_,?_,fun p hp=>?_⟩
    ·simp only[List.length_map];omega
    ·simp only[List.length_map];omega
    ·simp only[List.length_map]at hp;have:=HA.o p (by omega);rw[List.getD_eq_getElem?_getD,List.getElem?_map,List.getElem?_eq_getElem hp];rw[List.getD_eq_getElem?_getD (l:=ks),List.getElem?_eq_getElem hp]at this;rw[e1];exact this
   go_wp2_with fail
   go_ret;exact⟨aC HF.o.symm,nJ.o _ HB.o⟩
  have hi:(q:Int)<(vl:Int):=by omega
  obtain⟨c,hc1,hcl⟩:=CG.o q hlt;have N7:(c:Int)<(len:Int):=by omega
  obtain⟨b2,o2,hva,hb2,hcz⟩:=rF (HK.o.keep (nJ.o wr HB.o)) hlt;rw[hc1]at hcz;obtain⟨b3,o3,v3,ha,_,hb3,hc3,_,_⟩:=(HN.o.keep (nJ.o wr HB.o)).at hcl;have ck:=(iT hc3).1;obtain⟨kc,hkc⟩:∃kc,kc=(Pl.nd xs c).k:=⟨_,rfl⟩;change wr.cell? _=some (.int .i64 (Pl.nd xs c).k) at ck;rw[<- hkc]at ck;have hcc:=HCC.o wr HB.o;rw[ha]at hcc;obtain⟨k6,k7⟩:=HKC.o wr HB.o;subst hva;obtain⟨W0,hW0⟩:∃W0:Int,W0=(if q<fl then rk.getD q 0 else pM):=⟨_,rfl⟩;have HW0:Hid (W0=(if q<fl then rk.getD q 0 else pM)):=hW0;have HRK:Hid (∀u:World,Calls Tryz.prog 63 #[.int .i64 kc] u fun e w'=>zH (Pl.rl kc) u e w'):=fun u=>HRN.o kc u;have Te:Hid ((Pl.nd xs (ks.getD q 0).toNat).k=kc):=by show _=kc;rw[hc1,Int.toNat_natCast,hkc]
  obtain⟨rr,hrr⟩:∃rr,rr=Pl.rl kc:=⟨_,rfl⟩;have HRR:Hid (rr=Pl.rl kc):=hrr;rw[<- hrr]at HRK;clear hrr;obtain⟨ra,rb,rc,rd,re,rf,rg,rh,rj⟩:=rr;have hfi:∀(u:World) (v:SV),(Instr.field 121 (.agg #[.int .i64 ra,.int .i64 rb,.int .i64 rc,.int .i64 rd,.int .i64 re,.int .i64 rf,.slice v.a v.len v.cap,.int .i64 rh,.int .i64 rj]) 0).run Tryz.prog u=.ok (.int .i64 ra) u:=fun u v=>by simp[Instr.field,go_sem,Tryz.underlying121];rfl
  clear hc3 hkc hc1 hW0;have hsm:=(Pl.UQ kc).xO;rw[<- HRR.o]at hsm;change 0<=ra/\ra<4294967296 at hsm;by_cases hqf:q<fl
  ·have aGI:(q:Int)<(fl:Int):=(by omega);obtain⟨b4,o4,hfa,hb4,hcf⟩:=rF (HV.o.keep (nJ.o wr HB.o)) (i:=q) hqf;change fa=_ at hfa;change wr.cell? _=some (.int .i64 (rk.getD q 0)) at hcf;subst hfa;obtain⟨z,hz⟩:∃z,z=rk.getD q 0:=⟨_,rfl⟩;rw[<- hz]at hcf;have hzb:0<=z/\z<4294967296:=HRS.o.kids z (by rw[hz];exact Pl.nN (by have:=HFL.o;change rk.length=fl at this;show q<rk.length;omega));have HAND:Hid ((bits .and .i64 ra z == 0)=decide (ra.toNat &&& z.toNat=0)):=Pl.and_zero hsm hzb;have ZK:Hid (W0=z):=(by show W0=z;rw[HW0.o,if_pos hqf,hz]);clear hz hzb hsm;by_cases hand:ra.toNat &&& z.toNat=0
   ·have hb0:(bits .and .i64 ra z == 0)=true:=(by rw[HAND.o];exact decide_eq_true hand);have HF:Hid (R=false):=by
     show R=false;rw[HR.o];refine Pl.oQ fun qq=>?_;have e2:=HKL.o;have h3:=qq.2.2 q (by rw[List.length_map];omega);rw[List.getD_eq_getElem?_getD,List.getElem?_map,List.getElem?_eq_getElem (by omega)]at h3;have e4:(Pl.nd xs (ks[q]'(by omega)).toNat).k=kc:=(by have:=Te.o;rw[List.getD_eq_getElem?_getD,List.getElem?_eq_getElem (by omega)]at this;exact this);have e5:=HFL.o;change rk.length=fl at e5;have e6:(Pl.rl kc).xO=ra:=(by rw[<- HRR.o]);have e7:(if q<rk.length then rk.getD q 0 else pM)=W0:=(by rw[e5,HW0.o]);change (Pl.rl (Pl.nd xs (ks[q]'(by omega)).toNat).k).xO.toNat &&& (if q<rk.length then rk.getD q 0 else pM).toNat≠0 at h3;rw[e4,e6,e7,ZK.o]at h3;exact h3 hand
    go_wp2_with (go_at_call 63;refine (HRK.o _).mono ?_;rintro e u2 hrl2;obtain⟨v2,rfl,_,d2⟩:=hrl2)
    go_ret;exact⟨aC HF.o.symm,nJ.o _ (HB.o.trans (d2.mono HB.o.size))⟩
   ·have hb0:(bits .and .i64 ra z == 0)=false:=(by rw[HAND.o];exact decide_eq_false hand);go_wp2_with (go_at_call 63;refine (HRK.o _).mono ?_;rintro e u2 hrl2;obtain⟨v2,rfl,_,d2⟩:=hrl2)
    go_roundw
    case rel=>exact⟨q+1,by omega,by go_num,HB.o.trans (d2.mono HB.o.size),fun p hp=>by
     by_cases e:p=q
     ·subst e;have e6:(Pl.rl kc).xO=ra:=(by rw[<- HRR.o]);rw[Te.o,e6,<- HW0.o,ZK.o];exact hand
     ·exact HA.o p (by omega)⟩
    case measure=>simp[intOf];omega
  ·have aGI:¬(q:Int)<(fl:Int):=(by omega);have HAND:Hid ((bits .and .i64 ra pM == 0)=decide (ra.toNat &&& pM.toNat=0)):=Pl.and_zero hsm HRS.o.more;have ZK:Hid (W0=pM):=(by show W0=pM;rw[HW0.o,if_neg hqf]);clear hsm;by_cases hand:ra.toNat &&& pM.toNat=0
   ·have hb0:(bits .and .i64 ra pM == 0)=true:=(by rw[HAND.o];exact decide_eq_true hand);have HF:Hid (R=false):=by
     show R=false;rw[HR.o];refine Pl.oQ fun qq=>?_;have e2:=HKL.o;have h3:=qq.2.2 q (by rw[List.length_map];omega);rw[List.getD_eq_getElem?_getD,List.getElem?_map,List.getElem?_eq_getElem (by omega)]at h3;have e4:(Pl.nd xs (ks[q]'(by omega)).toNat).k=kc:=(by have:=Te.o;rw[List.getD_eq_getElem?_getD,List.getElem?_eq_getElem (by omega)]at this;exact this);have e5:=HFL.o;change rk.length=fl at e5;have e6:(Pl.rl kc).xO=ra:=(by rw[<- HRR.o]);have e7:(if q<rk.length then rk.getD q 0 else pM)=W0:=(by rw[e5,HW0.o]);change (Pl.rl (Pl.nd xs (ks[q]'(by omega)).toNat).k).xO.toNat &&& (if q<rk.length then rk.getD q 0 else pM).toNat≠0 at h3;rw[e4,e6,e7,ZK.o]at h3;exact h3 hand
    go_wp2_with (go_at_call 63;refine (HRK.o _).mono ?_;rintro e u2 hrl2;obtain⟨v2,rfl,_,d2⟩:=hrl2)
    go_ret;exact⟨aC HF.o.symm,nJ.o _ (HB.o.trans (d2.mono HB.o.size))⟩
   ·have hb0:(bits .and .i64 ra pM == 0)=false:=(by rw[HAND.o];exact decide_eq_false hand);go_wp2_with (go_at_call 63;refine (HRK.o _).mono ?_;rintro e u2 hrl2;obtain⟨v2,rfl,_,d2⟩:=hrl2)
    go_roundw
    case rel=>exact⟨q+1,by omega,by go_num,HB.o.trans (d2.mono HB.o.size),fun p hp=>by
     by_cases e:p=q
     ·subst e;have e6:(Pl.rl kc).xO=ra:=(by rw[<- HRR.o]);rw[Te.o,e6,<- HW0.o,ZK.o];exact hand
     ·exact HA.o p (by omega)⟩
    case measure=>simp[intOf];omega
set_option maxRecDepth 8000 in
theorem yM {lo lo2:Nat}(gc:Nat) (a:Option Addr) (len cap:Nat) (xs:List Pl.Nd) (x:Pl.Nd) (va:Option Addr) (vl vc:Nat) (c:Nat) (w:World) (hc:w.cell? ⟨gc,0,none⟩=some (.slice a len cap)) (hn:aT lo w a len cap xs) (hk:Row .i64 lo2 w va vl vc x.kids) (hv:1<=vl) (hc1:x.kids.getD 0 0=(c:Int)) (hcl:c<len) :
  Calls Tryz.prog 101 #[.pointer (some ⟨gc,0,none⟩),.agg #[.int .i64 x.k,.int .i64 x.m,.int .i64 x.n,.string x.s,.slice va vl vc,.int .i64 x.line,.int .i64 x.aQ]] w fun e w'=>e=.returned (.bool (decide (x.s.size=0/\(Pl.nd xs c).k=1/\(Pl.nd xs c).n=1)))/\Bw w w':=by
 obtain⟨R,hR⟩:∃R,R=decide (x.s.size=0/\(Pl.nd xs c).k=1/\(Pl.nd xs c).n=1):=⟨_,rfl⟩;rw[<- hR];have HR:Hid (R=decide (x.s.size=0/\(Pl.nd xs c).k=1/\(Pl.nd xs c).n=1)):=hR;obtain⟨b2,o2,hva,hb2,hcz⟩:=rF hk (i:=0) (by omega);rw[hc1,Nat.add_zero]at hcz;subst hva;obtain⟨b3,o3,v3,ha,_,hb3,hc3,_,_⟩:=hn.at hcl;subst ha;obtain⟨va3,vl3,vc3⟩:=v3;obtain⟨z,hz⟩:∃z,z=xs.getD c Pl.Nd.zero:=⟨_,rfl⟩;have HZ:Hid (z=Pl.nd xs c):=hz;rw[<- hz]at hc3;obtain⟨d0,d1,d2,d3,d4,d5,d6⟩:=iT hc3;have hgc:gc<w.heap.size:=block_lt_of_cell hc;have N7:(c:Int)<(len:Int):=by omega
 have hvi:(0:Int)<(vl:Int):=by omega
 rw[<- HZ.o]at HR;clear hR hc3 hz hk hn hc1;have key:∀o,(∀p:Addr,p.block<w.heap.size->(w.alloc o).cell? p=w.cell? p):=fun o p hp=>(aA w o).cell hp;obtain⟨w1,hw1⟩:∃w1:World,w1=w.alloc (.cells #[.int .i64 x.k,.int .i64 x.m,.int .i64 x.n,.string x.s,.slice (some ⟨b2,o2,none⟩) vl vc,.int .i64 x.line,.int .i64 x.aQ] 45):=⟨_,rfl⟩;have HB1:Hid (Bw w w1):=by rw[hw1];exact aA _ _
 have x1:w1.heap[w.heap.size]?=some (.cells #[.int .i64 x.k,.int .i64 x.m,.int .i64 x.n,.string x.s,.slice (some ⟨b2,o2,none⟩) vl vc,.int .i64 x.line,.int .i64 x.aQ] 45 (0,0)):=by rw[hw1];exact heap_alloc_new w _
 have hz1:w.heap.size<w1.heap.size:=(Array.getElem?_eq_some_iff.1 x1).1;have HX1:Hid (w1.heap[w.heap.size]?=some (.cells #[.int .i64 x.k,.int .i64 x.m,.int .i64 x.n,.string x.s,.slice (some ⟨b2,o2,none⟩) vl vc,.int .i64 x.line,.int .i64 x.aQ] 45 (0,0))):=x1;have n4:w1.cell? ⟨w.heap.size,4,none⟩=some (.slice (some ⟨b2,o2,none⟩) vl vc):=cell_of_row w1 _ 4 _ 45 (0,0) x1;have n3:w1.cell? ⟨w.heap.size,3,none⟩=some (.string x.s):=cell_of_row w1 _ 3 _ 45 (0,0) x1;have e0:w1.cell? ⟨b3,o3+c*7,none⟩=some (.int .i64 z.k):=(HB1.o.cell (p:=⟨b3,o3+c*7,none⟩) hb3).trans d0;have e1:w1.cell? ⟨b3,o3+c*7+1,none⟩=some (.int .i64 z.m):=(HB1.o.cell (p:=⟨b3,o3+c*7+1,none⟩) hb3).trans d1;have e2:w1.cell? ⟨b3,o3+c*7+2,none⟩=some (.int .i64 z.n):=(HB1.o.cell (p:=⟨b3,o3+c*7+2,none⟩) hb3).trans d2;have e3:w1.cell? ⟨b3,o3+c*7+3,none⟩=some (.string z.s):=(HB1.o.cell (p:=⟨b3,o3+c*7+3,none⟩) hb3).trans d3;have e4:w1.cell? ⟨b3,o3+c*7+4,none⟩=some (.slice va3 vl3 vc3):=(HB1.o.cell (p:=⟨b3,o3+c*7+4,none⟩) hb3).trans d4;have e5:w1.cell? ⟨b3,o3+c*7+5,none⟩=some (.int .i64 z.line):=(HB1.o.cell (p:=⟨b3,o3+c*7+5,none⟩) hb3).trans d5;have e6:w1.cell? ⟨b3,o3+c*7+6,none⟩=some (.int .i64 z.aQ):=(HB1.o.cell (p:=⟨b3,o3+c*7+6,none⟩) hb3).trans d6;have g0:w1.cell? ⟨gc,0,none⟩=some (.slice (some ⟨b3,o3,none⟩) len cap):=(HB1.o.cell (p:=⟨gc,0,none⟩) hgc).trans hc;have f0:w1.cell? ⟨b2,o2,none⟩=some (.int .i64 (c:Int)):=(HB1.o.cell (p:=⟨b2,o2,none⟩) hb2).trans hcz;have hb2':b2<w1.heap.size:=by omega
 have aHf:b3<w1.heap.size:=by omega
 have aGK:gc<w1.heap.size:=by omega
 clear d0 d1 d2 d3 d4 d5 d6 hc hcz key x1;go_enter Tryz.func101,Tryz.ntmps101;go_upto_region 1 with fail
 rw[<- hw1];clear hw1
 go_cut [5] from 6 to 15 (fun s5 wx=>s5=.pointer (some ⟨w1.heap.size,0,none⟩)/\wx.heap[w1.heap.size]?=some (.cells #[.int .i64 z.k,.int .i64 z.m,.int .i64 z.n,.string z.s,.slice va3 vl3 vc3,.int .i64 z.line,.int .i64 z.aQ] 45 (0,0))/\Bw w1 wx)
 case first=>
  go_region_with (fail)
  all_goals
   go_wp2_with fail
   go_meet
   exact⟨rfl,heap_alloc_new w1 _,(aA _ _).drew⟩
 case rest=>
 obtain⟨rfl,hx5,hb5⟩:=hcut;obtain⟨y,rfl⟩:∃y:World,y=wc:=⟨_,rfl⟩;have m3:y.cell? ⟨w.heap.size,3,none⟩=some (.string x.s):=(hb5.cell (p:=⟨w.heap.size,3,none⟩) hz1).trans n3;have z0:y.cell? ⟨w1.heap.size,0,none⟩=some (.int .i64 z.k):=cell_of_row y _ 0 _ 45 (0,0) hx5;have z2:y.cell? ⟨w1.heap.size,2,none⟩=some (.int .i64 z.n):=cell_of_row y _ 2 _ 45 (0,0) hx5;have HBF:Hid (Bw w y):=HB1.o.trans (hb5.mono (by omega));clear hx5 hb5 n3 n4 e0 e1 e2 e3 e4 e5 e6 f0 g0;by_cases s0:x.s.size=0
 rotate_left
 ·have s0e:x.s.toList.isEmpty=false:=by rw[<- Bool.not_eq_true,List.isEmpty_iff,Pl.jW];exact s0
  have s0b:(x.s.toList == [])=false:=by simpa using fun q=>s0 ((Pl.jW _).mp q)
  have HF:Hid (R=false):=by show R=false;rw[HR.o];exact decide_eq_false fun q=>s0 q.1
  clear s0;go_wp2_with fail
  go_ret;exact⟨aC HF.o.symm,HBF.o⟩
 have s0e:x.s.toList.isEmpty=true:=by rw[List.isEmpty_iff,Pl.jW];exact s0
 have s0b:(x.s.toList == [])=true:=by simpa using (Pl.jW _).mpr s0
 by_cases q1:z.k=1
 rotate_left
 ·have q1b:(z.k == 1)=false:=by simpa using q1
  have HF:Hid (R=false):=by show R=false;rw[HR.o];exact decide_eq_false fun q=>q1 q.2.1
  clear q1;go_wp2_with fail
  go_ret;exact⟨aC HF.o.symm,HBF.o⟩
 have q1b:(z.k == 1)=true:=by simpa using q1
 by_cases q2:z.n=1
 ·have q2b:(z.n == 1)=true:=by simpa using q2
  have HF:Hid (R=true):=by show R=true;rw[HR.o];exact decide_eq_true ⟨s0,q1,q2⟩
  clear q1 q2;go_wp2_with fail
  go_ret;exact⟨aC HF.o.symm,HBF.o⟩
 ·have q2b:(z.n == 1)=false:=by simpa using q2
  have HF:Hid (R=false):=by show R=false;rw[HR.o];exact decide_eq_false fun q=>q2 q.2.2
  clear q1 q2;go_wp2_with fail
  go_ret;exact⟨aC HF.o.symm,HBF.o⟩
set_option maxRecDepth 8000 in
theorem Ik {lo:Nat}(gc:Nat) (ob:Option Addr) (ol oc:Nat) (o:List Bool) (x:Pl.Nd) (va:Option Addr) (vl vc:Nat) (w:World) (hc:w.cell? ⟨gc,2,none⟩=some (.slice ob ol oc)) (hk:Row .i64 lo w va vl vc x.kids) (hlast:Pl.lastB x.k=true->∃c:Nat,1<=vl/\x.kids.getD (vl-1) 0=(c:Int)/\c<ol/\∃g,ob=some ⟨g,0,none⟩/\g<w.heap.size/\w.cell? ⟨g,c,none⟩=some (.bool (o.getD c false))) :
  Calls Tryz.prog 68 #[.pointer (some ⟨gc,0,none⟩),.agg #[.int .i64 x.k,.int .i64 x.m,.int .i64 x.n,.string x.s,.slice va vl vc,.int .i64 x.line,.int .i64 x.aQ]] w fun e w'=>e=.returned (.bool (Pl.GG o x))/\Bw w w':=by
 obtain⟨R,hR⟩:∃R,R=Pl.GG o x:=⟨_,rfl⟩;rw[<- hR];have HR:Hid (R=Pl.GG o x):=hR;have PG:Hid (x.kids.length=vl):=hk.1;have HK:Hid (Row .i64 lo w va vl vc x.kids):=hk;have hvl:(vl:Int)<=9223372036854775807:=by have:=hk.small;omega
 have hgc:gc<w.heap.size:=block_lt_of_cell hc;have HC:Hid (w.cell? ⟨gc,2,none⟩=some (.slice ob ol oc)):=hc;have HL:Hid (Pl.lastB x.k=true->∃c:Nat,1<=vl/\x.kids.getD (vl-1) 0=(c:Int)/\c<ol/\∃g,ob=some ⟨g,0,none⟩/\g<w.heap.size/\w.cell? ⟨g,c,none⟩=some (.bool (o.getD c false))):=hlast;clear hR hk hlast hc;by_cases kA:x.k=21/\vl=2
 ·obtain⟨k21,j2⟩:=kA;have OE:(x.k == 21)=true:=by simpa using k21
  have j2b:((vl:Int) == 2)=true:=by simp;omega
  have HF:Hid (R=true):=by
   show R=true;rw[HR.o];unfold Pl.GG;rw[decide_eq_true k21,decide_eq_true (by rw[PG.o];exact j2)];rfl
  clear k21 j2;go_enter Tryz.func68,Tryz.ntmps68;go_wp2_with fail
  go_ret;exact⟨aC HF.o.symm,aA _ _⟩
 have FH:Hid ((decide (x.k=21) && decide (x.kids.length=2))=false):=by
  show (decide (x.k=21) && decide (x.kids.length=2))=false;rw[PG.o];simp only[Bool.and_eq_false_iff,decide_eq_false_iff_not];omega
 by_cases hla:Pl.lastB x.k=true
 rotate_left
 ·have HF:Hid (R=false):=by
   show R=false;rw[HR.o];unfold Pl.GG;have e2:decide (x.k=21\/x.k=22\/(24<=x.k/\x.k<=28))=false:=Bool.not_eq_true _ ▸ hla;rw[FH.o,e2];rfl
  have hno:¬(x.k=21\/x.k=22\/(24<=x.k/\x.k<=28)):=fun q=>hla (decide_eq_true q);have n21:(x.k == 21)=false:=by simp;omega
  have n22:(x.k == 22)=false:=by simp;omega
  have n24:(x.k == 24)=false:=by simp;omega
  have n25:(x.k == 25)=false:=by simp;omega
  have n26:(x.k == 26)=false:=by simp;omega
  have n27:(x.k == 27)=false:=by simp;omega
  have n28:(x.k == 28)=false:=by simp;omega
  clear hla hno kA;go_enter Tryz.func68,Tryz.ntmps68;go_wp2_with fail
  go_ret;exact⟨aC HF.o.symm,aA _ _⟩
 obtain⟨c,hv1,hc1,hcl,g,YM,hg,hcell⟩:=HL.o hla;obtain⟨q,hq⟩:∃q:Nat,(vl:Int)-1=(q:Int):=⟨vl-1,by omega⟩;have hqw:IntKind.i64.wrap ((vl:Int)-1)=(q:Int):=by rw[IntKind.wrap_i64];omega
 have MK:q<vl:=by omega
 have aEN:(q:Int)<(vl:Int):=by omega
 have aGL:(c:Int)<(ol:Int):=by omega
 have hqe:vl-1=q:=by omega
 rw[hqe]at hc1;obtain⟨b2,o2,hva,hb2,hcz⟩:=rF HK.o MK;rw[hc1]at hcz;subst hva;subst YM;have HF:Hid (R=o.getD c false):=by
  show R=_;rw[HR.o];unfold Pl.GG;have e2:decide (x.k=21\/x.k=22\/(24<=x.k/\x.k<=28))=true:=hla;have e1:x.kids.length-1=q:=by rw[PG.o];exact hqe
  rw[FH.o,e1,hc1,Int.toNat_natCast,e2];simp
 obtain⟨w1,hw1⟩:∃w1:World,w1=w.alloc (.cells #[.int .i64 x.k,.int .i64 x.m,.int .i64 x.n,.string x.s,.slice (some ⟨b2,o2,none⟩) vl vc,.int .i64 x.line,.int .i64 x.aQ] 45):=⟨_,rfl⟩;have HB1:Hid (Bw w w1):=by rw[hw1];exact aA _ _
 have x1:w1.heap[w.heap.size]?=some (.cells #[.int .i64 x.k,.int .i64 x.m,.int .i64 x.n,.string x.s,.slice (some ⟨b2,o2,none⟩) vl vc,.int .i64 x.line,.int .i64 x.aQ] 45 (0,0)):=by rw[hw1];exact heap_alloc_new w _
 have n0:w1.cell? ⟨w.heap.size,0,none⟩=some (.int .i64 x.k):=cell_of_row w1 _ 0 _ 45 (0,0) x1;have n4:w1.cell? ⟨w.heap.size,4,none⟩=some (.slice (some ⟨b2,o2,none⟩) vl vc):=cell_of_row w1 _ 4 _ 45 (0,0) x1;have g2:w1.cell? ⟨gc,2,none⟩=some (.slice (some ⟨g,0,none⟩) ol oc):=(HB1.o.cell (p:=⟨gc,2,none⟩) hgc).trans HC.o;have f0:w1.cell? ⟨b2,o2+q,none⟩=some (.int .i64 (c:Int)):=(HB1.o.cell (p:=⟨b2,o2+q,none⟩) hb2).trans hcz;have f1:w1.cell? ⟨g,c,none⟩=some (.bool (o.getD c false)):=(HB1.o.cell (p:=⟨g,c,none⟩) hg).trans hcell;obtain⟨ov,hov⟩:∃ov,ov=o.getD c false:=⟨_,rfl⟩;rw[<- hov]at f1 HF;have Jz:Hid (∀n,Bw w (w1.drewN n)):=fun n=>below_drewN HB1.o n;have Jb:Hid (x.k=21\/x.k=22\/(24<=x.k/\x.k<=28)):=by
  show x.k=21\/x.k=22\/(24<=x.k/\x.k<=28);exact of_decide_eq_true hla
 have HKA:Hid (¬(x.k=21/\vl=2)):=kA;clear hov hcell hcz hqe hc1 hla kA x1 HC;by_cases k21:x.k=21
 ·have OE:(x.k == 21)=true:=by simpa using k21
  have j2b:((vl:Int) == 2)=false:=by have:=HKA.o;simp;omega
  clear k21;go_enter Tryz.func68,Tryz.ntmps68;go_upto_region 1 with fail
  rw[<- hw1];clear hw1;go_upto_region 12 with fail
  go_big_quiet (fail)
  go_wp2_with fail
  go_ret;exact⟨aC HF.o.symm,Jz.o _⟩
 by_cases k22:x.k=22
 ·have aEM:(x.k == 22)=true:=by simpa using k22
  have n21:(x.k == 21)=false:=by simp;omega
  clear k22;go_enter Tryz.func68,Tryz.ntmps68;go_upto_region 1 with fail
  rw[<- hw1];clear hw1;go_upto_region 12 with fail
  go_big_quiet (fail)
  go_wp2_with fail
  go_ret;exact⟨aC HF.o.symm,Jz.o _⟩
 by_cases k24:x.k=24
 ·have k24b:(x.k == 24)=true:=by simpa using k24
  have n21:(x.k == 21)=false:=by simp;omega
  have n22:(x.k == 22)=false:=by simp;omega
  clear k24;go_enter Tryz.func68,Tryz.ntmps68;go_upto_region 1 with fail
  rw[<- hw1];clear hw1;go_upto_region 12 with fail
  go_big_quiet (fail)
  go_wp2_with fail
  go_ret;exact⟨aC HF.o.symm,Jz.o _⟩
 by_cases k25:x.k=25
 ·have aHg:(x.k == 25)=true:=by simpa using k25
  have n21:(x.k == 21)=false:=by simp;omega
  have n22:(x.k == 22)=false:=by simp;omega
  have n24:(x.k == 24)=false:=by simp;omega
  clear k25;go_enter Tryz.func68,Tryz.ntmps68;go_upto_region 1 with fail
  rw[<- hw1];clear hw1;go_upto_region 12 with fail
  go_big_quiet (fail)
  go_wp2_with fail
  go_ret;exact⟨aC HF.o.symm,Jz.o _⟩
 by_cases k26:x.k=26
 ·have aHh:(x.k == 26)=true:=by simpa using k26
  have n21:(x.k == 21)=false:=by simp;omega
  have n22:(x.k == 22)=false:=by simp;omega
  have n24:(x.k == 24)=false:=by simp;omega
  have n25:(x.k == 25)=false:=by simp;omega
  clear k26;go_enter Tryz.func68,Tryz.ntmps68;go_upto_region 1 with fail
  rw[<- hw1];clear hw1;go_upto_region 12 with fail
  go_big_quiet (fail)
  go_wp2_with fail
  go_ret;exact⟨aC HF.o.symm,Jz.o _⟩
 by_cases k27:x.k=27
 ·have aHi:(x.k == 27)=true:=by simpa using k27
  have n21:(x.k == 21)=false:=by simp;omega
  have n22:(x.k == 22)=false:=by simp;omega
  have n24:(x.k == 24)=false:=by simp;omega
  have n25:(x.k == 25)=false:=by simp;omega
  have n26:(x.k == 26)=false:=by simp;omega
  clear k27;go_enter Tryz.func68,Tryz.ntmps68;go_upto_region 1 with fail
  rw[<- hw1];clear hw1;go_upto_region 12 with fail
  go_big_quiet (fail)
  go_wp2_with fail
  go_ret;exact⟨aC HF.o.symm,Jz.o _⟩
 by_cases k28:x.k=28
 ·have aHj:(x.k == 28)=true:=by simpa using k28
  have n21:(x.k == 21)=false:=by simp;omega
  have n22:(x.k == 22)=false:=by simp;omega
  have n24:(x.k == 24)=false:=by simp;omega
  have n25:(x.k == 25)=false:=by simp;omega
  have n26:(x.k == 26)=false:=by simp;omega
  have n27:(x.k == 27)=false:=by simp;omega
  clear k28;go_enter Tryz.func68,Tryz.ntmps68;go_upto_region 1 with fail
  rw[<- hw1];clear hw1;go_upto_region 12 with fail
  go_big_quiet (fail)
  go_wp2_with fail
  go_ret;exact⟨aC HF.o.symm,Jz.o _⟩
 exfalso;have:=Jb.o;omega
end W
end Go.Proofs.YtjcdiegfnoaedaaGreatDoor
