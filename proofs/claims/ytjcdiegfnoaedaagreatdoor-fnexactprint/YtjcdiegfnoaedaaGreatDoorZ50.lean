import Derived.Test.YtjcdiegfnoaedaaGreatDoorZ49
import Derived.Test.YtjcdiegfnoaedaaGreatDoorZ43
import Derived.Deep.RegionHeld3
import Derived.Test.YtjcdiegfnoaedaaGreatDoorZ46
import Derived.Test.YtjcdiegfnoaedaaGreatDoorZ48
set_option linter.unusedVariables false
set_option linter.unusedSimpArgs false
set_option maxHeartbeats 16000000
namespace Go.Proofs.YtjcdiegfnoaedaaGreatDoor
namespace W
open Go.RowKit
theorem ZO (x:Pl.Nd) (v:SV) (left:Int) (hl:0<=left/\left<=1048576) (hs:x.s.size<=maxLen) (hv:v.len<=9223372036854775807) (w:World):Calls Tryz.prog 22 #[.agg #[.int .i64 x.k,.int .i64 x.m,.int .i64 x.n,.string x.s,.slice v.a v.len v.cap,.int .i64 x.line,.int .i64 x.aQ],.int .i64 left] w fun e w'=>∃r:Int,e=.returned (.int .i64 r)/\(0<=r->r<=left/\v.len<=1048576/\x.s.size<=1048576)/\Bw w w':=by
 have hs':(x.s.size:Int)<=9223372036854775807:=by unfold maxLen at hs;omega
 clear hs;by_cases c1:(x.s.size:Int)<=left
 rotate_left
 ·go_enter Tryz.func22,Tryz.ntmps22;go_wp2;go_ret;exact⟨-1,rfl,fun q=>absurd q (by decide),aA _ _⟩
 by_cases c2:(x.s.size:Int)+(v.len:Int)<=left
 ·go_enter Tryz.func22,Tryz.ntmps22;go_wp2_with (go_at_call 49;refine (VQ _ _ _ _ hv (by omega) (by omega) _).mono ?_;rintro e w' ⟨rfl,rfl⟩)
  go_ret;exact⟨_,rfl,fun q=>⟨by omega,by omega,by omega⟩,aA _ _⟩
 ·go_enter Tryz.func22,Tryz.ntmps22;go_wp2_with (go_at_call 49;refine (Cs _ _ _ _ hv (by omega) (by omega) _).mono ?_;rintro e w' ⟨rfl,rfl⟩)
  go_ret;exact⟨-1,rfl,fun q=>absurd q (by decide),aA _ _⟩
theorem OJ {lo:Nat}(a:Option Addr) (len cap:Nat) (xs:List Pl.Nd) (left:Int) (hleft:0<=left/\left<=1048576) (w:World) (h:aT lo w a len cap xs):Calls Tryz.prog 13 #[.slice a len cap,.int .i64 left] w fun e w'=>∃r:Int,e=.returned (.int .i64 r)/\(0<=r->r<=left/\len<=1048576/\∀i,i<len->(xs.getD i Pl.Nd.zero).kids.length<=1048576/\(xs.getD i Pl.Nd.zero).s.size<=1048576)/\Bw w w':=by
 have hm:(len:Int)<=9223372036854775807:=by have:=h.2.1;have h3:=h.2.2.1;unfold maxLen at h3;omega
 by_cases hb:left<(len:Int)
 ·go_enter Tryz.func13,Tryz.ntmps13;go_wp2;go_ret;exact⟨-1,rfl,fun q=>absurd q (by decide),Below.refl _ _⟩
 have HR:Hid (aT lo w a len cap xs):=h;clear h;go_enter Tryz.func13,Tryz.ntmps13;go_wp2_with fail
 go_loopw [1,5] (fun v i wr=>∃(k:Nat) (r:Int),k<=len/\i=.int .i64 k/\v=.int .i64 r/\0<=r/\r<=left/\(∀i,i<k->(xs.getD i Pl.Nd.zero).kids.length<=1048576/\(xs.getD i Pl.Nd.zero).s.size<=1048576)/\Bw w wr) (fun _ i _=>len-(intOf i).toNat)
 case atStart=>exact⟨0,left-len,Nat.zero_le _,rfl,rfl,by omega,by omega,fun i hi=>absurd hi (Nat.not_lt_zero _),Below.refl _ _⟩
 case round=>
  obtain⟨k,r,hk,rfl,rfl,hr0,hr1,hall,hbel⟩:=hrel;have HA:Hid (∀i,i<k->(xs.getD i Pl.Nd.zero).kids.length<=1048576/\(xs.getD i Pl.Nd.zero).s.size<=1048576):=hall;have HB:Hid (Bw w wr):=hbel;clear hall hbel;by_cases hlt:k<len
  ·have hi:(k:Int)<(len:Int):=(by omega);obtain⟨b,off,v,rfl,hlo,hb1,hc,hrow,hs⟩:=(HR.o.keep HB.o).at hlt;obtain⟨x,hx⟩:∃x,x=xs.getD k Pl.Nd.zero:=⟨_,rfl⟩;rw[<- hx]at hc hrow hs;obtain⟨c0,c1,c2,c3,c4,c5,c6⟩:=iT hc;have hvl:v.len<=9223372036854775807:=hrow.small;have HX:Hid (x=xs.getD k Pl.Nd.zero/\x.kids.length=v.len):=⟨hx,hrow.1⟩;clear hc hx hrow;go_wp2_with (go_at_call 22;refine (ZO x v r ⟨hr0,by omega⟩ hs hvl _).mono ?_;rintro e u1 ⟨r',rfl,hr',d1⟩)
   ·go_ret;exact⟨_,rfl,fun q=>absurd q (by decide),HB.o.trans (d1.mono HB.o.size)⟩
   ·have hr2:0<=r':=(by omega);obtain⟨hr3,hr4,hr5⟩:=hr' hr2;go_roundw
    case rel=>exact⟨k+1,r',by omega,by go_num,rfl,hr2,by omega,fun i hi=>by
     by_cases e:i=k
     ·rw[e,<- HX.o.1,HX.o.2];exact⟨hr4,hr5⟩
     ·exact HA.o i (by omega),HB.o.trans (d1.mono HB.o.size)⟩
    case measure=>simp[intOf];omega
  ·have hkk:k=len:=(by omega);have hi:¬((k:Int)<(len:Int)):=(by omega);go_wp2;go_ret;exact⟨_,rfl,fun _=>⟨by omega,by omega,fun i hi=>HA.o i (by omega)⟩,HB.o⟩
theorem UY {lo:Nat}(a:Option Addr) (len cap:Nat) (xs:List Pl.Nd) (left:Int) (hleft:0<=left/\left<=1048576) (w:World) (h:aT lo w a len cap xs):Calls Tryz.prog 4 #[.agg #[.slice a len cap],.int .i64 left] w fun e w'=>∃r:Int,e=.returned (.int .i64 r)/\(0<=r->r<=left/\len<=1048576/\∀i,i<len->(xs.getD i Pl.Nd.zero).kids.length<=1048576/\(xs.getD i Pl.Nd.zero).s.size<=1048576)/\Bw w w':=by
 have HR:Hid (aT lo w a len cap xs):=h;clear h;go_enter Tryz.func4,Tryz.ntmps4;go_wp2_with (go_at_call 13;refine (OJ a len cap xs left hleft _ (HR.o.keep (aA _ _))).mono ?_;rintro e u1 ⟨r,rfl,hr,d1⟩;have HQ:Hid (0<=r->r<=left/\len<=1048576/\∀i,i<len->(xs.getD i Pl.Nd.zero).kids.length<=1048576/\(xs.getD i Pl.Nd.zero).s.size<=1048576):=hr;clear hr)
 ·go_ret;exact⟨_,rfl,fun q=>absurd q (by decide),(aA _ _).trans (d1.mono (by simp))⟩
 ·go_ret;exact⟨_,rfl,HQ.o,(aA _ _).trans (d1.mono (by simp))⟩
def OQ (E:World->Prop):Prop:=∀ {lo:Nat}(a:Option Addr) (len cap:Nat) (xs:List Pl.Nd) (w:World),aT lo w a len cap xs->Pl.NN xs->(∀i,i<len->(Pl.nd xs i).kids.length<=1048576)->(∀i,i<len->(Pl.nd xs i).s.size<=1048576)->E w->
 Calls Tryz.prog 17 #[.agg #[.slice a len cap]] w fun e w'=>e=.returned (.bool (Pl.uN (Pl.zD xs)))/\Bw w w'
open Go.RowKit Go.Maps Go.WideMaps
def AY (w:World):Prop:=nR w/\bD w/\iH w
theorem AY.on {w w':World}(h:AY w) (hb:Bw w w'):AY w':=⟨h.1.on hb,h.2.1.below hb,h.2.2.below hb⟩
set_option maxRecDepth 100000 in
theorem JH:OQ AY:=by
 intro lo a len cap xs w h hwf hkl hsl hE;obtain⟨R,hR⟩:∃R,R=Pl.uN (Pl.zD xs):=⟨_,rfl⟩;rw[<- hR];have HR:Hid (R=Pl.uN (Pl.zD xs)):=hR;have VN:Hid (xs.length=len):=h.1.1;have HN:Hid (aT lo w a len cap xs):=h;have HWF:Hid (Pl.NN xs):=hwf;have HSL:Hid (∀i,i<len->(Pl.nd xs i).s.size<=1048576):=hsl;have HE:Hid (AY w):=hE;have hm:(len:Int)<=9223372036854775807:=by have h1:=h.2.1;have h2:=h.2.2.1;unfold maxLen at h2;omega
 clear hR h hwf hkl hsl hE;have ZJ:Hid (¬Pl.zD xs->R=false):=fun q=>by rw[HR.o];exact Pl.oQ q
 obtain⟨w0,hw0⟩:∃w0:World,w0=w.alloc (.cells #[.slice a len cap] 31):=⟨_,rfl⟩;have HB0:Hid (Bw w w0):=by rw[hw0];exact aA _ _
 have q0:w0.heap[w.heap.size]?=some (.cells #[.slice a len cap] 31 (0,0)):=by rw[hw0];exact heap_alloc_new w _
 have hz0:w.heap.size<w0.heap.size:=(Array.getElem?_eq_some_iff.1 q0).1;have K0:Hid (∀u:World,Bw w0 u->u.cell? ⟨w.heap.size,0,none⟩=some (.slice a len cap)):=fun u hu=>cell_of_row u w.heap.size 0 _ 31 (0,0) ((hu.block _ hz0).trans q0);have nJ:Hid (∀u:World,Bw w0 u->Bw w u):=fun u hu=>HB0.o.trans (hu.mono (by omega));have k0:=K0.o w0 (Below.refl _ _);clear q0;by_cases h0:len=0
 ·subst h0;have HF:Hid (R=false):=ZJ.o fun q=>by have:=q.1;have e:=VN.o;omega
  go_enter Tryz.func17,Tryz.ntmps17;go_upto_region 1 with fail
  rw[<- hw0];clear hw0;go_wp2_with fail
  go_ret;exact⟨aC HF.o.symm,HB0.o⟩
 have h0b:((len:Int) == 0)=false:=by simp;omega
 by_cases h4:4000<len
 ·have HF:Hid (R=false):=ZJ.o fun q=>by have:=q.2.1;have e:=VN.o;omega
  have h4b:(4000:Int)<(len:Int):=by omega
  clear h0;go_enter Tryz.func17,Tryz.ntmps17;go_upto_region 1 with fail
  rw[<- hw0];clear hw0;go_wp2_with fail
  go_ret;exact⟨aC HF.o.symm,HB0.o⟩
 have h4b:¬(4000:Int)<(len:Int):=by omega
 have hl4:len<=4000:=by omega
 have hl1:1<=len:=by omega
 obtain⟨q,hq⟩:∃q:Nat,len=q+1:=⟨len-1,by omega⟩;obtain⟨b,off,v,hab,hlo,hbw,hcl,_,_⟩:=HN.o.at (k:=q) (by omega);have HQ:Hid (len=q+1):=hq;have hqw:IntKind.i64.wrap ((len:Int)-1)=(q:Int):=by rw[IntKind.wrap_i64];omega
 have hqi:(len:Int)-1=(q:Int):=by omega
 have KN:(q:Int)<(len:Int):=by omega
 subst hab;obtain⟨z,hz⟩:∃z,z=xs.getD q Pl.Nd.zero:=⟨_,rfl⟩;have HZ:Hid (z=Pl.nd xs q):=hz;rw[<- hz]at hcl;obtain⟨e0,_⟩:=iT hcl;have f0:w0.cell? ⟨b,off+q*7,none⟩=some (.int .i64 z.k):=(HB0.o.cell (p:=⟨b,off+q*7,none⟩) hbw).trans e0;clear e0 hcl hz hq h0 h4;by_cases k15:z.k=15
 rotate_left
 ·have aDk:(z.k == 15)=false:=by simpa using k15
  have aGP:(z.k != 15)=true:=by simpa using k15
  have HF:Hid (R=false):=ZJ.o fun s=>k15 (by have:=s.2.2.1;rw[VN.o,HQ.o]at this;rw[HZ.o];exact this);clear k15;go_enter Tryz.func17,Tryz.ntmps17;go_upto_region 1 with fail
  rw[<- hw0];clear hw0;go_wp2_with fail
  go_ret;exact⟨aC HF.o.symm,HB0.o⟩
 have aDk:(z.k == 15)=true:=by simpa using k15
 have aGP:(z.k != 15)=false:=by simpa using k15
 have H15:Hid ((Pl.nd xs (xs.length-1)).k=15):=by
  show (Pl.nd xs (xs.length-1)).k=15;rw[VN.o,HQ.o,Nat.add_sub_cancel,<- HZ.o];exact k15
 clear k15 HZ;cases hbg:Pl.vP xs len with
 | none=>
  have HF:Hid (R=false):=ZJ.o fun s=>by obtain⟨l,h1,_⟩:=s.2.2.2.1;rw[VN.o,hbg]at h1;cases h1
  have xI:Hid (∀u:World,Bw w0 u->Calls Tryz.prog 36 #[.slice (some ⟨b,off,none⟩) len cap] u fun e w'=>e=.returned (.bool false)/\Bw u w'):=fun u hu=>FX (some ⟨b,off,none⟩) len cap xs u (HN.o.keep (nJ.o u hu)) hl1 hl4 false (fun _=>rfl) (fun l q=>by rw[hbg]at q;cases q);clear hbg;go_enter Tryz.func17,Tryz.ntmps17;go_upto_region 1 with fail
  rw[<- hw0];clear hw0;go_wp2_with (go_at_call 36;refine (xI.o _ (Below.refl _ _)).mono ?_;rintro e u1 ⟨rfl,d1⟩;have D1:Hid (Bw w0 u1):=d1;have k0:=K0.o u1 D1.o;clear d1)
  go_ret;exact⟨aC HF.o.symm,nJ.o _ D1.o⟩
 | some l=>
 have xI:Hid (∀u:World,Bw w0 u->Calls Tryz.prog 36 #[.slice (some ⟨b,off,none⟩) len cap] u fun e w'=>e=.returned (.bool (decide (((l.getD (len-1) 0:Nat):Int)=0)))/\Bw u w'):=fun u hu=>FX (some ⟨b,off,none⟩) len cap xs u (HN.o.keep (nJ.o u hu)) hl1 hl4 _ (fun q=>by unfold Ri at q;rw[hbg]at q;cases q) (fun l2 q=>by rw[hbg]at q;cases q;rfl);have HBG:Hid (Pl.vP xs len=some l):=hbg;have HO:Hid (Pl.qQ xs len l):=Pl.yS hbg;clear hbg;by_cases hl0:l.getD (len-1) 0=0
 rotate_left
 ·have hd:decide (((l.getD (len-1) 0:Nat):Int)=0)=false:=decide_eq_false (by omega);have HF:Hid (R=false):=ZJ.o fun s=>by
   obtain⟨l2,h1,h2⟩:=s.2.2.2.1;rw[VN.o,HBG.o]at h1;cases h1;rw[VN.o]at h2;exact hl0 h2
  rw[hd]at xI;clear hl0 hd;go_enter Tryz.func17,Tryz.ntmps17;go_upto_region 1 with fail
  rw[<- hw0];clear hw0;go_wp2_with (go_at_call 36;refine (xI.o _ (Below.refl _ _)).mono ?_;rintro e u1 ⟨rfl,d1⟩;have D1:Hid (Bw w0 u1):=d1;have k0:=K0.o u1 D1.o;clear d1)
  go_ret;exact⟨aC HF.o.symm,nJ.o _ D1.o⟩
 have hd:decide (((l.getD (len-1) 0:Nat):Int)=0)=true:=decide_eq_true (by omega);rw[hd]at xI;have HL0:Hid (l.getD (len-1) 0=0):=hl0;clear hd hl0;obtain⟨T,hT⟩:∃T,T=Pl.uN (∃c d,Pl.yT xs len c d/\200<d):=⟨_,rfl⟩;have IZ:Hid (∀u:World,Bw w0 u->Calls Tryz.prog 37 #[.slice (some ⟨b,off,none⟩) len cap] u fun e w'=>e=.returned (.bool T)/\Bw u w'):=fun u hu=>OP (some ⟨b,off,none⟩) len cap xs u (HN.o.keep (nJ.o u hu)) hl1 hl4 l HO.o T (fun c d h1 h2=>by rw[hT];exact Pl.nM ⟨c,d,h1,h2⟩) (fun q=>by
  rw[hT];refine Pl.oQ ?_;rintro⟨c,d,h1,h2⟩;have:=q c d h1;omega)
 have HT:Hid (T=Pl.uN (∃c d,Pl.yT xs len c d/\200<d)):=hT;clear hT;cases T;rotate_left
 ·have HF:Hid (R=false):=ZJ.o fun s=>s.2.2.2.2.1 (by rw[VN.o];exact Pl.vK HT.o.symm);go_enter Tryz.func17,Tryz.ntmps17;go_upto_region 1 with fail
  rw[<- hw0];clear hw0;go_wp2_with (first|(go_at_call 36;refine (xI.o _ (Below.refl _ _)).mono ?_;rintro e u1 ⟨rfl,d1⟩;have D1:Hid (Bw w0 u1):=d1;have k0:=K0.o u1 D1.o;clear d1)|(go_at_call 37;refine (IZ.o _ D1.o).mono ?_;rintro e u2 ⟨rfl,d2⟩;have D2:Hid (Bw w0 u2):=D1.o.trans (d2.mono D1.o.size);have k0:=K0.o u2 D2.o;have hzz:w.heap.size<u2.heap.size:=Nat.lt_of_lt_of_le hz0 D2.o.size;clear d2))
  go_ret;exact⟨aC HF.o.symm,nJ.o _ D2.o⟩
 have HNT:Hid (¬ ∃c d,Pl.yT xs len c d/\200<d):=Pl.wD HT.o.symm;have hmm:=@run_makeMap Tryz.prog;have Ck:(len:Int)<=4000:=by omega
 clear HT;go_enter Tryz.func17,Tryz.ntmps17;go_upto_region 1 with fail
 rw[<- hw0];clear hw0;go_wp2_with (first|(go_at_call 36;refine (xI.o _ (Below.refl _ _)).mono ?_;rintro e u1 ⟨rfl,d1⟩;have D1:Hid (Bw w0 u1):=d1;have k0:=K0.o u1 D1.o;clear d1)|(go_at_call 37;refine (IZ.o _ D1.o).mono ?_;rintro e u2 ⟨rfl,d2⟩;have D2:Hid (Bw w0 u2):=D1.o.trans (d2.mono D1.o.size);have k0:=K0.o u2 D2.o;have hzz:w.heap.size<u2.heap.size:=Nat.lt_of_lt_of_le hz0 D2.o.size;clear d2))
 have hzu:w.heap.size<=u2.heap.size:=(nJ.o u2 D2.o).size;have HCS:Hid (GJ w (some ⟨b,off,none⟩) len cap (u2.heap.size+1) u2.heap.size 0 (Pl.rV xs 0) none 0 0 (Pl.pU xs 0) ((u2.alloc (.map #[] 0)).alloc (.cells #[.slice (some ⟨b,off,none⟩) len cap,.map (some u2.heap.size),.slice none 0 0] 74))):=by
  have hmp:(u2.alloc (.map #[] 0)).ownsMap Tryz.prog 9 (unitElem (H:=Unit)) u2.heap.size 0 (.map []):=World.ownsMap_made _ _ _ _;refine⟨((nJ.o u2 D2.o).alloc hzu _).alloc (by simp;omega) _,by omega,hzu,?_,⟨.map [],nI hmp (aA _ _) (by simp),wQ.nil⟩,World.ownsRow_nil _ _ _ _⟩;have:=heap_alloc_new (u2.alloc (.map #[] 0)) (.cells #[.slice (some ⟨b,off,none⟩) len cap,.map (some u2.heap.size),.slice none 0 0] 74);simpa using this
 generalize u2.heap.size=gm at *;go_loopw [44] (fun v wr=>∃(i nm:Nat) (ob:Option Addr) (oc:Nat),i<=len/\v=.int .i64 (i:Int)/\nm<=i/\GJ w (some ⟨b,off,none⟩) len cap (gm+1) gm nm (Pl.rV xs i) ob oc i (Pl.pU xs i) wr/\∀j,j<i->Pl.Dx xs j) (fun v _=>len-(intOf v).toNat)
 case atStart=>exact⟨0,0,none,0,Nat.zero_le _,rfl,Nat.le_refl _,HCS.o,fun j hj=>absurd hj (Nat.not_lt_zero _)⟩
 case round=>
  obtain⟨i,nm,ob,oc,hil,rfl,hnm,hck,hpre⟩:=hrel;have HCK:Hid (GJ w (some ⟨b,off,none⟩) len cap (gm+1) gm nm (Pl.rV xs i) ob oc i (Pl.pU xs i) wr):=hck;have HPR:Hid (∀j,j<i->Pl.Dx xs j):=hpre;clear hck hpre HCS;by_cases hlt:i<len
  rotate_left
  ·have hi:¬((i:Int)<(len:Int)):=(by omega);have HY:Hid (R=true):=by
    show R=true;rw[HR.o];have e:=VN.o;exact Pl.nM ⟨by omega,by omega,H15.o,⟨l,by rw[e];exact HBG.o,by rw[e];exact HL0.o⟩,by rw[e];exact HNT.o,fun j hj=>HPR.o j (by omega)⟩
   go_wp2_with fail
   go_ret;exact⟨aC HY.o.symm,HCK.o.jR⟩
  have hi:(i:Int)<(len:Int):=by omega
  obtain⟨b',off',⟨va,vl,vc⟩,eb,_,hb,hcl,hrow,_⟩:=HN.o.at hlt;simp only[Option.some.injEq,Addr.mk.injEq,and_true]at eb;obtain⟨rfl,rfl⟩:=eb;obtain⟨x,hx⟩:∃x,x=xs.getD i Pl.Nd.zero:=⟨_,rfl⟩;have HX:Hid (x=Pl.nd xs i):=hx;have BH:Hid (Row .i64 lo w va vl vc (Pl.nd xs i).kids):=hrow;rw[<- hx]at hcl;obtain⟨g0,g1,g2,g3,g4,g5,g6⟩:=iT (u:=wr) (fun j hj=>(HCK.o.jR.cell (p:=⟨b,off+i*7+j,none⟩) hb).trans (hcl j hj));have HPI:Hid (Pl.PI xs len i l):=⟨hlt,hl4,VN.o,HO.o,HPR.o,HWF.o,HSL.o i hlt⟩;obtain⟨B,hB⟩:∃B,B=Pl.uN (Pl.Dx xs i):=⟨_,rfl⟩;have HPS:Hid (∀u:World,Bw wr u->Calls Tryz.prog 38 #[.pointer (some ⟨gm+1,0,none⟩),.agg #[.int .i64 x.k,.int .i64 x.m,.int .i64 x.n,.string x.s,.slice va vl vc,.int .i64 x.line,.int .i64 x.aQ]] u fun e w'=>rT w xs (some ⟨b,off,none⟩) len cap (gm+1) gm i e w'):=fun u hu=>Rz HPI.o (HCK.o.keep hu) hnm BH.o HN.o HE.o.1 HE.o.2.1 HE.o.2.2 x HX.o;have HPB:Hid (∀(e:Ending) (w':World),rT w xs (some ⟨b,off,none⟩) len cap (gm+1) gm i e w'->e=.returned (.bool B)/\rT w xs (some ⟨b,off,none⟩) len cap (gm+1) gm i e w'):=fun e w' q=>⟨by rw[hB];exact q.1,q⟩;have HB:Hid (B=Pl.uN (Pl.Dx xs i)):=hB;clear hB hcl hrow hx;cases B
  ·have HF:Hid (R=false):=ZJ.o fun s=>Pl.wD HB.o.symm (s.2.2.2.2.2 i (by rw[VN.o];exact hlt));go_wp2_with (go_at_call 38;refine (HPS.o _ (aA _ _)).mono ?_;intro e u3 hps;obtain⟨he,hps⟩:=HPB.o _ _ hps;subst he;have DP:Hid (Bw w u3):=hps.2.1;clear hps)
   go_ret;exact⟨aC HF.o.symm,DP.o⟩
  have OY:Hid (Pl.Dx xs i):=Pl.vK HB.o.symm;go_wp2_with (go_at_call 38;refine (HPS.o _ (aA _ _)).mono ?_;intro e u3 hps;obtain⟨he,hps⟩:=HPB.o _ _ hps;subst he;have DP:Hid (rT w xs (some ⟨b,off,none⟩) len cap (gm+1) gm i (.returned (.bool true)) u3):=hps;clear hps)
  go_roundw
  case rel=>
   obtain⟨nm2,ob2,oc2,h1,h2⟩:=DP.o.2.2 OY.o;exact⟨i+1,nm2,ob2,oc2,by omega,by go_num,h1,h2,fun j hj=>by
    by_cases e:j=i
    ·rw[e];exact OY.o
    ·exact HPR.o j (by omega)⟩
  case measure=>simp[intOf];omega
end W
end Go.Proofs.YtjcdiegfnoaedaaGreatDoor
