import Derived.Test.YtjcdiegfnoaedaaGreatDoorZ05
import Derived.Test.YtjcdiegfnoaedaaGreatDoorZ06
import Derived.Test.YtjcdiegfnoaedaaGreatDoorZ07
import Derived.Test.YtjcdiegfnoaedaaGreatDoorZ08
import Derived.Test.YtjcdiegfnoaedaaGreatDoorZ10
set_option linter.unusedVariables false
set_option linter.unusedSimpArgs false
set_option maxHeartbeats 16000000
namespace Go.Proofs.YtjcdiegfnoaedaaGreatDoor
namespace W
open Go.RowKit
set_option maxRecDepth 100000 in
theorem QC (t:ByteArray) (hmax:t.size<=9223372036854775806) (w:World) :
  Calls Tryz.prog 160 #[.string t,.int .i64 16,.int .i64 8] w (vC t 16 255 w):=by
 by_cases hne:t.size=0
 ·have ht:t=⟨#[]⟩:=by
   cases t with|mk d=>congr;exact Array.eq_empty_of_size_eq_zero hne
  have HG:Hid (¬Pl.Good t 16 255):=fun h=>by have:=h.1;omega
  subst ht;go_enter Tryz.func160,Tryz.ntmps160;go_wp2;go_ret2;exact aK HG.o (by first|exact .inl rfl|exact .inr rfl) (Below.refl _ _)
 have hemp:t.toList.isEmpty=false:=by
  rw[<- decide_eq_emptyBytes];exact decide_eq_false (fun h=>hne (by rw[h];rfl))
 have hcv:=Lib.run_convert_string_bytes (P:=Tryz.prog) w 9 26 5 t (u:=.string) Tryz.underlying9 Tryz.underlying26 Tryz.underlying5;have HB:Hid (∀j,j<t.size->(Lib.bytesWorld w 5 t).cell? ⟨w.heap.size,j,none⟩=some (.int .u8 (Pl.aD t j))):=fun j hj=>Lib.bytesWorld_cell w 5 t j hj;have nJ:Hid (Bw w (Lib.bytesWorld w 5 t)):=Lib.bytesWorld_below _ _ _;obtain⟨W1,hW1⟩:∃W1,W1=Lib.bytesWorld w 5 t:=⟨_,rfl⟩;rw[<- hW1]at hcv HB nJ;clear hW1;have hmv:IntKind.u64.wrap (IntKind.u64.wrap 4294967296-1)=4294967295:=by
  rw[IntKind.wrap_u64,IntKind.wrap_u64]
  decide
 have Ub:IntKind.u64.wrap (IntKind.u64.wrap 256-1)=255:=by
  rw[IntKind.wrap_u64,IntKind.wrap_u64]
  decide
 have HP:Hid (0<t.size):=by show 0<t.size;omega
 clear hne;go_enter Tryz.func160,Tryz.ntmps160;go_wp2;go_loop [12,13,101] (fun vu vn vi=>∃(k:Nat) (a:Int),vu=.bool false/\vn=.int .u64 a/\vi=.int .i64 k/\k<=t.size/\0<=a/\a<=255/\a=Pl.val t 16 k/\∀j,j<k->0<=Pl.hx (Pl.aD t j)/\Pl.hx (Pl.aD t j)<16)
  (fun _ _ vi=>t.size-(intOf vi).toNat)
 case atStart=>exact⟨0,0,rfl,rfl,rfl,by omega,by omega,by omega,rfl,fun j hj=>absurd hj (Nat.not_lt_zero _)⟩
 case round=>
  obtain⟨k,a,rfl,rfl,rfl,hk,a0,a1,Ah,hall⟩:=hrel;have HV:Hid (a=Pl.val t 16 k):=Ah;have HA:Hid (∀j,j<k->0<=Pl.hx (Pl.aD t j)/\Pl.hx (Pl.aD t j)<16):=hall;clear Ah hall;by_cases hkn:k<t.size
  ·have hc:=HB.o k hkn;have hc0:=Pl.sP t k;have hc1:=Pl.sQ t k;obtain⟨c,hcc⟩:∃c,c=Pl.aD t k:=⟨_,rfl⟩;rw[<- hcc]at hc hc0 hc1;have HCC:Hid (c=Pl.aD t k):=hcc;have QA:Hid (255<a*16+Pl.hx c->¬Pl.Good t 16 255):=fun h=>by
    have h2:=h;rw[HV.o,hcc]at h2;exact Pl.oM (by decide) k hkn h2
   have BS:Hid (Pl.hx c<0\/16<=Pl.hx c->¬Pl.Good t 16 255):=fun h=>by
    have h2:=h;rw[hcc]at h2;exact Pl.nO k hkn h2
   have xU:Hid (∀d,Pl.hx c=d->0<=d->d<16->a*16+d=Pl.val t 16 (k+1)/\∀j,j<k+1->0<=Pl.hx (Pl.aD t j)/\Pl.hx (Pl.aD t j)<16):=fun d e d0 d1=>by
    refine⟨?_,fun j hj=>?_⟩
    ·show _=Pl.val t 16 k*16+Pl.hx (Pl.aD t k);rw[<- hcc,e,HV.o]
    ·by_cases q:j=k
     ·rw[q,<- hcc,e];exact⟨d0,d1⟩
     ·exact HA.o j (by omega)
   clear hcc HV HA HB HP;by_cases hd:48<=c/\c<=57
   ·obtain⟨hd0,hd1⟩:=hd;have HH:Hid (Pl.hx c=c-48):=Pl.uB c hd0 hd1;by_cases vQ:c-48<16
    ·by_cases hm:a*16+(c-48)<=255
     ·go_wp2;all_goals exact⟨⟨k+1,_,rfl,rfl,(by first|rfl|(congr 1;omega)),by omega,by omega,by omega,(xU.o _ HH.o (by omega) vQ).1,(xU.o _ HH.o (by omega) vQ).2⟩,by simp[intOf];omega⟩
     ·go_wp2;all_goals (go_ret2;exact aK (QA.o (by rw[HH.o];omega)) (by first|exact .inl rfl|exact .inr rfl) nJ.o)
    ·go_wp2;all_goals (go_ret2;exact aK (BS.o (by rw[HH.o];omega)) (by first|exact .inl rfl|exact .inr rfl) nJ.o)
   ·obtain⟨l,hl⟩:∃l,l=bits .or .u8 c 32:=⟨_,rfl⟩;have hlt:(97<=l/\l<=102/\Pl.hx c=l-87/\c≠95)\/(103<=l/\l<=122/\Pl.hx c=-1/\c≠95)\/((l<97\/122<l)/\Pl.hx c=-1):=by
     have:=Pl.xR c.toNat (by omega) (by omega);rw[Int.toNat_of_nonneg hc0]at this;rw[hl];rcases this with ⟨q1,q2,q3,q4⟩|⟨q1,q2,q3,q4⟩|q
     ·exact .inl ⟨q1,q2,q3,by omega⟩
     ·exact .inr (.inl ⟨q1,q2,q3,by omega⟩)
     ·exact .inr (.inr q)
    have xV:Hid (∀w,Calls Tryz.prog 171 #[.int .u8 c] w fun e w'=>e=.returned (.int .u8 l)/\w'=w):=fun w=>by rw[hl];exact vB c w
    clear hl;rcases hlt with ⟨l0,l1,hh,xW⟩|⟨l0,l1,hh,xW⟩|⟨Uc,hh⟩
    ·have HH:Hid (Pl.hx c=l-87):=hh;have Ai:(c == 95)=false:=(by simp[xW]);clear hh xW;by_cases vQ:l-87<16
     ·by_cases hm:a*16+(l-87)<=255
      ·go_wp2_with (go_at_call 171;refine (xV.o _).mono ?_;rintro e u1 ⟨rfl,rfl⟩)
       all_goals exact⟨⟨k+1,_,rfl,rfl,(by first|rfl|(congr 1;omega)),by omega,by omega,by omega,by have:=(xU.o _ HH.o (by omega) vQ).1;omega,(xU.o _ HH.o (by omega) vQ).2⟩,by simp[intOf];omega⟩
      ·go_wp2_with (go_at_call 171;refine (xV.o _).mono ?_;rintro e u1 ⟨rfl,rfl⟩)
       all_goals (go_ret2;exact aK (QA.o (by rw[HH.o];omega)) (by first|exact .inl rfl|exact .inr rfl) nJ.o)
     ·go_wp2_with (go_at_call 171;refine (xV.o _).mono ?_;rintro e u1 ⟨rfl,rfl⟩)
      all_goals (go_ret2;exact aK (BS.o (by rw[HH.o];omega)) (by first|exact .inl rfl|exact .inr rfl) nJ.o)
    ·have HH:Hid (Pl.hx c=-1):=hh;have Ai:(c == 95)=false:=(by simp[xW]);clear hh xW;go_wp2_with (go_at_call 171;refine (xV.o _).mono ?_;rintro e u1 ⟨rfl,rfl⟩)
     all_goals (go_ret2;exact aK (BS.o (by rw[HH.o];omega)) (by first|exact .inl rfl|exact .inr rfl) nJ.o)
    ·have HH:Hid (Pl.hx c=-1):=hh;clear hh;cases Ai:(c == 95) <;> rcases Uc with l0|l0
     all_goals
      go_wp2_with (go_at_call 171;refine (xV.o _).mono ?_;rintro e u1 ⟨rfl,rfl⟩)
      all_goals (go_ret2;exact aK (BS.o (by rw[HH.o];omega)) (by first|exact .inl rfl|exact .inr rfl) nJ.o)
  ·have hkk:k=t.size:=(by omega);subst hkk;have HG:Hid (Pl.Good t 16 255):=⟨HP.o,HA.o,by rw[<- HV.o];exact a1⟩;have La:Hid (a=Pl.val t 16 t.size):=HV.o;clear HV HA;go_wp2;go_ret2;exact rH HG.o La.o nJ.o
def nR (w:World):Prop:=(∃ev,w.cell? ⟨0,0,none⟩=some ev/\(ev=.nilIface\/∃te pe,ev=.iface te pe))/\(∃ev,w.cell? ⟨1,0,none⟩=some ev/\(ev=.nilIface\/∃te pe,ev=.iface te pe))/\∃m,w.cell? ⟨3,0,none⟩=some (.int .i64 m)
theorem nR.keep {n:Nat}{w w':World}(h:nR w) (hn:4<=n) (hb:Below n w w'):nR w':=by
 obtain⟨⟨e1,h1,q1⟩,⟨e2,h2,q2⟩,⟨m,h3⟩⟩:=h;exact⟨⟨e1,(hb.cell (p:=⟨0,0,none⟩) (by show 0<n;omega)).trans h1,q1⟩,⟨e2,(hb.cell (p:=⟨1,0,none⟩) (by show 1<n;omega)).trans h2,q2⟩,⟨m,(hb.cell (p:=⟨3,0,none⟩) (by show 3<n;omega)).trans h3⟩⟩
theorem nR.big {w:World}(h:nR w):4<=w.heap.size:=by
 obtain⟨⟨e1,h1,_⟩,⟨e2,h2,_⟩,⟨m,h3⟩⟩:=h;have:0<w.heap.size:=block_lt_of_cell h1;have:1<w.heap.size:=block_lt_of_cell h2;have:3<w.heap.size:=block_lt_of_cell h3;omega
theorem nR.on {w w':World}(h:nR w) (hb:Bw w w'):nR w':=h.keep h.big hb
def Ud (t:ByteArray) (b mx:Int) (w:World) (e:Ending) (w':World):Prop:=
  ((Pl.Good t b mx/\e=.returned (.tuple #[.int .u64 (Pl.val t b t.size),.nilIface]))\/
   (¬Pl.Good t b mx/\∃(n:Int) (N:Nat),e=.returned (.tuple #[.int .u64 n,.iface 242 (.pointer (some ⟨N,0,none⟩))])))/\Bw w w'
theorem VZ (b bz mx:Int) (h:(b=8/\bz=32/\mx=4294967295)\/(b=10/\bz=32/\mx=4294967295)\/(b=16/\bz=32/\mx=4294967295)\/(b=8/\bz=8/\mx=255)\/(b=16/\bz=8/\mx=255)) (t:ByteArray) (hmax:t.size<=9223372036854775806) (w:World) :
  Calls Tryz.prog 160 #[.string t,.int .i64 b,.int .i64 bz] w (vC t b mx w):=by
 rcases h with ⟨rfl,rfl,rfl⟩|⟨rfl,rfl,rfl⟩|⟨rfl,rfl,rfl⟩|⟨rfl,rfl,rfl⟩|⟨rfl,rfl,rfl⟩
 ·exact PZ t hmax w
 ·exact LD t hmax w
 ·exact LF t hmax w
 ·exact VY t hmax w
 ·exact QC t hmax w
set_option maxRecDepth 100000 in
theorem yV (b bz mx:Int) (h:(b=8/\bz=32/\mx=4294967295)\/(b=10/\bz=32/\mx=4294967295)\/(b=16/\bz=32/\mx=4294967295)\/(b=8/\bz=8/\mx=255)\/(b=16/\bz=8/\mx=255)) (t:ByteArray) (ht:t.size<=1048576) (w:World) (hE:nR w) :
  Calls Tryz.prog 147 #[.string t,.int .i64 b,.int .i64 bz] w (Ud t b mx w):=by
 have HE:Hid (nR w):=hE;clear hE;go_enter Tryz.func147,Tryz.ntmps147;go_wp2_with fail
 refine (VZ b bz mx h t (by omega) _).mono ?_;rintro e u1 ⟨hv,g1⟩;have G1:Hid (Bw w u1):=g1;obtain⟨⟨e1,c1,q1⟩,⟨e2,c2,q2⟩,_⟩:=HE.o.on g1;clear g1 h;have C1:Hid (u1.cell? ⟨0,0,none⟩=some e1):=c1;have C2:Hid (u1.cell? ⟨1,0,none⟩=some e2):=c2;have Q1:Hid (e1=.nilIface\/∃te pe,e1=.iface te pe):=q1;have Q2:Hid (e2=.nilIface\/∃te pe,e2=.iface te pe):=q2;clear c1 c2 q1 q2;rcases hv with ⟨hg,rfl⟩|⟨hg,n,v,rfl,hv⟩
 ·have HG:Hid (Pl.Good t b mx):=hg;clear hg;go_wp2_with fail
  go_ret2;exact⟨.inl ⟨HG.o,rfl⟩,G1.o⟩
 ·have HG:Hid (¬Pl.Good t b mx):=hg;clear hg;rcases hv with rfl|rfl
  ·go_wp2_with fail
   refine (Tryz.strconv_toError_range _ t _ _ e2 _ (by omega) C2.o Q2.o).mono ?_;rintro e u2 ⟨N,rfl,_,_,g2⟩;go_wp2_with fail
   go_ret2;exact⟨.inr ⟨HG.o,_,N,rfl⟩,G1.o.trans (g2.mono G1.o.size)⟩
  ·go_wp2_with fail
   refine (Tryz.strconv_toError_syntax _ t _ _ e1 _ (by omega) C1.o Q1.o).mono ?_;rintro e u2 ⟨N,rfl,_,_,g2⟩;go_wp2_with fail
   go_ret2;exact⟨.inr ⟨HG.o,_,N,rfl⟩,G1.o.trans (g2.mono G1.o.size)⟩
end W
namespace Pl
theorem Ue:∀c:Nat,c<256->((Lib.indexByte [110,116,114,97,98,102,118,92,39,34] (UInt8.ofNat c)=-1/\aS (c:Int)=-1)\/(0<=Lib.indexByte [110,116,114,97,98,102,118,92,39,34] (UInt8.ofNat c)/\Lib.indexByte [110,116,114,97,98,102,118,92,39,34] (UInt8.ofNat c)<10/\aS (c:Int)=(([10,9,13,7,8,12,11,92,39,34]:List UInt8).getD (Lib.indexByte [110,116,114,97,98,102,118,92,39,34] (UInt8.ofNat c)).toNat 0).toNat)):=by decide +kernel
theorem aBx:∀k,(h:k<10)->(((⟨#[10,9,13,7,8,12,11,92,39,34]⟩:ByteArray)[k]'(by show k<10;exact h)).toNat:Int)=(([10,9,13,7,8,12,11,92,39,34]:List UInt8).getD k 0).toNat:=by decide +kernel
end Pl
namespace W
open Go.RowKit
def LG (t:ByteArray) (e:Ending):Prop:=(∃(v:Int) (n:Nat),Pl.bB t 0=.ok (v,n)/\e=.returned (.tuple #[.int .u8 v,.int .i64 n,.int .i64 0]))\/(∃f,Pl.bB t 0=.error f/\e=.returned (.tuple #[.int .u8 0,.int .i64 0,.int .i64 f]))
theorem WA {t:ByteArray}{v v' n':Int}{n:Nat}(h:Pl.bB t 0=.ok (v,n)) (hv:v'=v) (hn:n'=n):LG t (.returned (.tuple #[.int .u8 v',.int .i64 n',.int .i64 0])):=.inl ⟨v,n,h,by rw[hv,hn]⟩
theorem LH {t:ByteArray}{f:Int}(h:Pl.bB t 0=.error f):LG t (.returned (.tuple #[.int .u8 0,.int .i64 0,.int .i64 f])):=.inr ⟨f,h,rfl⟩
set_option maxRecDepth 100000 in
theorem GL (t:ByteArray) (ht:t.size<=1048576) (w:World) (hE:nR w):Calls Tryz.prog 217 #[.string t] w fun e w'=>LG t e/\Bw w w':=by
 have HE:Hid (nR w):=hE;clear hE;by_cases h0:t.size=0
 ·have hn:t.toList.isEmpty=true:=by
   rw[<- decide_eq_emptyBytes];exact decide_eq_true (by cases t with|mk d=>congr;exact Array.eq_empty_of_size_eq_zero h0)
  have HF:Hid (Pl.bB t 0=.error 4):=Pl.Ag (.inl h0);clear h0;go_enter Tryz.func217,Tryz.ntmps217;go_wp2_with fail
  go_ret3
  exact⟨LH HF.o,Below.refl _ _⟩
 have hpos:0<t.size:=by omega
 have hemp:t.toList.isEmpty=false:=by
  rw[<- decide_eq_emptyBytes];exact decide_eq_false (fun h=>h0 (by rw[h];rfl))
 have hg0:=Pl.aJ t 0 hpos;have b0:=Pl.sP t 0;have b1:=Pl.sQ t 0;have htab:=Pl.Ue (Pl.aD t 0).toNat (by omega);rw[Int.toNat_of_nonneg b0]at htab;have HI:Hid (∀u,Calls Tryz.prog 204 #[.string ⟨#[110,116,114,97,98,102,118,92,39,34]⟩,.int .u8 (Pl.aD t 0)] u fun e w'=>e=.returned (.int .i64 (Lib.indexByte [110,116,114,97,98,102,118,92,39,34] (UInt8.ofNat (Pl.aD t 0).toNat)))/\w'=u):=fun u=>Tryz.strings_IndexByte ⟨#[110,116,114,97,98,102,118,92,39,34]⟩ (Pl.aD t 0) u;have HP:Hid (0<=Pl.aS (Pl.aD t 0)->Pl.aD t 0≠10->Pl.bB t 0=.ok (Pl.aS (Pl.aD t 0),1)):=fun a b=>Pl.Cw hpos a b;have HO:Hid (Pl.aD t 0=10->Pl.bB t 0=.error 4):=fun a=>Pl.Ag (.inr a);have HX:Hid (Pl.aD t 0=120->∀n,Pl.Run (fun c=>decide (Pl.BQ c<16)) (t.extract 1 t.size) n->_):=fun a n hn=>Pl.Ty hpos a hn;have HN:Hid (Pl.aD t 0≠10->Pl.aD t 0≠120->Pl.aS (Pl.aD t 0)<0->∀n,Pl.Run (fun c=>decide (Pl.BQ c<8)) t n->_):=fun a b c n hn=>Pl.Tz hpos a b c hn;obtain⟨c,hc⟩:∃c,c=Pl.aD t 0:=⟨_,rfl⟩;obtain⟨ix,hix⟩:∃ix,ix=Lib.indexByte [110,116,114,97,98,102,118,92,39,34] (UInt8.ofNat (Pl.aD t 0).toNat):=⟨_,rfl⟩;rw[<- hix]at htab HI;rw[<- hc]at hg0 b0 b1 htab HI HP HO HX HN;clear hix hc h0;by_cases h10:c=10
 ·have e10:(c == 10)=true:=by simp[h10]
  have HF:Hid (Pl.bB t 0=.error 4):=HO.o h10;clear h10;go_enter Tryz.func217,Tryz.ntmps217;go_wp2_with fail
  go_ret3
  exact⟨LH HF.o,Below.refl _ _⟩
 have e10:(c == 10)=false:=by simp[h10]
 rcases htab with ⟨hi,hp⟩|⟨hi0,hi1,hp⟩;rotate_left
 ·obtain⟨k,rfl⟩:∃k:Nat,ix=k:=⟨ix.toNat,by omega⟩;have hk:k<10:=by omega
  have hkb:=Pl.aBx k hk;rw[Int.toNat_natCast]at hp;have HV:Hid (Pl.bB t 0=.ok (Pl.aS c,1)):=HP.o (by rw[hp];omega) h10;rw[hp]at HV;clear hp h10 HP HX HN HO;obtain⟨v,hv⟩:∃v:Int,v=((([10,9,13,7,8,12,11,92,39,34]:List UInt8).getD k 0).toNat:Int):=⟨_,rfl⟩;rw[<- hv]at hkb HV;clear hv;have hkk:(k:Int)<10:=by omega
  go_enter Tryz.func217,Tryz.ntmps217;go_wp2_with (go_at_call 204;refine (HI.o _).mono ?_;rintro e u1 ⟨rfl,rfl⟩)
  go_ret3
  exact⟨WA HV.o rfl rfl,Below.refl _ _⟩
 have HPL:Hid (Pl.aS c<0):=by show Pl.aS c<0;omega
 have aFt:ix=-1:=hi;subst aFt;clear hp hi HP HO;by_cases hx:c=120
 ·have e1:(c == 120)=true:=by simp[hx]
  have HF:Hid (∀n,Pl.Run (fun c=>decide (Pl.BQ c<16)) (t.extract 1 t.size) n->_):=HX.o hx;clear hx h10 HX HN HPL;have h1:(1:Int)<=(t.size:Int):=by omega
  go_enter Tryz.func217,Tryz.ntmps217;go_wp2_with (first|(go_at_call 204;refine (HI.o _).mono ?_;rintro e u1 ⟨rfl,rfl⟩)|(go_at_call 159;refine (sS (t.extract 1 t.size) (by first|omega|(rw[Pl.bC];omega)) 16 (by decide) _).mono ?_;rintro e u2 ⟨⟨n,hn,rfl⟩,g2⟩;have G2:Hid _:=g2;have HR:=HF.o n hn;have QD:Hid _:=HR;have hnn:(n:Int)<=(t.extract 1 t.size).size:=(by have:=hn.1;omega);clear g2 HR hn))
  rw[show (min (n:Int) 2).toNat=min n 2 by omega];obtain⟨D,hD⟩:∃D,D=(t.extract 1 t.size).extract 0 (min n 2):=⟨_,rfl⟩;have hDs:D.size=min n 2:=by rw[hD,Pl.ext_size];omega
  rw[<- hD]at QD ⊢;rw[<- hDs]at QD;have hD3:D.size<=2:=by omega
  clear hD hDs hnn;refine (yV 16 8 255 (by decide) D (by omega) _ (HE.o.on G2.o)).mono ?_;rintro e u3 ⟨hv,g3⟩;have G3:Hid (Bw u1 u3):=G2.o.trans (g3.mono G2.o.size);clear g3;rcases hv with ⟨hg,rfl⟩|⟨hg,q,N,rfl⟩
  ·have Cx:Hid (Pl.bB t 0=_):=(QD.o.resolve_right (fun h=>h.1 hg)).2;have v0:=Pl.EB D 16 (by decide) D.size (fun j hj=>(hg.2.1 j hj).1);have v1:=hg.2.2;obtain⟨v,hv⟩:∃v,v=Pl.val D 16 D.size:=⟨_,rfl⟩;rw[<- hv]at Cx v0 v1 ⊢;clear hv hg QD;go_wp2_with fail
   go_ret3
   exact⟨WA Cx.o rfl (by first|omega|simp),G3.o⟩
  ·have Cx:Hid (Pl.bB t 0=_):=(QD.o.resolve_left (fun h=>hg h.1)).2;clear hg QD;go_wp2_with fail
   go_ret3
   exact⟨LH Cx.o,G3.o⟩
 ·have e1:(c == 120)=false:=by simp[hx]
  have HF:Hid (∀n,Pl.Run (fun c=>decide (Pl.BQ c<8)) t n->_):=HN.o h10 hx HPL.o;clear hx h10 HX HN HPL;go_enter Tryz.func217,Tryz.ntmps217;go_wp2_with (first|(go_at_call 204;refine (HI.o _).mono ?_;rintro e u1 ⟨rfl,rfl⟩)|(go_at_call 159;refine (sS t (by first|omega|(rw[Pl.bC];omega)) 8 (by decide) _).mono ?_;rintro e u2 ⟨⟨n,hn,rfl⟩,g2⟩;have G2:Hid _:=g2;have HR:=HF.o n hn;have QD:Hid _:=HR;have hnn:(n:Int)<=t.size:=(by have:=hn.1;omega);clear g2 HR hn))
  rw[show (min (n:Int) 3).toNat=min n 3 by omega];obtain⟨D,hD⟩:∃D,D=t.extract 0 (min n 3):=⟨_,rfl⟩;have hDs:D.size=min n 3:=by rw[hD,Pl.ext_size];omega
  rw[<- hD]at QD ⊢;rw[<- hDs]at QD;have hD3:D.size<=3:=by omega
  clear hD hDs hnn;refine (yV 8 8 255 (by decide) D (by omega) _ (HE.o.on G2.o)).mono ?_;rintro e u3 ⟨hv,g3⟩;have G3:Hid (Bw u1 u3):=G2.o.trans (g3.mono G2.o.size);clear g3;rcases hv with ⟨hg,rfl⟩|⟨hg,q,N,rfl⟩
  ·have Cx:Hid (Pl.bB t 0=_):=(QD.o.resolve_right (fun h=>h.1 hg)).2;have v0:=Pl.EB D 8 (by decide) D.size (fun j hj=>(hg.2.1 j hj).1);have v1:=hg.2.2;obtain⟨v,hv⟩:∃v,v=Pl.val D 8 D.size:=⟨_,rfl⟩;rw[<- hv]at Cx v0 v1 ⊢;clear hv hg QD;go_wp2_with fail
   go_ret3
   exact⟨WA Cx.o rfl (by first|omega|simp),G3.o⟩
  ·have Cx:Hid (Pl.bB t 0=_):=(QD.o.resolve_left (fun h=>hg h.1)).2;clear hg QD;go_wp2_with fail
   go_ret3
   exact⟨LH Cx.o,G3.o⟩
end W
end Go.Proofs.YtjcdiegfnoaedaaGreatDoor
