import Derived.Test.YtjcdiegfnoaedaaGreatDoorZ12
set_option linter.unusedVariables false
set_option linter.unusedSimpArgs false
set_option maxHeartbeats 16000000
namespace Go.Proofs.YtjcdiegfnoaedaaGreatDoor
namespace W
open Go.RowKit
def GU (s:ByteArray) (e:Ending):Prop:=match Pl.iU s with
 | .ok (S,N)=>e=.returned (.tuple #[.int .i64 N,.string S,.int .i64 0])
 | .error f=>e=.returned (.tuple #[.int .i64 0,.string ⟨#[]⟩,.int .i64 f])
theorem vS {s:ByteArray}{f:Int}(h:Pl.iU s=.error f):GU s (.returned (.tuple #[.int .i64 0,.string ⟨#[]⟩,.int .i64 f])):=by unfold GU;rw[h]
theorem Av {s S S':ByteArray}{N N':Int}(h:Pl.iU s=.ok (S,N)) (hS:S'=S) (hN:N'=N):GU s (.returned (.tuple #[.int .i64 N',.string S',.int .i64 0])):=by unfold GU;rw[h,hS,hN]
set_option maxRecDepth 100000 in
theorem Lu (s:ByteArray) (hs:s.size<=1048576) (h0:0<s.size) (w:World):Calls Tryz.prog 125 #[.string s] w fun e w'=>GU s e/\w'=w:=by
 have hgl:=Pl.aJ s (s.size-1) (by omega);have hg0:=Pl.aJ s 0 h0;have hl1:(1:Int)<=s.size:=by omega
 obtain⟨l,hl⟩:∃l,l=Pl.aD s (s.size-1):=⟨_,rfl⟩;obtain⟨c0,hc0⟩:∃c,c=Pl.aD s 0:=⟨_,rfl⟩;rw[<- hl]at hgl;rw[<- hc0]at hg0;have HL:Hid (l=Pl.aD s (s.size-1)):=hl;have HC0:Hid (c0=Pl.aD s 0):=hc0;clear hl hc0;obtain⟨S0,hS0⟩:∃S0:ByteArray,S0=if Pl.uu l=true then ⟨#[117]⟩ else ⟨#[]⟩:=⟨_,rfl⟩
 have JP:Hid (S0=if Pl.uu l=true then ⟨#[117]⟩ else ⟨#[]⟩):=hS0;have hie:Pl.nQ s<=s.size:=by unfold Pl.nQ;split <;> omega
 obtain⟨D1,hD1⟩:∃D1:ByteArray,D1=s.extract 0 (Pl.nQ s):=⟨_,rfl⟩;have HD1:Hid (D1=s.extract 0 (Pl.nQ s)):=hD1;have Lv:D1.size=Pl.nQ s:=by rw[hD1,Pl.ext_size];omega
 obtain⟨U,hU⟩:∃U:Bool,U=Pl.uu l:=⟨_,rfl⟩;obtain⟨X,hX⟩:∃X:Bool,X=Pl.DV s:=⟨_,rfl⟩;have HU:Hid (U=Pl.uu l):=hU;have Su:Hid (X=Pl.DV s):=hX;obtain⟨D,hD⟩:∃D,D=Pl.bN s:=⟨_,rfl⟩;obtain⟨b,hb⟩:∃b,b=Pl.iG s:=⟨_,rfl⟩;have HD:Hid (D=Pl.bN s):=hD;have HBs:Hid (b=Pl.iG s):=hb;clear hS0 hD1 hU hX hD hb;go_enter Tryz.func125,Tryz.ntmps125;go_upto_region 5 with fail
 go_cut [24] (fun s24 wx=>s24=.bool U/\wx=w)
 case first=>
  cases e1:(l == 117) <;> cases e2:(l == 85);all_goals
   go_wp2_with fail
   go_meet
   exact⟨by rw[HU.o];simp[Pl.uu,e1,e2],rfl⟩
 case rest=>
 obtain⟨rfl,hwc⟩:=hcut;rw[hwc];clear hwc
 go_upto_if 24 with fail
 go_cut [5,7] (fun s5 s7 wx=>s5=.string S0/\s7=.string D1/\wx=w)
 case first=>
  cases hu:U
  ·have hu':=HU.o.symm.trans hu;have he:Pl.nQ s=s.size:=(by unfold Pl.nQ;rw[<- HL.o,hu'];rfl);have GM:Hid (D1=s):=(by show D1=s;rw[HD1.o,he,Pl.BO]);have WQ:Hid (S0=⟨#[]⟩):=(by show S0=_;rw[JP.o,hu'];rfl);clear he hu' Lv hie;go_wp2_with fail
   go_meet
   exact⟨by rw[WQ.o],by rw[GM.o],rfl⟩
  ·have hu':=HU.o.symm.trans hu;have he:Pl.nQ s=s.size-1:=(by unfold Pl.nQ;rw[<- HL.o,hu'];rfl);have GM:Hid (D1=s.extract 0 (s.size-1)):=(by show D1=_;rw[HD1.o,he]);have WQ:Hid (S0=⟨#[117]⟩):=(by show S0=_;rw[JP.o,hu'];rfl);clear he hu' Lv hie;go_wp2_with fail
   go_meet
   exact⟨by rw[WQ.o],by rw[GM.o],rfl⟩
 case rest=>
 obtain⟨rfl,rfl,hwc⟩:=hcut;rw[hwc];clear hwc;go_upto_region 8 with fail
 go_cut [47] (fun Aw wx=>Aw=.bool X/\wx=w)
 case first=>
  by_cases h1:1<s.size
  ·have h1':(1:Int)<s.size:=(by omega);have hg1:=Pl.aJ s 1 h1;obtain⟨c1,hc1⟩:∃c,c=Pl.aD s 1:=⟨_,rfl⟩;rw[<- hc1]at hg1;have HX:Hid (Pl.DV s=((c0 == 48) && (c1 == 120 || c1 == 88))):=by
    show Pl.DV s=_;unfold Pl.DV;rw[<- HC0.o,<- hc1,decide_eq_true h1,Bool.true_and]
   clear hc1;cases e1:(c0 == 48) <;> cases e2:(c1 == 120) <;> cases e3:(c1 == 88);all_goals
    go_wp2_with fail
    go_meet
    exact⟨by rw[Su.o,HX.o,e1,e2,e3];rfl,rfl⟩
  ·have h1':¬(1:Int)<s.size:=(by omega);have HX:Hid (Pl.DV s=false):=by
    show Pl.DV s=_;unfold Pl.DV;rw[decide_eq_false h1];rfl
   go_wp2_with fail
   go_meet
   exact⟨by rw[Su.o,HX.o],rfl⟩
 case rest=>
 obtain⟨rfl,hwc⟩:=hcut;rw[hwc];clear hwc
 go_upto_if 47 with fail
 go_cut [6,7] (fun s6 s7 wx=>s6=.int .i64 b/\s7=.string D/\wx=w)
 case first=>
  cases hx:X
  ·have hx':=Su.o.symm.trans hx;have GM:Hid (D=D1):=(by show D=D1;rw[HD.o,HD1.o];unfold Pl.bN Pl.qR;rw[hx'];rfl);have HBb:Hid (b=if c0=48 then 8 else 10):=(by show b=_;rw[HBs.o];unfold Pl.iG;rw[hx',<- HC0.o];rfl);clear hx';by_cases e1:c0=48
   ·have e1':(c0 == 48)=true:=(by simp[e1]);have HB2:Hid (b=8):=HBb.o.trans (if_pos e1);clear e1 HBb;go_wp2_with fail
    go_meet
    exact⟨by rw[HB2.o],by rw[GM.o],rfl⟩
   ·have e1':(c0 == 48)=false:=(by simp[e1]);have HB2:Hid (b=10):=HBb.o.trans (if_neg e1);clear e1 HBb;go_wp2_with fail
    go_meet
    exact⟨by rw[HB2.o],by rw[GM.o],rfl⟩
  ·have hx':=Su.o.symm.trans hx;have h2:=Pl.Uj hx';have GM:Hid (D=D1.extract 2 D1.size):=by
    show D=_;rw[HD.o,Lv,HD1.o];unfold Pl.bN Pl.qR;rw[hx',Pl.xQ s 0 (Pl.nQ s) 2 (Pl.nQ s) (by omega) hie h2];simp
   have HB2:Hid (b=16):=(by show b=_;rw[HBs.o];unfold Pl.iG;rw[hx'];rfl);have h2':(2:Int)<=D1.size:=(by omega);clear hx' Lv hie h2;go_wp2_with fail
   go_meet
   exact⟨by rw[HB2.o],by rw[GM.o],rfl⟩
 case rest=>
 obtain⟨rfl,rfl,hwc⟩:=hcut;rw[hwc];clear hwc;have hDs:=Pl.LW s;have HA:Hid (Pl.nQ s<=Pl.qR s->Pl.iU s=.error 2):=Pl.Ap;have HB:Hid (∀j,j<(Pl.bN s).size->Pl.qF (Pl.iG s) (Pl.aD (Pl.bN s) j)=true->Pl.iU s=.error 2):=fun j=>Pl.LU j;have H6:Hid (_->_->_->Pl.iU s=.error 6):=@Pl.Li s;have OY:Hid (_->_->_->_->Pl.iU s=.ok _):=@Pl.LV s;rw[<- HL.o]at OY;have hbb:=Pl.EG s;rw[<- HD.o]at hDs HB H6 OY;rw[<- HBs.o]at HB H6 OY hbb;have hDm:D.size<=1048576:=by omega
 have qE:Hid (b=8\/b=10\/b=16):=hbb;have hbr:8<=b/\b<=16:=by omega
 obtain⟨hb8,aFz⟩:=hbr;clear hbb hgl hg0 hl1 hie Lv HD HBs HD1 Su HC0;have hE:=Pl.isE D;by_cases hD0:D.size=0
 ·rw[decide_eq_true hD0]at hE;have HF:Hid (Pl.iU s=.error 2):=HA.o (by omega);clear hD0;go_wp2_with fail
  go_ret3
  exact⟨vS HF.o,rfl⟩
 rw[decide_eq_false hD0]at hE;have VK:Hid (¬Pl.nQ s<=Pl.qR s):=by show ¬_;omega
 clear hDs HA;have HVS:Hid (∀k,k<D.size->(∀j,j<k+1->Pl.qF b (Pl.aD D j)=false)->Pl.val D b k<=Pl.val D b (k+1)):=fun k hk h=>Pl.PX D b (by omega) k (fun j hj=>by
  have:=h j hj;unfold Pl.qF at this;simp only[Bool.or_eq_false_iff,decide_eq_false_iff_not]at this;omega)
 go_wp2_with fail
 go_loop [9,10,11] (fun x9 x10 x11=>∃(k:Nat) (v:Int) (o:Bool),k<=D.size/\x11=.int .i64 k/\x9=.int .i64 v/\x10=.bool o/\0<=v/\v<=68719476735/\(∀j,j<k->Pl.qF b (Pl.aD D j)=false)/\(o=true↔∀j,j<k->Pl.hx (Pl.aD D j)<b)/\(v=Pl.val D b k\/(4294967295<v/\4294967295<Pl.val D b k))) (fun _ _ x11=>D.size-(intOf x11).toNat)
 case atStart=>exact⟨0,0,true,by omega,rfl,rfl,rfl,by omega,by omega,fun j hj=>absurd hj (Nat.not_lt_zero _),⟨fun _ j hj=>absurd hj (Nat.not_lt_zero _),fun _=>rfl⟩,.inl rfl⟩
 case round=>
  obtain⟨k,v,o,hk,rfl,rfl,rfl,v0,v1,hall,ho,hv⟩:=hrel;have yX:Hid (∀j,j<k->Pl.qF b (Pl.aD D j)=false):=hall;have HO:Hid (o=true↔∀j,j<k->Pl.hx (Pl.aD D j)<b):=ho;have HV:Hid (v=Pl.val D b k\/(4294967295<v/\4294967295<Pl.val D b k)):=hv;clear hall ho hv;by_cases hlt:k<D.size
  ·have hlt':(k:Int)<D.size:=(by omega);have Sq:=Pl.aJ D k hlt;have c0:=Pl.sP D k;have c1:=Pl.sQ D k;have d0:=Pl.Kw (Pl.aD D k);have d1:=Pl.wI (Pl.aD D k);obtain⟨c,hc⟩:∃c,c=Pl.aD D k:=⟨_,rfl⟩;rw[<- hc]at Sq c0 c1 d0 d1;obtain⟨d,hd⟩:∃d,d=Pl.hx c:=⟨_,rfl⟩;rw[<- hd]at d0 d1;have HH:Hid (∀u,Calls Tryz.prog 138 #[.int .u8 c] u fun e w'=>e=.returned (.int .i64 d)/\w'=u):=fun u=>by rw[hd];exact JK c c0 c1 u
   have GM:Hid (d=Pl.hx (Pl.aD D k)):=(by show d=_;rw[<- hc];exact hd);have HBD:Hid (Pl.qF b (Pl.aD D k)=(decide (d<0) || (b != 16 && decide (9<d)))):=(by show Pl.qF b (Pl.aD D k)=_;rw[<- hc];unfold Pl.qF;rw[<- hd]);clear hc hd c0 c1;by_cases hbad:d<0\/(b≠16/\9<d)
   ·have HF:Hid (Pl.iU s=.error 2):=HB.o k hlt (by rw[HBD.o];simp;omega);clear HBD HV HO yX HB H6 OY GM HVS;by_cases hneg:d<0
    ·clear hbad;go_wp2_with (go_at_call 138;refine (HH.o _).mono ?_;rintro e u1 ⟨rfl,rfl⟩)
     go_ret3
     exact⟨vS HF.o,rfl⟩
    ·have h9:9<d:=(by omega);have hb2:b=8\/b=10:=(by have:=qE.o;omega);have hneg':¬d<0:=hneg;clear hbad hneg;rcases hb2 with e|e
     ·have e10:(b == 10)=false:=(by simp[e]);have e8:(b == 8)=true:=(by simp[e]);clear e;go_wp2_with (go_at_call 138;refine (HH.o _).mono ?_;rintro e u1 ⟨rfl,rfl⟩)
      go_ret3
      exact⟨vS HF.o,rfl⟩
     ·have e10:(b == 10)=true:=(by simp[e]);clear e;go_wp2_with (go_at_call 138;refine (HH.o _).mono ?_;rintro e u1 ⟨rfl,rfl⟩)
      go_ret3
      exact⟨vS HF.o,rfl⟩
   ·have hdp:¬d<0:=(by omega);have Sv:Hid (∀j,j<k+1->Pl.qF b (Pl.aD D j)=false):=fun j hj=>by
     by_cases e:j=k
     ·rw[e,HBD.o];simp;omega
     ·exact yX.o j (by omega)
    have h9:b=16\/¬ 9<d:=(by omega);have H9:Hid (b=16\/¬ 9<d):=h9;have La:Hid (v<=4294967295->v*b+d=Pl.val D b (k+1)):=fun h=>by
     show _=Pl.val D b k*b+Pl.hx (Pl.aD D k);rcases HV.o with e|e
     ·rw[e,GM.o]
     ·omega
    have HV3:Hid (¬v<=4294967295->4294967295<Pl.val D b (k+1)):=fun h=>by
     have:=HVS.o k hlt Sv.o;rcases HV.o with e|e <;> omega
    have aFA:Hid (v<=4294967295->0<=v*b/\v*b<=68719476720):=fun h=>by
     have a1:0<=v*b:=Int.mul_nonneg v0 (by omega);have a2:v*b<=4294967295*16:=Int.mul_le_mul h aFz (by omega) (by omega);omega
    have Iu:Hid (∀q:Bool,(q=true↔(o=true/\d<b))->(q=true↔∀j,j<k+1->Pl.hx (Pl.aD D j)<b)):=fun q hq=>by
     rw[hq,HO.o];constructor
     ·rintro⟨a1,a2⟩ j hj;by_cases e:j=k
      ·rw[e,<- GM.o];exact a2
      ·exact a1 j (by omega)
     ·intro a;exact⟨fun j hj=>a j (by omega),by rw[GM.o];exact a k (by omega)⟩
    clear hbad HBD yX HV HO h9 HB H6 OY;have fin:∀(v':Int) (q:Bool),0<=v'->v'<=68719476735->(q=true↔(o=true/\d<b))->(v'=Pl.val D b (k+1)\/(4294967295<v'/\4294967295<Pl.val D b (k+1)))->∃(k_1:Nat) (v:Int) (o:Bool),k_1<=D.size/\Value.int .i64 ((k:Int)+1)=.int .i64 k_1/\Value.int .i64 v'=.int .i64 v/\Value.bool q=.bool o/\0<=v/\v<=68719476735/\(∀j,j<k_1->Pl.qF b (Pl.aD D j)=false)/\(o=true↔∀j,j<k_1->Pl.hx (Pl.aD D j)<b)/\(v=Pl.val D b k_1\/(4294967295<v/\4294967295<Pl.val D b k_1)):=
     fun v' q a1 a2 a3 a4=>⟨k+1,v',q,by omega,by congr 1,rfl,rfl,a1,a2,Sv.o,Iu.o q a3,a4⟩
    have FIN:Hid _:=fin;clear fin;have hcase:((b == 10)=false/\(b == 8)=true/\¬ 9<d)\/((b == 10)=true/\(b == 8)=false/\¬ 9<d)\/((b == 10)=false/\(b == 8)=false):=by
     have:=H9.o;rcases qE.o with e|e|e
     ·left;simp[e];omega
     ·right;left;simp[e];omega
     ·right;right;simp[e]
    by_cases hm:v<=4294967295
    ·obtain⟨m0,m1⟩:=aFA.o hm;have HVV:Hid (v*b+d=Pl.val D b (k+1)):=La.o hm;by_cases vQ:d<b
     ·have aBQ:¬b<=d:=(by omega);rcases hcase with ⟨e10,e8,h9⟩|⟨e10,e8,h9⟩|⟨e10,e8⟩;all_goals
       go_wp2_with (go_at_call 138;refine (HH.o _).mono ?_;rintro e u1 ⟨rfl,rfl⟩)
       go_round
       case rel=>exact FIN.o _ _ (by omega) (by omega) (by simp;omega) (.inl HVV.o)
       case measure=>simp[intOf];omega
     ·have aBQ:b<=d:=(by omega);rcases hcase with ⟨e10,e8,h9⟩|⟨e10,e8,h9⟩|⟨e10,e8⟩;all_goals
       go_wp2_with (go_at_call 138;refine (HH.o _).mono ?_;rintro e u1 ⟨rfl,rfl⟩)
       go_round
       case rel=>exact FIN.o _ _ (by omega) (by omega) (by simp;omega) (.inl HVV.o)
       case measure=>simp[intOf];omega
    ·have HVV:Hid (4294967295<Pl.val D b (k+1)):=HV3.o hm;have hm':4294967295<v:=(by omega);by_cases vQ:d<b
     ·have aBQ:¬b<=d:=(by omega);rcases hcase with ⟨e10,e8,h9⟩|⟨e10,e8,h9⟩|⟨e10,e8⟩;all_goals
       go_wp2_with (go_at_call 138;refine (HH.o _).mono ?_;rintro e u1 ⟨rfl,rfl⟩)
       go_round
       case rel=>exact FIN.o _ _ (by omega) (by omega) (by simp;omega) (.inr ⟨hm',HVV.o⟩)
       case measure=>simp[intOf];omega
     ·have aBQ:b<=d:=(by omega);rcases hcase with ⟨e10,e8,h9⟩|⟨e10,e8,h9⟩|⟨e10,e8⟩;all_goals
       go_wp2_with (go_at_call 138;refine (HH.o _).mono ?_;rintro e u1 ⟨rfl,rfl⟩)
       go_round
       case rel=>exact FIN.o _ _ (by omega) (by omega) (by simp;omega) (.inr ⟨hm',HVV.o⟩)
       case measure=>simp[intOf];omega
  ·have hke:k=D.size:=(by omega);have hlt':¬(k:Int)<D.size:=(by omega);subst hke;by_cases Dv:o=false\/4294967295<v
   ·have HF:Hid (Pl.iU s=.error 6):=H6.o VK.o yX.o (by
     rcases Dv with e|e
     ·left;refine Classical.byContradiction fun hc=>?_;have:o=true:=HO.o.2 (fun j hj=>by
       rcases Int.lt_or_le (Pl.hx (Pl.aD D j)) b with q|q
       ·exact q
       ·exact absurd ⟨j,hj,q⟩ hc)
      rw[e]at this;cases this
     ·right;rcases HV.o with q|q <;> omega)
    clear yX HO HV HB H6 OY HVS VK;cases o
    ·clear Dv;go_wp2_with fail
     go_ret3
     exact⟨vS HF.o,rfl⟩
    ·have hv6:4294967295<v:=(by simpa using Dv);clear Dv;go_wp2_with fail
     go_ret3
     exact⟨vS HF.o,rfl⟩
   ·have hot:o=true:=(by cases o <;> simp_all);have hv6:¬ 4294967295<v:=fun h=>Dv (.inr h);have hvv:v=Pl.val D b D.size:=(by rcases HV.o with q|q;exact q;omega);have HF:Hid (Pl.iU s=.ok (if Pl.uu l=true\/2147483647<v then ⟨#[117]⟩ else ⟨#[]⟩,v)):=by
     have:=OY.o VK.o yX.o (HO.o.1 hot) (by omega);rw[<- hvv]at this;exact this
    subst hot;clear yX HO HV HB H6 OY HVS VK Dv hvv;by_cases h2:2147483647<v
    ·go_wp2_with fail
     go_ret3
     exact⟨Av HF.o (by rw[if_pos (.inr h2)]) rfl,rfl⟩
    ·go_wp2_with fail
     go_ret3
     refine⟨Av HF.o ?_ rfl,rfl⟩;rw[JP.o];by_cases hu:Pl.uu l=true
     ·rw[if_pos hu,if_pos (.inl hu)]
     ·rw[if_neg hu,if_neg (by rintro (q|q);exact hu q;omega)]
end W
end Go.Proofs.YtjcdiegfnoaedaaGreatDoor
