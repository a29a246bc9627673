import Derived.Test.YtjcdiegfnoaedaaGreatDoorZ02
set_option linter.unusedVariables false
set_option linter.unusedSimpArgs false
set_option maxHeartbeats 16000000
namespace Go.Proofs.YtjcdiegfnoaedaaGreatDoor
namespace W
open Go.RowKit
set_option maxRecDepth 100000 in
theorem LD (t:ByteArray) (hmax:t.size<=9223372036854775806) (w:World) :
  Calls Tryz.prog 160 #[.string t,.int .i64 10,.int .i64 32] w (vC t 10 4294967295 w):=by
 by_cases hne:t.size=0
 ·have ht:t=⟨#[]⟩:=by
   cases t with|mk d=>congr;exact Array.eq_empty_of_size_eq_zero hne
  have HG:Hid (¬Pl.Good t 10 4294967295):=fun h=>by have:=h.1;omega
  subst ht;go_enter Tryz.func160,Tryz.ntmps160;go_wp2;go_ret2;exact aK HG.o (by first|exact .inl rfl|exact .inr rfl) (Below.refl _ _)
 have hemp:t.toList.isEmpty=false:=by
  rw[<- decide_eq_emptyBytes];exact decide_eq_false (fun h=>hne (by rw[h];rfl))
 have hcv:=Lib.run_convert_string_bytes (P:=Tryz.prog) w 9 26 5 t (u:=.string) Tryz.underlying9 Tryz.underlying26 Tryz.underlying5;have HB:Hid (∀j,j<t.size->(Lib.bytesWorld w 5 t).cell? ⟨w.heap.size,j,none⟩=some (.int .u8 (Pl.aD t j))):=fun j hj=>Lib.bytesWorld_cell w 5 t j hj;have nJ:Hid (Bw w (Lib.bytesWorld w 5 t)):=Lib.bytesWorld_below _ _ _;obtain⟨W1,hW1⟩:∃W1,W1=Lib.bytesWorld w 5 t:=⟨_,rfl⟩;rw[<- hW1]at hcv HB nJ;clear hW1;have hmv:IntKind.u64.wrap (IntKind.u64.wrap 4294967296-1)=4294967295:=by
  rw[IntKind.wrap_u64,IntKind.wrap_u64]
  decide
 have Ub:IntKind.u64.wrap (IntKind.u64.wrap 256-1)=255:=by
  rw[IntKind.wrap_u64,IntKind.wrap_u64]
  decide
 have HP:Hid (0<t.size):=by show 0<t.size;omega
 clear hne;go_enter Tryz.func160,Tryz.ntmps160;go_wp2;go_loop [12,13,101] (fun vu vn vi=>∃(k:Nat) (a:Int),vu=.bool false/\vn=.int .u64 a/\vi=.int .i64 k/\k<=t.size/\0<=a/\a<=4294967295/\a=Pl.val t 10 k/\∀j,j<k->0<=Pl.hx (Pl.aD t j)/\Pl.hx (Pl.aD t j)<10)
  (fun _ _ vi=>t.size-(intOf vi).toNat)
 case atStart=>exact⟨0,0,rfl,rfl,rfl,by omega,by omega,by omega,rfl,fun j hj=>absurd hj (Nat.not_lt_zero _)⟩
 case round=>
  obtain⟨k,a,rfl,rfl,rfl,hk,a0,a1,Ah,hall⟩:=hrel;have HV:Hid (a=Pl.val t 10 k):=Ah;have HA:Hid (∀j,j<k->0<=Pl.hx (Pl.aD t j)/\Pl.hx (Pl.aD t j)<10):=hall;clear Ah hall;by_cases hkn:k<t.size
  ·have hc:=HB.o k hkn;have hc0:=Pl.sP t k;have hc1:=Pl.sQ t k;obtain⟨c,hcc⟩:∃c,c=Pl.aD t k:=⟨_,rfl⟩;rw[<- hcc]at hc hc0 hc1;have HCC:Hid (c=Pl.aD t k):=hcc;have QA:Hid (4294967295<a*10+Pl.hx c->¬Pl.Good t 10 4294967295):=fun h=>by
    have h2:=h;rw[HV.o,hcc]at h2;exact Pl.oM (by decide) k hkn h2
   have BS:Hid (Pl.hx c<0\/10<=Pl.hx c->¬Pl.Good t 10 4294967295):=fun h=>by
    have h2:=h;rw[hcc]at h2;exact Pl.nO k hkn h2
   have xU:Hid (∀d,Pl.hx c=d->0<=d->d<10->a*10+d=Pl.val t 10 (k+1)/\∀j,j<k+1->0<=Pl.hx (Pl.aD t j)/\Pl.hx (Pl.aD t j)<10):=fun d e d0 d1=>by
    refine⟨?_,fun j hj=>?_⟩
    ·show _=Pl.val t 10 k*10+Pl.hx (Pl.aD t k);rw[<- hcc,e,HV.o]
    ·by_cases q:j=k
     ·rw[q,<- hcc,e];exact⟨d0,d1⟩
     ·exact HA.o j (by omega)
   clear hcc HV HA HB HP;by_cases hd:48<=c/\c<=57
   ·obtain⟨hd0,hd1⟩:=hd;have HH:Hid (Pl.hx c=c-48):=Pl.uB c hd0 hd1;by_cases vQ:c-48<10
    ·by_cases hm:a*10+(c-48)<=4294967295
     ·go_wp2;all_goals exact⟨⟨k+1,_,rfl,rfl,(by first|rfl|(congr 1;omega)),by omega,by omega,by omega,(xU.o _ HH.o (by omega) vQ).1,(xU.o _ HH.o (by omega) vQ).2⟩,by simp[intOf];omega⟩
     ·go_wp2;all_goals (go_ret2;exact aK (QA.o (by rw[HH.o];omega)) (by first|exact .inl rfl|exact .inr rfl) nJ.o)
    ·go_wp2;all_goals (go_ret2;exact aK (BS.o (by rw[HH.o];omega)) (by first|exact .inl rfl|exact .inr rfl) nJ.o)
   ·obtain⟨l,hl⟩:∃l,l=bits .or .u8 c 32:=⟨_,rfl⟩;have hlt:(97<=l/\l<=102/\Pl.hx c=l-87/\c≠95)\/(103<=l/\l<=122/\Pl.hx c=-1/\c≠95)\/((l<97\/122<l)/\Pl.hx c=-1):=by
     have:=Pl.xR c.toNat (by omega) (by omega);rw[Int.toNat_of_nonneg hc0]at this;rw[hl];rcases this with ⟨q1,q2,q3,q4⟩|⟨q1,q2,q3,q4⟩|q
     ·exact .inl ⟨q1,q2,q3,by omega⟩
     ·exact .inr (.inl ⟨q1,q2,q3,by omega⟩)
     ·exact .inr (.inr q)
    have xV:Hid (∀w,Calls Tryz.prog 171 #[.int .u8 c] w fun e w'=>e=.returned (.int .u8 l)/\w'=w):=fun w=>by rw[hl];exact vB c w
    clear hl;rcases hlt with ⟨l0,l1,hh,xW⟩|⟨l0,l1,hh,xW⟩|⟨Uc,hh⟩
    ·have HH:Hid (Pl.hx c=l-87):=hh;have Ai:(c == 95)=false:=(by simp[xW]);clear hh xW;by_cases vQ:l-87<10
     ·by_cases hm:a*10+(l-87)<=4294967295
      ·go_wp2_with (go_at_call 171;refine (xV.o _).mono ?_;rintro e u1 ⟨rfl,rfl⟩)
       all_goals exact⟨⟨k+1,_,rfl,rfl,(by first|rfl|(congr 1;omega)),by omega,by omega,by omega,by have:=(xU.o _ HH.o (by omega) vQ).1;omega,(xU.o _ HH.o (by omega) vQ).2⟩,by simp[intOf];omega⟩
      ·go_wp2_with (go_at_call 171;refine (xV.o _).mono ?_;rintro e u1 ⟨rfl,rfl⟩)
       all_goals (go_ret2;exact aK (QA.o (by rw[HH.o];omega)) (by first|exact .inl rfl|exact .inr rfl) nJ.o)
     ·go_wp2_with (go_at_call 171;refine (xV.o _).mono ?_;rintro e u1 ⟨rfl,rfl⟩)
      all_goals (go_ret2;exact aK (BS.o (by rw[HH.o];omega)) (by first|exact .inl rfl|exact .inr rfl) nJ.o)
    ·have HH:Hid (Pl.hx c=-1):=hh;have Ai:(c == 95)=false:=(by simp[xW]);clear hh xW;go_wp2_with (go_at_call 171;refine (xV.o _).mono ?_;rintro e u1 ⟨rfl,rfl⟩)
     all_goals (go_ret2;exact aK (BS.o (by rw[HH.o];omega)) (by first|exact .inl rfl|exact .inr rfl) nJ.o)
    ·have HH:Hid (Pl.hx c=-1):=hh;clear hh;cases Ai:(c == 95) <;> rcases Uc with l0|l0
     all_goals
      go_wp2_with (go_at_call 171;refine (xV.o _).mono ?_;rintro e u1 ⟨rfl,rfl⟩)
      all_goals (go_ret2;exact aK (BS.o (by rw[HH.o];omega)) (by first|exact .inl rfl|exact .inr rfl) nJ.o)
  ·have hkk:k=t.size:=(by omega);subst hkk;have HG:Hid (Pl.Good t 10 4294967295):=⟨HP.o,HA.o,by rw[<- HV.o];exact a1⟩;have La:Hid (a=Pl.val t 10 t.size):=HV.o;clear HV HA;go_wp2;go_ret2;exact rH HG.o La.o nJ.o
end W
end Go.Proofs.YtjcdiegfnoaedaaGreatDoor
