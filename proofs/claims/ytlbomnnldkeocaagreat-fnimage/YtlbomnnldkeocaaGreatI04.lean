import Derived.Test.YtlbomnnldkeocaaGreatI00
import Derived.Test.YtlbomnnldkeocaaGreatI03
set_option linter.unusedVariables false
set_option maxHeartbeats 16000000
namespace Go.Proofs.YtlbomnnldkeocaaGreat.W
open Go.RowKit
theorem xW (n:Int) (w:World):Calls Tryz.prog 121 #[.int .i64 n] w fun e w'=>e=.returned (.bool (Pl.LK n))/\w'=w:=by
 go_enter Tryz.func121,Tryz.ntmps121
 go_wp2_with (go_at_call 133;refine (rE _ _).mono ?_;rintro e w' ⟨rfl,rfl⟩)
 go_ret
 exact⟨aI (Pl.Ct n),rfl⟩
theorem lH (n:Int) (w:World):Calls Tryz.prog 46 #[.int .i64 n] w fun e w'=>e=.returned (.bool (Pl.NM n))/\w'=w:=by
 by_cases h1:0<=n <;> by_cases h2:n<=65536
 all_goals
  go_enter Tryz.func46,Tryz.ntmps46
  go_wp2
  go_ret
  refine⟨aI ?_,rfl⟩
 ·by_cases h:n % 16=0 <;> simp[Pl.NM,h,h1,h2]
 all_goals (symm;rw[Bool.eq_false_iff];intro hc;simp[Pl.NM]at hc;omega)
theorem BL {lo:Nat} (a:Option Addr) (len cap:Nat) (zs:List Int) (w:World) (h:Row .i64 lo w a len cap zs) :
  Calls Tryz.prog 93 #[.slice a len cap] w fun e w'=>e=.returned (.bool (zs.all Pl.LK))/\w'=w:=by
 have hsm:=h.small
 obtain⟨hl,_,_,_,hr⟩:=h
 have HL:Hid (zs.length=len):=hl
 clear hl
 rcases hr with rfl | ⟨b,off,rfl,_,_,hc⟩
 ·go_enter Tryz.func93,Tryz.ntmps93
  go_wp2
  go_loop [7] (fun i=>i=.int .i64 0) (fun i=>0)
  case atStart=>rfl
  case round=>
   subst hrel
   go_wp2
   go_ret
   exact⟨aI (by have:=HL.out;cases zs with | nil=>rfl | cons=>simp at this),rfl⟩
 ·have HC:Hid (∀ i,i<len->w.cell? ⟨b,off+i,none⟩=some (.int .i64 (zs.getD i 0))):=hc
  clear hc
  go_enter Tryz.func93,Tryz.ntmps93
  go_wp2
  go_loop [7] (fun i=>∃ k:Nat,k<=len/\i=.int .i64 k/\∀ j,j<k->Pl.LK (zs.getD j 0)=true) (fun i=>len-(intOf i).toNat)
  case atStart=>exact⟨0,Nat.zero_le _,rfl,fun j hj=>absurd hj (Nat.not_lt_zero _)⟩
  case round=>
   obtain⟨k,hk,rfl,hall⟩:=hrel
   have HA:Hid (∀ j,j<k->Pl.LK (zs.getD j 0)=true):=hall
   clear hall
   by_cases hlt:k<len
   ·obtain⟨x,hx⟩:∃ x,x=zs.getD k 0:=⟨_,rfl⟩
    have hcell:w.cell? ⟨b,off+k,none⟩=some (.int .i64 x):=by rw[hx];exact HC.out k hlt
    have HX:Hid (x=zs.getD k 0):=hx
    clear hx
    cases hb:Pl.LK x
    ·go_wp2_with (go_at_call 121;refine (xW _ _).mono ?_;rintro e w' ⟨rfl,rfl⟩; simp only[hb])
     go_ret
     exact⟨aI (Pl.wZ (k:=k) (by have:=HL.out;omega) (by rw[<- HX.out];exact hb)).symm,rfl⟩
    ·go_wp2_with (go_at_call 121;refine (xW _ _).mono ?_;rintro e w' ⟨rfl,rfl⟩; simp only[hb])
     go_round
     case rel=>
      refine⟨k+1,by omega,by go_num,fun j hj=>?_⟩
      by_cases hjk:j<k
      ·exact HA.out j hjk
      ·have:j=k:=by omega
       subst this;rw[<- HX.out];exact hb
     case measure=>simp[intOf];omega
   ·have hke:k=len:=by omega
    subst hke
    go_wp2
    go_ret
    exact⟨aI (Pl.DK (fun j hj=>HA.out j (by have:=HL.out;omega))).symm,rfl⟩
theorem lQ {lo:Nat} (a:Option Addr) (len cap:Nat) (zs:List Int) (w:World) (h:Row .i64 lo w a len cap zs) :
  Calls Tryz.prog 44 #[.slice a len cap] w fun e w'=>e=.returned (.bool (Pl.NN zs))/\w'=w:=by
 have hsm:=h.small
 have HL:Hid (zs.length=len):=h.1
 have HR:Hid (Row .i64 lo w a len cap zs):=h
 clear h
 rcases (show (1<=len/\len<=16384)\/len<1\/16384<len from by omega) with ⟨h1,h2⟩ | h1 | h1
 all_goals
  go_enter Tryz.func44,Tryz.ntmps44
  go_wp2_with (go_at_call 93;refine (BL _ _ _ zs _ HR.out).mono ?_;rintro e w' ⟨rfl,rfl⟩)
  go_ret
  refine⟨aI ?_,rfl⟩
  have hl:=HL.out
  unfold Pl.NN
  rw[hl]
 ·simp[h1,h2]
 all_goals (symm;rw[Bool.eq_false_iff];intro hc;simp at hc;omega)
theorem mX (a:Option Addr) (len cap:Nat) (at_:Int) (hl:len<=9223372036854775807) (hb : -9223372036854775808<=at_/\at_<=9223372036854775807) (w:World) :
  Calls Tryz.prog 45 #[.slice a len cap,.int .i64 at_] w fun e w'=>e=.returned (.int .i64 (Pl.place len at_))/\w'=w:=by
 by_cases h1:at_<65536
 ·have HP:Hid (Pl.place len at_=-1):=by unfold Pl.place;exact if_neg (by omega)
  go_enter Tryz.func45,Tryz.ntmps45
  go_wp2
  go_ret
  exact⟨aO HP.out.symm,rfl⟩
 ·by_cases h2:at_ % 4=0
  ·by_cases h3:(at_-65536) / 4<len
   ·have HP:Hid (Pl.place len at_=(at_-65536) / 4):=by unfold Pl.place;exact if_pos (by omega)
    go_enter Tryz.func45,Tryz.ntmps45
    go_wp2
    go_ret
    exact⟨aO HP.out.symm,rfl⟩
   ·have HP:Hid (Pl.place len at_=-1):=by unfold Pl.place;exact if_neg (by omega)
    go_enter Tryz.func45,Tryz.ntmps45
    go_wp2
    go_ret
    exact⟨aO HP.out.symm,rfl⟩
  ·have HP:Hid (Pl.place len at_=-1):=by unfold Pl.place;exact if_neg (by omega)
   go_enter Tryz.func45,Tryz.ntmps45
   go_wp2
   go_ret
   exact⟨aO HP.out.symm,rfl⟩
theorem zG (a:Option Addr) (len cap:Nat) (at_:Int) (hl:len<=1152921504606846976) (hb : -9223372036854775808<=at_/\at_<=9223372036854775807) (w:World) :
  Calls Tryz.prog 27 #[.slice a len cap,.int .i64 at_] w fun e w'=>e=.returned (.int .i64 (Pl.place len at_))/\w'=w:=by
 by_cases h0:at_ < -9223372036854710272
 ·have HP:Hid (Pl.place len at_=-1):=by unfold Pl.place;exact if_neg (by omega)
  have e:wrap64 (at_-65536)=at_-65536+18446744073709551616:=by simp only[wrap64];omega
  by_cases h2:(at_-65536+18446744073709551616) % 4=0
  all_goals
   go_enter Tryz.func27,Tryz.ntmps27
   go_wp2
   go_ret
   exact⟨aO HP.out.symm,rfl⟩
 by_cases h1:at_<65536
 ·have HP:Hid (Pl.place len at_=-1):=by unfold Pl.place;exact if_neg (by omega)
  go_enter Tryz.func27,Tryz.ntmps27
  go_wp2
  go_ret
  exact⟨aO HP.out.symm,rfl⟩
 ·by_cases h2:at_ % 4=0
  ·by_cases h3:(at_-65536) / 4<len
   ·have HP:Hid (Pl.place len at_=(at_-65536) / 4):=by unfold Pl.place;exact if_pos (by omega)
    go_enter Tryz.func27,Tryz.ntmps27
    go_wp2
    go_ret
    exact⟨aO HP.out.symm,rfl⟩
   ·have HP:Hid (Pl.place len at_=-1):=by unfold Pl.place;exact if_neg (by omega)
    go_enter Tryz.func27,Tryz.ntmps27
    go_wp2
    go_ret
    exact⟨aO HP.out.symm,rfl⟩
  ·have HP:Hid (Pl.place len at_=-1):=by unfold Pl.place;exact if_neg (by omega)
   go_enter Tryz.func27,Tryz.ntmps27
   go_wp2
   go_ret
   exact⟨aO HP.out.symm,rfl⟩
end Go.Proofs.YtlbomnnldkeocaaGreat.W
namespace Go.Proofs.YtlbomnnldkeocaaGreat.Pl
end Go.Proofs.YtlbomnnldkeocaaGreat.Pl
namespace Go.Proofs.YtlbomnnldkeocaaGreat.W
open Go.RowKit
end Go.Proofs.YtlbomnnldkeocaaGreat.W
namespace Go.Proofs.YtlbomnnldkeocaaGreat.Pl
structure Kw where
 code:List Int
 pc:Int
 regs:List Int
 data:List Int
 VW:List Int
 inp:List Int
 out:List Int
 steps:Int
 fin:Int
 val:Int
structure LX where
 code:List Int
 data:List Int
 entry:Int
 size:Int
def Bd (m:LX):Bool:=NN m.code && (decide (m.data.length<=65536) && (decide (0<=place m.code.length m.entry) && NM m.size))
end Go.Proofs.YtlbomnnldkeocaaGreat.Pl
namespace Go.Proofs.YtlbomnnldkeocaaGreat.W
open Go.RowKit
structure SV where
 a:Option Addr
 len:Nat
 cap:Nat
structure MV where
 code:SV
 regs:SV
 data:SV
 VW:SV
 inp:SV
 out:SV
structure IV where
 code:SV
 data:SV
def Qg (lo:Nat) (w:World) (v:MV) (m:Pl.Kw):Prop:=
 Row .i64 lo w v.code.a v.code.len v.code.cap m.code/\Row .i64 lo w v.regs.a v.regs.len v.regs.cap m.regs/\Row .u8 lo w v.data.a v.data.len v.data.cap m.data/\
 Row .u8 lo w v.VW.a v.VW.len v.VW.cap m.VW/\Row .u8 lo w v.inp.a v.inp.len v.inp.cap m.inp/\Row .u8 lo w v.out.a v.out.len v.out.cap m.out
def Ju (lo:Nat) (w:World) (v:IV) (m:Pl.LX):Prop:=Row .i64 lo w v.code.a v.code.len v.code.cap m.code/\Row .u8 lo w v.data.a v.data.len v.data.cap m.data
theorem Qg.keep {lo:Nat} {w w':World} {v:MV} {m:Pl.Kw} (h:Qg lo w v m) (hb:Below w.heap.size w w'):Qg lo w' v m:=
 ⟨h.1.keep hb,h.2.1.keep hb,h.2.2.1.keep hb,h.2.2.2.1.keep hb,h.2.2.2.2.1.keep hb,h.2.2.2.2.2.keep hb⟩
theorem Ju.keep {lo:Nat} {w w':World} {v:IV} {m:Pl.LX} (h:Ju lo w v m) (hb:Below w.heap.size w w'):Ju lo w' v m:=⟨h.1.keep hb,h.2.keep hb⟩
end Go.Proofs.YtlbomnnldkeocaaGreat.W
namespace Go.Proofs.YtlbomnnldkeocaaGreat.Pl
end Go.Proofs.YtlbomnnldkeocaaGreat.Pl
namespace Go.Proofs.YtlbomnnldkeocaaGreat.W
open Go.RowKit
def QS (lo:Nat) (w:World) (v:MV) (m:Pl.Kw):Prop:=
 Own .i64 3 lo w v.code.a v.code.len v.code.cap m.code/\Own .i64 3 lo w v.regs.a v.regs.len v.regs.cap m.regs/\Own .u8 5 lo w v.data.a v.data.len v.data.cap m.data/\
 Own .u8 5 lo w v.VW.a v.VW.len v.VW.cap m.VW/\Own .u8 5 lo w v.inp.a v.inp.len v.inp.cap m.inp/\Own .u8 5 lo w v.out.a v.out.len v.out.cap m.out
def QT (lo:Nat) (w:World) (v:IV) (m:Pl.LX):Prop:=Own .i64 3 lo w v.code.a v.code.len v.code.cap m.code/\Own .u8 5 lo w v.data.a v.data.len v.data.cap m.data
theorem QT.is {lo:Nat} {w:World} {v:IV} {m:Pl.LX} (h:QT lo w v m):Ju lo w v m:=⟨h.1.row,h.2.row⟩
theorem QT.keep {lo:Nat} {w w':World} {v:IV} {m:Pl.LX} (h:QT lo w v m) (hb:Below w.heap.size w w'):QT lo w' v m:=⟨h.1.keep hb,h.2.keep hb⟩
theorem QS.is {lo:Nat} {w:World} {v:MV} {m:Pl.Kw} (h:QS lo w v m):Qg lo w v m:=⟨h.1.row,h.2.1.row,h.2.2.1.row,h.2.2.2.1.row,h.2.2.2.2.1.row,h.2.2.2.2.2.row⟩
theorem QS.keep {lo:Nat} {w w':World} {v:MV} {m:Pl.Kw} (h:QS lo w v m) (hb:Below w.heap.size w w'):QS lo w' v m:=
 ⟨h.1.keep hb,h.2.1.keep hb,h.2.2.1.keep hb,h.2.2.2.1.keep hb,h.2.2.2.2.1.keep hb,h.2.2.2.2.2.keep hb⟩
theorem xX {P:Program} {f:Nat} {args:Array Value} {W:World} {Q:Ending->World->Prop} (h:∀ U,U=W->Calls P f args U Q):Calls P f args W Q:=h W rfl
theorem xB {lo:Nat} (v:IV) (m:Pl.LX) (w:World) (h:Ju lo w v m) (he : -9223372036854775808<=m.entry/\m.entry<=9223372036854775807) :
  Calls Tryz.prog 9 #[.agg #[.slice v.code.a v.code.len v.code.cap,.slice v.data.a v.data.len v.data.cap,.int .i64 m.entry,.int .i64 m.size]] w fun e w'=>e=.returned (.bool (Pl.Bd m))/\Below w.heap.size w w':=by
 obtain⟨⟨ca,cl,cc⟩,⟨da,dl,dc⟩⟩:=v
 obtain⟨code,data,entry,size⟩:=m
 have h':=h.keep (aB w (.cells #[.slice ca cl cc,.slice da dl dc,.int .i64 entry,.int .i64 size] 28))
 obtain⟨r1,r3⟩:=h'
 dsimp only at r1 r3 he ⊢
 have l1:=r1.small
 have l3:=r3.small
 have E1:Hid (code.length=cl):=r1.1
 have E3:Hid (data.length=dl):=r3.1
 have R1:Hid (Row .i64 lo _ ca cl cc code):=r1
 clear r1 r3 h
 unfold Pl.Bd
 dsimp only
 rw[E1.out,E3.out]
 obtain⟨pl,hp⟩:∃ pl,pl=Pl.place cl entry:=⟨_,rfl⟩
 rw[<- hp]
 cases cs:Pl.NM size
 all_goals
  cases c1:Pl.NN code
  ·go_enter Tryz.func9,Tryz.ntmps9
   go_wp2_with (first | (go_at_call 44;refine (lQ _ _ _ code _ R1.out).mono ?_;rintro e w' ⟨rfl,rfl⟩; simp only[c1]) | (go_at_call 46;refine (lH _ _).mono ?_;rintro e w' ⟨rfl,rfl⟩; simp only[cs]) | (go_at_call 45;refine (mX _ _ _ _ (by omega) he _).mono ?_;rintro e w' ⟨rfl,rfl⟩; rw[<- hp]))
   go_ret
   exact⟨rfl,aB _ _⟩
  have hc:cl<=16384:=by
   have:=c1
   unfold Pl.NN at this
   rw[E1.out]at this
   simp at this
   omega
  by_cases c2:dl<=65536
  rotate_left
  ·rw[decide_eq_false c2]
   go_enter Tryz.func9,Tryz.ntmps9
   go_wp2_with (first | (go_at_call 44;refine (lQ _ _ _ code _ R1.out).mono ?_;rintro e w' ⟨rfl,rfl⟩; simp only[c1]) | (go_at_call 46;refine (lH _ _).mono ?_;rintro e w' ⟨rfl,rfl⟩; simp only[cs]) | (go_at_call 45;refine (mX _ _ _ _ (by omega) he _).mono ?_;rintro e w' ⟨rfl,rfl⟩; rw[<- hp]))
   go_ret
   exact⟨rfl,aB _ _⟩
  rw[decide_eq_true c2]
  by_cases c3:0<=pl
  ·rw[decide_eq_true c3]
   go_enter Tryz.func9,Tryz.ntmps9
   go_wp2_with (first | (go_at_call 44;refine (lQ _ _ _ code _ R1.out).mono ?_;rintro e w' ⟨rfl,rfl⟩; simp only[c1]) | (go_at_call 46;refine (lH _ _).mono ?_;rintro e w' ⟨rfl,rfl⟩; simp only[cs]) | (go_at_call 45;refine (mX _ _ _ _ (by omega) he _).mono ?_;rintro e w' ⟨rfl,rfl⟩; rw[<- hp]))
   go_ret
   first | exact⟨rfl,aB _ _⟩ | exact⟨aI (a:=decide (0<=Pl.place cl entry)) (by rw[<- hp,decide_eq_true c3];rfl),aB _ _⟩
  ·rw[decide_eq_false c3]
   go_enter Tryz.func9,Tryz.ntmps9
   go_wp2_with (first | (go_at_call 44;refine (lQ _ _ _ code _ R1.out).mono ?_;rintro e w' ⟨rfl,rfl⟩; simp only[c1]) | (go_at_call 46;refine (lH _ _).mono ?_;rintro e w' ⟨rfl,rfl⟩; simp only[cs]) | (go_at_call 45;refine (mX _ _ _ _ (by omega) he _).mono ?_;rintro e w' ⟨rfl,rfl⟩; rw[<- hp]))
   go_ret
   first | exact⟨rfl,aB _ _⟩ | exact⟨aI (a:=decide (0<=Pl.place cl entry)) (by rw[<- hp,decide_eq_false (by omega)];rfl),aB _ _⟩
end Go.Proofs.YtlbomnnldkeocaaGreat.W
