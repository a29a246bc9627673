import Derived.Test.YtlbomnnldkeocaaGreatI00
import Derived.Test.YtlbomnnldkeocaaGreatI11
import Derived.Test.YtlbomnnldkeocaaGreatI12
import Derived.Test.YtlbomnnldkeocaaGreatI13
set_option linter.unusedVariables false
set_option linter.unusedSimpArgs false
set_option maxHeartbeats 16000000
namespace Go.Proofs.YtlbomnnldkeocaaGreat.Pl
def dg (c:Int):Bool:=decide (48<=c/\c<=57)
def lt (c:Int):Bool:=decide (97<=c/\c<=122) || decide (65<=c/\c<=90)
def ch (c:Int):Bool:=dg c || lt c || c == 95 || c == 46 || c == 36
def Ls (c:Int):Bool:=dg c || lt c || c == 95
theorem SA (c:Int):ch c=(Ls c || c == 46 || c == 36):=rfl
def IU (s:ByteArray) (i:Nat):Int:=((s.data.toList.getD i 0).toNat:Int)
theorem mZ (s:ByteArray) (i:Nat) (h:i<s.size):((s[i]'h).toNat:Int)=IU s i:=by
 obtain⟨⟨l⟩⟩:=s
 have hl:i<l.length:=h
 unfold IU
 simp only[List.getD,List.getElem?_eq_getElem hl,Option.getD_some]
 rfl
def lab (s:ByteArray):Bool:=decide (1<=s.size) && decide (s.size<=48) && !dg (IU s 0) && (List.range s.size).all fun i=>ch (IU s i)
theorem oL (s:ByteArray):s.toList=[]↔s.size=0:=by
 rw[ByteArray.toList_eq]
 show s.data.toList=[]↔s.data.size=0
 rw[<- Array.length_toList]
 exact List.length_eq_zero_iff.symm
theorem MP (s:ByteArray) (h1:0<s.size) (h2:s.size<=48) (h3:dg (IU s 0)=false) (h4:∀ j,j<s.size->ch (IU s j)=true):lab s=true:=by
 unfold lab
 simp only[Bool.and_eq_true,decide_eq_true_eq,List.all_eq_true,List.mem_range,Bool.not_eq_true',h3]
 exact⟨⟨⟨by omega,h2⟩,trivial⟩,h4⟩
theorem SC (s:ByteArray) (k:Nat) (h1:k<s.size) (h2:ch (IU s k)=false):lab s=false:=by
 unfold lab
 rw[Bool.and_eq_false_iff]
 right
 rw[List.all_eq_false]
 exact⟨k,List.mem_range.2 h1,by simp[h2]⟩
end Go.Proofs.YtlbomnnldkeocaaGreat.Pl
namespace Go.Proofs.YtlbomnnldkeocaaGreat.W
open Go.RowKit
theorem qC (c:Int) (w:World):Calls Tryz.prog 134 #[.int .u8 c] w fun e w'=>e=.returned (.bool (Pl.dg c))/\w'=w:=by
 go_enter Tryz.func134,Tryz.ntmps134
 go_wp2
 all_goals (go_ret;refine⟨aI ?_,rfl⟩; rw[Bool.eq_iff_iff];simp[Pl.dg,Pl.lt,Pl.ch] <;> omega)
theorem qD (c:Int) (w:World):Calls Tryz.prog 100 #[.int .u8 c] w fun e w'=>e=.returned (.bool (Pl.dg c))/\w'=w:=by
 go_enter Tryz.func100,Tryz.ntmps100
 go_wp2
 all_goals (go_ret;refine⟨aI ?_,rfl⟩; rw[Bool.eq_iff_iff];simp[Pl.dg,Pl.lt,Pl.ch] <;> omega)
theorem vC (c:Int) (w:World):Calls Tryz.prog 101 #[.int .u8 c] w fun e w'=>e=.returned (.bool (Pl.lt c))/\w'=w:=by
 go_enter Tryz.func101,Tryz.ntmps101
 go_wp2
 all_goals (go_ret;refine⟨aI ?_,rfl⟩; rw[Bool.eq_iff_iff];simp[Pl.dg,Pl.lt,Pl.ch] <;> omega)
theorem yJ (c:Int) (w:World):Calls Tryz.prog 141 #[.int .u8 c] w fun e w'=>e=.returned (.bool (Pl.Ls c))/\w'=w:=by
 cases hd:Pl.dg c
 ·have hn:¬ (48<=c/\c<=57):=by simpa [Pl.dg] using hd
  go_enter Tryz.func141,Tryz.ntmps141
  go_wp2_with (go_at_call 134;refine (qC _ _).mono ?_;rintro e u1 ⟨rfl,rfl⟩; rw[hd])
  all_goals (go_ret;refine⟨aI ?_,rfl⟩; rw[Bool.eq_iff_iff];simp[Pl.dg,Pl.lt,Pl.Ls] <;> omega)
 ·have hn:48<=c/\c<=57:=by simpa [Pl.dg] using hd
  go_enter Tryz.func141,Tryz.ntmps141
  go_wp2_with (go_at_call 134;refine (qC _ _).mono ?_;rintro e u1 ⟨rfl,rfl⟩; rw[hd])
  all_goals (go_ret;refine⟨aI ?_,rfl⟩; rw[Bool.eq_iff_iff];simp[Pl.dg,Pl.lt,Pl.Ls] <;> omega)
theorem wT (c:Int) (w:World):Calls Tryz.prog 135 #[.int .u8 c] w fun e w'=>e=.returned (.bool (Pl.ch c))/\w'=w:=by
 cases hd:Pl.Ls c
 ·go_enter Tryz.func135,Tryz.ntmps135
  go_wp2_with (go_at_call 141;refine (yJ _ _).mono ?_;rintro e u1 ⟨rfl,rfl⟩; rw[hd])
  all_goals (go_ret;refine⟨aI ?_,rfl⟩; rw[Pl.SA,hd,Bool.eq_iff_iff];simp <;> omega)
 ·go_enter Tryz.func135,Tryz.ntmps135
  go_wp2_with (go_at_call 141;refine (yJ _ _).mono ?_;rintro e u1 ⟨rfl,rfl⟩; rw[hd])
  all_goals (go_ret;refine⟨aI ?_,rfl⟩; rw[Pl.SA,hd,Bool.eq_iff_iff];simp)
theorem AV (n:Int) (w:World):Calls Tryz.prog 64 #[.int .i64 n] w fun e w'=>e=.returned (.bool (decide (-2147483648<=n/\n<=2147483647)))/\w'=w:=by
 go_enter Tryz.func64,Tryz.ntmps64
 go_wp2
 all_goals (go_ret;refine⟨aI ?_,rfl⟩; rw[Bool.eq_iff_iff];simp <;> omega)
theorem FI (n:Int) (w:World):Calls Tryz.prog 63 #[.int .i64 n] w fun e w'=>e=.returned (.bool (decide (0<=n/\n<=4294967295)))/\w'=w:=by
 go_enter Tryz.func63,Tryz.ntmps63
 go_wp2
 all_goals (go_ret;refine⟨aI ?_,rfl⟩; rw[Bool.eq_iff_iff];simp <;> omega)
theorem FJ (s:ByteArray) (w:World):Calls Tryz.prog 126 #[.string s] w fun e w'=>e=.returned (.bool (Pl.lab s))/\w'=w:=by
 by_cases he:s.size=0
 ·have hl:Pl.lab s=false:=by simp[Pl.lab,he]
  rw[hl]
  have hn:=(Pl.oL s).2 he
  have hz:(s.size:Int)<1:=by omega
  clear hl
  go_enter Tryz.func126,Tryz.ntmps126
  go_wp2
  go_ret
  exact⟨rfl,rfl⟩
 have hpos:0<s.size:=by omega
 have hn:¬ s.toList=[]:=fun h=>he ((Pl.oL s).1 h)
 have hge:¬ ((s.size:Int)<1):=by omega
 by_cases hb:48<s.size
 ·have hl:Pl.lab s=false:=by simp[Pl.lab];omega
  rw[hl]
  have hz:(48:Int)<(s.size:Int):=by omega
  clear hl he
  go_enter Tryz.func126,Tryz.ntmps126
  go_wp2
  go_ret
  exact⟨rfl,rfl⟩
 have h48:(s.size:Int)<=48:=by omega
 have hie:s.toList.isEmpty=false:=by simpa using hn
 have Dp:decide ((48:Int)<(s.size:Int))=false:=by simpa using h48
 clear hn
 cases hd:Pl.dg (Pl.IU s 0)
 rotate_left
 ·have hl:Pl.lab s=false:=by simp[Pl.lab,hd]
  rw[hl]
  clear hl he
  go_enter Tryz.func126,Tryz.ntmps126
  go_wp2_with (go_at_call 134;refine (qC _ _).mono ?_;rintro e u1 ⟨rfl,rfl⟩; rw[Pl.mZ s 0 hpos,hd])
  go_ret
  exact⟨rfl,rfl⟩
 go_enter Tryz.func126,Tryz.ntmps126
 go_wp2_with (go_at_call 134;refine (qC _ _).mono ?_;rintro e u1 ⟨rfl,rfl⟩; rw[Pl.mZ s 0 hpos,hd])
 clear he hb hie Dp
 go_loop [3,18] (fun i x=>∃ k:Nat,k<=s.size/\x=.int .i64 k/\∀ j,j<k->Pl.ch (Pl.IU s j)=true) (fun i x=>s.size-(intOf x).toNat)
 case atStart=>exact⟨0,Nat.zero_le _,rfl,fun j hj=>absurd hj (Nat.not_lt_zero j)⟩
 case round=>
  obtain⟨k,hk,rfl,hall⟩:=hrel
  have HA:Hid (∀ j,j<k->Pl.ch (Pl.IU s j)=true):=hall
  clear hall
  by_cases hlt:k<s.size
  ·have hi:(k:Int)<(s.size:Int):=by omega
   cases hc:Pl.ch (Pl.IU s k)
   ·have HL:Hid (Pl.lab s=false):=Pl.SC s k hlt hc
    go_wp2_with (go_at_call 135;refine (wT _ _).mono ?_;rintro e u1 ⟨rfl,rfl⟩; rw[Pl.mZ s k hlt,hc])
    go_ret
    exact⟨aI HL.out.symm,rfl⟩
   ·go_wp2_with (go_at_call 135;refine (wT _ _).mono ?_;rintro e u1 ⟨rfl,rfl⟩; rw[Pl.mZ s k hlt,hc])
    go_round
    case rel=>exact⟨k+1,by omega,by go_num,fun j hj=>by
     by_cases e:j=k
     ·rw[e];exact hc
     ·exact HA.out j (by omega)⟩
    case measure=>simp[intOf];omega
  ·have hkk:k=s.size:=by omega
   have HL:Hid (Pl.lab s=true):=Pl.MP s hpos (by omega) hd (by rw[<- hkk];exact HA.out)
   clear HA
   have hi:¬ ((k:Int)<(s.size:Int)):=by omega
   go_wp2
   go_ret
   exact⟨aI HL.out.symm,rfl⟩
theorem kT (s:ByteArray) (w:World):Calls Tryz.prog 62 #[.string s] w fun e w'=>e=.returned (.bool (Pl.lab s))/\w'=w:=by
  by_cases he:s.size=0
  · have hl:Pl.lab s=false:=by simp[Pl.lab,he]
    rw[hl]
    have hn:=(Pl.oL s).2 he
    have hz:(s.size:Int)<1:=by omega
    clear hl
    go_enter Tryz.func62,Tryz.ntmps62
    go_wp2
    go_ret
    exact⟨rfl,rfl⟩
  have hpos:0<s.size:=by omega
  have hn:¬ s.toList=[]:=fun h=>he ((Pl.oL s).1 h)
  have hge:¬ ((s.size:Int)<1):=by omega
  by_cases hb:48<s.size
  · have hl:Pl.lab s=false:=by simp[Pl.lab];omega
    rw[hl]
    have hz:(48:Int)<(s.size:Int):=by omega
    clear hl he
    go_enter Tryz.func62,Tryz.ntmps62
    go_wp2
    go_ret
    exact⟨rfl,rfl⟩
  have h48:(s.size:Int)<=48:=by omega
  have hie:s.toList.isEmpty=false:=by simpa using hn
  have Dp:decide ((48:Int)<(s.size:Int))=false:=by simpa using h48
  clear hn
  cases hd:Pl.dg (Pl.IU s 0)
  rotate_left
  · have hl:Pl.lab s=false:=by simp[Pl.lab,hd]
    rw[hl]
    clear hl he
    go_enter Tryz.func62,Tryz.ntmps62
    go_wp2_with (go_at_call 100;refine (qD _ _).mono ?_;rintro e u1 ⟨rfl,rfl⟩; rw[Pl.mZ s 0 hpos,hd])
    go_ret
    exact⟨rfl,rfl⟩
  go_enter Tryz.func62,Tryz.ntmps62
  go_wp2_with (go_at_call 100;refine (qD _ _).mono ?_;rintro e u1 ⟨rfl,rfl⟩; rw[Pl.mZ s 0 hpos,hd])
  clear he hb hie Dp
  go_loop [3,4] (fun x i=>∃ k:Nat,k<=s.size/\x=.int .i64 k/\∀ j,j<k->Pl.ch (Pl.IU s j)=true) (fun x i=>s.size-(intOf x).toNat)
  case atStart=>exact⟨0,Nat.zero_le _,rfl,fun j hj=>absurd hj (Nat.not_lt_zero j)⟩
  case round=>
    obtain⟨k,hk,rfl,hall⟩:=hrel
    have HA:Hid (∀ j,j<k->Pl.ch (Pl.IU s j)=true):=hall
    clear hall
    by_cases hlt:k<s.size
    · have hi:(k:Int)<(s.size:Int):=by omega
      cases hl1:Pl.lt (Pl.IU s k) <;> cases hl2:Pl.dg (Pl.IU s k)
      · go_wp2_with (first | (go_at_call 101;refine (vC _ _).mono ?_;rintro e u1 ⟨rfl,rfl⟩; rw[Pl.mZ s k hlt,hl1]) | (go_at_call 100;refine (qD _ _).mono ?_;rintro e u2 ⟨rfl,rfl⟩; (try rw[Pl.mZ s k hlt]);rw[hl2]))
        all_goals first
          | (go_ret;exact⟨aI (Pl.SC s k hlt (by simp_all [Pl.ch])).symm,rfl⟩)
          | (go_round
             case rel=>exact⟨k+1,by omega,by go_num,fun j hj=>by
               by_cases e:j=k
               · rw[e];simp_all [Pl.ch]
               · exact HA.out j (by omega)⟩
             case measure=>simp[intOf];omega)
      all_goals
        go_wp2_with (first | (go_at_call 101;refine (vC _ _).mono ?_;rintro e u1 ⟨rfl,rfl⟩; rw[Pl.mZ s k hlt,hl1]) | (go_at_call 100;refine (qD _ _).mono ?_;rintro e u2 ⟨rfl,rfl⟩; (try rw[Pl.mZ s k hlt]);rw[hl2]))
        go_round
        case rel=>exact⟨k+1,by omega,by go_num,fun j hj=>by
          by_cases e:j=k
          · rw[e];simp[Pl.ch,hl1,hl2]
          · exact HA.out j (by omega)⟩
        case measure=>simp[intOf];omega
    · have hkk:k=s.size:=by omega
      have HL:Hid (Pl.lab s=true):=Pl.MP s hpos (by omega) hd (by rw[<- hkk];exact HA.out)
      clear HA
      have hi:¬ ((k:Int)<(s.size:Int)):=by omega
      go_wp2
      go_ret
      exact⟨aI HL.out.symm,rfl⟩
end Go.Proofs.YtlbomnnldkeocaaGreat.W
namespace Go.Proofs.YtlbomnnldkeocaaGreat.Pl
def emp (s:ByteArray):Bool:=s.toList.isEmpty
def br (n:Int):Bool:=decide (1<=n/\n<=47) && (dC n.toNat == 5 || dC n.toNat == 7)
def aG (op rd r1 r2 im:Int) (d s:Bool):Bool:=op == 0 && r2 == 0 && im == 0 && rg rd d && rg r1 s
def sy (s:ByteArray) (u:Bool):Bool:=if u then lab s else emp s
end Go.Proofs.YtlbomnnldkeocaaGreat.Pl
namespace Go.Proofs.YtlbomnnldkeocaaGreat.W
open Go.RowKit
theorem dV (s:ByteArray) (u:Bool) (w:World):Calls Tryz.prog 110 #[.string s,.bool u] w fun e w'=>e=.returned (.bool (Pl.sy s u))/\w'=w:=by
 cases u
 all_goals
  go_enter Tryz.func110,Tryz.ntmps110
  go_wp2_with (go_at_call 126;refine (FJ _ _).mono ?_;rintro e u1 ⟨rfl,rfl⟩)
  go_ret
  exact⟨aI (by simp[Pl.sy,Pl.emp]),rfl⟩
theorem CB (n:Int) (h:n<1\/47<n) (w:World):Calls Tryz.prog 111 #[.int .i64 n] w fun e w'=>e=.returned (.bool (Pl.br n))/\Below w.heap.size w w':=by
 have e:Pl.br n=false:=by unfold Pl.br;rw[decide_eq_false (by omega)];rfl
 rw[e]
 clear e
 go_enter Tryz.func111,Tryz.ntmps111
 go_wp2_with (go_at_call 40;refine (rowOf_no n h _).mono ?_;rintro e u1 ⟨rfl,hb1⟩; unfold rowZ)
 go_ret
 exact⟨rfl,hb1.alloc hb1.size _⟩
theorem zX (k:Nat) (h1:1<=k) (h2:k<=47) (w:World):Calls Tryz.prog 111 #[.int .i64 k] w fun e w'=>e=.returned (.bool (Pl.br k))/\Below w.heap.size w w':=by
 obtain⟨f1,f2,hf⟩:=xY k h1 h2
 have e:Pl.br k=(Pl.dC k == 5 || Pl.dC k == 7):=by unfold Pl.br;rw[decide_eq_true (by omega),Int.toNat_natCast];rfl
 rw[e]
 clear e
 obtain⟨f,G8⟩:∃ f,f=Pl.dC k:=⟨_,rfl⟩
 rw[<- G8]at f1 f2 hf ⊢
 have HF:Hid (Pl.fm k=(f:Int)):=hf
 clear G8 hf
 go_enter Tryz.func111,Tryz.ntmps111
 go_wp2_with (go_at_call 40;refine (pK k h1 h2 _).mono ?_;rintro e u1 ⟨rfl,rfl⟩; unfold Pl.rowV;rw[HF.out])
 all_goals
  go_ret
  refine⟨aI ?_,(by repeat (first | exact Below.refl _ _ | refine Below.alloc ?_ (by simp <;> omega) _))⟩
  rw[Bool.eq_iff_iff]
  simp <;> omega
theorem uH (n:Int) (w:World):Calls Tryz.prog 111 #[.int .i64 n] w fun e w'=>e=.returned (.bool (Pl.br n))/\Below w.heap.size w w':=by
 by_cases h:n<1\/47<n
 ·exact CB n h w
 ·obtain⟨k,rfl⟩:∃ k:Nat,n=k:=⟨n.toNat,by omega⟩
  exact zX k (by omega) (by omega) w
theorem bW (op rd r1 r2 im:Int) (d s:Bool) (w:World):Calls Tryz.prog 59 #[.agg #[.int .i64 op,.int .i64 rd,.int .i64 r1,.int .i64 r2,.int .i64 im],.bool d,.bool s] w fun e w'=>e=.returned (.bool (Pl.aG op rd r1 r2 im d s))/\Below w.heap.size w w':=by
 cases d <;> cases s
 all_goals
  go_enter Tryz.func59,Tryz.ntmps59
  go_wp2
  all_goals
   go_ret
   refine⟨aI ?_,(by repeat (first | exact Below.refl _ _ | refine Below.alloc ?_ (by simp <;> omega) _))⟩
   rw[Bool.eq_iff_iff]
   simp[Pl.aG,Pl.rg] <;> omega
end Go.Proofs.YtlbomnnldkeocaaGreat.W
