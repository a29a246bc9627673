import Derived.Test.YtjcdiegfnoaedaaGreatDoorZ30
import Derived.Test.YtjcdiegfnoaedaaGreatDoorZ29
import Derived.Test.YtjcdiegfnoaedaaGreatDoorZ22
set_option linter.unusedVariables false
set_option linter.unusedSimpArgs false
set_option maxHeartbeats 16000000
namespace Go.Proofs.YtjcdiegfnoaedaaGreatDoor
namespace Pl
theorem aBf (s:ByteArray) (k:Nat) (hk:k<s.size) (h:kT (aD s k)=false):pR s=false:=by
 unfold pR;have:((List.range s.size).all fun i=>kT (aD s i))=false:=by
  rw[List.all_eq_false];exact⟨k,List.mem_range.mpr hk,by rw[h];decide⟩
 rw[this];simp
theorem Ov (s:ByteArray) (h1:0<s.size) (h2:s.size<=40) (h3:dg (aD s 0)=false) (h4:isK s=false) (h:∀j,j<s.size->kT (aD s j)=true):pR s=true:=by
 unfold pR;have:((List.range s.size).all fun i=>kT (aD s i))=true:=by
  rw[List.all_eq_true];intro x hx;exact h x (List.mem_range.mp hx)
 rw[this,h3,h4];simp;omega
end Pl
namespace W
open Go.RowKit
theorem SF (s:ByteArray) (w:World):Calls Tryz.prog 53 #[.string s] w fun e w'=>e=.returned (.bool (Pl.pR s))/\Bw w w':=by
 by_cases he:s.size=0
 ·have hl:Pl.pR s=false:=by simp[Pl.pR,he]
  rw[hl];have hz:(s.size:Int)<1:=by omega
  clear hl he;go_enter Tryz.func53,Tryz.ntmps53;go_wp2;go_ret;exact⟨rfl,Below.refl _ _⟩
 have hpos:0<s.size:=by omega
 have hge:¬((s.size:Int)<1):=by omega
 by_cases hb:40<s.size
 ·have hl:Pl.pR s=false:=by simp[Pl.pR];omega
  rw[hl];have hz:(40:Int)<(s.size:Int):=by omega
  clear hl he;go_enter Tryz.func53,Tryz.ntmps53;go_wp2;go_ret;exact⟨rfl,Below.refl _ _⟩
 have Uo:¬((40:Int)<(s.size:Int)):=by omega
 clear he;have HG:Hid (∀h:0<s.size,((s[0]'h).toNat:Int)=Pl.aD s 0):=fun h=>Pl.aJ s 0 h;cases hd:Pl.dg (Pl.aD s 0);rotate_left
 ·have hl:Pl.pR s=false:=by simp[Pl.pR,hd]
  rw[hl];clear hl;have HD:Hid (Pl.dg (Pl.aD s 0)=true):=hd;clear hd;go_enter Tryz.func53,Tryz.ntmps53;go_wp2_with (go_at_call 83;refine (aV _ _).mono ?_;rintro e u1 ⟨rfl,rfl⟩;rw[HG.o hpos,HD.o])
  go_ret;exact⟨rfl,Below.refl _ _⟩
 have HD:Hid (Pl.dg (Pl.aD s 0)=false):=hd;clear hd;have HK:Hid (∀u:World,Calls Tryz.prog 54 #[.slice (some ⟨u.heap.size,0,none⟩) 23 23,.string s] (u.alloc (.cells Pl.xX 9)) fun e w'=>e=.returned (.bool (Pl.isK s))/\w'=u.alloc (.cells Pl.xX 9)):=fun u=>JO s u;cases hk:Pl.isK s;rotate_left
 ·have hl:Pl.pR s=false:=by simp[Pl.pR,hk]
  rw[hl];rw[hk]at HK;clear hl hk;go_enter Tryz.func53,Tryz.ntmps53;go_wp2_with (first|(go_at_call 83;refine (aV _ _).mono ?_;rintro e u1 ⟨rfl,rfl⟩;rw[HG.o hpos,HD.o])|(go_at_call 84;refine (qZ _).mono ?_;rintro e u2 ⟨rfl,rfl⟩)|(go_at_call 54;refine (HK.o _).mono ?_;rintro e u3 ⟨rfl,rfl⟩))
  go_ret;exact⟨rfl,aA _ _⟩
 rw[hk]at HK;have HKF:Hid (Pl.isK s=false):=hk;have HW:Hid (∀(c:Int) (u:World),Calls Tryz.prog 85 #[.int .u8 c] u fun e w'=>e=.returned (.bool (Pl.kT c))/\w'=u):=fun c u=>kJ c u;clear hk;go_enter Tryz.func53,Tryz.ntmps53;go_wp2_with (first|(go_at_call 83;refine (aV _ _).mono ?_;rintro e u1 ⟨rfl,rfl⟩;rw[HG.o hpos,HD.o])|(go_at_call 84;refine (qZ _).mono ?_;rintro e u2 ⟨rfl,rfl⟩)|(go_at_call 54;refine (HK.o _).mono ?_;rintro e u3 ⟨rfl,rfl⟩))
 go_loop [3] (fun x=>∃k:Nat,k<=s.size/\x=.int .i64 k/\∀j,j<k->Pl.kT (Pl.aD s j)=true) (fun x=>s.size-(intOf x).toNat)
 case atStart=>exact⟨0,Nat.zero_le _,rfl,fun j hj=>absurd hj (Nat.not_lt_zero j)⟩
 case round=>
  obtain⟨k,hk,rfl,hall⟩:=hrel;have HA:Hid (∀j,j<k->Pl.kT (Pl.aD s j)=true):=hall;clear hall;by_cases hlt:k<s.size
  ·have hi:(k:Int)<(s.size:Int):=(by omega);have HB:Hid (((s[k]'hlt).toNat:Int)=Pl.aD s k):=Pl.aJ s k hlt;cases hl1:Pl.kT (Pl.aD s k)
   ·have HF:Hid (Pl.pR s=false):=Pl.aBf s k hlt hl1;have HL:Hid (Pl.kT (Pl.aD s k)=false):=hl1;clear hl1;go_wp2_with (go_at_call 85;refine (HW.o _ _).mono ?_;rintro e u1 ⟨rfl,rfl⟩;rw[HB.o,HL.o])
    go_ret;exact⟨aC HF.o.symm,aA _ _⟩
   ·have HL:Hid (Pl.kT (Pl.aD s k)=true):=hl1;clear hl1;go_wp2_with (go_at_call 85;refine (HW.o _ _).mono ?_;rintro e u1 ⟨rfl,rfl⟩;rw[HB.o,HL.o])
    go_round
    case rel=>exact⟨k+1,by omega,by go_num,fun j hj=>by
     by_cases e:j=k
     ·rw[e];exact HL.o
     ·exact HA.o j (by omega)⟩
    case measure=>simp[intOf];omega
  ·have hi:¬((k:Int)<(s.size:Int)):=(by omega);have HF:Hid (Pl.pR s=true):=Pl.Ov s hpos (by omega) HD.o HKF.o fun j hj=>HA.o j (by omega);go_wp2;go_ret;exact⟨aC HF.o.symm,aA _ _⟩
theorem SG {lo:Nat}(x:Pl.Nd) (v:SV) (a:Option Addr) (len cap:Nat) (al:List ByteArray) (w:World) (h:EN lo w a len cap al) (hs:x.s.size<=1048576) (hn:x.n<=9223372036854775807):Calls Tryz.prog 27 #[.agg #[.int .i64 x.k,.int .i64 x.m,.int .i64 x.n,.string x.s,.slice v.a v.len v.cap,.int .i64 x.line,.int .i64 x.aQ],.slice a len cap] w fun e w'=>e=.returned (.bool (Pl.GD x al))/\Bw w w':=by
 classical
 have HE:Hid (Pl.GD x al=if Pl.IE x.k=5 then (if x.k=33 then decide ((Pl.QN ⟨3,x.s,x.n,0,0⟩).toList≠[]) else decide (x.n=0/\(x.s.size:Int)<=200))
  else if x.k=1 then decide (1<=x.n/\x.n<=7/\x.s.toList=[])
  else if x.n≠0 then false
  else if Pl.IE x.k=0\/(Pl.IE x.k=4/\x.s.toList=[]) then decide (x.s.toList=[])
  else Pl.pR x.s && (decide (Pl.IE x.k=2) || (Pl.GA al x.s == decide (Pl.IE x.k=3)))):=by
  show Pl.GD x al=_;unfold Pl.GD;have e1:(Pl.QN ⟨3,x.s,x.n,0,0⟩≠⟨#[]⟩)=((Pl.QN ⟨3,x.s,x.n,0,0⟩).toList≠[]):=by
   apply propext;rw[ne_eq,ne_eq,Pl.jW];constructor
   ·intro q r;exact q (by
     have:(Pl.QN ⟨3,x.s,x.n,0,0⟩).data=#[]:=Array.eq_empty_of_size_eq_zero r;exact ByteArray.ext this)
   ·intro q r;exact q (by rw[r];rfl)
  simp only[e1,<- Pl.jW];have e2:(x.s.size<=200)=((x.s.size:Int)<=200):=propext (by omega);simp only[e2]
 have IZ:Hid (∀u:World,Calls Tryz.prog 52 #[.agg #[.int .i64 3,.string x.s,.int .i64 x.n,.int .i64 0,.int .i64 0]] u fun e w'=>e=.returned (.string (Pl.QN ⟨3,x.s,x.n,0,0⟩))/\Bw u w'):=fun u=>KL ⟨3,x.s,x.n,0,0⟩ hn hs u;have GX:Hid (∀u:World,Calls Tryz.prog 53 #[.string x.s] u fun e w'=>e=.returned (.bool (Pl.pR x.s))/\Bw u w'):=fun u=>SF x.s u;have FH:Hid (∀u:World,Calls Tryz.prog 51 #[.int .i64 x.k] u fun e w'=>e=.returned (.int .i64 (Pl.IE x.k))/\w'=u):=fun u=>XY x.k u;have CG:Hid (∀u:World,Bw w u->Calls Tryz.prog 54 #[.slice a len cap,.string x.s] u fun e w'=>e=.returned (.bool (Pl.GA al x.s))/\Bw u w'):=fun u hu=>Nc a len cap al x.s u (h.keep hu);generalize Pl.GD x al=R at *;generalize Pl.QN ⟨3,x.s,x.n,0,0⟩=T at *;generalize Pl.pR x.s=NM at *;generalize Pl.GA al x.s=IN at *;generalize Pl.IE x.k=N at *;have hsz:(x.s.size:Int)<=9223372036854775807:=by omega
 clear h hs hn;generalize x.s=S at *;generalize x.n=n at *;generalize x.k=k at *;by_cases n5:N=5
 ·subst n5;by_cases k33:k=33
  ·subst k33;have HV:Hid (R=decide (T.toList≠[])):=HE.o;clear HE;go_enter Tryz.func27,Tryz.ntmps27;go_wp2_with (first|(go_at_call 51;refine (FH.o _).mono ?_;rintro e u1 ⟨rfl,rfl⟩)|(go_at_call 52;refine (IZ.o _).mono ?_;rintro e u2 ⟨rfl,d2⟩;have D2:Hid (Bw w u2):=(aA _ _).trans (d2.mono (by simp));clear d2)|(go_at_call 53;refine (GX.o _).mono ?_;rintro e u3 ⟨rfl,d3⟩;have D3:Hid (Bw w u3):=(aA _ _).trans (d3.mono (by simp));have c3:u3.cell? ⟨w.heap.size,3,none⟩=some (.string S):=(d3.cell (p:=⟨w.heap.size,3,none⟩) (by simp)).trans (cell_of_row _ w.heap.size 3 _ 45 (0,0) (heap_alloc_new w _));clear d3)|(go_at_call 54;refine (CG.o _ D3.o).mono ?_;rintro e u4 ⟨rfl,d4⟩;have D4:Hid (Bw w u4):=D3.o.trans (d4.mono D3.o.size);clear d4))
   all_goals (go_ret;refine⟨aC ?_,?_⟩)
   all_goals first
    | exact aA _ _
    | exact D4.o
    | exact D3.o
    | exact D2.o
    | exact HV.o.symm|(rw[HV.o];done)|(rw[HV.o];first|rfl|(rw[Bool.eq_iff_iff];first|omega|(simp;done)|(simp;omega)|(simp_all;done)|(simp_all;omega)))
  ·have HV:Hid (R=decide (n=0/\(S.size:Int)<=200)):=by
    show R=_;rw[HE.o,if_pos rfl,if_neg k33]
   clear HE;go_enter Tryz.func27,Tryz.ntmps27;go_wp2_with (first|(go_at_call 51;refine (FH.o _).mono ?_;rintro e u1 ⟨rfl,rfl⟩)|(go_at_call 52;refine (IZ.o _).mono ?_;rintro e u2 ⟨rfl,d2⟩;have D2:Hid (Bw w u2):=(aA _ _).trans (d2.mono (by simp));clear d2)|(go_at_call 53;refine (GX.o _).mono ?_;rintro e u3 ⟨rfl,d3⟩;have D3:Hid (Bw w u3):=(aA _ _).trans (d3.mono (by simp));have c3:u3.cell? ⟨w.heap.size,3,none⟩=some (.string S):=(d3.cell (p:=⟨w.heap.size,3,none⟩) (by simp)).trans (cell_of_row _ w.heap.size 3 _ 45 (0,0) (heap_alloc_new w _));clear d3)|(go_at_call 54;refine (CG.o _ D3.o).mono ?_;rintro e u4 ⟨rfl,d4⟩;have D4:Hid (Bw w u4):=D3.o.trans (d4.mono D3.o.size);clear d4))
   all_goals (go_ret;refine⟨aC ?_,?_⟩)
   all_goals first
    | exact aA _ _
    | exact D4.o
    | exact D3.o
    | exact D2.o
    | exact HV.o.symm|(rw[HV.o];done)|(rw[HV.o];first|rfl|(rw[Bool.eq_iff_iff];first|omega|(simp;done)|(simp;omega)|(simp_all;done)|(simp_all;omega)))
 have n5b:(N == 5)=false:=by simpa using n5
 by_cases k1:k=1
 ·subst k1;have HV:Hid (R=decide (1<=n/\n<=7/\S.toList=[])):=by
   show R=_;rw[HE.o,if_neg n5,if_pos rfl]
  clear HE;go_enter Tryz.func27,Tryz.ntmps27;go_wp2_with (first|(go_at_call 51;refine (FH.o _).mono ?_;rintro e u1 ⟨rfl,rfl⟩)|(go_at_call 52;refine (IZ.o _).mono ?_;rintro e u2 ⟨rfl,d2⟩;have D2:Hid (Bw w u2):=(aA _ _).trans (d2.mono (by simp));clear d2)|(go_at_call 53;refine (GX.o _).mono ?_;rintro e u3 ⟨rfl,d3⟩;have D3:Hid (Bw w u3):=(aA _ _).trans (d3.mono (by simp));have c3:u3.cell? ⟨w.heap.size,3,none⟩=some (.string S):=(d3.cell (p:=⟨w.heap.size,3,none⟩) (by simp)).trans (cell_of_row _ w.heap.size 3 _ 45 (0,0) (heap_alloc_new w _));clear d3)|(go_at_call 54;refine (CG.o _ D3.o).mono ?_;rintro e u4 ⟨rfl,d4⟩;have D4:Hid (Bw w u4):=D3.o.trans (d4.mono D3.o.size);clear d4))
  all_goals (go_ret;refine⟨aC ?_,?_⟩)
  all_goals first
   | exact aA _ _
   | exact D4.o
   | exact D3.o
   | exact D2.o
   | exact HV.o.symm|(rw[HV.o];done)|(rw[HV.o];first|rfl|(rw[Bool.eq_iff_iff];first|omega|(simp;done)|(simp;omega)|(simp_all;done)|(simp_all;omega)))
 have k1b:(k == 1)=false:=by simpa using k1
 by_cases n0:n=0
 rotate_left
 ·have HV:Hid (R=false):=by
   show R=_;rw[HE.o,if_neg n5,if_neg k1,if_pos n0]
  have n0b:(n == 0)=false:=by simpa using n0
  have n0c:(n != 0)=true:=by simpa using n0
  clear HE;go_enter Tryz.func27,Tryz.ntmps27;go_wp2_with (first|(go_at_call 51;refine (FH.o _).mono ?_;rintro e u1 ⟨rfl,rfl⟩)|(go_at_call 52;refine (IZ.o _).mono ?_;rintro e u2 ⟨rfl,d2⟩;have D2:Hid (Bw w u2):=(aA _ _).trans (d2.mono (by simp));clear d2)|(go_at_call 53;refine (GX.o _).mono ?_;rintro e u3 ⟨rfl,d3⟩;have D3:Hid (Bw w u3):=(aA _ _).trans (d3.mono (by simp));have c3:u3.cell? ⟨w.heap.size,3,none⟩=some (.string S):=(d3.cell (p:=⟨w.heap.size,3,none⟩) (by simp)).trans (cell_of_row _ w.heap.size 3 _ 45 (0,0) (heap_alloc_new w _));clear d3)|(go_at_call 54;refine (CG.o _ D3.o).mono ?_;rintro e u4 ⟨rfl,d4⟩;have D4:Hid (Bw w u4):=D3.o.trans (d4.mono D3.o.size);clear d4))
  all_goals (go_ret;refine⟨aC ?_,?_⟩)
  all_goals first
   | exact aA _ _
   | exact D4.o
   | exact D3.o
   | exact D2.o
   | exact HV.o.symm|(rw[HV.o];done)|(rw[HV.o];first|rfl|(rw[Bool.eq_iff_iff];first|omega|(simp;done)|(simp;omega)|(simp_all;done)|(simp_all;omega)))
 subst n0;by_cases nA:N=0
 ·subst nA;have HV:Hid (R=decide (S.toList=[])):=by
   show R=_;rw[HE.o,if_neg n5,if_neg k1,if_neg (by omega),if_pos (.inl rfl)]
  clear HE;go_enter Tryz.func27,Tryz.ntmps27;go_wp2_with (first|(go_at_call 51;refine (FH.o _).mono ?_;rintro e u1 ⟨rfl,rfl⟩)|(go_at_call 52;refine (IZ.o _).mono ?_;rintro e u2 ⟨rfl,d2⟩;have D2:Hid (Bw w u2):=(aA _ _).trans (d2.mono (by simp));clear d2)|(go_at_call 53;refine (GX.o _).mono ?_;rintro e u3 ⟨rfl,d3⟩;have D3:Hid (Bw w u3):=(aA _ _).trans (d3.mono (by simp));have c3:u3.cell? ⟨w.heap.size,3,none⟩=some (.string S):=(d3.cell (p:=⟨w.heap.size,3,none⟩) (by simp)).trans (cell_of_row _ w.heap.size 3 _ 45 (0,0) (heap_alloc_new w _));clear d3)|(go_at_call 54;refine (CG.o _ D3.o).mono ?_;rintro e u4 ⟨rfl,d4⟩;have D4:Hid (Bw w u4):=D3.o.trans (d4.mono D3.o.size);clear d4))
  all_goals (go_ret;refine⟨aC ?_,?_⟩)
  all_goals first
   | exact aA _ _
   | exact D4.o
   | exact D3.o
   | exact D2.o
   | exact HV.o.symm|(rw[HV.o];done)|(rw[HV.o];first|rfl|(rw[Bool.eq_iff_iff];first|omega|(simp;done)|(simp;omega)|(simp_all;done)|(simp_all;omega)))
 have nAb:(N == 0)=false:=by simpa using nA
 by_cases nB:N=4
 ·subst nB;by_cases hS:S.toList=[]
  ·have HV:Hid (R=true):=by
    show R=_;rw[HE.o,if_neg n5,if_neg k1,if_neg (by omega),if_pos (.inr ⟨rfl,hS⟩),hS];rfl
   have hSe:S.toList.isEmpty=true:=(by rw[hS];rfl);clear HE;go_enter Tryz.func27,Tryz.ntmps27;go_wp2_with (first|(go_at_call 51;refine (FH.o _).mono ?_;rintro e u1 ⟨rfl,rfl⟩)|(go_at_call 52;refine (IZ.o _).mono ?_;rintro e u2 ⟨rfl,d2⟩;have D2:Hid (Bw w u2):=(aA _ _).trans (d2.mono (by simp));clear d2)|(go_at_call 53;refine (GX.o _).mono ?_;rintro e u3 ⟨rfl,d3⟩;have D3:Hid (Bw w u3):=(aA _ _).trans (d3.mono (by simp));have c3:u3.cell? ⟨w.heap.size,3,none⟩=some (.string S):=(d3.cell (p:=⟨w.heap.size,3,none⟩) (by simp)).trans (cell_of_row _ w.heap.size 3 _ 45 (0,0) (heap_alloc_new w _));clear d3)|(go_at_call 54;refine (CG.o _ D3.o).mono ?_;rintro e u4 ⟨rfl,d4⟩;have D4:Hid (Bw w u4):=D3.o.trans (d4.mono D3.o.size);clear d4))
   all_goals (go_ret;refine⟨aC ?_,?_⟩)
   all_goals first
    | exact aA _ _
    | exact D4.o
    | exact D3.o
    | exact D2.o
    | exact HV.o.symm|(rw[HV.o];done)|(rw[HV.o];first|rfl|(rw[Bool.eq_iff_iff];first|omega|(simp;done)|(simp;omega)|(simp_all;done)|(simp_all;omega)))
  have HV0:Hid (R=(NM && (IN == false))):=by
   show R=_;rw[HE.o,if_neg n5,if_neg k1,if_neg (by omega),if_neg (by rintro (q|⟨_,q⟩);exact absurd q (by decide);exact hS q)];rfl
  have hSe:S.toList.isEmpty=false:=by
   cases hh:S.toList with
   | nil=>exact absurd hh hS
   | cons=>rfl
  clear HE;cases NM
  ·have HV:Hid (R=false):=HV0.o;go_enter Tryz.func27,Tryz.ntmps27;go_wp2_with (first|(go_at_call 51;refine (FH.o _).mono ?_;rintro e u1 ⟨rfl,rfl⟩)|(go_at_call 52;refine (IZ.o _).mono ?_;rintro e u2 ⟨rfl,d2⟩;have D2:Hid (Bw w u2):=(aA _ _).trans (d2.mono (by simp));clear d2)|(go_at_call 53;refine (GX.o _).mono ?_;rintro e u3 ⟨rfl,d3⟩;have D3:Hid (Bw w u3):=(aA _ _).trans (d3.mono (by simp));have c3:u3.cell? ⟨w.heap.size,3,none⟩=some (.string S):=(d3.cell (p:=⟨w.heap.size,3,none⟩) (by simp)).trans (cell_of_row _ w.heap.size 3 _ 45 (0,0) (heap_alloc_new w _));clear d3)|(go_at_call 54;refine (CG.o _ D3.o).mono ?_;rintro e u4 ⟨rfl,d4⟩;have D4:Hid (Bw w u4):=D3.o.trans (d4.mono D3.o.size);clear d4))
   all_goals (go_ret;refine⟨aC ?_,?_⟩)
   all_goals first
    | exact aA _ _
    | exact D4.o
    | exact D3.o
    | exact D2.o
    | exact HV.o.symm|(rw[HV.o];done)|(rw[HV.o];first|rfl|(rw[Bool.eq_iff_iff];first|omega|(simp;done)|(simp;omega)|(simp_all;done)|(simp_all;omega)))
  ·have HV:Hid (R=(IN == false)):=HV0.o;go_enter Tryz.func27,Tryz.ntmps27;go_wp2_with (first|(go_at_call 51;refine (FH.o _).mono ?_;rintro e u1 ⟨rfl,rfl⟩)|(go_at_call 52;refine (IZ.o _).mono ?_;rintro e u2 ⟨rfl,d2⟩;have D2:Hid (Bw w u2):=(aA _ _).trans (d2.mono (by simp));clear d2)|(go_at_call 53;refine (GX.o _).mono ?_;rintro e u3 ⟨rfl,d3⟩;have D3:Hid (Bw w u3):=(aA _ _).trans (d3.mono (by simp));have c3:u3.cell? ⟨w.heap.size,3,none⟩=some (.string S):=(d3.cell (p:=⟨w.heap.size,3,none⟩) (by simp)).trans (cell_of_row _ w.heap.size 3 _ 45 (0,0) (heap_alloc_new w _));clear d3)|(go_at_call 54;refine (CG.o _ D3.o).mono ?_;rintro e u4 ⟨rfl,d4⟩;have D4:Hid (Bw w u4):=D3.o.trans (d4.mono D3.o.size);clear d4))
   all_goals (go_ret;refine⟨aC ?_,?_⟩)
   all_goals first
    | exact aA _ _
    | exact D4.o
    | exact D3.o
    | exact D2.o
    | exact HV.o.symm|(rw[HV.o];done)|(rw[HV.o];first|rfl|(rw[Bool.eq_iff_iff];first|omega|(simp;done)|(simp;omega)|(simp_all;done)|(simp_all;omega)))
 have nBb:(N == 4)=false:=by simpa using nB
 have HV0:Hid (R=(NM && (decide (N=2) || (IN == decide (N=3))))):=by
  show R=_;rw[HE.o,if_neg n5,if_neg k1,if_neg (by omega),if_neg (by rintro (q|⟨q,_⟩);exact nA q;exact nB q)]
 clear HE;cases NM
 ·have HV:Hid (R=false):=HV0.o;go_enter Tryz.func27,Tryz.ntmps27;go_wp2_with (first|(go_at_call 51;refine (FH.o _).mono ?_;rintro e u1 ⟨rfl,rfl⟩)|(go_at_call 52;refine (IZ.o _).mono ?_;rintro e u2 ⟨rfl,d2⟩;have D2:Hid (Bw w u2):=(aA _ _).trans (d2.mono (by simp));clear d2)|(go_at_call 53;refine (GX.o _).mono ?_;rintro e u3 ⟨rfl,d3⟩;have D3:Hid (Bw w u3):=(aA _ _).trans (d3.mono (by simp));have c3:u3.cell? ⟨w.heap.size,3,none⟩=some (.string S):=(d3.cell (p:=⟨w.heap.size,3,none⟩) (by simp)).trans (cell_of_row _ w.heap.size 3 _ 45 (0,0) (heap_alloc_new w _));clear d3)|(go_at_call 54;refine (CG.o _ D3.o).mono ?_;rintro e u4 ⟨rfl,d4⟩;have D4:Hid (Bw w u4):=D3.o.trans (d4.mono D3.o.size);clear d4))
  all_goals (go_ret;refine⟨aC ?_,?_⟩)
  all_goals first
   | exact aA _ _
   | exact D4.o
   | exact D3.o
   | exact D2.o
   | exact HV.o.symm|(rw[HV.o];done)|(rw[HV.o];first|rfl|(rw[Bool.eq_iff_iff];first|omega|(simp;done)|(simp;omega)|(simp_all;done)|(simp_all;omega)))
 ·by_cases n2:N=2
  ·subst n2;have HV:Hid (R=true):=HV0.o;go_enter Tryz.func27,Tryz.ntmps27;go_wp2_with (first|(go_at_call 51;refine (FH.o _).mono ?_;rintro e u1 ⟨rfl,rfl⟩)|(go_at_call 52;refine (IZ.o _).mono ?_;rintro e u2 ⟨rfl,d2⟩;have D2:Hid (Bw w u2):=(aA _ _).trans (d2.mono (by simp));clear d2)|(go_at_call 53;refine (GX.o _).mono ?_;rintro e u3 ⟨rfl,d3⟩;have D3:Hid (Bw w u3):=(aA _ _).trans (d3.mono (by simp));have c3:u3.cell? ⟨w.heap.size,3,none⟩=some (.string S):=(d3.cell (p:=⟨w.heap.size,3,none⟩) (by simp)).trans (cell_of_row _ w.heap.size 3 _ 45 (0,0) (heap_alloc_new w _));clear d3)|(go_at_call 54;refine (CG.o _ D3.o).mono ?_;rintro e u4 ⟨rfl,d4⟩;have D4:Hid (Bw w u4):=D3.o.trans (d4.mono D3.o.size);clear d4))
   all_goals (go_ret;refine⟨aC ?_,?_⟩)
   all_goals first
    | exact aA _ _
    | exact D4.o
    | exact D3.o
    | exact D2.o
    | exact HV.o.symm|(rw[HV.o];done)|(rw[HV.o];first|rfl|(rw[Bool.eq_iff_iff];first|omega|(simp;done)|(simp;omega)|(simp_all;done)|(simp_all;omega)))
  have n2b:(N == 2)=false:=by simpa using n2
  have HV:Hid (R=(IN == decide (N=3))):=by
   show R=_;rw[HV0.o,decide_eq_false n2];rfl
  clear HV0;go_enter Tryz.func27,Tryz.ntmps27;go_wp2_with (first|(go_at_call 51;refine (FH.o _).mono ?_;rintro e u1 ⟨rfl,rfl⟩)|(go_at_call 52;refine (IZ.o _).mono ?_;rintro e u2 ⟨rfl,d2⟩;have D2:Hid (Bw w u2):=(aA _ _).trans (d2.mono (by simp));clear d2)|(go_at_call 53;refine (GX.o _).mono ?_;rintro e u3 ⟨rfl,d3⟩;have D3:Hid (Bw w u3):=(aA _ _).trans (d3.mono (by simp));have c3:u3.cell? ⟨w.heap.size,3,none⟩=some (.string S):=(d3.cell (p:=⟨w.heap.size,3,none⟩) (by simp)).trans (cell_of_row _ w.heap.size 3 _ 45 (0,0) (heap_alloc_new w _));clear d3)|(go_at_call 54;refine (CG.o _ D3.o).mono ?_;rintro e u4 ⟨rfl,d4⟩;have D4:Hid (Bw w u4):=D3.o.trans (d4.mono D3.o.size);clear d4))
  all_goals (go_ret;refine⟨aC ?_,?_⟩)
  all_goals first
   | exact aA _ _
   | exact D4.o
   | exact D3.o
   | exact D2.o
   | exact HV.o.symm|(rw[HV.o];done)|(rw[HV.o];first|rfl|(rw[Bool.eq_iff_iff];first|omega|(simp;done)|(simp;omega)|(simp_all;done)|(simp_all;omega)))
end W
namespace Pl
theorem Wv {s:ByteArray}{f:Int}(h:mE s=.error f):f≠0:=by
 unfold mE at h;split at h
 ·split at h
  ·rename_i e;cases h;rcases WI e with q|q <;> omega
  ·cases h
 ·split at h
  ·cases h;decide
  ·split at h <;> cases h
theorem aCH {s:ByteArray}(h0:0<s.size) (hr:run kT s=s.size):pR s=match mE s with|.ok (k,_,_)=>k == 1|.error _=>false:=by
 have hall:∀j,j<s.size->kT (aD s j)=true:=by have:=(pJ kT s).2.1;rw[hr]at this;exact this
 unfold mE;cases hd:dg (aD s 0)
 ·rw[if_neg (by decide)];by_cases hb:40<s.size
  ·rw[if_pos hb];simp[pR];omega
  ·rw[if_neg hb];cases hk:isK s
   ·rw[if_neg (by decide),Ov s h0 (by omega) hd hk hall];rfl
   ·rw[if_pos rfl];simp[pR,hk]
 ·rw[if_pos rfl];have:pR s=false:=by simp[pR,hd]
  rw[this];cases iU s with
  | error f=>rfl
  | ok t=>rfl
theorem aCI {s:ByteArray}(h:run kT s<s.size):(s.extract 0 (run kT s)).toList≠s.toList:=by
 intro e;have:=congrArg List.length e;rw[ByteArray.toList_eq,ByteArray.toList_eq,Array.length_toList,Array.length_toList]at this;have h2:(s.extract 0 (run kT s)).size=s.size:=this;rw[ByteArray.size_extract]at h2;omega
theorem Ow {s:ByteArray}:s.extract 0 s.size=s:=by
 apply ByteArray.ext;simp
end Pl
namespace W
open Go.RowKit
theorem lC (n a b:Int) (w:World):Calls Tryz.prog 64 #[.int .i64 n,.int .i64 a,.int .i64 b] w fun e w'=>e=.returned (.bool (decide (a<=n/\n<=b)))/\w'=w:=by
 have HE:Hid (decide (a<=n/\n<=b)=decide (a<=n/\n<=b)):=rfl;obtain⟨R,hR⟩:∃R,R=decide (a<=n/\n<=b):=⟨_,rfl⟩;rw[<- hR];have HR:Hid (R=decide (a<=n/\n<=b)):=hR;clear hR HE;go_enter Tryz.func64,Tryz.ntmps64;go_wp2;all_goals (go_ret;refine⟨aC ?_,rfl⟩;rw[HR.o,Bool.eq_iff_iff];(try simp only[Bool.or_eq_true,Bool.and_eq_true,beq_iff_eq,decide_eq_true_eq,Bool.false_eq_true,true_iff,false_iff,iff_true,iff_false] at *);first|done|omega|(simp;omega)|simp_all)
theorem sW (m:Int) (w:World):Calls Tryz.prog 100 #[.int .i64 m] w fun e w'=>e=.returned (.bool (Pl.yD m))/\w'=w:=by
 have HE:Hid (Pl.yD m=decide ((0<=m/\m<=7)\/(14<=m/\m<=16))):=rfl;generalize Pl.yD m=R at *;go_enter Tryz.func100,Tryz.ntmps100;go_wp2;all_goals (go_ret;refine⟨aC ?_,rfl⟩;rw[HE.o,Bool.eq_iff_iff];(try simp only[Bool.or_eq_true,Bool.and_eq_true,beq_iff_eq,decide_eq_true_eq,Bool.false_eq_true,true_iff,false_iff,iff_true,iff_false] at *);first|done|omega|(simp;omega)|simp_all)
theorem yG (x:Pl.Nd) (v:SV) (w:World):Calls Tryz.prog 99 #[.agg #[.int .i64 x.k,.int .i64 x.m,.int .i64 x.n,.string x.s,.slice v.a v.len v.cap,.int .i64 x.line,.int .i64 x.aQ]] w fun e w'=>e=.returned (.agg #[.int .i64 (if x.k=34 then 4 else 3),.string x.s,.int .i64 x.n,.int .i64 0,.int .i64 0])/\Bw w w':=by
 by_cases h:x.k=34
 ·rw[if_pos h];have hb:(x.k == 34)=true:=by simpa using h
  clear h;go_enter Tryz.func99,Tryz.ntmps99;go_wp2;exact bodyPost_ret (v:=.agg #[.int .i64 4,.string x.s,.int .i64 x.n,.int .i64 0,.int .i64 0]) (by simp[results,Tryz.results99,go_sem]) rfl ⟨rfl,(by repeat (first|exact Below.refl _ _|refine Below.alloc ?_ (by simp <;> omega) _))⟩
 ·rw[if_neg h];have hb:(x.k == 34)=false:=by simpa using h
  clear h;go_enter Tryz.func99,Tryz.ntmps99;go_wp2;exact bodyPost_ret (v:=.agg #[.int .i64 3,.string x.s,.int .i64 x.n,.int .i64 0,.int .i64 0]) (by simp[results,Tryz.results99,go_sem]) rfl ⟨rfl,(by repeat (first|exact Below.refl _ _|refine Below.alloc ?_ (by simp <;> omega) _))⟩
theorem JA (s:ByteArray) (hs:s.size<=1048576) (w:World) (hE:nR w):Calls Tryz.prog 97 #[.string s] w fun e w'=>e=.returned (.bool (Pl.pR s))/\Bw w w':=by
 have HE:Hid (∀u:World,Bw w u->nR u):=fun u hu=>hE.on hu;have HW:Hid (∀u:World,Calls Tryz.prog 120 #[.string s] u fun e w'=>e=.returned (.string (s.extract 0 (Pl.run Pl.kT s)))/\Bw u w'):=fun u=>KE s (by omega) u;by_cases h0:s.size=0
 ·have hn:Pl.pR s=false:=by simp[Pl.pR,h0]
  rw[hn];have he:s.toList.isEmpty=true:=by rw[List.isEmpty_iff,Pl.jW];exact h0
  have hb:(s.toList == [])=true:=by simpa using (Pl.jW s).mpr h0
  clear hn h0 hE;go_enter Tryz.func97,Tryz.ntmps97;go_wp2;go_ret;exact⟨rfl,Below.refl _ _⟩
 have hpos:0<s.size:=by omega
 have he:s.toList.isEmpty=false:=by rw[<- Bool.not_eq_true,List.isEmpty_iff,Pl.jW];exact h0
 have hb:(s.toList == [])=false:=by simpa using fun q=>h0 ((Pl.jW s).mp q)
 by_cases hr:Pl.run Pl.kT s<s.size
 ·have hn:Pl.pR s=false:=by
   rcases (Pl.pJ Pl.kT s).2.2 with q|q
   ·omega
   ·exact Pl.aBf s _ hr q
  rw[hn];obtain⟨W,hW⟩:∃W,W=s.extract 0 (Pl.run Pl.kT s):=⟨_,rfl⟩;have hne:(W.toList == s.toList)=false:=by rw[hW];simpa using Pl.aCI hr
  rw[<- hW]at HW;clear hn hW hr hE h0;go_enter Tryz.func97,Tryz.ntmps97;go_wp2_with (go_at_call 120;refine (HW.o _).mono ?_;rintro e u1 ⟨rfl,d1⟩;have D1:Hid _:=d1;clear d1)
  go_ret;exact⟨rfl,D1.o⟩
 have hrn:Pl.run Pl.kT s=s.size:=by have:=(Pl.pJ Pl.kT s).1;omega
 rw[hrn,Pl.Ow]at HW;have HN:Hid (Pl.pR s=match Pl.mE s with|.ok (k,_,_)=>k == 1|.error _=>false):=Pl.aCH hpos hrn;have HRW:Hid (∀u:World,Bw w u->Calls Tryz.prog 121 #[.string s] u fun e w'=>IW s e/\Bw u w'):=fun u hu=>AQ s hpos hs u (HE.o u hu);clear hE hr hrn h0;cases hw:Pl.mE s with
 | error f=>
  have hf:(f == 0)=false:=by simpa using Pl.Wv hw
  have Mk:Hid (Pl.pR s=false):=by show Pl.pR s=false;rw[HN.o,hw]
  have HRE:Hid (∀u:World,Bw w u->Calls Tryz.prog 121 #[.string s] u fun e w'=>e=.returned (.tuple #[.agg #[.int .i64 0,.string ⟨#[]⟩,.int .i64 0,.int .i64 0,.int .i64 0],.int .i64 f])/\Bw u w'):=fun u hu=>(HRW.o u hu).mono fun e w' ⟨h1,h2⟩=>⟨by unfold IW at h1;rw[hw]at h1;exact h1,h2⟩;clear HN HRW hw;go_enter Tryz.func97,Tryz.ntmps97;go_wp2_with (first|(go_at_call 120;refine (HW.o _).mono ?_;rintro e u1 ⟨rfl,d1⟩;have D1:Hid (Bw w u1):=d1;clear d1)|(go_at_call 121;refine (HRE.o _ D1.o).mono ?_;rintro e u2 ⟨rfl,d2⟩;have D2:Hid (Bw w u2):=D1.o.trans (d2.mono D1.o.size);clear d2))
  go_ret;exact⟨aC Mk.o.symm,D2.o.trans ((aA _ _).mono D2.o.size)⟩
 | ok t=>
  obtain⟨k,S,N⟩:=t;have Mk:Hid (Pl.pR s=(k == 1)):=by show Pl.pR s=_;rw[HN.o,hw]
  have HRE:Hid (∀u:World,Bw w u->Calls Tryz.prog 121 #[.string s] u fun e w'=>e=.returned (.tuple #[.agg #[.int .i64 k,.string S,.int .i64 N,.int .i64 0,.int .i64 0],.int .i64 0])/\Bw u w'):=fun u hu=>(HRW.o u hu).mono fun e w' ⟨h1,h2⟩=>⟨by unfold IW at h1;rw[hw]at h1;exact h1,h2⟩;clear HN HRW hw;go_enter Tryz.func97,Tryz.ntmps97;go_wp2_with (first|(go_at_call 120;refine (HW.o _).mono ?_;rintro e u1 ⟨rfl,d1⟩;have D1:Hid (Bw w u1):=d1;clear d1)|(go_at_call 121;refine (HRE.o _ D1.o).mono ?_;rintro e u2 ⟨rfl,d2⟩;have D2:Hid (Bw w u2):=D1.o.trans (d2.mono D1.o.size);clear d2))
  all_goals (go_ret;refine⟨aC ?_,D2.o.trans ((aA _ _).mono D2.o.size)⟩;rw[Mk.o];try rfl)
end W
namespace Pl
def lastB (k:Int):Bool:=decide (k=21\/k=22\/(24<=k/\k<=28))
end Pl
end Go.Proofs.YtjcdiegfnoaedaaGreatDoor
