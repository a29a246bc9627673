import Derived.Test.YtjcdiegfnoaedaaGreatDoorZ17
set_option linter.unusedVariables false
set_option linter.unusedSimpArgs false
set_option maxHeartbeats 16000000
namespace Go.Proofs.YtjcdiegfnoaedaaGreatDoor
namespace Pl
def XX:List (List UInt8):=[[],[],[116],[116,63,101],[116,112],[],[],[116],[116],[63,101],[102],[99],[116],[116,63,105],[70,66],[100],[73],[83],[],[101],[],[101,115,63,115],[101,115],[115,101],[118,120,120,115],[101,115],[101,115],[115],[115],[],[],[],[63,101],[],[],[],[101,101],[101,69],[101],[101],[101],[101],[101],[101],[116],[116,101],[101,101],[101,101,101],[101,101],[101,101]]
def Ou:Array Value:=(XX.map fun r=>Value.string ⟨r.toArray⟩).toArray
theorem aCG:XX.length=50:=by decide +kernel
end Pl
namespace W
open Go.RowKit
theorem KM (k:Int) (hk : -9223372036854775808<=k/\k<=9223372036854775807) (w:World):Calls Tryz.prog 23 #[.int .i64 k] w fun e w'=>e=.returned (.int .i64 (Pl.aH k))/\w'=w:=by
 have HK:Hid (-9223372036854775808<=k/\k<=9223372036854775807):=hk;clear hk;by_cases h79:7<=k/\k<=9
 ·have a1:¬k<=6:=by omega
  have a2:1<=k:=by omega
  obtain⟨a3,a4⟩:=h79;go_enter Tryz.func23,Tryz.ntmps23;go_wp2;go_ret;refine⟨mJ ?_,rfl⟩;unfold Pl.aH;rw[if_neg (by omega),if_pos (by omega)]
  try go_num
 ·go_enter Tryz.func23,Tryz.ntmps23;go_wp2;all_goals (go_ret;refine⟨mJ ?_,rfl⟩;(try simp only[beq_eq_false_iff_ne,ne_eq,beq_iff_eq] at *);unfold Pl.aH;repeat' split)
  all_goals first|omega|rfl
theorem NI (n:Int) (w:World):Calls Tryz.prog 28 #[.int .i64 n] w fun e w'=>e=.returned (.bool (Pl.WY n))/\w'=w:=by
 go_enter Tryz.func28,Tryz.ntmps28;go_wp2;all_goals (go_ret;refine⟨aC ?_,rfl⟩;rw[Bool.eq_iff_iff];simp[Pl.WY] <;> omega)
theorem XY (k:Int) (w:World):Calls Tryz.prog 51 #[.int .i64 k] w fun e w'=>e=.returned (.int .i64 (Pl.IE k))/\w'=w:=by
 go_enter Tryz.func51,Tryz.ntmps51;go_wp2;all_goals (go_ret;refine⟨mJ ?_,rfl⟩;(try simp only[beq_eq_false_iff_ne,ne_eq,beq_iff_eq] at *);unfold Pl.IE;repeat' split)
 all_goals first|omega|rfl
theorem Ep (c k:Int) (hk : -9223372036854775808<=k/\k<=9223372036854775807) (w:World):Calls Tryz.prog 50 #[.int .u8 c,.int .i64 k] w fun e w'=>e=.returned (.bool (Pl.aL c k))/\w'=w:=by
 have HS:Hid (∀u:World,Calls Tryz.prog 23 #[.int .i64 k] u fun e w'=>e=.returned (.int .i64 (Pl.aH k))/\w'=u):=fun u=>KM k hk u;clear hk;have hc:c=116\/c=70\/c=66\/c=112\/c=102\/c=99\/c=105\/c=73\/c=115\/c=83\/c=100\/c=101\/c=69\/c=118\/(¬c=116/\¬c=70/\¬c=66/\¬c=112/\¬c=102/\¬c=99/\¬c=105/\¬c=73/\¬c=115/\¬c=83/\¬c=100/\¬c=101/\¬c=69/\¬c=118):=by omega
 rcases hc with rfl|rfl|rfl|rfl|rfl|rfl|rfl|rfl|rfl|rfl|rfl|rfl|rfl|rfl|⟨n1,n2,n3,n4,n5,n6,n7,n8,n9,n10,n11,n12,n13,n14⟩
 ·have HE:Hid (Pl.aL 116 k=decide (Pl.aH k=1)):=rfl;generalize Pl.aL 116 k=R at *;generalize Pl.aH k=s at *;go_enter Tryz.func50,Tryz.ntmps50;go_wp2_with (go_at_call 23;refine (HS.o _).mono ?_;rintro e u1 ⟨rfl,rfl⟩)
  all_goals (go_ret;refine⟨aC ?_,rfl⟩;rw[HE.o,Bool.eq_iff_iff];(try simp only[beq_eq_false_iff_ne,ne_eq,beq_iff_eq,Bool.or_eq_true,decide_eq_true_eq] at *))
  all_goals first|omega|(simp;omega)|simp_all
 ·have HE:Hid (Pl.aL 70 k=decide (k=4)):=rfl;generalize Pl.aL 70 k=R at *;generalize Pl.aH k=s at *;go_enter Tryz.func50,Tryz.ntmps50;go_wp2_with (go_at_call 23;refine (HS.o _).mono ?_;rintro e u1 ⟨rfl,rfl⟩)
  all_goals (go_ret;refine⟨aC ?_,rfl⟩;rw[HE.o,Bool.eq_iff_iff];(try simp only[beq_eq_false_iff_ne,ne_eq,beq_iff_eq,Bool.or_eq_true,decide_eq_true_eq] at *))
  all_goals first|omega|(simp;omega)|simp_all
 ·have HE:Hid (Pl.aL 66 k=decide (k=17)):=rfl;generalize Pl.aL 66 k=R at *;generalize Pl.aH k=s at *;go_enter Tryz.func50,Tryz.ntmps50;go_wp2_with (go_at_call 23;refine (HS.o _).mono ?_;rintro e u1 ⟨rfl,rfl⟩)
  all_goals (go_ret;refine⟨aC ?_,rfl⟩;rw[HE.o,Bool.eq_iff_iff];(try simp only[beq_eq_false_iff_ne,ne_eq,beq_iff_eq,Bool.or_eq_true,decide_eq_true_eq] at *))
  all_goals first|omega|(simp;omega)|simp_all
 ·have HE:Hid (Pl.aL 112 k=decide (Pl.aH k=2)):=rfl;generalize Pl.aL 112 k=R at *;generalize Pl.aH k=s at *;go_enter Tryz.func50,Tryz.ntmps50;go_wp2_with (go_at_call 23;refine (HS.o _).mono ?_;rintro e u1 ⟨rfl,rfl⟩)
  all_goals (go_ret;refine⟨aC ?_,rfl⟩;rw[HE.o,Bool.eq_iff_iff];(try simp only[beq_eq_false_iff_ne,ne_eq,beq_iff_eq,Bool.or_eq_true,decide_eq_true_eq] at *))
  all_goals first|omega|(simp;omega)|simp_all
 ·have HE:Hid (Pl.aL 102 k=decide (Pl.aH k=3)):=rfl;generalize Pl.aL 102 k=R at *;generalize Pl.aH k=s at *;go_enter Tryz.func50,Tryz.ntmps50;go_wp2_with (go_at_call 23;refine (HS.o _).mono ?_;rintro e u1 ⟨rfl,rfl⟩)
  all_goals (go_ret;refine⟨aC ?_,rfl⟩;rw[HE.o,Bool.eq_iff_iff];(try simp only[beq_eq_false_iff_ne,ne_eq,beq_iff_eq,Bool.or_eq_true,decide_eq_true_eq] at *))
  all_goals first|omega|(simp;omega)|simp_all
 ·have HE:Hid (Pl.aL 99 k=decide (Pl.aH k=4)):=rfl;generalize Pl.aL 99 k=R at *;generalize Pl.aH k=s at *;go_enter Tryz.func50,Tryz.ntmps50;go_wp2_with (go_at_call 23;refine (HS.o _).mono ?_;rintro e u1 ⟨rfl,rfl⟩)
  all_goals (go_ret;refine⟨aC ?_,rfl⟩;rw[HE.o,Bool.eq_iff_iff];(try simp only[beq_eq_false_iff_ne,ne_eq,beq_iff_eq,Bool.or_eq_true,decide_eq_true_eq] at *))
  all_goals first|omega|(simp;omega)|simp_all
 ·have HE:Hid (Pl.aL 105 k=decide (Pl.aH k=6\/Pl.aH k=8)):=rfl;generalize Pl.aL 105 k=R at *;generalize Pl.aH k=s at *;go_enter Tryz.func50,Tryz.ntmps50;go_wp2_with (go_at_call 23;refine (HS.o _).mono ?_;rintro e u1 ⟨rfl,rfl⟩)
  all_goals (go_ret;refine⟨aC ?_,rfl⟩;rw[HE.o,Bool.eq_iff_iff];(try simp only[beq_eq_false_iff_ne,ne_eq,beq_iff_eq,Bool.or_eq_true,decide_eq_true_eq] at *))
  all_goals first|omega|(simp;omega)|simp_all
 ·have HE:Hid (Pl.aL 73 k=decide (Pl.aH k=6\/Pl.aH k=8)):=rfl;generalize Pl.aL 73 k=R at *;generalize Pl.aH k=s at *;go_enter Tryz.func50,Tryz.ntmps50;go_wp2_with (go_at_call 23;refine (HS.o _).mono ?_;rintro e u1 ⟨rfl,rfl⟩)
  all_goals (go_ret;refine⟨aC ?_,rfl⟩;rw[HE.o,Bool.eq_iff_iff];(try simp only[beq_eq_false_iff_ne,ne_eq,beq_iff_eq,Bool.or_eq_true,decide_eq_true_eq] at *))
  all_goals first|omega|(simp;omega)|simp_all
 ·have HE:Hid (Pl.aL 115 k=decide (Pl.aH k=7)):=rfl;generalize Pl.aL 115 k=R at *;generalize Pl.aH k=s at *;go_enter Tryz.func50,Tryz.ntmps50;go_wp2_with (go_at_call 23;refine (HS.o _).mono ?_;rintro e u1 ⟨rfl,rfl⟩)
  all_goals (go_ret;refine⟨aC ?_,rfl⟩;rw[HE.o,Bool.eq_iff_iff];(try simp only[beq_eq_false_iff_ne,ne_eq,beq_iff_eq,Bool.or_eq_true,decide_eq_true_eq] at *))
  all_goals first|omega|(simp;omega)|simp_all
 ·have HE:Hid (Pl.aL 83 k=decide (Pl.aH k=7\/Pl.aH k=10)):=rfl;generalize Pl.aL 83 k=R at *;generalize Pl.aH k=s at *;go_enter Tryz.func50,Tryz.ntmps50;go_wp2_with (go_at_call 23;refine (HS.o _).mono ?_;rintro e u1 ⟨rfl,rfl⟩)
  all_goals (go_ret;refine⟨aC ?_,rfl⟩;rw[HE.o,Bool.eq_iff_iff];(try simp only[beq_eq_false_iff_ne,ne_eq,beq_iff_eq,Bool.or_eq_true,decide_eq_true_eq] at *))
  all_goals first|omega|(simp;omega)|simp_all
 ·have HE:Hid (Pl.aL 100 k=decide (Pl.aH k=5\/Pl.aH k=10)):=rfl;generalize Pl.aL 100 k=R at *;generalize Pl.aH k=s at *;go_enter Tryz.func50,Tryz.ntmps50;go_wp2_with (go_at_call 23;refine (HS.o _).mono ?_;rintro e u1 ⟨rfl,rfl⟩)
  all_goals (go_ret;refine⟨aC ?_,rfl⟩;rw[HE.o,Bool.eq_iff_iff];(try simp only[beq_eq_false_iff_ne,ne_eq,beq_iff_eq,Bool.or_eq_true,decide_eq_true_eq] at *))
  all_goals first|omega|(simp;omega)|simp_all
 ·have HE:Hid (Pl.aL 101 k=decide (Pl.aH k=8)):=rfl;generalize Pl.aL 101 k=R at *;generalize Pl.aH k=s at *;go_enter Tryz.func50,Tryz.ntmps50;go_wp2_with (go_at_call 23;refine (HS.o _).mono ?_;rintro e u1 ⟨rfl,rfl⟩)
  all_goals (go_ret;refine⟨aC ?_,rfl⟩;rw[HE.o,Bool.eq_iff_iff];(try simp only[beq_eq_false_iff_ne,ne_eq,beq_iff_eq,Bool.or_eq_true,decide_eq_true_eq] at *))
  all_goals first|omega|(simp;omega)|simp_all
 ·have HE:Hid (Pl.aL 69 k=decide (Pl.aH k=8)):=rfl;generalize Pl.aL 69 k=R at *;generalize Pl.aH k=s at *;go_enter Tryz.func50,Tryz.ntmps50;go_wp2_with (go_at_call 23;refine (HS.o _).mono ?_;rintro e u1 ⟨rfl,rfl⟩)
  all_goals (go_ret;refine⟨aC ?_,rfl⟩;rw[HE.o,Bool.eq_iff_iff];(try simp only[beq_eq_false_iff_ne,ne_eq,beq_iff_eq,Bool.or_eq_true,decide_eq_true_eq] at *))
  all_goals first|omega|(simp;omega)|simp_all
 ·have HE:Hid (Pl.aL 118 k=decide (k=13\/k=19\/k=20)):=rfl;generalize Pl.aL 118 k=R at *;generalize Pl.aH k=s at *;go_enter Tryz.func50,Tryz.ntmps50;go_wp2_with (go_at_call 23;refine (HS.o _).mono ?_;rintro e u1 ⟨rfl,rfl⟩)
  all_goals (go_ret;refine⟨aC ?_,rfl⟩;rw[HE.o,Bool.eq_iff_iff];(try simp only[beq_eq_false_iff_ne,ne_eq,beq_iff_eq,Bool.or_eq_true,decide_eq_true_eq] at *))
  all_goals first|omega|(simp;omega)|simp_all
 ·have HE:Hid (Pl.aL c k=decide (k=19\/k=20)):=(by show Pl.aL c k=_;unfold Pl.aL;rw[if_neg n1,if_neg n2,if_neg n3,if_neg n4,if_neg n5,if_neg n6,if_neg (by omega),if_neg n9,if_neg n10,if_neg n11,if_neg (by omega),if_neg n14]);generalize Pl.aL c k=R at *;generalize Pl.aH k=s at *;go_enter Tryz.func50,Tryz.ntmps50;go_wp2_with (go_at_call 23;refine (HS.o _).mono ?_;rintro e u1 ⟨rfl,rfl⟩)
  all_goals (go_ret;refine⟨aC ?_,rfl⟩;rw[HE.o,Bool.eq_iff_iff];(try simp only[beq_eq_false_iff_ne,ne_eq,beq_iff_eq,Bool.or_eq_true,decide_eq_true_eq] at *))
  all_goals first|omega|(simp;omega)|simp_all
theorem mk_val {k m:Int}{R:Bool}(x:Pl.Nd) (hk:x.k=k) (hm:x.m=m) (hR:R=Pl.CL x):R=if k=5 then decide (1<=m/\m<=3) else if k=10\/k=40\/k=41 then decide (m=1\/m=2) else if k=42 then decide (1<=m/\m<=6) else if k=46 then decide (1<=m/\m<=18) else if k=48 then decide ((0<=m/\m<=7)\/(14<=m/\m<=16)) else decide (m=0):=by rw[hR,<- hk,<- hm];rfl
theorem SC (x:Pl.Nd) (v:SV) (w:World):Calls Tryz.prog 26 #[.agg #[.int .i64 x.k,.int .i64 x.m,.int .i64 x.n,.string x.s,.slice v.a v.len v.cap,.int .i64 x.line,.int .i64 x.aQ]] w fun e w'=>e=.returned (.bool (Pl.CL x))/\Bw w w':=by
 obtain⟨R,hR⟩:∃R,R=Pl.CL x:=⟨_,rfl⟩;obtain⟨k,hk⟩:∃k,x.k=k:=⟨_,rfl⟩;obtain⟨m,hm⟩:∃m,x.m=m:=⟨_,rfl⟩;have hv:=mk_val x hk hm hR;rw[<- hR,hk,hm];clear hR hk hm;by_cases c5:k=5
 ·subst c5;have HE:Hid (R=decide (1<=m/\m<=3)):=hv;clear hv;go_enter Tryz.func26,Tryz.ntmps26;go_wp2;all_goals (go_ret;refine⟨aC ?_,aA _ _⟩;rw[HE.o,Bool.eq_iff_iff];(try simp only[Bool.or_eq_true,Bool.and_eq_true,beq_iff_eq,decide_eq_true_eq,Bool.false_eq_true,true_iff,false_iff,iff_true,iff_false,beq_eq_false_iff_ne,ne_eq] at *);first|done|omega|(simp;omega)|simp_all)
 by_cases c10:k=10
 ·subst c10;have HE:Hid (R=decide (m=1\/m=2)):=hv;clear hv;go_enter Tryz.func26,Tryz.ntmps26;go_wp2;all_goals (go_ret;refine⟨aC ?_,aA _ _⟩;rw[HE.o,Bool.eq_iff_iff];(try simp only[Bool.or_eq_true,Bool.and_eq_true,beq_iff_eq,decide_eq_true_eq,Bool.false_eq_true,true_iff,false_iff,iff_true,iff_false,beq_eq_false_iff_ne,ne_eq] at *);first|done|omega|(simp;omega)|simp_all)
 by_cases c40:k=40
 ·subst c40;have HE:Hid (R=decide (m=1\/m=2)):=hv;clear hv;go_enter Tryz.func26,Tryz.ntmps26;go_wp2;all_goals (go_ret;refine⟨aC ?_,aA _ _⟩;rw[HE.o,Bool.eq_iff_iff];(try simp only[Bool.or_eq_true,Bool.and_eq_true,beq_iff_eq,decide_eq_true_eq,Bool.false_eq_true,true_iff,false_iff,iff_true,iff_false,beq_eq_false_iff_ne,ne_eq] at *);first|done|omega|(simp;omega)|simp_all)
 by_cases mF:k=41
 ·subst mF;have HE:Hid (R=decide (m=1\/m=2)):=hv;clear hv;go_enter Tryz.func26,Tryz.ntmps26;go_wp2;all_goals (go_ret;refine⟨aC ?_,aA _ _⟩;rw[HE.o,Bool.eq_iff_iff];(try simp only[Bool.or_eq_true,Bool.and_eq_true,beq_iff_eq,decide_eq_true_eq,Bool.false_eq_true,true_iff,false_iff,iff_true,iff_false,beq_eq_false_iff_ne,ne_eq] at *);first|done|omega|(simp;omega)|simp_all)
 by_cases kV:k=42
 ·subst kV;have HE:Hid (R=decide (1<=m/\m<=6)):=hv;clear hv;go_enter Tryz.func26,Tryz.ntmps26;go_wp2;all_goals (go_ret;refine⟨aC ?_,aA _ _⟩;rw[HE.o,Bool.eq_iff_iff];(try simp only[Bool.or_eq_true,Bool.and_eq_true,beq_iff_eq,decide_eq_true_eq,Bool.false_eq_true,true_iff,false_iff,iff_true,iff_false,beq_eq_false_iff_ne,ne_eq] at *);first|done|omega|(simp;omega)|simp_all)
 by_cases c46:k=46
 ·subst c46;have HE:Hid (R=decide (1<=m/\m<=18)):=hv;clear hv;go_enter Tryz.func26,Tryz.ntmps26;go_wp2;all_goals (go_ret;refine⟨aC ?_,aA _ _⟩;rw[HE.o,Bool.eq_iff_iff];(try simp only[Bool.or_eq_true,Bool.and_eq_true,beq_iff_eq,decide_eq_true_eq,Bool.false_eq_true,true_iff,false_iff,iff_true,iff_false,beq_eq_false_iff_ne,ne_eq] at *);first|done|omega|(simp;omega)|simp_all)
 by_cases kQ:k=48
 ·subst kQ;have HE:Hid (R=decide ((0<=m/\m<=7)\/(14<=m/\m<=16))):=hv;clear hv;go_enter Tryz.func26,Tryz.ntmps26;go_wp2;all_goals (go_ret;refine⟨aC ?_,aA _ _⟩;rw[HE.o,Bool.eq_iff_iff];(try simp only[Bool.or_eq_true,Bool.and_eq_true,beq_iff_eq,decide_eq_true_eq,Bool.false_eq_true,true_iff,false_iff,iff_true,iff_false,beq_eq_false_iff_ne,ne_eq] at *);first|done|omega|(simp;omega)|simp_all)
 have HE:Hid (R=decide (m=0)):=by
  show R=_;rw[hv,if_neg c5,if_neg (by omega),if_neg kV,if_neg c46,if_neg kQ]
 clear hv;go_enter Tryz.func26,Tryz.ntmps26;go_wp2;all_goals (go_ret;refine⟨aC ?_,aA _ _⟩;rw[HE.o,Bool.eq_iff_iff];(try simp only[Bool.or_eq_true,Bool.and_eq_true,beq_iff_eq,decide_eq_true_eq,Bool.false_eq_true,true_iff,false_iff,iff_true,iff_false,beq_eq_false_iff_ne,ne_eq] at *);first|done|omega|(simp;omega)|simp_all)
theorem XZ (k:Nat) (hk:k<50) (w:World):Calls Tryz.prog 25 #[.int .i64 k] w fun e w'=>e=.returned (.string ⟨(Pl.XX.getD k []).toArray⟩)/\Bw w w':=by
 have hi:(k:Int)<50:=by omega
 have hc:(w.alloc (.cells Pl.Ou 9)).cell? ⟨w.heap.size,k,none⟩=some (.string ⟨(Pl.XX.getD k []).toArray⟩):=by
  rw[cell_of_row _ _ k Pl.Ou 9 (0,0) (heap_alloc_new w _)];exact Pl.WN Pl.XX k (by rw[Pl.aCG];exact hk)
 generalize (⟨(Pl.XX.getD k []).toArray⟩:ByteArray)=S at *;go_enter Tryz.func25,Tryz.ntmps25;go_wp2_with (refine Great.wpList_buildSliceTo rfl 59 9 50 _ rfl w.heap.size rfl _ rfl Tryz.underlying59 Pl.Ou (by kernel_rfl) ?_)
 go_ret;exact⟨rfl,aA _ _⟩
end W
end Go.Proofs.YtjcdiegfnoaedaaGreatDoor
