import Derived.Test.YtjcdiegfnoaedaaGreatDoorRows
import Derived.Test.YtjcdiegfnoaedaaGreatDoorZ09
set_option linter.unusedVariables false
set_option linter.unusedSimpArgs false
set_option maxHeartbeats 16000000
namespace Go.Proofs.YtjcdiegfnoaedaaGreatDoor
namespace Pl
def frm:List Int:=[110,116,114,97,98,102,118,92,39,34]
def tob:List Int:=[10,9,13,7,8,12,11,92,39,34]
def WB:Array Value:=#[.int .i64 10,.int .i64 9,.int .i64 13,.int .i64 7,.int .i64 8,.int .i64 12,.int .i64 11,.int .i64 92,.int .i64 39,.int .i64 34]
theorem Cy (k:Nat) (h:k<10):WB[k]?=some (.int .i64 (tob.getD k 0)):=by
 have:k=0\/k=1\/k=2\/k=3\/k=4\/k=5\/k=6\/k=7\/k=8\/k=9:=by omega
 rcases this with rfl|rfl|rfl|rfl|rfl|rfl|rfl|rfl|rfl|rfl <;> rfl
theorem Cz:∀k,k<10->aS (frm.getD k 0)=tob.getD k 0:=by decide
theorem Da (c:Int) (h:∀k,k<10->frm.getD k 0≠c):aS c=-1:=by
 have h0:(110:Int)≠c:=h 0 (by decide);have h1:(116:Int)≠c:=h 1 (by decide);have h2:(114:Int)≠c:=h 2 (by decide);have h3:(97:Int)≠c:=h 3 (by decide);have h4:(98:Int)≠c:=h 4 (by decide);have h5:(102:Int)≠c:=h 5 (by decide);have h6:(118:Int)≠c:=h 6 (by decide);have h7:(92:Int)≠c:=h 7 (by decide);have h8:(39:Int)≠c:=h 8 (by decide);have h9:(34:Int)≠c:=h 9 (by decide);unfold aS;rw[if_neg (Ne.symm h0),if_neg (Ne.symm h1),if_neg (Ne.symm h2),if_neg (Ne.symm h3),if_neg (Ne.symm h4),if_neg (Ne.symm h5),if_neg (Ne.symm h6),if_neg (Ne.symm h7),if_neg (Ne.symm h8),if_neg (Ne.symm h9)]
theorem aBy:∀k,(h:k<10)->(((⟨#[110,116,114,97,98,102,118,92,39,34]⟩:ByteArray)[k]'(by show k<10;exact h)).toNat:Int)=frm.getD k 0:=by decide +kernel
end Pl
namespace W
open Go.RowKit
theorem aB (w:World) (o:Obj):Bw w (w.alloc o):=(Below.refl _ _).alloc (Nat.le_refl _) _
theorem QE (c:Int) (w:World):Calls Tryz.prog 153 #[.int .u8 c] w fun e w'=>e=.returned (.int .i64 (Pl.aS c))/\Bw w w':=by
 go_enter Tryz.func153,Tryz.ntmps153;go_wp2_with fail
 obtain⟨W1,hW1⟩:∃W1,W1=w.alloc (.cells #[.int .i64 10,.int .i64 9,.int .i64 13,.int .i64 7,.int .i64 8,.int .i64 12,.int .i64 11,.int .i64 92,.int .i64 39,.int .i64 34] 3):=⟨_,rfl⟩;rw[<- hW1];have HC:Hid (∀k,k<10->W1.cell? ⟨w.heap.size,k,none⟩=some (.int .i64 (Pl.tob.getD k 0))):=fun k hk=>by
  rw[hW1];show (w.alloc (.cells Pl.WB 3)).cell? _=_;rw[cell_of_row _ _ k Pl.WB 3 (0,0) (heap_alloc_new w _)];exact Pl.Cy k hk
 have HB:Hid (Bw w W1):=by rw[hW1];exact aB _ _
 clear hW1;go_loop [5] (fun x=>∃k:Nat,k<=10/\x=.int .i64 k/\∀j,j<k->Pl.frm.getD j 0≠c) (fun x=>10-(intOf x).toNat)
 case atStart=>exact⟨0,Nat.zero_le _,rfl,fun j hj=>absurd hj (Nat.not_lt_zero j)⟩
 case round=>
  obtain⟨k,hk,rfl,hall⟩:=hrel;have HA:Hid (∀j,j<k->Pl.frm.getD j 0≠c):=hall;clear hall;by_cases hlt:k<10
  ·have hi:(k:Int)<10:=(by omega);have hf:=Pl.aBy k hlt;have HE:Hid (Pl.aS (Pl.frm.getD k 0)=Pl.tob.getD k 0):=Pl.Cz k hlt;have hcell:=HC.o k hlt;obtain⟨q,hq⟩:∃q,q=Pl.frm.getD k 0:=⟨_,rfl⟩;obtain⟨t,ht⟩:∃t,t=Pl.tob.getD k 0:=⟨_,rfl⟩;rw[<- hq]at hf HE;rw[<- ht]at hcell HE;have HQ:Hid (q=Pl.frm.getD k 0):=hq;clear hq ht HC;by_cases hc:q=c
   ·have e1:(q == c)=true:=(by simp[hc]);have HF:Hid (Pl.aS c=t):=(by rw[<- hc];exact HE.o);clear hc HE HQ;go_wp2;go_ret;exact⟨mJ HF.o.symm,HB.o⟩
   ·have e1:(q == c)=false:=(by simp[hc]);go_wp2
    go_round
    case rel=>exact⟨k+1,by omega,by go_num,fun j hj=>by
     by_cases e:j=k
     ·rw[e,<- HQ.o];exact hc
     ·exact HA.o j (by omega)⟩
    case measure=>simp[intOf];omega
  ·have hkk:k=10:=(by omega);subst hkk;have HF:Hid (Pl.aS c=-1):=Pl.Da c HA.o;clear HA;go_wp2;go_ret;exact⟨mJ HF.o.symm,HB.o⟩
end W
namespace Pl
def oct (c:Nat):List UInt8:=[92,UInt8.ofNat (48+c / 64),UInt8.ofNat (48+c / 8 % 8),UInt8.ofNat (48+c % 8)]
def shown (c m:Nat):List UInt8:=
 if c=10 then [92,110] else if c=9 then [92,116] else if c=13 then [92,114] else if c=m\/c=92 then [92,UInt8.ofNat c]
 else if 32<=c/\c<=126 then [UInt8.ofNat c] else oct c
theorem aBz:∀c,c<256->(⟨#[92]⟩++⟨#[48+UInt8.ofNat c / 64,48+UInt8.ofNat (c / 8 % 8),48+UInt8.ofNat c % 8]⟩:ByteArray)=⟨(oct c).toArray⟩:=by decide +kernel
theorem oH (c m:Nat):(shown c m).length<=4:=by unfold shown oct;repeat (split <;> try simp)
end Pl
namespace W
open Go.RowKit
theorem oN {a b:ByteArray}(h:a=b):Ending.returned (.string a)=.returned (.string b):=by rw[h]
theorem Uf (w:World) (v:Int):(convert 26 9 (.slice (some ⟨w.heap.size,0,none⟩) 1 1)).run Tryz.prog (w.alloc (.cells #[.int .u8 v] 5))=.ok (.string ⟨#[UInt8.ofNat v.toNat]⟩) (w.alloc (.cells #[.int .u8 v] 5)):=
 run_convert_bytes_arg _ 26 5 Tryz.underlying26 Tryz.underlying5 w.heap.size 0 1 1 [v] rfl (fun i hi=>by
  obtain rfl:i=0:=by omega
  rw[cell_of_row _ _ _ #[.int .u8 v] 5 (0,0) (heap_alloc_new w _)];rfl) 9 Tryz.underlying9
theorem Ug (w:World) (x y z:Int):(convert 26 9 (.slice (some ⟨w.heap.size,0,none⟩) 3 3)).run Tryz.prog (w.alloc (.cells #[.int .u8 x,.int .u8 y,.int .u8 z] 5))=.ok (.string ⟨#[UInt8.ofNat x.toNat,UInt8.ofNat y.toNat,UInt8.ofNat z.toNat]⟩) (w.alloc (.cells #[.int .u8 x,.int .u8 y,.int .u8 z] 5)):=
 run_convert_bytes_arg _ 26 5 Tryz.underlying26 Tryz.underlying5 w.heap.size 0 3 3 [x,y,z] rfl (fun i hi=>by
  have:i=0\/i=1\/i=2:=by omega
  rcases this with rfl|rfl|rfl <;> (rw[cell_of_row _ _ _ #[.int .u8 x,.int .u8 y,.int .u8 z] 5 (0,0) (heap_alloc_new w _)];rfl)) 9 Tryz.underlying9
theorem zY (c:Nat) (h:c<256) (w:World):Calls Tryz.prog 115 #[.int .i64 c] w fun e w'=>e=.returned (.string ⟨(Pl.oct c).toArray⟩)/\Bw w w':=by
 have hcv:=Ug w;go_enter Tryz.func115,Tryz.ntmps115;go_wp2;go_ret;refine⟨oN ?_,(Below.refl _ _).alloc (Nat.le_refl _) _⟩;exact Pl.aBz c h
theorem sD (c m:Nat) (h:c<256) (hm:m<256) (w:World):Calls Tryz.prog 80 #[.int .i64 c,.int .u8 m] w fun e w'=>e=.returned (.string ⟨(Pl.shown c m).toArray⟩)/\Bw w w':=by
 have hcv:=Uf w;unfold Pl.shown;by_cases h10:c=10
 ·rw[if_pos h10];have e1:((c:Int) == 10)=true:=by simp;omega
  clear h10;go_enter Tryz.func80,Tryz.ntmps80;go_wp2;go_ret;exact⟨rfl,Below.refl _ _⟩
 rw[if_neg h10];have e10:((c:Int) == 10)=false:=by simp;omega
 by_cases h9:c=9
 ·rw[if_pos h9];have e1:((c:Int) == 9)=true:=by simp;omega
  clear h10 h9;go_enter Tryz.func80,Tryz.ntmps80;go_wp2;go_ret;exact⟨rfl,Below.refl _ _⟩
 rw[if_neg h9];have e9:((c:Int) == 9)=false:=by simp;omega
 by_cases Aj:c=13
 ·rw[if_pos Aj];have e1:((c:Int) == 13)=true:=by simp;omega
  clear h10 h9 Aj;go_enter Tryz.func80,Tryz.ntmps80;go_wp2;go_ret;exact⟨rfl,Below.refl _ _⟩
 rw[if_neg Aj];have e13:((c:Int) == 13)=false:=by simp;omega
 clear h10 h9 Aj;by_cases hmk:c=m\/c=92
 ·rw[if_pos hmk];by_cases h1:c=m
  ·have e1:((c:Int) == (m:Int))=true:=(by simp;omega);clear hmk h1;go_enter Tryz.func80,Tryz.ntmps80;go_wp2;go_ret;refine⟨oN ?_,(Below.refl _ _).alloc (Nat.le_refl _) _⟩;rfl
  ·have e1:((c:Int) == (m:Int))=false:=(by simp;omega);have e2:((c:Int) == 92)=true:=(by simp;omega);clear hmk h1;go_enter Tryz.func80,Tryz.ntmps80;go_wp2;go_ret;refine⟨oN ?_,(Below.refl _ _).alloc (Nat.le_refl _) _⟩;rfl
 rw[if_neg hmk];have em:((c:Int) == (m:Int))=false:=by simp;omega
 have e92:((c:Int) == 92)=false:=by simp;omega
 clear hmk;by_cases h32:32<=c/\c<=126
 ·rw[if_pos h32];have e1:decide (32<=(c:Int))=true:=by simp;omega
  have e2:decide ((c:Int)<=126)=true:=by simp;omega
  clear h32;go_enter Tryz.func80,Tryz.ntmps80;go_wp2;go_ret;refine⟨oN ?_,(Below.refl _ _).alloc (Nat.le_refl _) _⟩;rfl
 rw[if_neg h32];by_cases hlo:32<=c
 ·have e1:decide (32<=(c:Int))=true:=by simp;omega
  have e2:decide ((c:Int)<=126)=false:=by simp;omega
  clear h32 hlo;go_enter Tryz.func80,Tryz.ntmps80;go_wp2_with (go_at_call 115;refine (zY c h _).mono ?_;rintro e u1 ⟨rfl,hb1⟩)
  go_ret;exact⟨rfl,hb1⟩
 ·have e1:decide (32<=(c:Int))=false:=by simp;omega
  clear h32 hlo;go_enter Tryz.func80,Tryz.ntmps80;go_wp2_with (go_at_call 115;refine (zY c h _).mono ?_;rintro e u1 ⟨rfl,hb1⟩)
  go_ret;exact⟨rfl,hb1⟩
def bD (w:World):Prop:=7<w.heap.size/\w.cell? ⟨7,7,none⟩=some (.int .u8 3)
theorem bD.below {w w':World}(h:bD w) (hb:Bw w w'):bD w':=
 ⟨Nat.lt_of_lt_of_le h.1 hb.size,(hb.cell (p:=⟨7,7,none⟩) h.1).trans h.2⟩
theorem Lb:IntKind.u64.wrap (bits BinOp.and IntKind.u64 8 (IntKind.u64.wrap (-8))*285870213051353865) / 288230376151711744=7:=by decide +kernel
theorem aBA (w:World) (h:bD w):Calls Tryz.prog 227 #[.int .u64 8] w fun e w'=>e=.returned (.int .i64 3)/\w'=w:=by
 obtain⟨_,hc⟩:=h;have key:=Lb;go_enter Tryz.func227,Tryz.ntmps227;go_wp2_with (simp only[Lb])
 go_ret;exact⟨rfl,rfl⟩
theorem aFu (w:World) (h:bD w):Calls Tryz.prog 212 #[.int .u64 8] w fun e w'=>e=.returned (.int .i64 3)/\w'=w:=by
 go_enter Tryz.func212,Tryz.ntmps212;go_wp2_with (go_at_call 227;refine (aBA _ h).mono ?_;rintro e w' ⟨rfl,rfl⟩)
 go_ret;exact⟨rfl,rfl⟩
theorem Lc:bits BinOp.and IntKind.i64 8 7=0:=by decide +kernel
theorem aBB (w:World):Calls Tryz.prog 211 #[.int .i64 8] w fun e w'=>e=.returned (.bool true)/\w'=w:=by
 go_enter Tryz.func211,Tryz.ntmps211;go_wp2_with (simp only[Lc])
 go_ret;exact⟨rfl,rfl⟩
end W
namespace Pl
def Db (n:Nat):ByteArray:=⟨#[49,UInt8.ofNat (48+n / 64 % 8),UInt8.ofNat (48+n / 8 % 8),UInt8.ofNat (48+n % 8)]⟩
theorem Ld:∀c,c<256->(⟨#[92]⟩:ByteArray)++(Db (512+c)).extract 1 4=⟨(oct c).toArray⟩:=by decide +kernel
end Pl
namespace W
open Go.RowKit
theorem Uh {a b:ByteArray}(h:a=b):Ending.returned (.tuple #[.slice none 0 0,.string a])=.returned (.tuple #[.slice none 0 0,.string b]):=by rw[h]
theorem and7 (n:Nat) (h:n<18446744073709551616):bits .and .u64 (n:Int) 7=((n % 8:Nat):Int):=by
 have:=bits_and_u64_nat n 7 h (by decide);rw[show ((7:Nat):Int)=7 from rfl]at this;rw[this];congr 1;exact Nat.and_two_pow_sub_one_eq_mod n 3
theorem Dc (w:World) (Z:Array Value) (hz:Z.size=65) (a b c d:Int):(convert 26 9 (.slice (some ⟨w.heap.size,61,none⟩) 4 4)).run Tryz.prog (w.alloc (.cells ((((Z.setIfInBounds 64 (.int .u8 a)).setIfInBounds 63 (.int .u8 b)).setIfInBounds 62 (.int .u8 c)).setIfInBounds 61 (.int .u8 d)) 268))=.ok (.string ⟨#[UInt8.ofNat d.toNat,UInt8.ofNat c.toNat,UInt8.ofNat b.toNat,UInt8.ofNat a.toNat]⟩) (w.alloc (.cells ((((Z.setIfInBounds 64 (.int .u8 a)).setIfInBounds 63 (.int .u8 b)).setIfInBounds 62 (.int .u8 c)).setIfInBounds 61 (.int .u8 d)) 268)):=
 run_convert_bytes_arg _ 26 5 Tryz.underlying26 Tryz.underlying5 w.heap.size 61 4 4 [d,c,b,a] rfl (fun i hi=>by
  have:i=0\/i=1\/i=2\/i=3:=by omega
  rcases this with rfl|rfl|rfl|rfl <;> (rw[cell_of_row _ _ _ _ 268 (0,0) (heap_alloc_new w _)];simp[Array.getElem?_setIfInBounds,hz])) 9 Tryz.underlying9
theorem ED:∀d,(h:d<8)->(((⟨#[48,49,50,51,52,53,54,55,56,57,97,98,99,100,101,102,103,104,105,106,107,108,109,110,111,112,113,114,115,116,117,118,119,120,121,122]⟩:ByteArray)[d]'(by show d<36;omega)):UInt8)=UInt8.ofNat (48+d):=by decide +kernel
set_option maxRecDepth 8000 in
theorem LJ (n:Nat) (h1:512<=n) (h2:n<768) (w:World) (hd:bD w):Calls Tryz.prog 193 #[.slice none 0 0,.int .u64 n,.int .i64 8,.bool false,.bool false] w fun e w'=>e=.returned (.tuple #[.slice none 0 0,.string (Pl.Db n)])/\Bw w w':=by
 have HD:Hid (bD w):=hd;clear hd;go_enter Tryz.func193,Tryz.ntmps193;go_wp2_with (first|(go_at_call 211;refine (aBB _).mono ?_;rintro e u1 ⟨rfl,rfl⟩)|(go_at_call 212;refine (aFu _ (HD.o.below ((Below.refl _ _).alloc (Nat.le_refl _) _))).mono ?_;rintro e u1 ⟨rfl,rfl⟩))
 obtain⟨m1,hm1⟩:∃m:Nat,m=n / 8:=⟨_,rfl⟩;obtain⟨m2,hm2⟩:∃m:Nat,m=n / 64:=⟨_,rfl⟩;have e1:decide ((8:Int)<=(n:Int))=true:=by simp;omega
 have e2:decide ((8:Int)<=(m1:Int))=true:=by simp;omega
 have e3:decide ((8:Int)<=(m2:Int))=true:=by simp;omega
 have q1:(n:Int) / 8=(m1:Int):=by omega
 have q2:(m1:Int) / 8=(m2:Int):=by omega
 have q3:(m2:Int) / 8=1:=by omega
 obtain⟨d0,hd0,hb0,HD0⟩:∃d:Nat,d<8/\bits .and .u64 (n:Int) 7=(d:Int)/\Hid (d=n % 8):=⟨n % 8,by omega,and7 n (by omega),rfl⟩;obtain⟨d1,hd1,hb1,HD1⟩:∃d:Nat,d<8/\bits .and .u64 (m1:Int) 7=(d:Int)/\Hid (d=n / 8 % 8):=⟨m1 % 8,by omega,and7 m1 (by omega),by show m1 % 8=_;omega⟩;obtain⟨d2,hd2,hb2,HD2⟩:∃d:Nat,d<8/\bits .and .u64 (m2:Int) 7=(d:Int)/\Hid (d=n / 64 % 8):=⟨m2 % 8,by omega,and7 m2 (by omega),by show m2 % 8=_;omega⟩;clear hm1 hm2;refine wp_loop_rounds 4 ?_;rw[rounds_succ];go_wp2;rw[rounds_succ];go_wp2;rw[rounds_succ];go_wp2;rw[rounds_succ];have hcv:=fun a b c d=>Dc w Tryz.zeroCells268 (by kernel_rfl) a b c d;go_wp2;go_ret2;refine⟨Uh ?_,(Below.refl _ _).alloc (Nat.le_refl _) _⟩;rw[ED d0 hd0,ED d1 hd1,ED d2 hd2,HD0.o,HD1.o,HD2.o];rfl
theorem WC (n:Nat) (h1:512<=n) (h2:n<768) (w:World) (hd:bD w):Calls Tryz.prog 178 #[.int .i64 n,.int .i64 8] w fun e w'=>e=.returned (.string (Pl.Db n))/\Bw w w':=by
 have e1:decide ((n:Int)<0)=false:=by simp
 go_enter Tryz.func178,Tryz.ntmps178;go_wp2_with (go_at_call 193;refine (LJ n h1 h2 _ hd).mono ?_;rintro e u1 ⟨rfl,hb1⟩)
 go_ret;exact⟨rfl,hb1⟩
theorem Le (n:Nat) (h1:512<=n) (h2:n<768) (w:World) (hd:bD w):Calls Tryz.prog 177 #[.int .i64 n,.int .i64 8] w fun e w'=>e=.returned (.string (Pl.Db n))/\Bw w w':=by
 go_enter Tryz.func177,Tryz.ntmps177;go_wp2_with (go_at_call 178;refine (WC n h1 h2 _ hd).mono ?_;rintro e u1 ⟨rfl,hb1⟩)
 go_ret;exact⟨rfl,hb1⟩
end W
namespace Pl
theorem JL:∀c:Nat,c<128->Utf8.encode (c:Int)=(⟨#[UInt8.ofNat c]⟩:ByteArray):=by decide +kernel
theorem Ak {c m:Nat}(h:c=m\/c=92) (hm:m=34\/m=39):shown c m=[92,UInt8.ofNat c]:=by
 unfold shown;rw[if_neg (by omega),if_neg (by omega),if_neg (by omega),if_pos h]
theorem Al {c m:Nat}(h:¬(c=m\/c=92)) (hp:32<=c/\c<=126):shown c m=[UInt8.ofNat c]:=by
 unfold shown;rw[if_neg (by omega),if_neg (by omega),if_neg (by omega),if_neg h,if_pos hp]
theorem Am {c m:Nat}(h:¬(c=m\/c=92)) (hp:¬(32<=c/\c<=126)) (h10:c≠10) (h9:c≠9) (Aj:c≠13):shown c m=oct c:=by
 unfold shown;rw[if_neg h10,if_neg h9,if_neg Aj,if_neg h,if_neg hp]
end Pl
namespace W
open Go.RowKit
theorem LK (c m:Nat) (h:c<256) (hm:m=34\/m=39) (w:World) (hd:bD w):Calls Tryz.prog 162 #[.int .u8 c,.int .u8 m] w fun e w'=>e=.returned (.string ⟨(Pl.shown c m).toArray⟩)/\Bw w w':=by
 by_cases hmk:c=m\/c=92
 ·rw[Pl.Ak hmk hm];have hen:=Pl.JL c (by omega);by_cases h1:c=m
  ·have e1:((c:Int) == (m:Int))=true:=(by simp;omega);clear hmk h1;go_enter Tryz.func162,Tryz.ntmps162;go_wp2;go_ret;refine⟨oN ?_,Below.refl _ _⟩;rfl
  ·have e1:((c:Int) == (m:Int))=false:=(by simp;omega);have e2:((c:Int) == 92)=true:=(by simp;omega);clear hmk h1;go_enter Tryz.func162,Tryz.ntmps162;go_wp2;go_ret;refine⟨oN ?_,Below.refl _ _⟩;rfl
 have em:((c:Int) == (m:Int))=false:=by simp;omega
 have e92:((c:Int) == 92)=false:=by simp;omega
 by_cases hp:32<=c/\c<=126
 ·rw[Pl.Al hmk hp];have hen:=Pl.JL c (by omega);have e1:decide (32<=(c:Int))=true:=by simp;omega
  have e2:decide ((c:Int)<=126)=true:=by simp;omega
  clear hp hmk;go_enter Tryz.func162,Tryz.ntmps162;go_wp2;go_ret;refine⟨oN ?_,Below.refl _ _⟩;rfl
 have ep:(decide (32<=(c:Int)) && decide ((c:Int)<=126))=false:=by simp;omega
 by_cases h10:c=10
 ·subst h10;have es:Pl.shown 10 m=[92,110]:=rfl;rw[es];clear ep hp hmk em e92 es;rcases hm with rfl|rfl;all_goals
   go_enter Tryz.func162,Tryz.ntmps162;go_wp2;go_ret;exact⟨rfl,Below.refl _ _⟩
 by_cases h9:c=9
 ·subst h9;have es:Pl.shown 9 m=[92,116]:=rfl;rw[es];clear ep hp hmk em e92 es;rcases hm with rfl|rfl;all_goals
   go_enter Tryz.func162,Tryz.ntmps162;go_wp2;go_ret;exact⟨rfl,Below.refl _ _⟩
 by_cases Aj:c=13
 ·subst Aj;have es:Pl.shown 13 m=[92,114]:=rfl;rw[es];clear ep hp hmk em e92 es;rcases hm with rfl|rfl;all_goals
   go_enter Tryz.func162,Tryz.ntmps162;go_wp2;go_ret;exact⟨rfl,Below.refl _ _⟩
 rw[Pl.Am hmk hp h10 h9 Aj];have e10:((c:Int) == 10)=false:=by simp;omega
 have e9:((c:Int) == 9)=false:=by simp;omega
 have e13:((c:Int) == 13)=false:=by simp;omega
 have es:(Pl.Db (512+c)).size=4:=rfl;have HC:Hid ((⟨#[92]⟩:ByteArray)++(Pl.Db (512+c)).extract 1 4=⟨(Pl.oct c).toArray⟩):=Pl.Ld c h;have en:(512:Int)+(c:Int)=((512+c:Nat):Int):=by omega
 have HF:=fun w hd=>Le (512+c) (by omega) (by omega) w hd;obtain⟨N,hN⟩:∃N,N=512+c:=⟨_,rfl⟩;rw[<- hN]at es HC en HF;clear hN hmk h10 h9 Aj ep;by_cases hlo:32<=c
 ·have e1:decide (32<=(c:Int))=true:=by simp;omega
  have e2:decide ((c:Int)<=126)=false:=by simp;omega
  clear hlo hp;go_enter Tryz.func162,Tryz.ntmps162;go_wp2_with (go_at_call 177;refine (HF _ hd).mono ?_;rintro e u1 ⟨rfl,hb1⟩)
  go_ret;refine⟨oN ?_,hb1⟩;exact HC.o
 ·have e1:decide (32<=(c:Int))=false:=by simp;omega
  clear hlo hp;go_enter Tryz.func162,Tryz.ntmps162;go_wp2_with (go_at_call 177;refine (HF _ hd).mono ?_;rintro e u1 ⟨rfl,hb1⟩)
  go_ret;refine⟨oN ?_,hb1⟩;exact HC.o
end W
namespace Pl
def cl (l:List UInt8):List Value:=l.map fun b=>Value.int .u8 (b.toNat:Int)
theorem WE (l:List UInt8):(cl l).length=l.length:=by simp[cl]
theorem vD (a b:List UInt8):cl (a++b)=cl a++cl b:=by simp[cl]
theorem aBC (l:List UInt8):Lib.strCells ⟨l.toArray⟩=cl l:=by simp[Lib.strCells,cl]
def qc (s:ByteArray) (m k:Nat):List UInt8:=UInt8.ofNat m :: (s.data.toList.take k).flatMap fun b=>shown b.toNat m
def qt (s:ByteArray) (m:Nat):ByteArray:=⟨(qc s m s.size++[UInt8.ofNat m]).toArray⟩
theorem Ao (s:ByteArray) (m:Nat):qc s m 0=[UInt8.ofNat m]:=by simp[qc]
theorem LM (s:ByteArray) (m k:Nat) (h:k<s.size):qc s m (k+1)=qc s m k++shown (s[k]'h).toNat m:=by
 obtain⟨⟨l⟩⟩:=s;have hl:k<l.length:=h;unfold qc;show _ :: (l.take (k+1)).flatMap _=_ :: (l.take k).flatMap _++_;rw[List.take_add_one,List.getElem?_eq_getElem hl,List.flatMap_append];simp only[Option.toList_some,List.flatMap_cons,List.flatMap_nil,List.append_nil,List.cons_append];rfl
theorem sU (s:ByteArray) (m:Nat):∀k,k<=s.size->(qc s m k).length<=1+4*k
 | 0,_=>by simp[qc]
 | k+1,h=>by
  rw[LM s m k (by omega)];have:=sU s m k (by omega);have:=oH (s[k]'(by omega)).toNat m;simp only[List.length_append];omega
end Pl
namespace W
open Go.RowKit
theorem BX:(Tryz.prog.info? 5).map (fun i=>(i.zero,i.size,i.bytes))=some (some (.int .u8 0),1,1):=by kernel_rfl
theorem WG (c:Nat) (h:c<256) (w:World):Calls Tryz.prog 80 #[.int .i64 c,.int .u8 34] w fun e w'=>e=.returned (.string ⟨(Pl.shown c 34).toArray⟩)/\Bw w w':=sD c 34 h (by decide) w
theorem vR {B:Nat}{e:TypeId}{k:Nat}{v:Value}{n:Nat}{xs:List Value}{w w':World}(h:w.ownsRow B e k v n xs) (hb:Bw w w'):w'.ownsRow B e k v n xs:=by
 refine⟨h.1,?_⟩;rcases h.2 with ⟨a,b⟩|⟨g,cap,cur,h0,hlo,hg,r⟩
 ·exact .inl ⟨a,b⟩
 ·exact .inr ⟨g,cap,cur,h0,hlo,(hb.block g (Array.getElem?_eq_some_iff.1 hg).1).trans hg,r⟩
theorem Lf (w:World) (l:List UInt8) (j:Nat) (u:Value) (hj:(Pl.cl l)[j]?=some u):(Lib.bytesWorld w 5 ⟨l.toArray⟩).cell? ((⟨w.heap.size,0,none⟩:Addr).add j)=some u:=by
 have hl:j<l.length:=by have:=(List.getElem?_eq_some_iff.1 hj).1;rwa [Pl.WE]at this
 have:=Lib.bytesWorld_cell w 5 ⟨l.toArray⟩ j (by simpa [ByteArray.size] using hl);simp only[Pl.cl,List.getElem?_map,List.getElem?_eq_getElem hl,Option.map_some,Option.some.injEq]at hj;rw[show (⟨w.heap.size,0,none⟩:Addr).add j=⟨w.heap.size,j,none⟩ by simp[Addr.add];omega,this,<- hj];simp[List.getD,List.getElem?_eq_getElem hl]
theorem one_cell (w:World) (j:Nat) (u:Value) (hj:(Pl.cl [34])[j]?=some u):(w.alloc (.cells #[.int .u8 34] 5)).cell? ((⟨w.heap.size,0,none⟩:Addr).add j)=some u:=by
 rcases j with _|j
 ·cases hj;exact cell_of_row _ w.heap.size 0 _ 5 (0,0) (heap_alloc_new w _)
 ·simp[Pl.cl]at hj
theorem EF {B:Nat}{w:World}{v:Value}{n:Nat}{l:List UInt8}(h:w.ownsRow B 5 1 v n (Pl.cl l)) (hn:0<n):(convert 26 9 v).run Tryz.prog w=.ok (.string ⟨l.toArray⟩) w:=by
 obtain⟨g,cap,rfl⟩:=Joins.ownsRow_form h hn;have hl:l.length=n:=by have:=h.1;rw[Pl.WE]at this;omega
 subst hl;refine run_convert_bytes_back w 26 9 5 ⟨g,0,none⟩ cap l Tryz.underlying26 Tryz.underlying5 Tryz.underlying9 fun j hj=>?_;exact h.cells (g:=g) rfl j _ (by simp[Pl.cl,List.getElem?_eq_getElem hj])
theorem wK (s:ByteArray) (hs:s.size<=1048576) (w:World):Calls Tryz.prog 81 #[.string s] w fun e w'=>e=.returned (.string (Pl.qt s 34))/\Bw w w':=by
 obtain⟨i0,hi,hz0,hz1,hz2⟩:=info_parts BX;have hcv:∀(u:World) (t:ByteArray),(convert 9 26 (.string t)).run Tryz.prog u=.ok (.slice (some ⟨u.heap.size,0,none⟩) t.size (grownCap u t.size 0 5)) (Lib.bytesWorld u 5 t):=fun u t=>Lib.run_convert_string_bytes u 9 26 5 t Tryz.underlying9 Tryz.underlying26 Tryz.underlying5;have h0:(w.alloc (.cells #[.int .u8 34] 5)).ownsRow w.heap.size 5 1 (.slice (some ⟨w.heap.size,0,none⟩) 1 1) 1 (Pl.cl (Pl.qc s 34 0)):=by
  rw[Pl.Ao];exact World.ownsRow_lit w #[.int .u8 34] 1 (Nat.le_refl _) (by decide) rfl
 have H0:Hid ((w.alloc (.cells #[.int .u8 34] 5)).ownsRow w.heap.size 5 1 (.slice (some ⟨w.heap.size,0,none⟩) 1 1) 1 (Pl.cl (Pl.qc s 34 0))):=h0;clear h0;go_enter Tryz.func81,Tryz.ntmps81;go_wp2_with fail
 go_loopw [3,4] (fun v i wr=>∃k:Nat,k<=s.size/\i=.int .i64 k/\wr.ownsRow w.heap.size 5 1 v (Pl.qc s 34 k).length (Pl.cl (Pl.qc s 34 k))/\Bw w wr) (fun _ i _=>s.size-(intOf i).toNat)
 case atStart=>exact⟨0,Nat.zero_le _,rfl,by rw[show (Pl.qc s 34 0).length=1 from rfl];exact H0.o,(Below.refl _ _).alloc (Nat.le_refl _) _⟩
 case round=>
  obtain⟨k,hk,rfl,hown,hbel⟩:=hrel;have HO:Hid (wr.ownsRow w.heap.size 5 1 _ (Pl.qc s 34 k).length (Pl.cl (Pl.qc s 34 k))):=hown;have HB:Hid (Bw w wr):=hbel;clear hown hbel H0;by_cases hlt:k<s.size
  ·have hi':(k:Int)<(s.size:Int):=(by omega);have hc256:(s[k]'hlt).toNat<256:=(s[k]'hlt).toNat_lt;go_wp2_with (first|(go_at_call 80;refine (WG (s[k]'hlt).toNat hc256 _).mono ?_;rintro e u1 ⟨rfl,hb1⟩)|(at_builtin;refine wpList_append_own _ rfl (.tmp 12) (.tmp 18) 26 rfl w.heap.size 5 i0 (.int .u8 0) 1 1 Tryz.underlying26 hi hz0 hz1 hz2 rfl (by decide) _ _ _ rfl (vR HO.o (hb1.trans (Joins.below_bytesWorld _ _ 5 ⟨(Pl.shown (s[k]'hlt).toNat 34).toArray⟩ hb1.size))) ⟨u1.heap.size,0,none⟩ (Pl.shown (s[k]'hlt).toNat 34).length _ (Pl.cl (Pl.shown (s[k]'hlt).toNat 34)) (by rfl) (by rw[Pl.WE,Nat.mul_one]) (Lf u1 _) (by intro u hu;obtain⟨n,_,rfl⟩:=List.mem_map.1 hu;rfl) (by have:=Pl.sU s 34 k hk;have:=Pl.oH (s[k]'hlt).toNat 34;unfold maxLen;omega) (by have:=Pl.sU s 34 k hk;have:=Pl.oH (s[k]'hlt).toNat 34;omega) (Nat.le_trans HB.o.size (Nat.le_trans hb1.size (by rw[Lib.bytesWorld_size];omega))) ?_;intro v' u2 hown' hgr _))
   refine⟨⟨k+1,by omega,by go_num,?_,?_⟩,by simp[intOf];omega⟩
   ·rw[Pl.LM s 34 k hlt,Pl.vD,List.length_append];exact hown'
   ·exact (HB.o.trans ((hb1.trans (Joins.below_bytesWorld _ _ 5 _ hb1.size)).mono HB.o.size)).grown hgr (Nat.le_trans HB.o.size (Nat.le_trans hb1.size (by rw[Lib.bytesWorld_size];omega))) (fun j hj=>(HO.o.lt j hj).1)
  ·have hi':¬(k:Int)<(s.size:Int):=(by omega);obtain rfl:s.size=k:=by omega
   have HE:Hid ((wr.alloc (.cells #[.int .u8 34] 5)).ownsRow w.heap.size 5 1 _ (Pl.qc s 34 s.size).length (Pl.cl (Pl.qc s 34 s.size))):=HO.o.alloc _;go_wp2_with (first|(at_builtin;refine wpList_append_own _ rfl (.tmp 20) (.tmp 21) 26 rfl w.heap.size 5 i0 (.int .u8 0) 1 1 Tryz.underlying26 hi hz0 hz1 hz2 rfl (by decide) _ _ _ rfl HE.o ⟨wr.heap.size,0,none⟩ 1 _ (Pl.cl [34]) rfl rfl (one_cell wr) (by intro u hu;obtain⟨n,_,rfl⟩:=List.mem_map.1 hu;rfl) (by have:=Pl.sU s 34 s.size (Nat.le_refl _);unfold maxLen;omega) (by have:=Pl.sU s 34 s.size (Nat.le_refl _);omega) (Nat.le_trans HB.o.size (by simp)) ?_;intro v' u2 hown' hgr _;rw[<- Pl.vD]at hown';have hst:=EF hown' (Nat.succ_pos _)))
   go_ret;refine⟨rfl,?_⟩;exact (HB.o.trans (((Below.refl _ _).alloc (Nat.le_refl _) _).mono HB.o.size)).grown hgr (Nat.le_trans HB.o.size (by simp)) (fun j hj=>(HO.o.lt j hj).1)
end W
namespace Pl
theorem De (c:Int):aS c<=255:=by
 unfold aS
 (repeat' split) <;> decide
theorem WH {s:ByteArray}{i:Nat}{v:Int}{n:Nat}(h:bB s i=.ok (v,n)):(1<=n/\n<=3)/\0<=v/\v<=255/\i+n<=s.size:=by
 have h1:∀j,hc s j<=15:=fun j=>by unfold hc;split;exact wI _;decide
 have h2:∀j,oc s j<=7:=fun j=>by unfold oc;split <;> omega
 have h3:∀j,0<=hc s j->j<s.size:=fun j hj=>by unfold hc at hj;split at hj;assumption;omega
 have h4:∀j,0<=oc s j->j<s.size:=fun j hj=>by
  unfold oc at hj;split at hj
  ·rename_i q;exact q.1
  ·omega
 have a1:=h1 (i+1);have a2:=h1 (i+2);have b1:=h2 i;have b2:=h2 (i+1);have b3:=h2 (i+2);have p1:=De (aD s i);have c1:=h3 (i+1);have c2:=h3 (i+2);have c3:=h4 i;have c4:=h4 (i+1);have c5:=h4 (i+2);unfold bB at h;split at h
 ·cases h
 rename_i q0;have q1:i<s.size:=by
  rcases Nat.lt_or_ge i s.size with e|e
  ·exact e
  ·exact absurd (.inl e) q0
 repeat' (split at h)
 all_goals (cases h <;> refine⟨⟨by omega,by omega⟩,by omega,by omega,by omega⟩)
theorem Lg {s:ByteArray}{i:Nat}{f:Int}(h:bB s i=.error f):f≠0:=by
 unfold bB at h
 repeat' (split at h)
 all_goals (cases h <;> decide)
theorem aBD (b:UInt8) (c:Int) (h:b=UInt8.ofNat c.toNat) (h0:0<=c) (h1:c<256):cl [b]=[.int .u8 c]:=by
 unfold cl;rw[h];simp;omega
end Pl
namespace W
open Go.RowKit
theorem uC (b:UInt8) (c:Int) (hb:b=UInt8.ofNat c.toNat) (h0:0<=c) (h1:c<256) (w:World) (j:Nat) (u:Value) (hj:(Pl.cl [b])[j]?=some u):(w.alloc (.cells #[.int .u8 c] 5)).cell? ((⟨w.heap.size,0,none⟩:Addr).add j)=some u:=by
 rw[Pl.aBD b c hb h0 h1]at hj;rcases j with _|j
 ·cases hj;exact cell_of_row _ w.heap.size 0 _ 5 (0,0) (heap_alloc_new w _)
 ·simp at hj
def LP (base:Nat) (r:Except Int (List UInt8 × Nat)) (e:Ending) (w:World):Prop:=match r with
 | .ok (bs,n)=>∃v,e=.returned (.tuple #[v,.int .i64 n,.int .i64 0])/\w.ownsRow base 5 1 v bs.length (Pl.cl bs)
 | .error f=>e=.returned (.tuple #[.slice none 0 0,.int .i64 0,.int .i64 f])
set_option maxRecDepth 100000 in
theorem wL (t:ByteArray) (ht:t.size<=1048576) (hpos:0<t.size) (hm:Pl.aD t 0=34\/Pl.aD t 0=39) (w:World) (hE:nR w):Calls Tryz.prog 196 #[.string t] w fun e w'=>(∃r,Pl.oV t (Pl.aD t 0) 1 [] r/\LP w.heap.size r e w')/\Bw w w':=by
 obtain⟨i0,hi,hz0,hz1,hz2⟩:=info_parts BX;have HE:Hid (nR w):=hE;have hg0:=Pl.aJ t 0 hpos;obtain⟨m,hmm⟩:∃m,m=Pl.aD t 0:=⟨_,rfl⟩;rw[<- hmm]at hg0 hm ⊢;have HM:Hid (m=34\/m=39):=hm;clear hmm hE hm;have H0:Hid ((w.alloc (.cells #[] 5)).ownsRow w.heap.size 5 1 (.slice (some ⟨w.heap.size,0,none⟩) 0 0) 0 (Pl.cl [])):=World.ownsRow_lit w #[] 0 (Nat.le_refl _) (Nat.zero_le _) rfl;go_enter Tryz.func196,Tryz.ntmps196;go_wp2_with fail
 go_loopw [6,7] (fun v i wr=>∃(k:Nat) (acc:List UInt8),i=.int .i64 k/\1<=k/\k<=t.size/\acc.length<=k/\wr.ownsRow w.heap.size 5 1 v acc.length (Pl.cl acc)/\Bw w wr/\∀r,Pl.oV t m k acc r->Pl.oV t m 1 [] r) (fun _ i _=>t.size-(intOf i).toNat)
 case atStart=>exact⟨1,[],rfl,Nat.le_refl _,hpos,Nat.zero_le _,H0.o,aB _ _,fun r h=>h⟩
 case round=>
  obtain⟨k,acc,rfl,hk1,hk,hacc,hown,hbel,hq⟩:=hrel;have HO:Hid (wr.ownsRow w.heap.size 5 1 _ acc.length (Pl.cl acc)):=hown;have HB:Hid (Bw w wr):=hbel;have HQ:Hid (∀r,Pl.oV t m k acc r->Pl.oV t m 1 [] r):=hq;clear hown hbel hq H0;by_cases hlt:k<t.size
  ·have hi':(k:Int)<(t.size:Int):=(by omega);have Sq:=Pl.aJ t k hlt;have c0:=Pl.sP t k;have c1:=Pl.sQ t k;obtain⟨c,hcc⟩:∃c,c=Pl.aD t k:=⟨_,rfl⟩;rw[<- hcc]at Sq c0 c1;have HC:Hid (c=Pl.aD t k):=hcc;clear hcc;by_cases h10:c=10
   ·have HF:Hid (Pl.oV t m 1 [] (.error 4)):=HQ.o _ (.out (.inr (by rw[<- HC.o];exact h10)));have e10:(c == 10)=true:=(by simp[h10]);have aBE:(c != 10)=false:=(by simp[h10]);clear h10;go_wp2_with fail
    go_ret3
    exact⟨⟨_,HF.o,rfl⟩,HB.o⟩
   have e10:(c == 10)=false:=(by simp[h10]);have aBE:(c != 10)=true:=(by simp[h10]);by_cases hcm:c=m
   ·have HF:Hid (Pl.oV t m 1 [] (.ok (acc,k+1))):=HQ.o _ (.fin hlt (by rw[<- HC.o];exact hcm) (by rw[<- HC.o];exact h10));have ecm:(c == m)=true:=(by simp[hcm]);clear h10 hcm;go_wp2_with fail
    go_ret3
    exact⟨⟨_,HF.o,_,rfl,HO.o⟩,HB.o⟩
   have ecm:(c == m)=false:=(by simp[hcm]);by_cases LQ:c=92
   ·have e92:(c == 92)=true:=(by simp[LQ]);have aDY:Pl.aD t k=92:=(by rw[<- HC.o];exact LQ);have hcm':Pl.aD t k≠m:=(by rw[<- HC.o];exact hcm);have Df:Hid (Pl.aD t k=92/\Pl.aD t k≠m):=⟨aDY,hcm'⟩;clear h10 hcm LQ aDY hcm';have hk2:(k:Int)+1<=(t.size:Int):=(by omega);go_wp2_with fail
    refine (GL (t.extract (k+1) t.size) (by rw[Pl.bC];omega) _ (HE.o.on HB.o)).mono ?_;rintro e u1 ⟨hes,g1⟩;have G1:Hid (Bw wr u1):=g1;clear g1;rcases hes with ⟨v,n,hes,rfl⟩|⟨f,hes,rfl⟩
    ·rw[Pl.xS t (k+1) 0 (by omega)]at hes;obtain⟨⟨n1,n2⟩,v0,v1,n3⟩:=Pl.WH hes;have HES:Hid (Pl.bB t (k+1)=.ok (v,n)):=hes;have VX:(n:Int)<=3:=(by omega);have hkn:(k:Int)+1+n<=t.size:=(by omega);clear hes;have HB2:Hid (Bw w u1):=HB.o.trans (G1.o.mono HB.o.size);have HX:Hid ((u1.alloc (.cells #[.int .u8 v] 5)).ownsRow w.heap.size 5 1 _ acc.length (Pl.cl acc)):=(vR HO.o G1.o).alloc _;go_wp2_with (at_builtin;refine wpList_append_own _ rfl (.tmp 55) (.tmp 57) 26 rfl w.heap.size 5 i0 (.int .u8 0) 1 1 Tryz.underlying26 hi hz0 hz1 hz2 rfl (by decide) _ _ _ rfl HX.o ⟨u1.heap.size,0,none⟩ 1 _ (Pl.cl [UInt8.ofNat v.toNat]) rfl rfl (uC _ v rfl v0 (by omega) u1) (by intro u hu;obtain⟨n,_,rfl⟩:=List.mem_map.1 hu;rfl) (by unfold maxLen;omega) (by omega) (Nat.le_trans HB2.o.size (by simp)) ?_;intro v' u2 hown' hgr _;rw[<- Pl.vD]at hown')
     refine⟨⟨k+1+n,acc++[UInt8.ofNat v.toNat],by go_num,by omega,by omega,by rw[List.length_append];simp;omega,by rw[List.length_append];exact hown',?_,fun r hr=>HQ.o r (.esc hlt Df.o.1 Df.o.2 HES.o hr)⟩,by simp[intOf];omega⟩;exact (HB2.o.alloc HB2.o.size _).grown hgr (Nat.le_trans HB2.o.size (by simp)) (fun j hj=>(HX.o.lt j hj).1)
    ·rw[Pl.xS t (k+1) 0 (by omega)]at hes;have HF:Hid (Pl.oV t m 1 [] (.error f)):=HQ.o _ (.bad hlt Df.o.1 Df.o.2 hes);have hf0:f≠0:=Pl.Lg hes;clear hes;have ef:(f == 0)=false:=(by simp[hf0]);have ef':(f != 0)=true:=(by simp[hf0]);clear hf0;go_wp2_with fail
     go_ret3
     exact⟨⟨_,HF.o,rfl⟩,HB.o.trans (G1.o.mono HB.o.size)⟩
   ·have e92:(c == 92)=false:=(by simp[LQ]);have HN:Hid (∀r,Pl.oV t m (k+1) (acc++[UInt8.ofNat c.toNat]) r->Pl.oV t m 1 [] r):=fun r hr=>HQ.o r (.one hlt (by rw[<- HC.o];exact h10) (by rw[<- HC.o];exact hcm) (by rw[<- HC.o];exact LQ) (by rw[<- HC.o];exact hr));have HB2:Hid (Bw w wr):=HB.o;have HX:Hid ((wr.alloc (.cells #[.int .u8 c] 5)).ownsRow w.heap.size 5 1 _ acc.length (Pl.cl acc)):=HO.o.alloc _;clear h10 hcm LQ;go_wp2_with (at_builtin;refine wpList_append_own _ rfl (.tmp 27) (.tmp 31) 26 rfl w.heap.size 5 i0 (.int .u8 0) 1 1 Tryz.underlying26 hi hz0 hz1 hz2 rfl (by decide) _ _ _ rfl HX.o ⟨wr.heap.size,0,none⟩ 1 _ (Pl.cl [UInt8.ofNat c.toNat]) rfl rfl (uC _ c rfl c0 c1 wr) (by intro u hu;obtain⟨n,_,rfl⟩:=List.mem_map.1 hu;rfl) (by unfold maxLen;omega) (by omega) (Nat.le_trans HB2.o.size (by simp)) ?_;intro v' u2 hown' hgr _;rw[<- Pl.vD]at hown')
    refine⟨⟨k+1,acc++[UInt8.ofNat c.toNat],by go_num,by omega,by omega,by rw[List.length_append];simp;omega,by rw[List.length_append];exact hown',?_,HN.o⟩,by simp[intOf];omega⟩;exact (HB2.o.alloc HB2.o.size _).grown hgr (Nat.le_trans HB2.o.size (by simp)) (fun j hj=>(HX.o.lt j hj).1)
  ·have hi':¬(k:Int)<(t.size:Int):=(by omega);have HF:Hid (Pl.oV t m 1 [] (.error 4)):=HQ.o _ (.out (.inl (by omega)));go_wp2_with fail
   go_ret3
   exact⟨⟨_,HF.o,rfl⟩,HB.o⟩
end W
end Go.Proofs.YtjcdiegfnoaedaaGreatDoor
