import Derived.Test.YtjcdiegfnoaedaaGreatDoorChecked
import Derived.Great.Walk
import Derived.Deep.WholeRow
set_option linter.unusedVariables false
set_option linter.unusedSimpArgs false
set_option maxHeartbeats 16000000
theorem Go.RowKit.Hid.o {p:Prop}(h:Go.RowKit.Hid p):p:=h
namespace Go.Proofs.YtjcdiegfnoaedaaGreatDoor
abbrev W.Bw (w z:World):Prop:=Go.RowKit.Below w.heap.size w z
namespace Pl
theorem CQ (n k:Int):(0<=n/\n.tmod k=n % k)\/(n<0/\n.tmod k=-((-n) % k)):=by
 by_cases h:0<=n
 ·left;exact⟨h,Int.tmod_eq_emod_of_nonneg h⟩
 ·right;refine⟨by omega,?_⟩
  have:n=-(-n):=by omega
  rw[this,Int.neg_tmod,Int.tmod_eq_emod_of_nonneg (by omega)];simp
theorem KR (n:Int) : -4294967295<=n.tmod 4294967296/\n.tmod 4294967296<=4294967295:=by
 rcases CQ n 4294967296 with ⟨_,h⟩|⟨_,h⟩ <;> omega
theorem Cr (n:Int):(n.tmod 4294967296+4294967296) % 4294967296=n % 4294967296:=by
 rcases CQ n 4294967296 with ⟨_,h⟩|⟨_,h⟩ <;> rw[h] <;> omega
def wd (n:Int):Int:=n % 4294967296
def ks (n:Int):Int:=if n=1\/n=2 then 1 else if n=3\/n=4 then 2 else if n=5 then 4 else 0
theorem wR (n:Int):n=1\/n=2\/n=3\/n=4\/n=5\/((n == 1)=false/\(n == 2)=false/\(n == 3)=false/\(n == 4)=false/\(n == 5)=false):=by
 simp;omega
theorem ZW (n:Int) (h1:(n == 1)=false) (h2:(n == 2)=false) (h3:(n == 3)=false) (h4:(n == 4)=false) (h5:(n == 5)=false):0=ks n:=by
 simp at h1 h2 h3 h4 h5;simp[ks,h1,h2,h3,h4,h5]
theorem aDG (n:Int):0<=wd n/\wd n<=4294967295:=by unfold wd;omega
end Pl
namespace W
open Go.RowKit
theorem mJ {k:IntKind}{a b:Int}(h:a=b):Ending.returned (.int k a)=.returned (.int k b):=by rw[h]
theorem aC {a b:Bool}(h:a=b):Ending.returned (.bool a)=.returned (.bool b):=by rw[h]
theorem KS (n:Int) (w:World):Calls Tryz.prog 218 #[.int .i64 n] w fun e w'=>e=.returned (.int .i64 (Pl.wd n))/\w'=w:=by
 go_enter Tryz.func218,Tryz.ntmps218;go_wp2;go_ret;exact⟨mJ rfl,rfl⟩
theorem oL (n:Int) (w:World):Calls Tryz.prog 142 #[.int .i64 n] w fun e w'=>e=.returned (.int .i64 (Pl.wd n))/\w'=w:=by
 have h1:=Pl.KR n;go_enter Tryz.func142,Tryz.ntmps142;go_wp2;go_ret;exact⟨mJ (Pl.Cr n),rfl⟩
theorem kE (n:Int) (w:World):Calls Tryz.prog 140 #[.int .i64 n] w fun e w'=>e=.returned (.int .i64 (Pl.ks n))/\w'=w:=by
 rcases Pl.wR n with rfl|rfl|rfl|rfl|rfl|⟨h1,h2,h3,h4,h5⟩;all_goals
  go_enter Tryz.func140,Tryz.ntmps140;go_wp2;go_ret
 iterate 5 exact⟨rfl,rfl⟩
 exact⟨mJ (Pl.ZW n h1 h2 h3 h4 h5),rfl⟩
end W
namespace Pl
def pw (k:Nat):Int:=2 ^ k
theorem Kc (k:Nat):0<pw k:=by unfold pw;exact Int.pow_pos (by decide)
theorem ZX (k:Nat):pw (k+1)=pw k*2:=by unfold pw;rw[Int.pow_succ]
theorem Tn {j k:Nat}(h:j<=k):pw j<=pw k:=by
 induction h with
 | refl=>omega
 | step _ ih=>rw[ZX];have:=Kc j;omega
theorem ZY (k:Nat) (h:k<=62):pw k<=4611686018427387904:=by
 have:=Tn h;have e:pw 62=4611686018427387904:=by decide
 omega
def i8 (n:Int):Int:=(n+128) % 256-128
def i16 (n:Int):Int:=(n+32768) % 65536-32768
def nr (k n:Int):Int:=if k=1 then wd (i8 n) else if k=2 then n % 256 else if k=3 then wd (i16 n) else if k=4 then n % 65536 else if k=5 then wd n else 0
def kb (k:Int):Bool:=decide (1<=k/\k<=5)
theorem ZZ (k:Int) (h1:(k == 1)=false) (h2:(k == 2)=false) (h3:(k == 3)=false) (h4:(k == 4)=false) (h5:(k == 5)=false):false=kb k:=by
 simp at h1 h2 h3 h4 h5;simp[kb];omega
theorem Aa (k n:Int) (h1:(k == 1)=false) (h2:(k == 2)=false) (h3:(k == 3)=false) (h4:(k == 4)=false) (h5:(k == 5)=false):0=nr k n:=by
 simp at h1 h2 h3 h4 h5;simp[nr,h1,h2,h3,h4,h5]
theorem aDH (n:Int):wd (RowKit.wrap64 (IntKind.i8.wrap n))=nr 1 n:=by
 have h:IntKind.i8.wrap n=i8 n:=by simp only[IntKind.wrap,IntKind.bits,IntKind.signed,i8];simp;split <;> omega
 have h2:RowKit.wrap64 (i8 n)=i8 n:=by unfold RowKit.wrap64 i8;omega
 rw[h,h2];rfl
theorem aBm (n:Int):wd (RowKit.wrap64 (IntKind.i16.wrap n))=nr 3 n:=by
 have h:IntKind.i16.wrap n=i16 n:=by simp only[IntKind.wrap,IntKind.bits,IntKind.signed,i16];simp;split <;> omega
 have h2:RowKit.wrap64 (i16 n)=i16 n:=by unfold RowKit.wrap64 i16;omega
 rw[h,h2];rfl
theorem aBn (n:Int):RowKit.wrap64 (IntKind.u16.wrap n)=nr 4 n:=by
 have h:IntKind.u16.wrap n=n % 65536:=by simp[IntKind.wrap,IntKind.bits,IntKind.signed]
 have h2:RowKit.wrap64 (n % 65536)=n % 65536:=by unfold RowKit.wrap64;omega
 rw[h,h2];rfl
theorem aDI (n:Int) (h:128<=wd n % 256):wd (wd n % 256-256)=nr 1 n:=by
 show _=wd (i8 n);unfold wd at *;unfold i8;omega
theorem aDJ (n:Int) (h:wd n % 256<128):wd (wd n % 256)=nr 1 n:=by
 show _=wd (i8 n);unfold wd at *;unfold i8;omega
theorem aFp (n:Int):wd (wd n % 256)=nr 2 n:=by show _=n % 256;unfold wd;omega
theorem aDK (n:Int) (h:32768<=wd n % 65536):wd (wd n % 65536-65536)=nr 3 n:=by
 show _=wd (i16 n);unfold wd at *;unfold i16;omega
theorem aDL (n:Int) (h:wd n % 65536<32768):wd (wd n % 65536)=nr 3 n:=by
 show _=wd (i16 n);unfold wd at *;unfold i16;omega
theorem aFq (n:Int):wd (wd n % 65536)=nr 4 n:=by show _=n % 65536;unfold wd;omega
theorem aFr (n:Int):wd (wd n % 4294967296)=nr 5 n:=by show _=wd n;unfold wd;omega
end Pl
namespace W
open Go.RowKit
theorem xK {k:IntKind}{a b:Int}{p q:Bool}(h:a=b) (h':p=q):Ending.returned (.tuple #[.int k a,.bool p])=.returned (.tuple #[.int k b,.bool q]):=by rw[h,h']
theorem sN (n:Int) (k:Nat) (hn:n=k) (hk:k<=62) (w:World):Calls Tryz.prog 141 #[.int .i64 n] w fun e w'=>e=.returned (.int .i64 (Pl.pw k))/\w'=w:=by
 subst hn;go_enter Tryz.func141,Tryz.ntmps141;go_wp2;go_loop [3,4] (fun v i=>∃j:Nat,j<=k/\i=.int .i64 j/\v=.int .i64 (Pl.pw j)) (fun _ i=>k-(intOf i).toNat)
 case atStart=>exact⟨0,Nat.zero_le _,rfl,rfl⟩
 case round=>
  obtain⟨j,hj,rfl,rfl⟩:=hrel;have h1:=Pl.Kc j;have h2:=Pl.ZY j (by omega);by_cases hlt:j<k
  ·have h3:=Pl.ZY (j+1) (by omega);have h4:=Pl.ZX j;have h5:Pl.pw j*2<=4611686018427387904:=(by omega);have H:Hid (Pl.pw (j+1)=Pl.pw j*2):=h4;clear h3 h4;go_wp2
   go_round
   case rel=>exact⟨j+1,by omega,by go_num,by rw[H.out]⟩
   case measure=>simp[intOf];omega
  ·have e:j=k:=(by omega);subst e;go_wp2;go_ret;exact⟨rfl,rfl⟩
theorem CR (k n:Int) (w:World):Calls Tryz.prog 197 #[.int .i64 k,.int .i64 n] w fun e w'=>e=.returned (.tuple #[.int .i64 (Pl.nr k n),.bool (Pl.kb k)])/\w'=w:=by
 rcases Pl.wR k with rfl|rfl|rfl|rfl|rfl|⟨h1,h2,h3,h4,h5⟩;all_goals
  go_enter Tryz.func197,Tryz.ntmps197;go_wp2_with (first|(go_at_call 218;refine (KS _ _).mono ?_;rintro e w' ⟨rfl,rfl⟩)|go_in)
  go_ret2
 ·exact⟨xK (Pl.aDH n) rfl,rfl⟩
 ·exact⟨xK rfl rfl,rfl⟩
 ·exact⟨xK (Pl.aBm n) rfl,rfl⟩
 ·exact⟨xK (Pl.aBn n) rfl,rfl⟩
 ·exact⟨xK rfl rfl,rfl⟩
 ·exact⟨xK (Pl.Aa k n h1 h2 h3 h4 h5) (Pl.ZZ k h1 h2 h3 h4 h5),rfl⟩
theorem CS (w:World):Calls Tryz.prog 141 #[.int .i64 8] w fun e w'=>e=.returned (.int .i64 256)/\w'=w:=sN 8 8 rfl (by decide) w
theorem zT (w:World):Calls Tryz.prog 141 #[.int .i64 16] w fun e w'=>e=.returned (.int .i64 65536)/\w'=w:=sN 16 16 rfl (by decide) w
theorem PK (w:World):Calls Tryz.prog 141 #[.int .i64 32] w fun e w'=>e=.returned (.int .i64 4294967296)/\w'=w:=sN 32 32 rfl (by decide) w
theorem ks0 (k:Int) (w:World) (h1:(k == 1)=false) (h2:(k == 2)=false) (h3:(k == 3)=false) (h4:(k == 4)=false) (h5:(k == 5)=false) :
  Calls Tryz.prog 140 #[.int .i64 k] w fun e w'=>e=.returned (.int .i64 0)/\w'=w:=by
 have:=kE k w;rw[<- Pl.ZW k h1 h2 h3 h4 h5]at this;exact this
theorem ks1 (w:World):Calls Tryz.prog 140 #[.int .i64 1] w fun e w'=>e=.returned (.int .i64 1)/\w'=w:=kE 1 w
theorem ks2 (w:World):Calls Tryz.prog 140 #[.int .i64 2] w fun e w'=>e=.returned (.int .i64 1)/\w'=w:=kE 2 w
theorem ks3 (w:World):Calls Tryz.prog 140 #[.int .i64 3] w fun e w'=>e=.returned (.int .i64 2)/\w'=w:=kE 3 w
theorem ks4 (w:World):Calls Tryz.prog 140 #[.int .i64 4] w fun e w'=>e=.returned (.int .i64 2)/\w'=w:=kE 4 w
theorem ks5 (w:World):Calls Tryz.prog 140 #[.int .i64 5] w fun e w'=>e=.returned (.int .i64 4)/\w'=w:=kE 5 w
theorem CU (k n:Int) (w:World):Calls Tryz.prog 127 #[.int .i64 k,.int .i64 n] w fun e w'=>e=.returned (.tuple #[.int .i64 (Pl.nr k n),.bool (Pl.kb k)])/\w'=w:=by
 have hb:=Pl.aDG n;rcases Pl.wR k with rfl|rfl|rfl|rfl|rfl|⟨h1,h2,h3,h4,h5⟩
 ·by_cases h:128<=Pl.wd n % 256
  all_goals
   go_enter Tryz.func127,Tryz.ntmps127;go_wp2_with (first|(go_at_call 140;refine (ks1 _).mono ?_;rintro e w' ⟨rfl,rfl⟩)|(go_at_call 141;refine (CS _).mono ?_;rintro e w' ⟨rfl,rfl⟩)|(go_at_call 142;refine (oL _ _).mono ?_;rintro e w' ⟨rfl,rfl⟩))
   go_ret2
  ·exact⟨xK (Pl.aDI n h) rfl,rfl⟩
  ·exact⟨xK (Pl.aDJ n h) rfl,rfl⟩
 ·go_enter Tryz.func127,Tryz.ntmps127;go_wp2_with (first|(go_at_call 140;refine (ks2 _).mono ?_;rintro e w' ⟨rfl,rfl⟩)|(go_at_call 141;refine (CS _).mono ?_;rintro e w' ⟨rfl,rfl⟩)|(go_at_call 142;refine (oL _ _).mono ?_;rintro e w' ⟨rfl,rfl⟩))
  go_ret2;exact⟨xK (Pl.aFp n) rfl,rfl⟩
 ·by_cases h:32768<=Pl.wd n % 65536
  all_goals
   go_enter Tryz.func127,Tryz.ntmps127;go_wp2_with (first|(go_at_call 140;refine (ks3 _).mono ?_;rintro e w' ⟨rfl,rfl⟩)|(go_at_call 141;refine (zT _).mono ?_;rintro e w' ⟨rfl,rfl⟩)|(go_at_call 142;refine (oL _ _).mono ?_;rintro e w' ⟨rfl,rfl⟩))
   go_ret2
  ·exact⟨xK (Pl.aDK n h) rfl,rfl⟩
  ·exact⟨xK (Pl.aDL n h) rfl,rfl⟩
 ·go_enter Tryz.func127,Tryz.ntmps127;go_wp2_with (first|(go_at_call 140;refine (ks4 _).mono ?_;rintro e w' ⟨rfl,rfl⟩)|(go_at_call 141;refine (zT _).mono ?_;rintro e w' ⟨rfl,rfl⟩)|(go_at_call 142;refine (oL _ _).mono ?_;rintro e w' ⟨rfl,rfl⟩))
  go_ret2;exact⟨xK (Pl.aFq n) rfl,rfl⟩
 ·go_enter Tryz.func127,Tryz.ntmps127;go_wp2_with (first|(go_at_call 140;refine (ks5 _).mono ?_;rintro e w' ⟨rfl,rfl⟩)|(go_at_call 141;refine (PK _).mono ?_;rintro e w' ⟨rfl,rfl⟩)|(go_at_call 142;refine (oL _ _).mono ?_;rintro e w' ⟨rfl,rfl⟩))
  go_ret2;exact⟨xK (Pl.aFr n) rfl,rfl⟩
 ·go_enter Tryz.func127,Tryz.ntmps127;go_wp2_with (go_at_call 140;refine (ks0 _ _ h1 h2 h3 h4 h5).mono ?_;rintro e w' ⟨rfl,rfl⟩)
  go_ret2;exact⟨xK (Pl.Aa k n h1 h2 h3 h4 h5) (Pl.ZZ k h1 h2 h3 h4 h5),rfl⟩
end W
namespace Pl
def place (len:Nat) (at_:Int):Int:=if 65536<=at_/\at_ % 4=0/\(at_-65536) / 4<len then (at_-65536) / 4 else -1
end Pl
namespace W
open Go.RowKit
theorem below_drewN {B:Nat}{a w:World}(h:Below B a w) (m:Nat):Below B a (w.drewN m):=⟨h.os,h.tape,h.output,h.size,h.block⟩
def Row (k:IntKind) (lo:Nat) (w:World) (a:Option Addr) (len cap:Nat) (zs:List Int):Prop:=
 zs.length=len/\len<=cap/\cap<=maxLen/\(∀n∈zs,(Lit.int k n).wf=true)/\
 (len=0\/∃b off,a=some ⟨b,off,none⟩/\lo<=b/\b<w.heap.size/\∀i,i<len->w.cell? ⟨b,off+i,none⟩=some (.int k (zs.getD i 0)))
theorem Row.keep {k:IntKind}{lo:Nat}{w w':World}{a:Option Addr}{len cap:Nat}{zs:List Int}(h:Row k lo w a len cap zs) (hb:Below w.heap.size w w'):Row k lo w' a len cap zs:=by
 obtain⟨h1,h2,h3,h4,h5⟩:=h;refine⟨h1,h2,h3,h4,?_⟩;rcases h5 with h5|⟨b,off,rfl,hlo,hlt,hc⟩
 ·exact .inl h5
 ·exact .inr ⟨b,off,rfl,hlo,Nat.lt_of_lt_of_le hlt hb.size,fun i hi=>(hb.cell (by exact hlt)).trans (hc i hi)⟩
theorem Row.lower {k:IntKind}{lo lo':Nat}{w:World}{a:Option Addr}{len cap:Nat}{zs:List Int}(h:Row k lo w a len cap zs) (hl:lo'<=lo):Row k lo' w a len cap zs:=by
 obtain⟨h1,h2,h3,h4,h5⟩:=h;refine⟨h1,h2,h3,h4,?_⟩;rcases h5 with h5|⟨b,off,rfl,hlo,hlt,hc⟩
 ·exact .inl h5
 ·exact .inr ⟨b,off,rfl,Nat.le_trans hl hlo,hlt,hc⟩
theorem Row.small {k:IntKind}{lo:Nat}{w:World}{a:Option Addr}{len cap:Nat}{zs:List Int}(h:Row k lo w a len cap zs):len<=9223372036854775807:=by
 have h1:=h.2.1;have h2:=h.2.2.1;unfold maxLen at h2;omega
structure nW (B:Nat) (w w':World):Prop where
 size:w.heap.size<=w'.heap.size
 block:∀k,B<=k->k<w.heap.size->w'.heap[k]?=w.heap[k]?
theorem nW.refl (B:Nat) (w:World):nW B w w:=⟨Nat.le_refl _,fun _ _ _=>rfl⟩
theorem nW.trans {B:Nat}{a b c:World}(h:nW B a b) (k:nW B b c):nW B a c:=⟨Nat.le_trans h.size k.size,fun i h1 h2=>(k.block i h1 (Nat.lt_of_lt_of_le h2 h.size)).trans (h.block i h1 h2)⟩
theorem nW.of_below {B:Nat}{a b:World}(h:Below a.heap.size a b):nW B a b:=⟨h.size,fun i _ h2=>h.block i h2⟩
theorem nW.setCell {B:Nat}{a b:World}(h:nW B a b){p:Addr}(hp:p.block<B) (u:Value):nW B a (b.setCell p u):=
 ⟨by simpa using h.size,fun i h1 h2=>(Below.heap_setCell b p u i (by omega)).trans (h.block i h1 h2)⟩
theorem nW.setRow {B:Nat}{a b:World}(h:nW B a b){g:Nat}(hp:g<B) (cs:Array Value):nW B a (b.setRow g cs):=
 ⟨by simpa using h.size,fun i h1 h2=>(setRow_other b g i cs (by omega)).trans (h.block i h1 h2)⟩
def Own (k:IntKind) (e:TypeId) (lo:Nat) (w:World) (a:Option Addr) (len cap:Nat) (zs:List Int):Prop:=
 w.ownsRow lo e 1 (.slice a len cap) len (zs.map (Value.int k))/\(∀n∈zs,(Lit.int k n).wf=true)
theorem Own.row {k:IntKind}{e:TypeId}{lo:Nat}{w:World}{a:Option Addr}{len cap:Nat}{zs:List Int}(h:Own k e lo w a len cap zs):Row k lo w a len cap zs:=by
 obtain⟨hown,hwf⟩:=h;have hl:zs.length=len:=by have:=hown.1;simpa using this
 rcases hown.2 with ⟨h0,h1⟩|⟨g,cap',cur,h0,hlo,hg,hnc,hcm,hcs,htake⟩
 ·simp only[Value.slice.injEq]at h0;obtain⟨rfl,rfl,rfl⟩:=h0;exact⟨hl,Nat.le_refl _,Nat.zero_le _,hwf,.inl rfl⟩
 ·simp only[Value.slice.injEq]at h0;obtain⟨rfl,_,rfl⟩:=h0;refine⟨hl,hnc,hcm,hwf,?_⟩;refine .inr ⟨g,0,rfl,hlo,?_,fun i hi=>?_⟩
  ·exact (Array.getElem?_eq_some_iff.1 hg).1
  ·have:=hown.cellAt i (by omega);rw[Nat.zero_add,this,List.getElem?_map,List.getD_eq_getElem?_getD,List.getElem?_eq_getElem (by omega)];rfl
theorem Own.keep {k:IntKind}{e:TypeId}{lo:Nat}{w w':World}{a:Option Addr}{len cap:Nat}{zs:List Int}(h:Own k e lo w a len cap zs) (hb:Below w.heap.size w w'):Own k e lo w' a len cap zs:=by
 obtain⟨hown,hwf⟩:=h;refine⟨⟨hown.1,?_⟩,hwf⟩;rcases hown.2 with h0|⟨g,cap',cur,h0,hlo,hg,hr⟩
 ·exact .inl h0
 ·refine .inr ⟨g,cap',cur,h0,hlo,?_,hr⟩;rw[hb.block g ((Array.getElem?_eq_some_iff.1 hg).1),hg]
theorem Own.same {k:IntKind}{e:TypeId}{B lo:Nat}{w w':World}{a:Option Addr}{len cap:Nat}{zs:List Int}(h:Own k e lo w a len cap zs) (ha:nW B w w') (hB:B<=lo):Own k e lo w' a len cap zs:=by
 obtain⟨hown,hwf⟩:=h;refine⟨⟨hown.1,?_⟩,hwf⟩;rcases hown.2 with h0|⟨g,cap',cur,h0,hlo,hg,hr⟩
 ·exact .inl h0
 ·refine .inr ⟨g,cap',cur,h0,hlo,?_,hr⟩;rw[ha.block g (Nat.le_trans hB hlo) ((Array.getElem?_eq_some_iff.1 hg).1),hg]
theorem Own.lower {k:IntKind}{e:TypeId}{lo lo':Nat}{w:World}{a:Option Addr}{len cap:Nat}{zs:List Int}(h:Own k e lo w a len cap zs) (hl:lo'<=lo):Own k e lo' w a len cap zs:=by
 obtain⟨hown,hwf⟩:=h;refine⟨⟨hown.1,?_⟩,hwf⟩;rcases hown.2 with h0|⟨g,cap',cur,h0,hlo,hr⟩
 ·exact .inl h0
 ·exact .inr ⟨g,cap',cur,h0,Nat.le_trans hl hlo,hr⟩
theorem aA (w:World) (o:Obj):Below w.heap.size w (w.alloc o):=(Below.refl _ _).alloc (Nat.le_refl _) _
end W
end Go.Proofs.YtjcdiegfnoaedaaGreatDoor
