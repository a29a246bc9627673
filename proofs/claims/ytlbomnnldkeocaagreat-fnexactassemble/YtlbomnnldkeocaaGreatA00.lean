import Derived.WalkKit
import Derived.Test.YtlbomnnldkeocaaGreatChecked
import Derived.Below
import Derived.LoopTactic
import Derived.Deep.QuietTactic
import Derived.BigQuiet
import Derived.Great.Walk
import Derived.Deep.WholeRow
import Derived.Deep.Cut
import Derived.Deep.DeepCutAuto
import Derived.Deep.CutRange
set_option linter.unusedVariables false
set_option linter.unusedSimpArgs false
set_option maxHeartbeats 16000000
namespace Go.Proofs.YtlbomnnldkeocaaGreat.Pl
theorem tmod_cases (n k:Int):(0<=n/\n.tmod k=n % k)\/(n<0/\n.tmod k=-((-n) % k)):=by
 by_cases h:0<=n
 ·left;exact⟨h,Int.tmod_eq_emod_of_nonneg h⟩
 ·right;refine⟨by omega,?_⟩
  have:n=-(-n):=by omega
  rw[this,Int.neg_tmod,Int.tmod_eq_emod_of_nonneg (by omega)];simp
theorem word_tmod_bd (n:Int) : -4294967295<=n.tmod 4294967296/\n.tmod 4294967296<=4294967295:=by
 rcases tmod_cases n 4294967296 with ⟨_,h⟩ | ⟨_,h⟩ <;> omega
theorem word_tmod (n:Int):(n.tmod 4294967296+4294967296) % 4294967296=n % 4294967296:=by
 rcases tmod_cases n 4294967296 with ⟨_,h⟩ | ⟨_,h⟩ <;> rw[h] <;> omega
def wd (n:Int):Int:=n % 4294967296
def sg (n:Int):Int:=(n+2147483648) % 4294967296-2147483648
theorem sg_wrap (n:Int):RowKit.wrap64 (RowKit.wrap32 n)=sg n:=by unfold RowKit.wrap64 RowKit.wrap32 sg;omega
theorem sg_high (n:Int) (h:2147483648<=wd n):wd n-4294967296=sg n:=by unfold wd at *; unfold sg;omega
theorem sg_low (n:Int) (h:wd n<2147483648):wd n=sg n:=by unfold wd at *; unfold sg;omega
def ks (n:Int):Int:=if n=1\/n=2 then 1 else if n=3\/n=4 then 2 else if n=5 then 4 else 0
theorem wd_bd (n:Int):0<=wd n/\wd n<=4294967295:=by unfold wd;omega
end Go.Proofs.YtlbomnnldkeocaaGreat.Pl
namespace Go.Proofs.YtlbomnnldkeocaaGreat.W
open Go.RowKit
theorem ret_int {k:IntKind} {a b:Int} (h:a=b):Ending.returned (.int k a)=.returned (.int k b):=by rw[h]
theorem ret_bool {a b:Bool} (h:a=b):Ending.returned (.bool a)=.returned (.bool b):=by rw[h]
theorem implWord_any (n:Int) (w:World):Calls Tryz.prog 133 #[.int .i64 n] w fun e w'=>e=.returned (.int .i64 (Pl.wd n))/\w'=w:=by
 go_enter Tryz.func133,Tryz.ntmps133
 go_wp2
 go_ret
 exact⟨ret_int rfl,rfl⟩
theorem specWord_any (n:Int) (w:World):Calls Tryz.prog 70 #[.int .i64 n] w fun e w'=>e=.returned (.int .i64 (Pl.wd n))/\w'=w:=by
 have h1:=Pl.word_tmod_bd n
 go_enter Tryz.func70,Tryz.ntmps70
 go_wp2
 go_ret
 exact⟨ret_int (Pl.word_tmod n),rfl⟩
theorem implSigned_any (n:Int) (w:World):Calls Tryz.prog 118 #[.int .i64 n] w fun e w'=>e=.returned (.int .i64 (Pl.sg n))/\w'=w:=by
 go_enter Tryz.func118,Tryz.ntmps118
 go_wp2
 go_ret
 exact⟨ret_int (Pl.sg_wrap n),rfl⟩
theorem specSigned_any (n:Int) (w:World):Calls Tryz.prog 102 #[.int .i64 n] w fun e w'=>e=.returned (.int .i64 (Pl.sg n))/\w'=w:=by
 have h1:=Pl.wd_bd n
 by_cases h:2147483648<=Pl.wd n
 all_goals
  go_enter Tryz.func102,Tryz.ntmps102
  go_wp2_with (go_at_call 70;refine (specWord_any _ _).mono ?_;rintro e w' ⟨rfl,rfl⟩)
  go_ret
 ·exact⟨ret_int (Pl.sg_high n h),rfl⟩
 ·exact⟨ret_int (Pl.sg_low n h),rfl⟩
end Go.Proofs.YtlbomnnldkeocaaGreat.W
namespace Go.Proofs.YtlbomnnldkeocaaGreat.Pl
def pw (k:Nat):Int:=2 ^ k
theorem pw_pos (k:Nat):0<pw k:=by unfold pw;exact Int.pow_pos (by decide)
theorem pw_succ (k:Nat):pw (k+1)=pw k*2:=by unfold pw;rw[Int.pow_succ]
theorem pw_mono {j k:Nat} (h:j<=k):pw j<=pw k:=by
 induction h with
 | refl=>omega
 | step _ ih=>rw[pw_succ];have:=pw_pos j;omega
theorem pw_le62 (k:Nat) (h:k<=62):pw k<=4611686018427387904:=by
 have:=pw_mono h;have e:pw 62=4611686018427387904:=by decide
 omega
def kb (k:Int):Bool:=decide (1<=k/\k<=5)
end Go.Proofs.YtlbomnnldkeocaaGreat.Pl
namespace Go.Proofs.YtlbomnnldkeocaaGreat.W
open Go.RowKit
theorem ret2 {k:IntKind} {a b:Int} {p q:Bool} (h:a=b) (h':p=q):Ending.returned (.tuple #[.int k a,.bool p])=.returned (.tuple #[.int k b,.bool q]):=by rw[h,h']
theorem specPower_any (n:Int) (k:Nat) (hn:n=k) (hk:k<=62) (w:World):Calls Tryz.prog 98 #[.int .i64 n] w fun e w'=>e=.returned (.int .i64 (Pl.pw k))/\w'=w:=by
 subst hn
 go_enter Tryz.func98,Tryz.ntmps98
 go_wp2
 go_loop [3,4] (fun v i=>∃ j:Nat,j<=k/\i=.int .i64 j/\v=.int .i64 (Pl.pw j)) (fun _ i=>k-(intOf i).toNat)
 case atStart=>exact⟨0,Nat.zero_le _,rfl,rfl⟩
 case round=>
  obtain⟨j,hj,rfl,rfl⟩:=hrel
  have h1:=Pl.pw_pos j
  have h2:=Pl.pw_le62 j (by omega)
  by_cases hlt:j<k
  ·have h3:=Pl.pw_le62 (j+1) (by omega)
   have h4:=Pl.pw_succ j
   have h5:Pl.pw j*2<=4611686018427387904:=by omega
   have H:Hid (Pl.pw (j+1)=Pl.pw j*2):=h4
   clear h3 h4
   go_wp2
   go_round
   case rel=>exact⟨j+1,by omega,by go_num,by rw[H.out]⟩
   case measure=>simp[intOf];omega
  ·have e:j=k:=by omega
   subst e
   go_wp2
   go_ret
   exact⟨rfl,rfl⟩
end Go.Proofs.YtlbomnnldkeocaaGreat.W
namespace Go.Proofs.YtlbomnnldkeocaaGreat.Pl
def place (len:Nat) (at_:Int):Int:=if 65536<=at_/\at_ % 4=0/\(at_-65536) / 4<len then (at_-65536) / 4 else -1
end Go.Proofs.YtlbomnnldkeocaaGreat.Pl
namespace Go.Proofs.YtlbomnnldkeocaaGreat.W
open Go.RowKit
theorem below_drewN {B:Nat} {a w:World} (h:Below B a w) (m:Nat):Below B a (w.drewN m):=⟨h.os,h.tape,h.output,h.size,h.block⟩
def Row (k:IntKind) (lo:Nat) (w:World) (a:Option Addr) (len cap:Nat) (zs:List Int):Prop:=
 zs.length=len/\len<=cap/\cap<=maxLen/\(∀ n∈zs,(Lit.int k n).wf=true)/\
 (len=0\/∃ b off,a=some ⟨b,off,none⟩/\lo<=b/\b<w.heap.size/\∀ i,i<len->w.cell? ⟨b,off+i,none⟩=some (.int k (zs.getD i 0)))
theorem Row.keep {k:IntKind} {lo:Nat} {w w':World} {a:Option Addr} {len cap:Nat} {zs:List Int} (h:Row k lo w a len cap zs) (hb:Below w.heap.size w w'):Row k lo w' a len cap zs:=by
 obtain⟨h1,h2,h3,h4,h5⟩:=h
 refine⟨h1,h2,h3,h4,?_⟩
 rcases h5 with h5 | ⟨b,off,rfl,hlo,hlt,hc⟩
 ·exact .inl h5
 ·exact .inr ⟨b,off,rfl,hlo,Nat.lt_of_lt_of_le hlt hb.size,fun i hi=>(hb.cell (by exact hlt)).trans (hc i hi)⟩
theorem Row.small {k:IntKind} {lo:Nat} {w:World} {a:Option Addr} {len cap:Nat} {zs:List Int} (h:Row k lo w a len cap zs):len<=9223372036854775807:=by
 have h1:=h.2.1
 have h2:=h.2.2.1
 unfold maxLen at h2
 omega
structure Above (B:Nat) (w w':World):Prop where
 size:w.heap.size<=w'.heap.size
 block:∀ k,B<=k->k<w.heap.size->w'.heap[k]?=w.heap[k]?
theorem Above.refl (B:Nat) (w:World):Above B w w:=⟨Nat.le_refl _,fun _ _ _=>rfl⟩
theorem Above.trans {B:Nat} {a b c:World} (h:Above B a b) (k:Above B b c):Above B a c:=⟨Nat.le_trans h.size k.size,fun i h1 h2=>(k.block i h1 (Nat.lt_of_lt_of_le h2 h.size)).trans (h.block i h1 h2)⟩
theorem Above.of_below {B:Nat} {a b:World} (h:Below a.heap.size a b):Above B a b:=⟨h.size,fun i _ h2=>h.block i h2⟩
theorem Above.setCell {B:Nat} {a b:World} (h:Above B a b) {p:Addr} (hp:p.block<B) (u:Value):Above B a (b.setCell p u):=
 ⟨by simpa using h.size,fun i h1 h2=>(Below.heap_setCell b p u i (by omega)).trans (h.block i h1 h2)⟩
theorem Above.setRow {B:Nat} {a b:World} (h:Above B a b) {g:Nat} (hp:g<B) (cs:Array Value):Above B a (b.setRow g cs):=
 ⟨by simpa using h.size,fun i h1 h2=>(setRow_other b g i cs (by omega)).trans (h.block i h1 h2)⟩
def Own (k:IntKind) (e:TypeId) (lo:Nat) (w:World) (a:Option Addr) (len cap:Nat) (zs:List Int):Prop:=
 w.ownsRow lo e 1 (.slice a len cap) len (zs.map (Value.int k))/\(∀ n∈zs,(Lit.int k n).wf=true)
theorem Own.row {k:IntKind} {e:TypeId} {lo:Nat} {w:World} {a:Option Addr} {len cap:Nat} {zs:List Int} (h:Own k e lo w a len cap zs):Row k lo w a len cap zs:=by
 obtain⟨hown,hwf⟩:=h
 have hl:zs.length=len:=by have:=hown.1;simpa using this
 rcases hown.2 with ⟨h0,h1⟩ | ⟨g,cap',cur,h0,hlo,hg,hnc,hcm,hcs,htake⟩
 ·simp only[Value.slice.injEq]at h0
  obtain⟨rfl,rfl,rfl⟩:=h0
  exact⟨hl,Nat.le_refl _,Nat.zero_le _,hwf,.inl rfl⟩
 ·simp only[Value.slice.injEq]at h0
  obtain⟨rfl,_,rfl⟩:=h0
  refine⟨hl,hnc,hcm,hwf,?_⟩
  refine .inr ⟨g,0,rfl,hlo,?_,fun i hi=>?_⟩
  ·exact (Array.getElem?_eq_some_iff.1 hg).1
  ·have:=hown.cellAt i (by omega)
   rw[Nat.zero_add,this,List.getElem?_map,List.getD_eq_getElem?_getD,List.getElem?_eq_getElem (by omega)]
   rfl
theorem Own.keep {k:IntKind} {e:TypeId} {lo:Nat} {w w':World} {a:Option Addr} {len cap:Nat} {zs:List Int} (h:Own k e lo w a len cap zs) (hb:Below w.heap.size w w'):Own k e lo w' a len cap zs:=by
 obtain⟨hown,hwf⟩:=h
 refine⟨⟨hown.1,?_⟩,hwf⟩
 rcases hown.2 with h0 | ⟨g,cap',cur,h0,hlo,hg,hr⟩
 ·exact .inl h0
 ·refine .inr ⟨g,cap',cur,h0,hlo,?_,hr⟩
  rw[hb.block g ((Array.getElem?_eq_some_iff.1 hg).1),hg]
theorem Own.same {k:IntKind} {e:TypeId} {B lo:Nat} {w w':World} {a:Option Addr} {len cap:Nat} {zs:List Int} (h:Own k e lo w a len cap zs) (ha:Above B w w') (hB:B<=lo):Own k e lo w' a len cap zs:=by
 obtain⟨hown,hwf⟩:=h
 refine⟨⟨hown.1,?_⟩,hwf⟩
 rcases hown.2 with h0 | ⟨g,cap',cur,h0,hlo,hg,hr⟩
 ·exact .inl h0
 ·refine .inr ⟨g,cap',cur,h0,hlo,?_,hr⟩
  rw[ha.block g (Nat.le_trans hB hlo) ((Array.getElem?_eq_some_iff.1 hg).1),hg]
theorem Tryz.infou8:(Tryz.prog.info? 5).map (fun i=>(i.zero,i.size,i.bytes))=some (some (.int .u8 0),1,1):=by kernel_rfl
theorem wpList_at {P:Program} {ops:Array Oper} {Q:Exit->Act->World->Prop} {rest:List Oper} {a:Act} {W:World} (h:∀ U,U=W->wpList P ops Q rest a U):wpList P ops Q rest a W:=h W rfl
theorem below_alloc (w:World) (o:Obj):Below w.heap.size w (w.alloc o):=(Below.refl _ _).alloc (Nat.le_refl _) _
end Go.Proofs.YtlbomnnldkeocaaGreat.W
namespace Go.Proofs.YtlbomnnldkeocaaGreat.Pl
structure Ln where
 k:Int
 op:Int
 rd:Int
 r1:Int
 r2:Int
 im:Int
 s:ByteArray
 n:Int
def Ln.cells (x:Ln):Array Value:=#[.int .i64 x.k,.int .i64 x.op,.int .i64 x.rd,.int .i64 x.r1,.int .i64 x.r2,.int .i64 x.im,.string x.s,.int .i64 x.n]
def Ln.zero:Ln:=⟨0,0,0,0,0,0,⟨#[]⟩,0⟩
end Go.Proofs.YtlbomnnldkeocaaGreat.Pl
namespace Go.Proofs.YtlbomnnldkeocaaGreat.W
open Go.RowKit
def LRow (lo:Nat) (w:World) (a:Option Addr) (len cap:Nat) (xs:List Pl.Ln):Prop:=
 (xs.length=len/\∀ x∈xs,x.s.size<=maxLen)/\len<=cap/\cap<=maxLen/\(len=0\/∃ b off,a=some ⟨b,off,none⟩/\lo<=b/\b<w.heap.size/\∀ i,i<len->∀ j,j<8->w.cell? ⟨b,off+i*8+j,none⟩=(xs.getD i Pl.Ln.zero).cells[j]?)
theorem LRow.keep {lo:Nat} {w w':World} {a:Option Addr} {len cap:Nat} {xs:List Pl.Ln} (h:LRow lo w a len cap xs) (hb:Below w.heap.size w w'):LRow lo w' a len cap xs:=by
 obtain⟨h1,h2,h3,h4⟩:=h
 refine⟨h1,h2,h3,?_⟩
 rcases h4 with h4 | ⟨b,off,ha,hlo,hlt,hc⟩
 ·exact .inl h4
 ·exact .inr ⟨b,off,ha,hlo,Nat.lt_of_lt_of_le hlt hb.size,fun i hi j hj=>(hb.cell (p:=⟨b,off+i*8+j,none⟩) hlt).trans (hc i hi j hj)⟩
theorem szLine_at (x:Pl.Ln) (left:Int) (hl:0<=left/\left<=1048576) (hs:x.s.size<=maxLen) (w:World):Calls Tryz.prog 47 #[.agg #[.int .i64 x.k,.int .i64 x.op,.int .i64 x.rd,.int .i64 x.r1,.int .i64 x.r2,.int .i64 x.im,.string x.s,.int .i64 x.n],.int .i64 left] w fun e w'=>∃ r:Int,e=.returned (.int .i64 r)/\(0<=r->r<=left/\x.s.size<=1048576)/\Below w.heap.size w w':=by
 have hs':(x.s.size:Int)<=9223372036854775807:=by unfold maxLen at hs;omega
 clear hs
 go_enter Tryz.func47,Tryz.ntmps47
 go_wp2
 all_goals
  go_ret
  refine⟨_,rfl,?_,(by repeat (first | exact Below.refl _ _ | refine Below.alloc ?_ (by simp <;> omega) _))⟩
 all_goals omega
theorem szLineS_any {lo:Nat} (a:Option Addr) (len cap:Nat) (xs:List Pl.Ln) (w:World) (h:LRow lo w a len cap xs):Calls Tryz.prog 10 #[.slice a len cap,.int .i64 1048576] w fun e w'=>∃ r:Int,e=.returned (.int .i64 r)/\(0<=r->len<=1048576/\∀ i,i<len->(xs.getD i Pl.Ln.zero).s.size<=1048576)/\Below w.heap.size w w':=by
 obtain⟨h1,h2,h3,h4⟩:=h
 have hm:(len:Int)<=9223372036854775807:=by unfold maxLen at h3;omega
 by_cases hb:1048576<len
 ·have hb':(1048576:Int)<(len:Int):=by omega
  go_enter Tryz.func10,Tryz.ntmps10
  go_wp2
  go_ret
  exact⟨_,rfl,fun q=>by omega,Below.refl _ _⟩
 have H4:Hid (len=0\/∃ b off,a=some ⟨b,off,none⟩/\lo<=b/\b<w.heap.size/\∀ i,i<len->∀ j,j<8->w.cell? ⟨b,off+i*8+j,none⟩=(xs.getD i Pl.Ln.zero).cells[j]?):=h4
 have H1:Hid (xs.length=len/\∀ x∈xs,x.s.size<=maxLen):=h1
 clear h4 h1
 go_enter Tryz.func10,Tryz.ntmps10
 go_wp2_with fail
 go_loopw [1,5] (fun v i wr=>∃ (k:Nat) (r:Int),k<=len/\i=.int .i64 k/\v=.int .i64 r/\0<=r/\r<=1048576/\(∀ i,i<k->(xs.getD i Pl.Ln.zero).s.size<=1048576)/\Below w.heap.size w wr) (fun _ i _=>len-(intOf i).toNat)
 case atStart=>exact⟨0,1048576-len,Nat.zero_le _,rfl,rfl,by omega,by omega,fun i hi=>absurd hi (Nat.not_lt_zero _),Below.refl _ _⟩
 case round=>
  obtain⟨k,r,hk,rfl,rfl,hr0,hr1,hall,hbel⟩:=hrel
  have HA:Hid (∀ i,i<k->(xs.getD i Pl.Ln.zero).s.size<=1048576):=hall
  have HB:Hid (Below w.heap.size w wr):=hbel
  clear hall hbel
  by_cases hlt:k<len
  ·have hi:(k:Int)<(len:Int):=by omega
   obtain⟨b,off,rfl,hlo,hb1,hcell⟩:∃ b off,a=some ⟨b,off,none⟩/\lo<=b/\b<w.heap.size/\∀ i,i<len->∀ j,j<8->w.cell? ⟨b,off+i*8+j,none⟩=(xs.getD i Pl.Ln.zero).cells[j]?:=by
    rcases H4.out with h | h
    ·omega
    ·exact h
   obtain⟨x,hx⟩:∃ x,x=xs.getD k Pl.Ln.zero:=⟨_,rfl⟩
   have hc:∀ j,j<8->wr.cell? ⟨b,off+k*8+j,none⟩=x.cells[j]?:=fun j hj=>by rw[hx];exact (HB.out.cell (p:=⟨b,off+k*8+j,none⟩) hb1).trans (hcell k hlt j hj)
   have c0:wr.cell? ⟨b,off+k*8,none⟩=some (.int .i64 x.k):=hc 0 (by decide)
   have c1:wr.cell? ⟨b,off+k*8+1,none⟩=some (.int .i64 x.op):=hc 1 (by decide)
   have c2:wr.cell? ⟨b,off+k*8+2,none⟩=some (.int .i64 x.rd):=hc 2 (by decide)
   have c3:wr.cell? ⟨b,off+k*8+3,none⟩=some (.int .i64 x.r1):=hc 3 (by decide)
   have c4:wr.cell? ⟨b,off+k*8+4,none⟩=some (.int .i64 x.r2):=hc 4 (by decide)
   have c5:wr.cell? ⟨b,off+k*8+5,none⟩=some (.int .i64 x.im):=hc 5 (by decide)
   have c6:wr.cell? ⟨b,off+k*8+6,none⟩=some (.string x.s):=hc 6 (by decide)
   have c7:wr.cell? ⟨b,off+k*8+7,none⟩=some (.int .i64 x.n):=hc 7 (by decide)
   have hxs:x.s.size<=maxLen:=by
    rw[hx,List.getD_eq_getElem?_getD,List.getElem?_eq_getElem (by rw[H1.out.1];exact hlt)]
    exact H1.out.2 _ (List.getElem_mem _)
   have HX:Hid (x=xs.getD k Pl.Ln.zero):=hx
   clear hc hcell hx
   go_wp2_with (go_at_call 47;refine (szLine_at x r ⟨hr0,hr1⟩ hxs _).mono ?_;rintro e u1 ⟨r',rfl,hr',d1⟩)
   ·go_ret
    exact⟨_,rfl,fun q=>by omega,HB.out.trans (d1.mono HB.out.size)⟩
   ·have hr2:0<=r':=by omega
    obtain⟨hr3,hr4⟩:=hr' hr2
    go_roundw
    case rel=>exact⟨k+1,r',by omega,by go_num,rfl,hr2,by omega,fun i hi=>by
     by_cases e:i=k
     ·rw[e,<- HX.out];exact hr4
     ·exact HA.out i (by omega),HB.out.trans (d1.mono HB.out.size)⟩
    case measure=>simp[intOf];omega
  ·have hkk:k=len:=by omega
   have hi:¬ ((k:Int)<(len:Int)):=by omega
   go_wp2
   go_ret
   exact⟨_,rfl,fun _=>⟨by omega,fun i hi=>HA.out i (by omega)⟩,HB.out⟩
end Go.Proofs.YtlbomnnldkeocaaGreat.W
namespace Go.Proofs.YtlbomnnldkeocaaGreat.Pl
def fst1 (p:Nat->Bool) (n:Nat):Int:=match (List.range n).find? p with | some i=>(i:Int) | none=>-1
theorem fst1_at (p:Nat->Bool) (n k:Nat) (hk:k<n) (hp:p k=true) (hb:∀ j,j<k->p j=false):fst1 p n=k:=by
 have:(List.range n).find? p=some k:=by
  rw[List.find?_range_eq_some]
  exact⟨hp,List.mem_range.2 hk,fun j hj=>by simp[hb j hj]⟩
 simp[fst1,this]
theorem fst1_none (p:Nat->Bool) (n:Nat) (hb:∀ j,j<n->p j=false):fst1 p n=-1:=by
 have:(List.range n).find? p=none:=by
  rw[List.find?_eq_none]
  intro x hx
  simp[hb x (List.mem_range.1 hx)]
 simp[fst1,this]
theorem fst1_cases (p:Nat->Bool) (n:Nat):(fst1 p n=-1/\∀ j,j<n->p j=false)\/∃ k:Nat,k<n/\fst1 p n=k/\p k=true/\∀ j,j<k->p j=false:=by
 cases h:(List.range n).find? p with
 | none=>
  left
  refine⟨by simp[fst1,h],fun j hj=>?_⟩
  have:=List.find?_eq_none.1 h j (List.mem_range.2 hj)
  simpa using this
 | some k=>
  right
  obtain⟨h1,h2,h3⟩:=List.find?_range_eq_some.1 h
  exact⟨k,List.mem_range.1 h2,by simp[fst1,h],h1,fun j hj=>by simpa using h3 j hj⟩
theorem fst1_ext {p q:Nat->Bool} {n:Nat} (h:∀ j,j<n->p j=q j):fst1 p n=fst1 q n:=by
 rcases fst1_cases p n with ⟨h1,h2⟩ | ⟨k,hk,h1,h2,h3⟩
 ·rw[h1,fst1_none q n (fun j hj=>(h j hj).symm.trans (h2 j hj))]
 ·rw[h1,fst1_at q n k hk ((h k hk).symm.trans h2) (fun j hj=>(h j (by omega)).symm.trans (h3 j hj))]
structure Cur where
 d:Bool
 t:Int
 b:Int
def isT (k:Int):Bool:=decide (2<=k/\k<=9)
def isD (k:Int):Bool:=decide (12<=k)
def shr (n:Int):Bool:=decide (-2048<=sg n/\sg n<=2047)
def tsz (x:Ln):Int:=if x.k=1 then 0 else if x.k=5\/(x.k=4/\shr x.n=false) then 8 else 4
def dsz (x:Ln) (b:Int):Int:=if x.k=12 then 1 else if x.k=13 then 2 else if x.k=14 then 4 else if x.k=15 then x.n else if x.k=16 then (x.n-b % x.n) % x.n else 0
def Cur.pass (c:Cur) (x:Ln):Cur:=if x.k=10 then ⟨false,c.t,c.b⟩ else if x.k=11 then ⟨true,c.t,c.b⟩ else if c.d then ⟨c.d,c.t,c.b+dsz x c.b⟩ else ⟨c.d,c.t+tsz x,c.b⟩
def Cur.at (c:Cur):Int:=if c.d then 1048576+c.b else 65536+c.t
def cu (xs:List Ln) (i:Nat):Cur:=(xs.take i).foldl Cur.pass ⟨false,0,0⟩
def gl (xs:List Ln) (i:Nat):Ln:=xs.getD i Ln.zero
theorem cu_zero (xs:List Ln):cu xs 0=⟨false,0,0⟩:=rfl
theorem cu_succ (xs:List Ln) (i:Nat) (h:i<xs.length):cu xs (i+1)=(cu xs i).pass (gl xs i):=by
 unfold cu gl
 rw[List.take_add_one,List.getElem?_eq_getElem h,List.foldl_append,List.getD_eq_getElem?_getD,List.getElem?_eq_getElem h]
 rfl
structure LnB (x:Ln):Prop where
 k:1<=x.k/\x.k<=16
 z:x.k=15->0<=x.n/\x.n<=65536
 a:x.k=16->1<=x.n/\x.n<=4
theorem dsz_bd {x:Ln} (h:LnB x) (b:Int) (hb:0<=b):0<=dsz x b/\dsz x b<=65536:=by
 obtain⟨h1,h2,h3⟩:=h
 unfold dsz
 split
 ·omega
 split
 ·omega
 split
 ·omega
 split
 ·exact h2 (by assumption)
 split
 ·rename_i q
  obtain⟨h4,h5⟩:=h3 q
  have h6:=Int.emod_nonneg (x.n-b % x.n) (show x.n≠0 by omega)
  have h7:=Int.emod_lt_of_pos (x.n-b % x.n) (show 0<x.n by omega)
  omega
 ·omega
theorem tsz_bd (x:Ln):0<=tsz x/\tsz x<=8/\tsz x % 4=0:=by
 unfold tsz
 split <;> try split
 all_goals omega
theorem cu_bd (xs:List Ln) (h:∀ i,i<xs.length->LnB (gl xs i)):∀ i,i<=xs.length->(0<=(cu xs i).t/\(cu xs i).t<=8*(i:Int)/\(cu xs i).t % 4=0)/\0<=(cu xs i).b/\(cu xs i).b<=65536*(i:Int):=by
 intro i
 induction i with
 | zero=>intro _;rw[cu_zero];exact⟨⟨by decide,by decide,by decide⟩,by decide,by decide⟩
 | succ i ih=>
  intro hi
  obtain⟨⟨i1,i2,i3⟩,i4,i5⟩:=ih (by omega)
  rw[cu_succ xs i (by omega)]
  have hd:=dsz_bd (h i (by omega)) (cu xs i).b i4
  have ht:=tsz_bd (gl xs i)
  have hc:((i+1:Nat):Int)=(i:Int)+1:=by omega
  rw[hc]
  unfold Cur.pass
  split
  ·dsimp only;omega
  split
  ·dsimp only;omega
  split <;> (dsimp only;omega)
def stray (xs:List Ln) (i:Nat):Bool:=(cu xs (i+1)).d && isT (gl xs i).k || !(cu xs (i+1)).d && isD (gl xs i).k
def mixed (xs:List Ln) (i:Nat):Bool:=!((gl xs i).k == 10) && !((gl xs i).k == 11) && !((gl xs i).k == 1) && !((!(cu xs i).d) == decide ((gl xs i).k<10))
theorem mixed_stray (xs:List Ln) (i:Nat) (hi:i<xs.length) (h:LnB (gl xs i)):mixed xs i=stray xs i:=by
 obtain⟨⟨h1,h2⟩,_,_⟩:=h
 unfold mixed stray
 rw[cu_succ xs i hi]
 unfold Cur.pass isT isD
 generalize (gl xs i).k=k at *
 rcases hd:(cu xs i).d
 all_goals
  by_cases e1:k=10
  ·subst e1;simp
  by_cases e2:k=11
  ·subst e2;simp
  by_cases e3:k=1
  ·subst e3;simp[hd]
  rw[Bool.eq_iff_iff]
  simp[e1,e2,e3,hd]
  omega
def wds (x:Ln):Int:=if x.k=5\/(x.k=4/\shr x.n=false) then 2 else if 2<=x.k/\x.k<=9 then 1 else 0
theorem tsz_wds (x:Ln) (h:isT x.k=true):tsz x=4*wds x:=by
 have h':2<=x.k/\x.k<=9:=by simpa [isT] using h
 unfold tsz wds
 rw[if_neg (by omega)]
 by_cases q:x.k=5\/(x.k=4/\shr x.n=false)
 ·rw[if_pos q,if_pos q];rfl
 ·rw[if_neg q,if_neg q,if_pos h'];rfl
def lb (xs:List Ln) (s:ByteArray):Option Nat:=(List.range xs.length).find? fun i=>decide ((gl xs i).k=1) && decide ((gl xs i).s=s)
theorem lb_some {xs:List Ln} {s:ByteArray} {i:Nat}:lb xs s=some i↔i<xs.length/\(gl xs i).k=1/\(gl xs i).s=s/\∀ j,j<i->(gl xs j).k=1->(gl xs j).s≠s:=by
 unfold lb
 rw[List.find?_range_eq_some]
 simp only[Bool.and_eq_true,decide_eq_true_eq,List.mem_range,Bool.not_eq_true',Bool.and_eq_false_iff,decide_eq_false_iff_not]
 constructor
 ·rintro⟨⟨h1,h2⟩,h3,h4⟩
  exact⟨h3,h1,h2,fun j hj e1 e2=>(h4 j hj).elim (fun c=>c e1) (fun c=>c e2)⟩
 ·rintro⟨h1,h2,h3,h4⟩
  refine⟨⟨h2,h3⟩,h1,fun j hj=>?_⟩
  by_cases e:(gl xs j).k=1
  ·exact .inr (h4 j hj e)
  ·exact .inl e
theorem lb_none {xs:List Ln} {s:ByteArray}:lb xs s=none↔∀ j,j<xs.length->(gl xs j).k=1->(gl xs j).s≠s:=by
 unfold lb
 rw[List.find?_eq_none]
 simp only[Bool.and_eq_true,decide_eq_true_eq,List.mem_range,not_and]
def twice (xs:List Ln) (i:Nat):Bool:=decide ((gl xs i).k=1) && decide (lb xs (gl xs i).s≠some i)
def lost (xs:List Ln) (i:Nat):Bool:=decide ((gl xs i).s≠⟨#[]⟩) && decide (lb xs (gl xs i).s=none)
theorem twice_iff {xs:List Ln} {i:Nat} (hi:i<xs.length):twice xs i=true↔(gl xs i).k=1/\∃ j,j<i/\(gl xs j).k=1/\(gl xs j).s=(gl xs i).s:=by
 unfold twice
 simp only[Bool.and_eq_true,decide_eq_true_eq]
 constructor
 ·rintro⟨h1,h2⟩
  refine⟨h1,?_⟩
  apply Classical.byContradiction
  intro hn
  exact h2 (lb_some.2 ⟨hi,h1,rfl,fun j hj e1 e2=>hn ⟨j,hj,e1,e2⟩⟩)
 ·rintro⟨h1,j,hj,e1,e2⟩
  exact⟨h1,fun h=>(lb_some.1 h).2.2.2 j hj e1 e2⟩
def lbs (xs:List Ln) (n:Nat):List Nat:=(List.range n).filter fun i=>decide ((gl xs i).k=1)
theorem lbs_succ (xs:List Ln) (n:Nat):lbs xs (n+1)=if (gl xs n).k=1 then lbs xs n ++ [n] else lbs xs n:=by
 unfold lbs
 rw[List.range_succ,List.filter_append]
 split
 ·rename_i h;simp[h]
 ·rename_i h;simp[h]
theorem lbs_mem {xs:List Ln} {n i:Nat}:i∈lbs xs n↔i<n/\(gl xs i).k=1:=by
 unfold lbs;simp
theorem lbs_sorted (xs:List Ln) (n:Nat):(lbs xs n).Pairwise (· < ·):=List.Pairwise.filter _ List.pairwise_lt_range
def whr (xs:List Ln) (ls:List Nat) (s:ByteArray):Int:=fst1 (fun p=>decide ((gl xs (ls.getD p 0)).s=s)) ls.length
theorem whr_lb (xs:List Ln) (s:ByteArray):(whr xs (lbs xs xs.length) s=-1/\lb xs s=none)\/∃ p:Nat,p<(lbs xs xs.length).length/\whr xs (lbs xs xs.length) s=p/\lb xs s=some ((lbs xs xs.length).getD p 0):=by
 have hS:=lbs_sorted xs xs.length
 have hM:∀ i,i∈lbs xs xs.length↔i<xs.length/\(gl xs i).k=1:=fun i=>lbs_mem
 unfold whr
 generalize lbs xs xs.length=L at *
 rcases fst1_cases (fun p=>decide ((gl xs (L.getD p 0)).s=s)) L.length with ⟨h1,h2⟩ | ⟨k,hk,h1,h2,h3⟩
 ·left
  refine⟨h1,lb_none.2 fun j hj e1 e2=>?_⟩
  obtain⟨p,hp,he⟩:=List.mem_iff_getElem.1 ((hM j).2 ⟨hj,e1⟩)
  have:=h2 p hp
  rw[List.getD_eq_getElem?_getD,List.getElem?_eq_getElem hp,Option.getD_some,he]at this
  simp[e2]at this
 ·right
  have hg:L.getD k 0=L[k]:=by rw[List.getD_eq_getElem?_getD,List.getElem?_eq_getElem hk];rfl
  refine⟨k,hk,h1,lb_some.2 ?_⟩
  rw[hg]at h2 ⊢
  obtain⟨m1,m2⟩:=(hM L[k]).1 (List.getElem_mem hk)
  refine⟨m1,m2,by simpa using h2,fun j hj e1 e2=>?_⟩
  obtain⟨p,hp,he⟩:=List.mem_iff_getElem.1 ((hM j).2 ⟨by omega,e1⟩)
  have hpk:p<k:=by
   apply Classical.byContradiction
   intro hn
   rcases Nat.lt_or_ge k p with q | q
   ·have:=List.pairwise_iff_getElem.1 hS k p hk hp q
    omega
   ·have:p=k:=by omega
    subst this;omega
  have:=h3 p hpk
  rw[List.getD_eq_getElem?_getD,List.getElem?_eq_getElem hp,Option.getD_some,he]at this
  simp[e2]at this
end Go.Proofs.YtlbomnnldkeocaaGreat.Pl
