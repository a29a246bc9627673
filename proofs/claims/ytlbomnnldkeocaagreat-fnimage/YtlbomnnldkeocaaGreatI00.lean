import Derived.WalkKit
import Derived.Test.YtlbomnnldkeocaaGreatChecked
import Derived.Below
import Derived.LoopTactic
import Derived.Deep.QuietTactic
import Derived.BigQuiet
import Derived.Great.Walk
import Derived.Deep.WholeRow
set_option linter.unusedVariables false
set_option maxHeartbeats 16000000
namespace Go.Proofs.YtlbomnnldkeocaaGreat.Pl
theorem uJ (n k:Int):(0<=n/\n.tmod k=n % k)\/(n<0/\n.tmod k=-((-n) % k)):=by
 by_cases h:0<=n
 ·left;exact⟨h,Int.tmod_eq_emod_of_nonneg h⟩
 ·right;refine⟨by omega,?_⟩
  have:n=-(-n):=by omega
  rw[this,Int.neg_tmod,Int.tmod_eq_emod_of_nonneg (by omega)];simp
theorem BC (n:Int) : -4294967295<=n.tmod 4294967296/\n.tmod 4294967296<=4294967295:=by
 rcases uJ n 4294967296 with ⟨_,h⟩ | ⟨_,h⟩ <;> omega
theorem NL (n:Int):(n.tmod 4294967296+4294967296) % 4294967296=n % 4294967296:=by
 rcases uJ n 4294967296 with ⟨_,h⟩ | ⟨_,h⟩ <;> rw[h] <;> omega
def wd (n:Int):Int:=n % 4294967296
def sg (n:Int):Int:=(n+2147483648) % 4294967296-2147483648
theorem VK (n:Int):RowKit.wrap64 (RowKit.wrap32 n)=sg n:=by unfold RowKit.wrap64 RowKit.wrap32 sg;omega
theorem VL (n:Int) (h:2147483648<=wd n):wd n-4294967296=sg n:=by unfold wd at *; unfold sg;omega
theorem Cs (n:Int) (h:wd n<2147483648):wd n=sg n:=by unfold wd at *; unfold sg;omega
def ks (n:Int):Int:=if n=1\/n=2 then 1 else if n=3\/n=4 then 2 else if n=5 then 4 else 0
theorem uD (n:Int):0<=wd n/\wd n<=4294967295:=by unfold wd;omega
end Go.Proofs.YtlbomnnldkeocaaGreat.Pl
namespace Go.Proofs.YtlbomnnldkeocaaGreat.W
open Go.RowKit
theorem aO {k:IntKind} {a b:Int} (h:a=b):Ending.returned (.int k a)=.returned (.int k b):=by rw[h]
theorem aI {a b:Bool} (h:a=b):Ending.returned (.bool a)=.returned (.bool b):=by rw[h]
theorem rE (n:Int) (w:World):Calls Tryz.prog 133 #[.int .i64 n] w fun e w'=>e=.returned (.int .i64 (Pl.wd n))/\w'=w:=by
 go_enter Tryz.func133,Tryz.ntmps133
 go_wp2
 go_ret
 exact⟨aO rfl,rfl⟩
theorem kR (n:Int) (w:World):Calls Tryz.prog 70 #[.int .i64 n] w fun e w'=>e=.returned (.int .i64 (Pl.wd n))/\w'=w:=by
 have h1:=Pl.BC n
 go_enter Tryz.func70,Tryz.ntmps70
 go_wp2
 go_ret
 exact⟨aO (Pl.NL n),rfl⟩
theorem sM (n:Int) (w:World):Calls Tryz.prog 118 #[.int .i64 n] w fun e w'=>e=.returned (.int .i64 (Pl.sg n))/\w'=w:=by
 go_enter Tryz.func118,Tryz.ntmps118
 go_wp2
 go_ret
 exact⟨aO (Pl.VK n),rfl⟩
theorem sN (n:Int) (w:World):Calls Tryz.prog 102 #[.int .i64 n] w fun e w'=>e=.returned (.int .i64 (Pl.sg n))/\w'=w:=by
 have h1:=Pl.uD n
 by_cases h:2147483648<=Pl.wd n
 all_goals
  go_enter Tryz.func102,Tryz.ntmps102
  go_wp2_with (go_at_call 70;refine (kR _ _).mono ?_;rintro e w' ⟨rfl,rfl⟩)
  go_ret
 ·exact⟨aO (Pl.VL n h),rfl⟩
 ·exact⟨aO (Pl.Cs n h),rfl⟩
end Go.Proofs.YtlbomnnldkeocaaGreat.W
namespace Go.Proofs.YtlbomnnldkeocaaGreat.Pl
def pw (k:Nat):Int:=2 ^ k
theorem aJ (k:Nat):0<pw k:=by unfold pw;exact Int.pow_pos (by decide)
theorem LH (k:Nat):pw (k+1)=pw k*2:=by unfold pw;rw[Int.pow_succ]
theorem tF {j k:Nat} (h:j<=k):pw j<=pw k:=by
 induction h with
 | refl=>omega
 | step _ ih=>rw[LH];have:=aJ j;omega
theorem LJ (k:Nat) (h:k<=62):pw k<=4611686018427387904:=by
 have:=tF h;have e:pw 62=4611686018427387904:=by decide
 omega
def kb (k:Int):Bool:=decide (1<=k/\k<=5)
end Go.Proofs.YtlbomnnldkeocaaGreat.Pl
namespace Go.Proofs.YtlbomnnldkeocaaGreat.W
open Go.RowKit
theorem xV {k:IntKind} {a b:Int} {p q:Bool} (h:a=b) (h':p=q):Ending.returned (.tuple #[.int k a,.bool p])=.returned (.tuple #[.int k b,.bool q]):=by rw[h,h']
theorem bK (n:Int) (k:Nat) (hn:n=k) (hk:k<=62) (w:World):Calls Tryz.prog 98 #[.int .i64 n] w fun e w'=>e=.returned (.int .i64 (Pl.pw k))/\w'=w:=by
 subst hn
 go_enter Tryz.func98,Tryz.ntmps98
 go_wp2
 go_loop [3,4] (fun v i=>∃ j:Nat,j<=k/\i=.int .i64 j/\v=.int .i64 (Pl.pw j)) (fun _ i=>k-(intOf i).toNat)
 case atStart=>exact⟨0,Nat.zero_le _,rfl,rfl⟩
 case round=>
  obtain⟨j,hj,rfl,rfl⟩:=hrel
  have h1:=Pl.aJ j
  have h2:=Pl.LJ j (by omega)
  by_cases hlt:j<k
  ·have h3:=Pl.LJ (j+1) (by omega)
   have h4:=Pl.LH j
   have h5:Pl.pw j*2<=4611686018427387904:=by omega
   have H:Hid (Pl.pw (j+1)=Pl.pw j*2):=h4
   clear h3 h4
   go_wp2
   go_round
   case rel=>exact⟨j+1,by omega,by go_num,by rw[H.out]⟩
   case measure=>simp[intOf];omega
  ·have e:j=k:=by omega
   subst e
   go_wp2
   go_ret
   exact⟨rfl,rfl⟩
end Go.Proofs.YtlbomnnldkeocaaGreat.W
namespace Go.Proofs.YtlbomnnldkeocaaGreat.Pl
def LK (n:Int):Bool:=decide (0<=n/\n<=4294967295)
theorem LM (n:Int):LK n=true↔0<=n/\n<=4294967295:=by simp[LK]
theorem Ct (n:Int):(n == wd n)=LK n:=by
 have e:wd n=n % 4294967296:=rfl
 by_cases h:0<=n/\n<=4294967295
 ·have h1:n=wd n:=by rw[e];omega
  have h2:LK n=true:=(LM n).2 h
  rw[h2,beq_iff_eq];exact h1
 ·have h1:n≠wd n:=by rw[e];omega
  have h2:LK n=false:=by rw[Bool.eq_false_iff];intro hc;exact h ((LM n).1 hc)
  rw[h2];simpa using h1
theorem DK {p:Int->Bool} {zs:List Int} (h:∀ j,j<zs.length->p (zs.getD j 0)=true):zs.all p=true:=by
 rw[List.all_eq_true]
 intro x hx
 obtain⟨i,hi,rfl⟩:=List.getElem_of_mem hx
 have:=h i hi
 rwa [List.getD_eq_getElem?_getD,List.getElem?_eq_getElem hi]at this
theorem wZ {p:Int->Bool} {zs:List Int} {k:Nat} (hk:k<zs.length) (h:p (zs.getD k 0)=false):zs.all p=false:=by
 rw[Bool.eq_false_iff]
 intro hc
 rw[List.all_eq_true]at hc
 have:=hc zs[k] (List.getElem_mem hk)
 rw[List.getD_eq_getElem?_getD,List.getElem?_eq_getElem hk]at h
 simp at h
 rw[this]at h
 cases h
def NM (n:Int):Bool:=decide (0<=n/\n<=65536/\n % 16=0)
def NN (zs:List Int):Bool:=decide (1<=zs.length/\zs.length<=16384) && zs.all LK
def place (len:Nat) (at_:Int):Int:=if 65536<=at_/\at_ % 4=0/\(at_-65536) / 4<len then (at_-65536) / 4 else -1
end Go.Proofs.YtlbomnnldkeocaaGreat.Pl
namespace Go.Proofs.YtlbomnnldkeocaaGreat.W
open Go.RowKit
theorem below_drewN {B:Nat} {a w:World} (h:Below B a w) (m:Nat):Below B a (w.drewN m):=⟨h.os,h.tape,h.output,h.size,h.block⟩
def Row (k:IntKind) (lo:Nat) (w:World) (a:Option Addr) (len cap:Nat) (zs:List Int):Prop:=
 zs.length=len/\len<=cap/\cap<=maxLen/\(∀ n∈zs,(Lit.int k n).wf=true)/\
 (len=0\/∃ b off,a=some ⟨b,off,none⟩/\lo<=b/\b<w.heap.size/\∀ i,i<len->w.cell? ⟨b,off+i,none⟩=some (.int k (zs.getD i 0)))
theorem Row.keep {k:IntKind} {lo:Nat} {w w':World} {a:Option Addr} {len cap:Nat} {zs:List Int} (h:Row k lo w a len cap zs) (hb:Below w.heap.size w w'):Row k lo w' a len cap zs:=by
 obtain⟨h1,h2,h3,h4,h5⟩:=h
 refine⟨h1,h2,h3,h4,?_⟩
 rcases h5 with h5 | ⟨b,off,rfl,hlo,hlt,hc⟩
 ·exact .inl h5
 ·exact .inr ⟨b,off,rfl,hlo,Nat.lt_of_lt_of_le hlt hb.size,fun i hi=>(hb.cell (by exact hlt)).trans (hc i hi)⟩
theorem Row.small {k:IntKind} {lo:Nat} {w:World} {a:Option Addr} {len cap:Nat} {zs:List Int} (h:Row k lo w a len cap zs):len<=9223372036854775807:=by
 have h1:=h.2.1
 have h2:=h.2.2.1
 unfold maxLen at h2
 omega
structure pJ (B:Nat) (w w':World):Prop where
 size:w.heap.size<=w'.heap.size
 block:∀ k,B<=k->k<w.heap.size->w'.heap[k]?=w.heap[k]?
theorem pJ.refl (B:Nat) (w:World):pJ B w w:=⟨Nat.le_refl _,fun _ _ _=>rfl⟩
theorem pJ.trans {B:Nat} {a b c:World} (h:pJ B a b) (k:pJ B b c):pJ B a c:=⟨Nat.le_trans h.size k.size,fun i h1 h2=>(k.block i h1 (Nat.lt_of_lt_of_le h2 h.size)).trans (h.block i h1 h2)⟩
theorem pJ.of_below {B:Nat} {a b:World} (h:Below a.heap.size a b):pJ B a b:=⟨h.size,fun i _ h2=>h.block i h2⟩
theorem pJ.setCell {B:Nat} {a b:World} (h:pJ B a b) {p:Addr} (hp:p.block<B) (u:Value):pJ B a (b.setCell p u):=
 ⟨by simpa using h.size,fun i h1 h2=>(Below.heap_setCell b p u i (by omega)).trans (h.block i h1 h2)⟩
theorem pJ.setRow {B:Nat} {a b:World} (h:pJ B a b) {g:Nat} (hp:g<B) (cs:Array Value):pJ B a (b.setRow g cs):=
 ⟨by simpa using h.size,fun i h1 h2=>(setRow_other b g i cs (by omega)).trans (h.block i h1 h2)⟩
def Own (k:IntKind) (e:TypeId) (lo:Nat) (w:World) (a:Option Addr) (len cap:Nat) (zs:List Int):Prop:=
 w.ownsRow lo e 1 (.slice a len cap) len (zs.map (Value.int k))/\(∀ n∈zs,(Lit.int k n).wf=true)
theorem Own.row {k:IntKind} {e:TypeId} {lo:Nat} {w:World} {a:Option Addr} {len cap:Nat} {zs:List Int} (h:Own k e lo w a len cap zs):Row k lo w a len cap zs:=by
 obtain⟨hown,hwf⟩:=h
 have hl:zs.length=len:=by have:=hown.1;simpa using this
 rcases hown.2 with ⟨h0,h1⟩ | ⟨g,cap',cur,h0,hlo,hg,hnc,hcm,hcs,htake⟩
 ·simp only[Value.slice.injEq]at h0
  obtain⟨rfl,rfl,rfl⟩:=h0
  exact⟨hl,Nat.le_refl _,Nat.zero_le _,hwf,.inl rfl⟩
 ·simp only[Value.slice.injEq]at h0
  obtain⟨rfl,_,rfl⟩:=h0
  refine⟨hl,hnc,hcm,hwf,?_⟩
  refine .inr ⟨g,0,rfl,hlo,?_,fun i hi=>?_⟩
  ·exact (Array.getElem?_eq_some_iff.1 hg).1
  ·have:=hown.cellAt i (by omega)
   rw[Nat.zero_add,this,List.getElem?_map,List.getD_eq_getElem?_getD,List.getElem?_eq_getElem (by omega)]
   rfl
theorem Own.keep {k:IntKind} {e:TypeId} {lo:Nat} {w w':World} {a:Option Addr} {len cap:Nat} {zs:List Int} (h:Own k e lo w a len cap zs) (hb:Below w.heap.size w w'):Own k e lo w' a len cap zs:=by
 obtain⟨hown,hwf⟩:=h
 refine⟨⟨hown.1,?_⟩,hwf⟩
 rcases hown.2 with h0 | ⟨g,cap',cur,h0,hlo,hg,hr⟩
 ·exact .inl h0
 ·refine .inr ⟨g,cap',cur,h0,hlo,?_,hr⟩
  rw[hb.block g ((Array.getElem?_eq_some_iff.1 hg).1),hg]
theorem Own.same {k:IntKind} {e:TypeId} {B lo:Nat} {w w':World} {a:Option Addr} {len cap:Nat} {zs:List Int} (h:Own k e lo w a len cap zs) (ha:pJ B w w') (hB:B<=lo):Own k e lo w' a len cap zs:=by
 obtain⟨hown,hwf⟩:=h
 refine⟨⟨hown.1,?_⟩,hwf⟩
 rcases hown.2 with h0 | ⟨g,cap',cur,h0,hlo,hg,hr⟩
 ·exact .inl h0
 ·refine .inr ⟨g,cap',cur,h0,hlo,?_,hr⟩
  rw[ha.block g (Nat.le_trans hB hlo) ((Array.getElem?_eq_some_iff.1 hg).1),hg]
end Go.Proofs.YtlbomnnldkeocaaGreat.W
