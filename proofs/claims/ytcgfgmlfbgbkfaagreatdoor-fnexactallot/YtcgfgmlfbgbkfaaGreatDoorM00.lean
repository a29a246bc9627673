import Derived.Lib.TrailingZeros
import Derived.Laws.Bits64b
import Derived.WalkKit
import Derived.Test.YtcgfgmlfbgbkfaaGreatDoorChecked
import Derived.Below
import Derived.LoopTactic
import Derived.Deep.QuietTactic
import Derived.BigQuiet
import Derived.Great.Walk
import Derived.Deep.WholeRow
set_option linter.unusedVariables false
set_option linter.unusedSimpArgs false
set_option maxHeartbeats 16000000
namespace Go.Proofs.YtcgfgmlfbgbkfaaGreatDoor.Pl
def inW (ws:List Nat) (n:Nat):Bool:=(ws.getD (n / 64) 0).testBit (n % 64)
def putW (ws:List Nat) (n:Nat):List Nat:=ws.set (n / 64) (ws.getD (n / 64) 0 ||| 2 ^ (n % 64))
def smallW (ws:List Nat):Prop:=∀ i,ws.getD i 0<18446744073709551616
theorem putW_len (ws:List Nat) (n:Nat):(putW ws n).length=ws.length:=by simp[putW]
theorem putW_at (ws:List Nat) (n i:Nat) (h:n / 64<ws.length):(putW ws n).getD i 0=if i=n / 64 then ws.getD (n / 64) 0 ||| 2 ^ (n % 64) else ws.getD i 0:=by
 unfold putW
 by_cases e:i=n / 64
 ·subst e
  rw[if_pos rfl,List.getD_eq_getElem?_getD,List.getElem?_set_self h];rfl
 ·rw[if_neg e,List.getD_eq_getElem?_getD,List.getElem?_set_ne (fun q=>e q.symm),List.getD_eq_getElem?_getD]
theorem smallW.put {ws:List Nat} (hs:smallW ws) (n:Nat):smallW (putW ws n):=by
 intro i
 by_cases h:n / 64<ws.length
 ·rw[putW_at ws n i h]
  split
  ·exact Nat.or_lt_two_pow (n:=64) (hs _) (Nat.pow_lt_pow_right (by decide) (Nat.mod_lt _ (by decide)))
  ·exact hs i
 ·unfold putW;rw[List.set_eq_of_length_le (by omega)];exact hs i
theorem smallW_nil (k:Nat):smallW (List.replicate k 0):=by
 intro i
 rw[List.getD_eq_getElem?_getD,List.getElem?_replicate]
 split <;> decide
theorem inW_nil (k n:Nat):inW (List.replicate k 0) n=false:=by
 unfold inW
 rw[List.getD_eq_getElem?_getD,List.getElem?_replicate]
 split <;> simp
theorem inW_put (ws:List Nat) (n m:Nat) (h:n / 64<ws.length):inW (putW ws n) m=(inW ws m || decide (m=n)):=by
 unfold inW
 rw[putW_at ws n _ h]
 by_cases e:m / 64=n / 64
 ·rw[if_pos e,Nat.testBit_or,Nat.testBit_two_pow,e]
  congr 1
  by_cases q:m=n
  ·subst q;simp
  ·have:¬ n % 64=m % 64:=by omega
   simp[q,this]
 ·rw[if_neg e]
  have:¬ m=n:=fun q=>e (by rw[q])
  simp[this]
theorem inW_big (ws:List Nat) (n:Nat) (h:64*ws.length<=n):inW ws n=false:=by
 unfold inW
 rw[List.getD_eq_getElem?_getD,List.getElem?_eq_none (by omega)]
 simp
def allW (ws:List Nat):List Nat:=(List.range (64*ws.length)).filter (inW ws)
def oneW (i x:Nat):List Nat:=((List.range 64).filter x.testBit).map (64*i + ·)
def restW (ws:List Nat) (i:Nat):List Nat:=(List.range' i (ws.length-i)).flatMap fun j=>oneW j (ws.getD j 0)
theorem oneW_zero (i:Nat):oneW i 0=[]:=by simp[oneW]
theorem restW_end (ws:List Nat) (i:Nat) (h:ws.length<=i):restW ws i=[]:=by
 unfold restW
 rw[show ws.length-i=0 by omega];rfl
theorem restW_step (ws:List Nat) (i:Nat) (h:i<ws.length):restW ws i=oneW i (ws.getD i 0) ++ restW ws (i+1):=by
 unfold restW
 rw[show ws.length-i=(ws.length-(i+1))+1 by omega,List.range'_succ,List.flatMap_cons]
theorem filter_first (p q:Nat->Bool) (k:Nat) (hp:p k=true) (hl:∀ i,i<k->p i=false) (hq:∀ i,q i=(p i && decide (i≠k))):∀ n,k<n->(List.range n).filter p=k :: (List.range n).filter q:=by
 have base:∀ n,n<=k->(List.range n).filter p=[]/\(List.range n).filter q=[]:=by
  intro n hn
  constructor
  ·rw[List.filter_eq_nil_iff];intro a ha;rw[hl a (by have:=List.mem_range.1 ha;omega)];simp
  ·rw[List.filter_eq_nil_iff];intro a ha;rw[hq,hl a (by have:=List.mem_range.1 ha;omega)];simp
 intro n hn
 induction n with
 | zero=>omega
 | succ n ih=>
  rw[List.range_succ,List.filter_append,List.filter_append]
  by_cases e:k=n
  ·subst e
   rw[(base k (Nat.le_refl _)).1,(base k (Nat.le_refl _)).2]
   have hqk:q k=false:=by rw[hq];simp
   rw[List.filter_cons_of_pos hp,List.filter_cons_of_neg (by simp[hqk])]
   simp
  ·rw[ih (by omega)]
   have hqn:q n=p n:=by rw[hq];have:n≠k:=fun c=>e c.symm;simp[this]
   simp[List.filter_cons,hqn]
theorem ctz_bits (x:Nat) (h0:x≠0) (h:x<18446744073709551616):x.testBit (Lib.ctz 64 x)=true/\(∀ i,i<Lib.ctz 64 x->x.testBit i=false)/\(∀ i,(x &&& (x-1)).testBit i=(x.testBit i && decide (i≠Lib.ctz 64 x)))/\Lib.ctz 64 x<64:=by
 obtain⟨m,hm,hk⟩:=Lib.ctzFrom_spec 64 x (by omega) h
 have hc:Lib.ctz 64 x=Lib.ctzFrom 64 x:=by simp[Lib.ctz,h0]
 rw[hc]
 generalize Lib.ctzFrom 64 x=k at *
 have t1:∀ i,x.testBit i=if i<k then false else (2*m+1).testBit (i-k):=by
  intro i
  rw[hm,<- Nat.add_zero (2 ^ k*(2*m+1)),Nat.testBit_two_pow_mul_add _ (Nat.two_pow_pos k)]
  simp
 have t2:∀ i,(x-1).testBit i=if i<k then true else (2*m).testBit (i-k):=by
  intro i
  have e:x-1=2 ^ k*(2*m)+(2 ^ k-1):=by
   have:2 ^ k*(2*m+1)=2 ^ k*(2*m)+2 ^ k:=by rw[Nat.mul_add];simp
   have:=Nat.two_pow_pos k
   omega
  rw[e,Nat.testBit_two_pow_mul_add _ (by have:=Nat.two_pow_pos k;omega),Nat.testBit_two_pow_sub_one]
  split <;> simp_all
 have t3:∀ j,(2*m+1).testBit j=if j=0 then true else (2*m).testBit j:=by
  intro j
  cases j with
  | zero=>simp
  | succ j=>rw[if_neg (by omega),Nat.testBit_succ,Nat.testBit_succ];congr 1;omega
 have t4:(2*m).testBit 0=false:=by simp
 refine⟨?_,?_,?_,hk⟩
 ·rw[t1];simp
 ·intro i hi;rw[t1,if_pos hi]
 ·intro i
  rw[Nat.testBit_and,t1,t2]
  by_cases hi:i<k
  ·simp[hi]
  ·rw[if_neg hi,if_neg hi,t3]
   by_cases e:i=k
   ·subst e;simp[t4]
   ·have:i-k≠0:=by omega
    simp[this,e]
theorem oneW_step (i x:Nat) (h0:x≠0) (h:x<18446744073709551616):oneW i x=(64*i+Lib.ctz 64 x) :: oneW i (x &&& (x-1)):=by
 obtain⟨h1,h2,h3,h4⟩:=ctz_bits x h0 h
 unfold oneW
 rw[filter_first x.testBit (x &&& (x-1)).testBit _ h1 h2 h3 64 h4]
 rfl
theorem ctz_and_lt (x:Nat) (h0:x≠0):x &&& (x-1)<x:=Nat.lt_of_le_of_lt Nat.and_le_right (by omega)
theorem restW_inW (ws:List Nat):∀ k,k<=ws.length->restW ws (ws.length-k)=(List.range' (64*(ws.length-k)) (64*k)).filter (inW ws):=by
 intro k hk
 induction k with
 | zero=>rw[restW_end ws _ (by omega)];simp
 | succ k ih=>
  have ih:=ih (by omega)
  rw[restW_step ws _ (by omega),show ws.length-(k+1)+1=ws.length-k by omega,ih]
  generalize hj:ws.length-(k+1)=j
  rw[show ws.length-k=j+1 by omega]
  have e:List.range' (64*j) (64*(k+1))=List.range' (64*j) 64 ++ List.range' (64*(j+1)) (64*k):=by
   rw[show 64*(k+1)=64+64*k by omega,<- List.range'_append]
   rfl
  rw[e,List.filter_append]
  congr 1
  unfold oneW
  rw[List.range'_eq_map_range,List.filter_map]
  congr 1
  apply List.filter_congr
  intro a ha
  have ha:=List.mem_range.1 ha
  show _=inW ws (64*j+a)
  unfold inW
  rw[show (64*j+a) / 64=j by omega,show (64*j+a) % 64=a by omega]
theorem restW_all (ws:List Nat):restW ws 0=allW ws:=by
 have:=restW_inW ws ws.length (Nat.le_refl _)
 rw[Nat.sub_self]at this
 rw[this,allW,List.range_eq_range']
theorem mem_allW (ws:List Nat) (n:Nat):n∈allW ws↔inW ws n=true:=by
 unfold allW
 rw[List.mem_filter]
 constructor
 ·exact fun h=>h.2
 ·intro h
  refine⟨List.mem_range.2 ?_,h⟩
  apply Classical.byContradiction
  intro hn
  rw[inW_big ws n (by omega)]at h
  cases h
def wd (n:Int):Int:=n % 4294967296
def ks (n:Int):Int:=if n=1\/n=2 then 1 else if n=3\/n=4 then 2 else if n=5 then 4 else 0
theorem kind_cases (n:Int):n=1\/n=2\/n=3\/n=4\/n=5\/((n == 1)=false/\(n == 2)=false/\(n == 3)=false/\(n == 4)=false/\(n == 5)=false):=by
 simp;omega
theorem ks_none (n:Int) (h1:(n == 1)=false) (h2:(n == 2)=false) (h3:(n == 3)=false) (h4:(n == 4)=false) (h5:(n == 5)=false):0=ks n:=by
 simp at h1 h2 h3 h4 h5;simp[ks,h1,h2,h3,h4,h5]
end Go.Proofs.YtcgfgmlfbgbkfaaGreatDoor.Pl
namespace Go.Proofs.YtcgfgmlfbgbkfaaGreatDoor.W
open Go.RowKit
theorem ret_int {k:IntKind} {a b:Int} (h:a=b):Ending.returned (.int k a)=.returned (.int k b):=by rw[h]
theorem ret_bool {a b:Bool} (h:a=b):Ending.returned (.bool a)=.returned (.bool b):=by rw[h]
theorem implWord_any (n:Int) (w:World):Calls Tryz.prog 160 #[.int .i64 n] w fun e w'=>e=.returned (.int .i64 (Pl.wd n))/\w'=w:=by
 go_enter Tryz.func160,Tryz.ntmps160
 go_wp2
 go_ret
 exact⟨ret_int rfl,rfl⟩
theorem specKindSize_any (n:Int) (w:World):Calls Tryz.prog 114 #[.int .i64 n] w fun e w'=>e=.returned (.int .i64 (Pl.ks n))/\w'=w:=by
 rcases Pl.kind_cases n with rfl | rfl | rfl | rfl | rfl | ⟨h1,h2,h3,h4,h5⟩
 all_goals
  go_enter Tryz.func114,Tryz.ntmps114
  go_wp2
  go_ret
 iterate 5 exact⟨rfl,rfl⟩
 exact⟨ret_int (Pl.ks_none n h1 h2 h3 h4 h5),rfl⟩
end Go.Proofs.YtcgfgmlfbgbkfaaGreatDoor.W
namespace Go.Proofs.YtcgfgmlfbgbkfaaGreatDoor.Pl
def i8 (n:Int):Int:=(n+128) % 256-128
def i16 (n:Int):Int:=(n+32768) % 65536-32768
def nr (k n:Int):Int:=if k=1 then wd (i8 n) else if k=2 then n % 256 else if k=3 then wd (i16 n) else if k=4 then n % 65536 else if k=5 then wd n else 0
def kb (k:Int):Bool:=decide (1<=k/\k<=5)
end Go.Proofs.YtcgfgmlfbgbkfaaGreatDoor.Pl
namespace Go.Proofs.YtcgfgmlfbgbkfaaGreatDoor.W
open Go.RowKit
end Go.Proofs.YtcgfgmlfbgbkfaaGreatDoor.W
namespace Go.Proofs.YtcgfgmlfbgbkfaaGreatDoor.Pl
def isW (n:Int):Bool:=decide (0<=n/\n<=4294967295)
theorem isW_iff (n:Int):isW n=true↔0<=n/\n<=4294967295:=by simp[isW]
theorem isW_wd (n:Int):(n == wd n)=isW n:=by
 have e:wd n=n % 4294967296:=rfl
 by_cases h:0<=n/\n<=4294967295
 ·have h1:n=wd n:=by rw[e];omega
  have h2:isW n=true:=(isW_iff n).2 h
  rw[h2,beq_iff_eq];exact h1
 ·have h1:n≠wd n:=by rw[e];omega
  have h2:isW n=false:=by rw[Bool.eq_false_iff];intro hc;exact h ((isW_iff n).1 hc)
  rw[h2];simpa using h1
def place (len:Nat) (at_:Int):Int:=if 65536<=at_/\at_ % 4=0/\(at_-65536) / 4<len then (at_-65536) / 4 else -1
end Go.Proofs.YtcgfgmlfbgbkfaaGreatDoor.Pl
namespace Go.Proofs.YtcgfgmlfbgbkfaaGreatDoor.W
open Go.RowKit
theorem below_drewN {B:Nat} {a w:World} (h:Below B a w) (m:Nat):Below B a (w.drewN m):=⟨h.os,h.tape,h.output,h.size,h.block⟩
def Row (k:IntKind) (lo:Nat) (w:World) (a:Option Addr) (len cap:Nat) (zs:List Int):Prop:=
 zs.length=len/\len<=cap/\cap<=maxLen/\(∀ n∈zs,(Lit.int k n).wf=true)/\
 (len=0\/∃ b off,a=some ⟨b,off,none⟩/\lo<=b/\b<w.heap.size/\∀ i,i<len->w.cell? ⟨b,off+i,none⟩=some (.int k (zs.getD i 0)))
theorem Row.keep {k:IntKind} {lo:Nat} {w w':World} {a:Option Addr} {len cap:Nat} {zs:List Int} (h:Row k lo w a len cap zs) (hb:Below w.heap.size w w'):Row k lo w' a len cap zs:=by
 obtain⟨h1,h2,h3,h4,h5⟩:=h
 refine⟨h1,h2,h3,h4,?_⟩
 rcases h5 with h5 | ⟨b,off,rfl,hlo,hlt,hc⟩
 ·exact .inl h5
 ·exact .inr ⟨b,off,rfl,hlo,Nat.lt_of_lt_of_le hlt hb.size,fun i hi=>(hb.cell (by exact hlt)).trans (hc i hi)⟩
theorem Row.lower {k:IntKind} {lo lo':Nat} {w:World} {a:Option Addr} {len cap:Nat} {zs:List Int} (h:Row k lo w a len cap zs) (hl:lo'<=lo):Row k lo' w a len cap zs:=by
 obtain⟨h1,h2,h3,h4,h5⟩:=h
 refine⟨h1,h2,h3,h4,?_⟩
 rcases h5 with h5 | ⟨b,off,rfl,hlo,hlt,hc⟩
 ·exact .inl h5
 ·exact .inr ⟨b,off,rfl,Nat.le_trans hl hlo,hlt,hc⟩
theorem Row.small {k:IntKind} {lo:Nat} {w:World} {a:Option Addr} {len cap:Nat} {zs:List Int} (h:Row k lo w a len cap zs):len<=9223372036854775807:=by
 have h1:=h.2.1
 have h2:=h.2.2.1
 unfold maxLen at h2
 omega
structure Above (B:Nat) (w w':World):Prop where
 size:w.heap.size<=w'.heap.size
 block:∀ k,B<=k->k<w.heap.size->w'.heap[k]?=w.heap[k]?
theorem Above.refl (B:Nat) (w:World):Above B w w:=⟨Nat.le_refl _,fun _ _ _=>rfl⟩
theorem Above.trans {B:Nat} {a b c:World} (h:Above B a b) (k:Above B b c):Above B a c:=⟨Nat.le_trans h.size k.size,fun i h1 h2=>(k.block i h1 (Nat.lt_of_lt_of_le h2 h.size)).trans (h.block i h1 h2)⟩
theorem Above.of_below {B:Nat} {a b:World} (h:Below a.heap.size a b):Above B a b:=⟨h.size,fun i _ h2=>h.block i h2⟩
theorem Above.setCell {B:Nat} {a b:World} (h:Above B a b) {p:Addr} (hp:p.block<B) (u:Value):Above B a (b.setCell p u):=
 ⟨by simpa using h.size,fun i h1 h2=>(Below.heap_setCell b p u i (by omega)).trans (h.block i h1 h2)⟩
theorem Above.setRow {B:Nat} {a b:World} (h:Above B a b) {g:Nat} (hp:g<B) (cs:Array Value):Above B a (b.setRow g cs):=
 ⟨by simpa using h.size,fun i h1 h2=>(setRow_other b g i cs (by omega)).trans (h.block i h1 h2)⟩
def Own (k:IntKind) (e:TypeId) (lo:Nat) (w:World) (a:Option Addr) (len cap:Nat) (zs:List Int):Prop:=
 w.ownsRow lo e 1 (.slice a len cap) len (zs.map (Value.int k))/\(∀ n∈zs,(Lit.int k n).wf=true)
theorem Own.row {k:IntKind} {e:TypeId} {lo:Nat} {w:World} {a:Option Addr} {len cap:Nat} {zs:List Int} (h:Own k e lo w a len cap zs):Row k lo w a len cap zs:=by
 obtain⟨hown,hwf⟩:=h
 have hl:zs.length=len:=by have:=hown.1;simpa using this
 rcases hown.2 with ⟨h0,h1⟩ | ⟨g,cap',cur,h0,hlo,hg,hnc,hcm,hcs,htake⟩
 ·simp only[Value.slice.injEq]at h0
  obtain⟨rfl,rfl,rfl⟩:=h0
  exact⟨hl,Nat.le_refl _,Nat.zero_le _,hwf,.inl rfl⟩
 ·simp only[Value.slice.injEq]at h0
  obtain⟨rfl,_,rfl⟩:=h0
  refine⟨hl,hnc,hcm,hwf,?_⟩
  refine .inr ⟨g,0,rfl,hlo,?_,fun i hi=>?_⟩
  ·exact (Array.getElem?_eq_some_iff.1 hg).1
  ·have:=hown.cellAt i (by omega)
   rw[Nat.zero_add,this,List.getElem?_map,List.getD_eq_getElem?_getD,List.getElem?_eq_getElem (by omega)]
   rfl
theorem Own.keep {k:IntKind} {e:TypeId} {lo:Nat} {w w':World} {a:Option Addr} {len cap:Nat} {zs:List Int} (h:Own k e lo w a len cap zs) (hb:Below w.heap.size w w'):Own k e lo w' a len cap zs:=by
 obtain⟨hown,hwf⟩:=h
 refine⟨⟨hown.1,?_⟩,hwf⟩
 rcases hown.2 with h0 | ⟨g,cap',cur,h0,hlo,hg,hr⟩
 ·exact .inl h0
 ·refine .inr ⟨g,cap',cur,h0,hlo,?_,hr⟩
  rw[hb.block g ((Array.getElem?_eq_some_iff.1 hg).1),hg]
theorem Own.same {k:IntKind} {e:TypeId} {B lo:Nat} {w w':World} {a:Option Addr} {len cap:Nat} {zs:List Int} (h:Own k e lo w a len cap zs) (ha:Above B w w') (hB:B<=lo):Own k e lo w' a len cap zs:=by
 obtain⟨hown,hwf⟩:=h
 refine⟨⟨hown.1,?_⟩,hwf⟩
 rcases hown.2 with h0 | ⟨g,cap',cur,h0,hlo,hg,hr⟩
 ·exact .inl h0
 ·refine .inr ⟨g,cap',cur,h0,hlo,?_,hr⟩
  rw[ha.block g (Nat.le_trans hB hlo) ((Array.getElem?_eq_some_iff.1 hg).1),hg]
theorem Own.lower {k:IntKind} {e:TypeId} {lo lo':Nat} {w:World} {a:Option Addr} {len cap:Nat} {zs:List Int} (h:Own k e lo w a len cap zs) (hl:lo'<=lo):Own k e lo' w a len cap zs:=by
 obtain⟨hown,hwf⟩:=h
 refine⟨⟨hown.1,?_⟩,hwf⟩
 rcases hown.2 with h0 | ⟨g,cap',cur,h0,hlo,hr⟩
 ·exact .inl h0
 ·exact .inr ⟨g,cap',cur,h0,Nat.le_trans hl hlo,hr⟩
theorem below_alloc (w:World) (o:Obj):Below w.heap.size w (w.alloc o):=(Below.refl _ _).alloc (Nat.le_refl _) _
end Go.Proofs.YtcgfgmlfbgbkfaaGreatDoor.W
