import Derived.Test.YtcgfgmlfbgbkfaaGreatDoorM01
import Derived.Deep.Cut
import Derived.Deep.DeepCutAuto
import Derived.Deep.CutRange
import Derived.Laws.MakeOwn
import Derived.Laws.OwnMore
import Derived.Deep.RegionWith
import Derived.Test.YtcgfgmlfbgbkfaaGreatDoorM00
set_option linter.unusedVariables false
set_option linter.unusedSimpArgs false
set_option maxHeartbeats 16000000
namespace Go.Proofs.YtcgfgmlfbgbkfaaGreatDoor.W
open Go.RowKit
def SRow (lo:Nat) (w:World) (a:Option Addr) (len cap:Nat) (ss:List ByteArray):Prop:=
 (ss.length=len/\∀ x∈ss,x.size<=maxLen)/\len<=cap/\cap<=maxLen/\(len=0\/∃ b off,a=some ⟨b,off,none⟩/\lo<=b/\b<w.heap.size/\∀ i,i<len->w.cell? ⟨b,off+i,none⟩=some (.string (ss.getD i ⟨#[]⟩)))
theorem SRow.keep {lo:Nat} {w w':World} {a:Option Addr} {len cap:Nat} {ss:List ByteArray} (h:SRow lo w a len cap ss) (hb:Below w.heap.size w w'):SRow lo w' a len cap ss:=by
 obtain⟨h1,h2,h3,h4⟩:=h
 refine⟨h1,h2,h3,?_⟩
 rcases h4 with h4 | ⟨b,off,ha,hlo,hlt,hc⟩
 ·exact .inl h4
 ·exact .inr ⟨b,off,ha,hlo,Nat.lt_of_lt_of_le hlt hb.size,fun i hi=>(hb.cell (p:=⟨b,off+i,none⟩) hlt).trans (hc i hi)⟩
theorem SRow.at {lo:Nat} {w:World} {a:Option Addr} {len cap:Nat} {ss:List ByteArray} (h:SRow lo w a len cap ss) {k:Nat} (hk:k<len) :
  ∃ (b off:Nat),a=some ⟨b,off,none⟩/\lo<=b/\b<w.heap.size/\w.cell? ⟨b,off+k,none⟩=some (.string (ss.getD k ⟨#[]⟩))/\(ss.getD k ⟨#[]⟩).size<=maxLen:=by
 obtain⟨h1,h2,h3,h4⟩:=h
 rcases h4 with h4 | ⟨b,off,ha,hlo,hlt,hc⟩
 ·omega
 ·refine⟨b,off,ha,hlo,hlt,hc k hk,?_⟩
  rw[List.getD_eq_getElem?_getD,List.getElem?_eq_getElem (by rw[h1.1];exact hk)]
  exact h1.2 _ (List.getElem_mem _)
theorem SRow.small {lo:Nat} {w:World} {a:Option Addr} {len cap:Nat} {ss:List ByteArray} (h:SRow lo w a len cap ss):len<=9223372036854775807:=by
 have:=h.2.1;have h3:=h.2.2.1;unfold maxLen at h3;omega
end Go.Proofs.YtcgfgmlfbgbkfaaGreatDoor.W
namespace Go.Proofs.YtcgfgmlfbgbkfaaGreatDoor.Pl
structure Ty where
 k:Int
 n:Int
 of:List Int
 names:List ByteArray
def Ty.cells (x:Ty) (v s:W.SV):Array Value:=#[.int .i64 x.k,.int .i64 x.n,.slice v.a v.len v.cap,.slice s.a s.len s.cap]
def Ty.zero:Ty:=⟨0,0,[],[]⟩
end Go.Proofs.YtcgfgmlfbgbkfaaGreatDoor.Pl
namespace Go.Proofs.YtcgfgmlfbgbkfaaGreatDoor.W
open Go.RowKit
def TRow (lo:Nat) (w:World) (a:Option Addr) (len cap:Nat) (xs:List Pl.Ty):Prop:=
 xs.length=len/\len<=cap/\cap<=maxLen/\(len=0\/∃ b off,a=some ⟨b,off,none⟩/\lo<=b/\b<w.heap.size/\∀ i,i<len->∃ v s:SV,(∀ j,j<4->w.cell? ⟨b,off+i*4+j,none⟩=((xs.getD i Pl.Ty.zero).cells v s)[j]?)/\Row .i64 lo w v.a v.len v.cap (xs.getD i Pl.Ty.zero).of/\SRow lo w s.a s.len s.cap (xs.getD i Pl.Ty.zero).names)
theorem TRow.keep {lo:Nat} {w w':World} {a:Option Addr} {len cap:Nat} {xs:List Pl.Ty} (h:TRow lo w a len cap xs) (hb:Below w.heap.size w w'):TRow lo w' a len cap xs:=by
 obtain⟨h1,h2,h3,h4⟩:=h
 refine⟨h1,h2,h3,?_⟩
 rcases h4 with h4 | ⟨b,off,ha,hlo,hlt,hc⟩
 ·exact .inl h4
 ·refine .inr ⟨b,off,ha,hlo,Nat.lt_of_lt_of_le hlt hb.size,fun i hi=>?_⟩
  obtain⟨v,s,h5,h6,h7⟩:=hc i hi
  exact⟨v,s,fun j hj=>(hb.cell (p:=⟨b,off+i*4+j,none⟩) hlt).trans (h5 j hj),h6.keep hb,h7.keep hb⟩
theorem TRow.at {lo:Nat} {w:World} {a:Option Addr} {len cap:Nat} {xs:List Pl.Ty} (h:TRow lo w a len cap xs) {k:Nat} (hk:k<len) :
  ∃ (b off:Nat) (v s:SV),a=some ⟨b,off,none⟩/\lo<=b/\b<w.heap.size/\(∀ j,j<4->w.cell? ⟨b,off+k*4+j,none⟩=((xs.getD k Pl.Ty.zero).cells v s)[j]?)/\Row .i64 lo w v.a v.len v.cap (xs.getD k Pl.Ty.zero).of/\SRow lo w s.a s.len s.cap (xs.getD k Pl.Ty.zero).names:=by
 obtain⟨h1,h2,h3,h4⟩:=h
 rcases h4 with h4 | ⟨b,off,ha,hlo,hlt,hc⟩
 ·omega
 ·obtain⟨v,s,h5,h6,h7⟩:=hc k hk
  exact⟨b,off,v,s,ha,hlo,hlt,h5,h6,h7⟩
theorem TRow.small {lo:Nat} {w:World} {a:Option Addr} {len cap:Nat} {xs:List Pl.Ty} (h:TRow lo w a len cap xs):len<=9223372036854775807:=by
 have:=h.2.1;have h3:=h.2.2.1;unfold maxLen at h3;omega
theorem ty_row_set {k:IntKind} {lo:Nat} {w:World} {a:Option Addr} {len cap:Nat} {zs:List Int} (h:Row k lo w a len cap zs) {g:Nat} (hg:g<lo) (j:Nat) (x:Value):Row k lo (w.setCell ⟨g,j,none⟩ x) a len cap zs:=by
 obtain⟨h1,h2,h3,h4,h5⟩:=h
 refine⟨h1,h2,h3,h4,?_⟩
 rcases h5 with h5 | ⟨b,off,ha,hlo,hlt,hc⟩
 ·exact .inl h5
 ·refine .inr ⟨b,off,ha,hlo,by simpa using hlt,fun i hi=>?_⟩
  rw[World.cell?_setCell_other _ _ _ _ (by intro e;injection e with e1 _;omega)]
  exact hc i hi
theorem SRow.set {lo:Nat} {w:World} {a:Option Addr} {len cap:Nat} {ss:List ByteArray} (h:SRow lo w a len cap ss) {g:Nat} (hg:g<lo) (j:Nat) (x:Value):SRow lo (w.setCell ⟨g,j,none⟩ x) a len cap ss:=by
 obtain⟨h1,h2,h3,h5⟩:=h
 refine⟨h1,h2,h3,?_⟩
 rcases h5 with h5 | ⟨b,off,ha,hlo,hlt,hc⟩
 ·exact .inl h5
 ·refine .inr ⟨b,off,ha,hlo,by simpa using hlt,fun i hi=>?_⟩
  rw[World.cell?_setCell_other _ _ _ _ (by intro e;injection e with e1 _;omega)]
  exact hc i hi
theorem ty_row_above {k:IntKind} {B lo:Nat} {w w':World} {a:Option Addr} {len cap:Nat} {zs:List Int} (h:Row k lo w a len cap zs) (ha:Above B w w') (hB:B<=lo):Row k lo w' a len cap zs:=by
 obtain⟨h1,h2,h3,h4,h5⟩:=h
 refine⟨h1,h2,h3,h4,?_⟩
 rcases h5 with h5 | ⟨b,off,rfl,hlo,hlt,hc⟩
 ·exact .inl h5
 ·refine .inr ⟨b,off,rfl,hlo,Nat.lt_of_lt_of_le hlt ha.size,fun i hi=>?_⟩
  rw[World.cell?_of_block (a:=⟨b,off+i,none⟩) (ha.block b (Nat.le_trans hB hlo) hlt)]
  exact hc i hi
theorem SRow.above {B lo:Nat} {w w':World} {a:Option Addr} {len cap:Nat} {ss:List ByteArray} (h:SRow lo w a len cap ss) (ha:Above B w w') (hB:B<=lo):SRow lo w' a len cap ss:=by
 obtain⟨h1,h2,h3,h5⟩:=h
 refine⟨h1,h2,h3,?_⟩
 rcases h5 with h5 | ⟨b,off,rfl,hlo,hlt,hc⟩
 ·exact .inl h5
 ·refine .inr ⟨b,off,rfl,hlo,Nat.lt_of_lt_of_le hlt ha.size,fun i hi=>?_⟩
  rw[World.cell?_of_block (a:=⟨b,off+i,none⟩) (ha.block b (Nat.le_trans hB hlo) hlt)]
  exact hc i hi
theorem SRow.lower {lo lo':Nat} {w:World} {a:Option Addr} {len cap:Nat} {ss:List ByteArray} (h:SRow lo w a len cap ss) (hl:lo'<=lo):SRow lo' w a len cap ss:=by
 obtain⟨h1,h2,h3,h4⟩:=h
 refine⟨h1,h2,h3,?_⟩
 rcases h4 with h4 | ⟨b,off,e,hlo,hlt,hc⟩
 ·exact .inl h4
 ·exact .inr ⟨b,off,e,Nat.le_trans hl hlo,hlt,hc⟩
theorem TRow.above {B lo:Nat} {w w':World} {a:Option Addr} {len cap:Nat} {xs:List Pl.Ty} (h:TRow lo w a len cap xs) (ha:Above B w w') (hB:B<=lo):TRow lo w' a len cap xs:=by
 obtain⟨h1,h2,h3,h4⟩:=h
 refine⟨h1,h2,h3,?_⟩
 rcases h4 with h4 | ⟨b,off,e,hlo,hlt,hc⟩
 ·exact .inl h4
 ·refine .inr ⟨b,off,e,hlo,Nat.lt_of_lt_of_le hlt ha.size,fun i hi=>?_⟩
  obtain⟨v,s,h5,h6,h7⟩:=hc i hi
  refine⟨v,s,fun j hj=>?_,ty_row_above h6 ha hB,h7.above ha hB⟩
  rw[World.cell?_of_block (a:=⟨b,off+i*4+j,none⟩) (ha.block b (Nat.le_trans hB hlo) hlt)]
  exact h5 j hj
theorem TRow.lower {lo lo':Nat} {w:World} {a:Option Addr} {len cap:Nat} {xs:List Pl.Ty} (h:TRow lo w a len cap xs) (hl:lo'<=lo):TRow lo' w a len cap xs:=by
 obtain⟨h1,h2,h3,h4⟩:=h
 refine⟨h1,h2,h3,?_⟩
 rcases h4 with h4 | ⟨b,off,e,hlo,hlt,hc⟩
 ·exact .inl h4
 ·refine .inr ⟨b,off,e,Nat.le_trans hl hlo,hlt,fun i hi=>?_⟩
  obtain⟨v,s,h5,h6,h7⟩:=hc i hi
  exact⟨v,s,h5,h6.lower hl,h7.lower hl⟩
theorem ty_ne {g p q:Nat} (h:p≠q):(⟨g,p,none⟩:Addr)≠⟨g,q,none⟩:=fun e=>h (by injection e)
theorem ty_isSome {u:World} {p q:Addr} {v:Value} (h:(u.cell? q).isSome=true):((u.setCell p v).cell? q).isSome=true:=by
 obtain⟨x,hx⟩:=Option.isSome_iff_exists.1 h
 obtain⟨y,hy⟩:=cell?_setCell_some (p:=p) (x:=v) hx
 rw[hy];rfl
theorem ty_put {u:World} {g:Nat} {cs cs':Array Value} {t:TypeId} (q:u.heap[g]?=some (.cells cs t)) (j:Nat) (x:Value) (e:cs.setIfInBounds j x=cs'):(u.setCell ⟨g,j,none⟩ x).heap[g]?=some (.cells cs' t):=by
 rw[<- e];exact heap_setCell_same u g j cs t x q
theorem ty_at {P:Program} {f:Nat} {args:Array Value} {W:World} {Q:Ending->World->Prop} (h:∀ U,U=W->Calls P f args U Q):Calls P f args W Q:=h W rfl
end Go.Proofs.YtcgfgmlfbgbkfaaGreatDoor.W
namespace Go.Proofs.YtcgfgmlfbgbkfaaGreatDoor.Pl
structure IrI where
 op:Int
 d:Int
 a:Int
 b:Int
 n:Int
 sym:ByteArray
 args:List Int
def IrI.cells (x:IrI) (v:W.SV):Array Value:=#[.int .i64 x.op,.int .i64 x.d,.int .i64 x.a,.int .i64 x.b,.int .i64 x.n,.string x.sym,.slice v.a v.len v.cap]
def IrI.zero:IrI:=⟨0,0,0,0,0,⟨#[]⟩,[]⟩
end Go.Proofs.YtcgfgmlfbgbkfaaGreatDoor.Pl
namespace Go.Proofs.YtcgfgmlfbgbkfaaGreatDoor.W
open Go.RowKit
def IRow (lo:Nat) (w:World) (a:Option Addr) (len cap:Nat) (xs:List Pl.IrI):Prop:=
 xs.length=len/\len<=cap/\cap<=maxLen/\(len=0\/∃ b off,a=some ⟨b,off,none⟩/\lo<=b/\b<w.heap.size/\∀ i,i<len->∃ v:SV,(∀ j,j<7->w.cell? ⟨b,off+i*7+j,none⟩=((xs.getD i Pl.IrI.zero).cells v)[j]?)/\Row .i64 lo w v.a v.len v.cap (xs.getD i Pl.IrI.zero).args/\(xs.getD i Pl.IrI.zero).sym.size<=maxLen)
theorem IRow.keep {lo:Nat} {w w':World} {a:Option Addr} {len cap:Nat} {xs:List Pl.IrI} (h:IRow lo w a len cap xs) (hb:Below w.heap.size w w'):IRow lo w' a len cap xs:=by
 obtain⟨h1,h2,h3,h4⟩:=h
 refine⟨h1,h2,h3,?_⟩
 rcases h4 with h4 | ⟨b,off,ha,hlo,hlt,hc⟩
 ·exact .inl h4
 ·refine .inr ⟨b,off,ha,hlo,Nat.lt_of_lt_of_le hlt hb.size,fun i hi=>?_⟩
  obtain⟨v,h5,h6,h7⟩:=hc i hi
  exact⟨v,fun j hj=>(hb.cell (p:=⟨b,off+i*7+j,none⟩) hlt).trans (h5 j hj),h6.keep hb,h7⟩
theorem IRow.lower {lo lo':Nat} {w:World} {a:Option Addr} {len cap:Nat} {xs:List Pl.IrI} (h:IRow lo w a len cap xs) (hl:lo'<=lo):IRow lo' w a len cap xs:=by
 obtain⟨h1,h2,h3,h4⟩:=h
 refine⟨h1,h2,h3,?_⟩
 rcases h4 with h4 | ⟨b,off,ha,hlo,hlt,hc⟩
 ·exact .inl h4
 ·refine .inr ⟨b,off,ha,by omega,hlt,fun i hi=>?_⟩
  obtain⟨v,h5,h6,h7⟩:=hc i hi
  exact⟨v,h5,h6.lower hl,h7⟩
theorem IRow.at {lo:Nat} {w:World} {a:Option Addr} {len cap:Nat} {xs:List Pl.IrI} (h:IRow lo w a len cap xs) {k:Nat} (hk:k<len) :
  ∃ (b off:Nat) (v:SV),a=some ⟨b,off,none⟩/\lo<=b/\b<w.heap.size/\(∀ j,j<7->w.cell? ⟨b,off+k*7+j,none⟩=((xs.getD k Pl.IrI.zero).cells v)[j]?)/\Row .i64 lo w v.a v.len v.cap (xs.getD k Pl.IrI.zero).args/\(xs.getD k Pl.IrI.zero).sym.size<=maxLen:=by
 obtain⟨h1,h2,h3,h4⟩:=h
 rcases h4 with h4 | ⟨b,off,ha,hlo,hlt,hc⟩
 ·omega
 ·obtain⟨v,h5,h6,h7⟩:=hc k hk
  exact⟨b,off,v,ha,hlo,hlt,h5,h6,h7⟩
theorem IRow.small {lo:Nat} {w:World} {a:Option Addr} {len cap:Nat} {xs:List Pl.IrI} (h:IRow lo w a len cap xs):len<=9223372036854775807:=by
 have:=h.2.1;have h3:=h.2.2.1;unfold maxLen at h3;omega
theorem iri_cells {u:World} {b o:Nat} {x:Pl.IrI} {v:SV} (h:∀ j,j<7->u.cell? ⟨b,o+j,none⟩=(x.cells v)[j]?):u.cell? ⟨b,o,none⟩=some (.int .i64 x.op)/\u.cell? ⟨b,o+1,none⟩=some (.int .i64 x.d)/\u.cell? ⟨b,o+2,none⟩=some (.int .i64 x.a)/\u.cell? ⟨b,o+3,none⟩=some (.int .i64 x.b)/\u.cell? ⟨b,o+4,none⟩=some (.int .i64 x.n)/\u.cell? ⟨b,o+5,none⟩=some (.string x.sym)/\u.cell? ⟨b,o+6,none⟩=some (.slice v.a v.len v.cap):=
 ⟨h 0 (by decide),h 1 (by decide),h 2 (by decide),h 3 (by decide),h 4 (by decide),h 5 (by decide),h 6 (by decide)⟩
theorem szIrIns_at (x:Pl.IrI) (v:SV) (left:Int) (hl:0<=left/\left<=1048576) (hv:v.len<=9223372036854775807) (hy:x.sym.size<=maxLen) (w:World):Calls Tryz.prog 46 #[.agg #[.int .i64 x.op,.int .i64 x.d,.int .i64 x.a,.int .i64 x.b,.int .i64 x.n,.string x.sym,.slice v.a v.len v.cap],.int .i64 left] w fun e w'=>∃ r:Int,e=.returned (.int .i64 r)/\(0<=r->r<=left/\x.sym.size<=1048576/\v.len<=1048576)/\Below w.heap.size w w':=by
 have hy1:(x.sym.size:Int)<=9223372036854775807:=by unfold maxLen at hy;omega
 by_cases c1:(x.sym.size:Int)<=left
 ·have hw1:IntKind.i64.wrap (left-(x.sym.size:Int))=left-(x.sym.size:Int):=by rw[IntKind.wrap_i64];omega
  have c1':¬ (left-(x.sym.size:Int)<0):=by omega
  by_cases c2:(v.len:Int)<=left-x.sym.size
  ·go_enter Tryz.func46,Tryz.ntmps46
   go_wp2_with (go_at_call 25;refine (szIntS_yes _ _ _ _ hv (by omega) (by omega) _).mono ?_;rintro e w' ⟨rfl,rfl⟩)
   go_ret
   exact⟨_,rfl,fun q=>⟨by omega,by omega,by omega⟩,below_alloc _ _⟩
  ·go_enter Tryz.func46,Tryz.ntmps46
   go_wp2_with (go_at_call 25;refine (szIntS_no _ _ _ _ hv (by omega) (by omega) _).mono ?_;rintro e w' ⟨rfl,rfl⟩)
   go_ret
   exact⟨-1,rfl,fun q=>absurd q (by decide),below_alloc _ _⟩
 ·have c1':left-(x.sym.size:Int)<0:=by omega
  have hw1:IntKind.i64.wrap (left-(x.sym.size:Int))=left-(x.sym.size:Int):=by rw[IntKind.wrap_i64];omega
  go_enter Tryz.func46,Tryz.ntmps46
  go_wp2_with fail
  go_ret
  exact⟨-1,rfl,fun q=>absurd q (by decide),below_alloc _ _⟩
theorem szIrInsS_any {lo:Nat} (a:Option Addr) (len cap:Nat) (xs:List Pl.IrI) (left:Int) (hleft:0<=left/\left<=1048576) (w:World) (h:IRow lo w a len cap xs):Calls Tryz.prog 26 #[.slice a len cap,.int .i64 left] w fun e w'=>∃ r:Int,e=.returned (.int .i64 r)/\(0<=r->r<=left/\len<=1048576/\∀ i,i<len->(xs.getD i Pl.IrI.zero).sym.size<=1048576/\(xs.getD i Pl.IrI.zero).args.length<=1048576)/\Below w.heap.size w w':=by
 have hm:(len:Int)<=9223372036854775807:=by have:=h.small;omega
 by_cases hb:left<(len:Int)
 ·go_enter Tryz.func26,Tryz.ntmps26
  go_wp2
  go_ret
  exact⟨-1,rfl,fun q=>absurd q (by decide),Below.refl _ _⟩
 have HR:Hid (IRow lo w a len cap xs):=h
 clear h
 go_enter Tryz.func26,Tryz.ntmps26
 go_wp2_with fail
 go_loopw [1,5] (fun v i wr=>∃ (k:Nat) (r:Int),k<=len/\i=.int .i64 k/\v=.int .i64 r/\0<=r/\r<=left/\(∀ i,i<k->(xs.getD i Pl.IrI.zero).sym.size<=1048576/\(xs.getD i Pl.IrI.zero).args.length<=1048576)/\Below w.heap.size w wr) (fun _ i _=>len-(intOf i).toNat)
 case atStart=>exact⟨0,left-len,Nat.zero_le _,rfl,rfl,by omega,by omega,fun i hi=>absurd hi (Nat.not_lt_zero _),Below.refl _ _⟩
 case round=>
  obtain⟨k,r,hk,rfl,rfl,hr0,hr1,hall,hbel⟩:=hrel
  have HA:Hid (∀ i,i<k->(xs.getD i Pl.IrI.zero).sym.size<=1048576/\(xs.getD i Pl.IrI.zero).args.length<=1048576):=hall
  have HB:Hid (Below w.heap.size w wr):=hbel
  clear hall hbel
  by_cases hlt:k<len
  ·have hi:(k:Int)<(len:Int):=by omega
   obtain⟨b,off,v,rfl,hlo,hb1,hc,hrow,hy⟩:=(HR.out.keep HB.out).at hlt
   obtain⟨x,hx⟩:∃ x,x=xs.getD k Pl.IrI.zero:=⟨_,rfl⟩
   rw[<- hx]at hc hrow hy
   obtain⟨c0,c1,c2,c3,c4,c5,c6⟩:=iri_cells hc
   have hvl:v.len<=9223372036854775807:=hrow.small
   have HX:Hid (x=xs.getD k Pl.IrI.zero/\x.args.length=v.len):=⟨hx,hrow.1⟩
   clear hc hx hrow
   go_wp2_with (go_at_call 46;refine (szIrIns_at x v r ⟨hr0,by omega⟩ hvl hy _).mono ?_;rintro e u1 ⟨r',rfl,hr',d1⟩)
   ·go_ret
    exact⟨_,rfl,fun q=>absurd q (by decide),HB.out.trans (d1.mono HB.out.size)⟩
   ·have hr2:0<=r':=by omega
    obtain⟨hr3,hr4,hr5⟩:=hr' hr2
    go_roundw
    case rel=>exact⟨k+1,r',by omega,by go_num,rfl,hr2,by omega,fun i hi=>by
     by_cases e:i=k
     ·rw[e,<- HX.out.1,HX.out.2];exact⟨hr4,hr5⟩
     ·exact HA.out i (by omega),HB.out.trans (d1.mono HB.out.size)⟩
    case measure=>simp[intOf];omega
  ·have hkk:k=len:=by omega
   have hi:¬ ((k:Int)<(len:Int)):=by omega
   go_wp2
   go_ret
   exact⟨_,rfl,fun _=>⟨by omega,by omega,fun i hi=>HA.out i (by omega)⟩,HB.out⟩
def set7 (u:World) (g o:Nat) (x:Pl.IrI) (v:SV):World:=((((((u.setCell ⟨g,o,none⟩ (.int .i64 x.op)).setCell ⟨g,o+1,none⟩ (.int .i64 x.d)).setCell ⟨g,o+2,none⟩ (.int .i64 x.a)).setCell ⟨g,o+3,none⟩ (.int .i64 x.b)).setCell ⟨g,o+4,none⟩ (.int .i64 x.n)).setCell ⟨g,o+5,none⟩ (.string x.sym)).setCell ⟨g,o+6,none⟩ (.slice v.a v.len v.cap)
theorem set7_out {u:World} {g o q:Nat} (x:Pl.IrI) (v:SV) (h:q<o\/o+7<=q):(set7 u g o x v).cell? ⟨g,q,none⟩=u.cell? ⟨g,q,none⟩:=by
 unfold set7
 rw[World.cell?_setCell_other _ _ _ _ (ty_ne (by omega)),World.cell?_setCell_other _ _ _ _ (ty_ne (by omega)),World.cell?_setCell_other _ _ _ _ (ty_ne (by omega)),World.cell?_setCell_other _ _ _ _ (ty_ne (by omega)),World.cell?_setCell_other _ _ _ _ (ty_ne (by omega)),World.cell?_setCell_other _ _ _ _ (ty_ne (by omega)),World.cell?_setCell_other _ _ _ _ (ty_ne (by omega))]
theorem set7_in {u:World} {g o:Nat} (x:Pl.IrI) (v:SV) (h:∀ j,j<7->(u.cell? ⟨g,o+j,none⟩).isSome=true) (j:Nat) (hj:j<7):(set7 u g o x v).cell? ⟨g,o+j,none⟩=(x.cells v)[j]?:=by
 have t:=h j hj
 unfold set7
 rcases (show j=0\/j=1\/j=2\/j=3\/j=4\/j=5\/j=6 by omega) with rfl | rfl | rfl | rfl | rfl | rfl | rfl
 ·change World.cell? _ ⟨g,o,none⟩=_
  rw[World.cell?_setCell_other _ _ _ _ (ty_ne (by omega)),World.cell?_setCell_other _ _ _ _ (ty_ne (by omega)),World.cell?_setCell_other _ _ _ _ (ty_ne (by omega)),World.cell?_setCell_other _ _ _ _ (ty_ne (by omega)),World.cell?_setCell_other _ _ _ _ (ty_ne (by omega)),World.cell?_setCell_other _ _ _ _ (ty_ne (by omega))]
  rw[World.cell?_setCell_same' _ _ _ (show (u.cell? ⟨g,o,none⟩).isSome=true from t)]
  rfl
 ·rw[World.cell?_setCell_other _ _ _ _ (ty_ne (by omega)),World.cell?_setCell_other _ _ _ _ (ty_ne (by omega)),World.cell?_setCell_other _ _ _ _ (ty_ne (by omega)),World.cell?_setCell_other _ _ _ _ (ty_ne (by omega)),World.cell?_setCell_other _ _ _ _ (ty_ne (by omega))]
  rw[World.cell?_setCell_same' _ _ _ (ty_isSome t)]
  rfl
 ·rw[World.cell?_setCell_other _ _ _ _ (ty_ne (by omega)),World.cell?_setCell_other _ _ _ _ (ty_ne (by omega)),World.cell?_setCell_other _ _ _ _ (ty_ne (by omega)),World.cell?_setCell_other _ _ _ _ (ty_ne (by omega))]
  rw[World.cell?_setCell_same' _ _ _ (ty_isSome (ty_isSome t))]
  rfl
 ·rw[World.cell?_setCell_other _ _ _ _ (ty_ne (by omega)),World.cell?_setCell_other _ _ _ _ (ty_ne (by omega)),World.cell?_setCell_other _ _ _ _ (ty_ne (by omega))]
  rw[World.cell?_setCell_same' _ _ _ (ty_isSome (ty_isSome (ty_isSome t)))]
  rfl
 ·rw[World.cell?_setCell_other _ _ _ _ (ty_ne (by omega)),World.cell?_setCell_other _ _ _ _ (ty_ne (by omega))]
  rw[World.cell?_setCell_same' _ _ _ (ty_isSome (ty_isSome (ty_isSome (ty_isSome t))))]
  rfl
 ·rw[World.cell?_setCell_other _ _ _ _ (ty_ne (by omega))]
  rw[World.cell?_setCell_same' _ _ _ (ty_isSome (ty_isSome (ty_isSome (ty_isSome (ty_isSome t)))))]
  rfl
 ·rw[World.cell?_setCell_same' _ _ _ (ty_isSome (ty_isSome (ty_isSome (ty_isSome (ty_isSome (ty_isSome t))))))]
  rfl
theorem set7_below {w u:World} {B g:Nat} (h:Below B w u) (hg:B<=g) (o:Nat) (x:Pl.IrI) (v:SV):Below B w (set7 u g o x v):=by
 unfold set7
 exact ((((((h.setCell (p:=⟨g,o,none⟩) hg _).setCell (p:=⟨g,o+1,none⟩) hg _).setCell (p:=⟨g,o+2,none⟩) hg _).setCell (p:=⟨g,o+3,none⟩) hg _).setCell (p:=⟨g,o+4,none⟩) hg _).setCell (p:=⟨g,o+5,none⟩) hg _).setCell (p:=⟨g,o+6,none⟩) hg _
theorem set7_row {k:IntKind} {lo:Nat} {w:World} {a:Option Addr} {len cap:Nat} {zs:List Int} (h:Row k lo w a len cap zs) {g:Nat} (hg:g<lo) (o:Nat) (x:Pl.IrI) (v:SV):Row k lo (set7 w g o x v) a len cap zs:=by
 unfold set7
 exact ty_row_set (ty_row_set (ty_row_set (ty_row_set (ty_row_set (ty_row_set (ty_row_set h hg _ _) hg _ _) hg _ _) hg _ _) hg _ _) hg _ _) hg _ _
def IMid (g len k:Nat) (wr:World) (xs:List Pl.IrI):Prop:=∀ i,i<len->∃ v:SV,(∀ j,j<7->wr.cell? ⟨g,i*7+j,none⟩=((if i<k then xs.getD i Pl.IrI.zero else Pl.IrI.zero).cells v)[j]?)/\Row .i64 (g+1) wr v.a v.len v.cap (if i<k then xs.getD i Pl.IrI.zero else Pl.IrI.zero).args
theorem IMid.keep {g len k:Nat} {w w':World} {xs:List Pl.IrI} (h:IMid g len k w xs) (hg:g<w.heap.size) (hb:Below w.heap.size w w'):IMid g len k w' xs:=fun i hi=>by
 obtain⟨v,h1,h2⟩:=h i hi
 exact⟨v,fun j hj=>(hb.cell (p:=⟨g,i*7+j,none⟩) hg).trans (h1 j hj),h2.keep hb⟩
theorem IMid.some {g len k:Nat} {w:World} {xs:List Pl.IrI} (h:IMid g len k w xs) {i:Nat} (hi:i<len):∀ j,j<7->(w.cell? ⟨g,i*7+j,none⟩).isSome=true:=fun j hj=>by
 obtain⟨v,h1,_⟩:=h i hi
 rw[h1 j hj]
 rcases (show j=0\/j=1\/j=2\/j=3\/j=4\/j=5\/j=6 by omega) with rfl | rfl | rfl | rfl | rfl | rfl | rfl <;> rfl
theorem IMid.put {g len k:Nat} {w:World} {xs:List Pl.IrI} (h:IMid g len k w xs) (hk:k<len) (v:SV) (hr:Row .i64 (g+1) w v.a v.len v.cap (xs.getD k Pl.IrI.zero).args):IMid g len (k+1) (set7 w g (k*7) (xs.getD k Pl.IrI.zero) v) xs:=fun i hi=>by
 by_cases e:i=k
 ·subst e
  rw[if_pos (Nat.lt_succ_self _)]
  exact⟨v,fun j hj=>set7_in _ _ (h.some hk) j hj,set7_row hr (Nat.lt_succ_self _) _ _ _⟩
 ·obtain⟨v',h1,h2⟩:=h i hi
  have e1:(if i<k+1 then xs.getD i Pl.IrI.zero else Pl.IrI.zero)=(if i<k then xs.getD i Pl.IrI.zero else Pl.IrI.zero):=by
   by_cases e':i<k
   ·rw[if_pos e',if_pos (by omega)]
   ·rw[if_neg e',if_neg (by omega)]
  rw[e1]
  exact⟨v',fun j hj=>(set7_out _ _ (by omega)).trans (h1 j hj),set7_row h2 (Nat.lt_succ_self _) _ _ _⟩
theorem eqIrIns_same {lo lo2:Nat} (x:Pl.IrI) (v v2:SV) (w:World) (h:Row .i64 lo w v.a v.len v.cap x.args) (h2:Row .i64 lo2 w v2.a v2.len v2.cap x.args) :
  Calls Tryz.prog 69 #[.agg #[.int .i64 x.op,.int .i64 x.d,.int .i64 x.a,.int .i64 x.b,.int .i64 x.n,.string x.sym,.slice v.a v.len v.cap],.agg #[.int .i64 x.op,.int .i64 x.d,.int .i64 x.a,.int .i64 x.b,.int .i64 x.n,.string x.sym,.slice v2.a v2.len v2.cap]] w fun e w'=>e=.returned (.bool true)/\Below w.heap.size w w':=by
 have HR:Hid (Row .i64 lo w v.a v.len v.cap x.args):=h
 have HR2:Hid (Row .i64 lo2 w v2.a v2.len v2.cap x.args):=h2
 clear h h2
 go_enter Tryz.func69,Tryz.ntmps69
 go_wp2_with fail
 refine ty_at fun u0 hu0=>?_
 have hb:Below w.heap.size w u0:=by
  rw[hu0]
  exact ((Below.refl _ _).alloc (Nat.le_refl _) _).alloc (by simp) _
 clear hu0
 refine (eqIntS_any _ _ _ _ _ _ _ _ u0 (HR.out.keep hb) (HR2.out.keep hb)).mono ?_
 rintro e u1 ⟨rfl,d1⟩
 rw[show (x.args == x.args)=true from beq_self_eq_true _]
 have B1:Hid (Below w.heap.size w u1):=hb.trans (d1.mono hb.size)
 clear d1 hb
 go_wp2_with fail
 go_ret
 exact⟨rfl,B1.out⟩
set_option maxRecDepth 4000 in
theorem eqIrInsS_same {lo lo2:Nat} (a a':Option Addr) (len cap cap':Nat) (xs:List Pl.IrI) (w:World) (h:IRow lo w a len cap xs) (h':IRow lo2 w a' len cap' xs):Calls Tryz.prog 36 #[.slice a len cap,.slice a' len cap'] w fun e w'=>e=.returned (.bool true)/\Below w.heap.size w w':=by
 have hm:(len:Int)<=9223372036854775807:=by have:=h.small;omega
 have HR:Hid (IRow lo w a len cap xs):=h
 have HR':Hid (IRow lo2 w a' len cap' xs):=h'
 clear h h'
 go_enter Tryz.func36,Tryz.ntmps36
 go_wp2_with fail
 go_loopw [5] (fun i wr=>∃ k:Nat,k<=len/\i=.int .i64 k/\Below w.heap.size w wr) (fun i _=>len-(intOf i).toNat)
 case atStart=>exact⟨0,Nat.zero_le _,rfl,Below.refl _ _⟩
 case round=>
  obtain⟨k,hk,rfl,hbel⟩:=hrel
  have HB:Hid (Below w.heap.size w wr):=hbel
  clear hbel
  by_cases hlt:k<len
  ·have hi:(k:Int)<(len:Int):=by omega
   obtain⟨b,off,v,rfl,hlo,hb1,hc,hrow,_⟩:=(HR.out.keep HB.out).at hlt
   obtain⟨b',off',v2,rfl,hlo',hb1',hc',hrow',_⟩:=(HR'.out.keep HB.out).at hlt
   obtain⟨x,hx⟩:∃ x,x=xs.getD k Pl.IrI.zero:=⟨_,rfl⟩
   rw[<- hx]at hc hrow hc' hrow'
   obtain⟨c0,c1,c2,c3,c4,c5,c6⟩:=iri_cells hc
   obtain⟨g0,g1,g2,g3,g4,g5,g6⟩:=iri_cells hc'
   have HE:Hid (∀ u:World,Below wr.heap.size wr u->Calls Tryz.prog 69 #[.agg #[.int .i64 x.op,.int .i64 x.d,.int .i64 x.a,.int .i64 x.b,.int .i64 x.n,.string x.sym,.slice v.a v.len v.cap],.agg #[.int .i64 x.op,.int .i64 x.d,.int .i64 x.a,.int .i64 x.b,.int .i64 x.n,.string x.sym,.slice v2.a v2.len v2.cap]] u fun e w'=>e=.returned (.bool true)/\Below u.heap.size u w'):=fun u hu=>eqIrIns_same x v v2 u (hrow.keep hu) (hrow'.keep hu)
   clear hc hc' hx hrow hrow'
   have hU:=Tryz.underlying81
   go_wp2_with fail
   go_region_with (go_at_call 69;refine (HE.out _ (by repeat (first | with_reducible exact Below.refl _ _ | refine Below.drew ?_ | refine below_drewN ?_ _))).mono ?_;rintro e u1 ⟨rfl,d1⟩)
   all_goals
    have D1:Hid _:=d1
    clear d1 c0 c1 c2 c3 c4 c5 c6 g0 g1 g2 g3 g4 g5 g6
    go_wp2_with fail
    go_roundw
    case rel=>exact⟨k+1,by omega,by go_num,Below.trans (by repeat (first | with_reducible exact HB.out | refine Below.drew ?_ | refine below_drewN ?_ _)) (D1.out.mono HB.out.size)⟩
    case measure=>simp[intOf];omega
  ·have hkk:k=len:=by omega
   have hi:¬ ((k:Int)<(len:Int)):=by omega
   go_wp2
   go_ret
   exact⟨rfl,HB.out⟩
end Go.Proofs.YtcgfgmlfbgbkfaaGreatDoor.W
namespace Go.Proofs.YtcgfgmlfbgbkfaaGreatDoor.Pl
structure IrF where
 name:ByteArray
 params:Int
 regs:Int
 slots:List Int
 code:List IrI
def IrF.cells (x:IrF) (v s:W.SV):Array Value:=#[.string x.name,.int .i64 x.params,.int .i64 x.regs,.slice v.a v.len v.cap,.slice s.a s.len s.cap]
def IrF.zero:IrF:=⟨⟨#[]⟩,0,0,[],[]⟩
def IrF.sized (x:IrF):Prop:=x.name.size<=1048576/\x.slots.length<=1048576/\x.code.length<=1048576/\∀ i,i<x.code.length->(x.code.getD i IrI.zero).sym.size<=1048576/\(x.code.getD i IrI.zero).args.length<=1048576
end Go.Proofs.YtcgfgmlfbgbkfaaGreatDoor.Pl
namespace Go.Proofs.YtcgfgmlfbgbkfaaGreatDoor.W
open Go.RowKit
def FIs (lo:Nat) (w:World) (v s:SV) (x:Pl.IrF):Prop:=Row .i64 lo w v.a v.len v.cap x.slots/\IRow lo w s.a s.len s.cap x.code/\x.name.size<=maxLen
theorem FIs.keep {lo:Nat} {w w':World} {v s:SV} {x:Pl.IrF} (h:FIs lo w v s x) (hb:Below w.heap.size w w'):FIs lo w' v s x:=⟨h.1.keep hb,h.2.1.keep hb,h.2.2⟩
theorem FIs.lower {lo lo':Nat} {w:World} {v s:SV} {x:Pl.IrF} (h:FIs lo w v s x) (hl:lo'<=lo):FIs lo' w v s x:=⟨h.1.lower hl,h.2.1.lower hl,h.2.2⟩
theorem IRow.above {B lo:Nat} {w w':World} {a:Option Addr} {len cap:Nat} {xs:List Pl.IrI} (h:IRow lo w a len cap xs) (ha:Above B w w') (hB:B<=lo):IRow lo w' a len cap xs:=by
 obtain⟨h1,h2,h3,h4⟩:=h
 refine⟨h1,h2,h3,?_⟩
 rcases h4 with h4 | ⟨b,off,e,hlo,hlt,hc⟩
 ·exact .inl h4
 ·refine .inr ⟨b,off,e,hlo,Nat.lt_of_lt_of_le hlt ha.size,fun i hi=>?_⟩
  obtain⟨v,h5,h6,h7⟩:=hc i hi
  refine⟨v,fun j hj=>?_,ty_row_above h6 ha hB,h7⟩
  rw[World.cell?_of_block (a:=⟨b,off+i*7+j,none⟩) (ha.block b (Nat.le_trans hB hlo) hlt)]
  exact h5 j hj
theorem szIrFun_any {lo:Nat} (x:Pl.IrF) (v s:SV) (left:Int) (hl:0<=left/\left<=1048576) (w:World) (h:FIs lo w v s x):Calls Tryz.prog 6 #[.agg #[.string x.name,.int .i64 x.params,.int .i64 x.regs,.slice v.a v.len v.cap,.slice s.a s.len s.cap],.int .i64 left] w fun e w'=>∃ r:Int,e=.returned (.int .i64 r)/\(0<=r->r<=left/\x.sized)/\Below w.heap.size w w':=by
 have hv:v.len<=9223372036854775807:=h.1.small
 have hy1:(x.name.size:Int)<=9223372036854775807:=by have:=h.2.2;unfold maxLen at this;omega
 have HN:Hid (x.slots.length=v.len/\x.code.length=s.len):=⟨h.1.1,h.2.1.1⟩
 have HR:Hid (IRow lo w s.a s.len s.cap x.code):=h.2.1
 clear h
 by_cases c1:(x.name.size:Int)<=left
 ·have hw1:IntKind.i64.wrap (left-(x.name.size:Int))=left-(x.name.size:Int):=by rw[IntKind.wrap_i64];omega
  have c1':¬ (left-(x.name.size:Int)<0):=by omega
  by_cases c2:(v.len:Int)<=left-x.name.size
  ·go_enter Tryz.func6,Tryz.ntmps6
   go_wp2_with (first
    | (go_at_call 25;refine (szIntS_yes _ _ _ _ hv (by omega) (by omega) _).mono ?_;rintro e w' ⟨rfl,rfl⟩)
    | (go_at_call 26;refine (szIrInsS_any s.a s.len s.cap x.code (left-x.name.size-v.len) ⟨by omega,by omega⟩ _ (HR.out.keep (below_alloc _ _))).mono ?_;rintro e u1 ⟨r,rfl,hr,d1⟩))
   ·go_ret
    exact⟨_,rfl,fun q=>absurd q (by decide),(below_alloc _ _).trans (d1.mono (by simp))⟩
   ·go_ret
    exact⟨_,rfl,fun q=>⟨by have:=(hr q).1;omega,by omega,by rw[HN.out.1];omega,by rw[HN.out.2];exact (hr q).2.1,fun i hi=>(hr q).2.2 i (by rw[<- HN.out.2];exact hi)⟩,(below_alloc _ _).trans (d1.mono (by simp))⟩
  ·go_enter Tryz.func6,Tryz.ntmps6
   go_wp2_with (go_at_call 25;refine (szIntS_no _ _ _ _ hv (by omega) (by omega) _).mono ?_;rintro e w' ⟨rfl,rfl⟩)
   go_ret
   exact⟨-1,rfl,fun q=>absurd q (by decide),below_alloc _ _⟩
 ·have c1':left-(x.name.size:Int)<0:=by omega
  have hw1:IntKind.i64.wrap (left-(x.name.size:Int))=left-(x.name.size:Int):=by rw[IntKind.wrap_i64];omega
  go_enter Tryz.func6,Tryz.ntmps6
  go_wp2_with fail
  go_ret
  exact⟨-1,rfl,fun q=>absurd q (by decide),below_alloc _ _⟩
theorem eqIrFun_same {lo lo2:Nat} (x:Pl.IrF) (v s v2 s2:SV) (w:World) (h:FIs lo w v s x) (h2:FIs lo2 w v2 s2 x) :
  Calls Tryz.prog 11 #[.agg #[.string x.name,.int .i64 x.params,.int .i64 x.regs,.slice v.a v.len v.cap,.slice s.a s.len s.cap],.agg #[.string x.name,.int .i64 x.params,.int .i64 x.regs,.slice v2.a v2.len v2.cap,.slice s2.a s2.len s2.cap]] w fun e w'=>e=.returned (.bool true)/\Below w.heap.size w w':=by
 have hs0:s2.len=s.len:=h2.2.1.1.symm.trans h.2.1.1
 have HS3:Hid (s2.len=s.len):=hs0
 have HR:Hid (FIs lo w v s x):=h
 have HR2:Hid (FIs lo2 w v2 s2 x):=h2
 clear h h2 hs0
 go_enter Tryz.func11,Tryz.ntmps11
 go_wp2_with fail
 refine ty_at fun u0 hu0=>?_
 have p0:u0.heap[w.heap.size]?=some (.cells #[.string x.name,.int .i64 x.params,.int .i64 x.regs,.slice v.a v.len v.cap,.slice s.a s.len s.cap] 31):=by
  rw[hu0,Below.heap_alloc _ _ _ (by simp)]
  exact heap_alloc_new w _
 have q0:u0.heap[w.heap.size+1]?=some (.cells #[.string x.name,.int .i64 x.params,.int .i64 x.regs,.slice v2.a v2.len v2.cap,.slice s2.a s2.len s2.cap] 31):=by
  rw[hu0]
  have:=heap_alloc_new (w.alloc (.cells #[.string x.name,.int .i64 x.params,.int .i64 x.regs,.slice v.a v.len v.cap,.slice s.a s.len s.cap] 31)) (.cells #[.string x.name,.int .i64 x.params,.int .i64 x.regs,.slice v2.a v2.len v2.cap,.slice s2.a s2.len s2.cap] 31)
  simpa using this
 have hb:Below w.heap.size w u0:=by
  rw[hu0]
  exact ((Below.refl _ _).alloc (Nat.le_refl _) _).alloc (by simp) _
 have hz:w.heap.size+1<u0.heap.size:=by rw[hu0];simp
 clear hu0
 refine (eqIntS_any _ _ _ _ _ _ _ _ u0 (HR.out.1.keep hb) (HR2.out.1.keep hb)).mono ?_
 rintro e u1 ⟨rfl,d1⟩
 rw[show (x.slots == x.slots)=true from beq_self_eq_true _]
 have P1:=(d1.block _ (by omega)).trans p0
 have Q1:=(d1.block _ (by omega)).trans q0
 have kb:∀ j,u1.cell? ⟨w.heap.size,j,none⟩=(#[.string x.name,.int .i64 x.params,.int .i64 x.regs,.slice v.a v.len v.cap,.slice s.a s.len s.cap]:Array Value)[j]?:=fun j=>cell_of_row u1 w.heap.size j _ 31 (0,0) P1
 have kc:∀ j,u1.cell? ⟨w.heap.size+1,j,none⟩=(#[.string x.name,.int .i64 x.params,.int .i64 x.regs,.slice v2.a v2.len v2.cap,.slice s2.a s2.len s2.cap]:Array Value)[j]?:=fun j=>cell_of_row u1 (w.heap.size+1) j _ 31 (0,0) Q1
 have B1:Hid (Below w.heap.size w u1):=hb.trans (d1.mono (by omega))
 have HC1:Hid (IRow lo u1 s.a s.len s.cap x.code):=HR.out.2.1.keep B1.out
 have HC2:Hid (IRow lo2 u1 s2.a s.len s2.cap x.code):=by
  have:=HR2.out.2.1.keep B1.out
  rw[HS3.out]at this
  exact this
 rw[HS3.out]at kc
 clear d1 p0 q0 hb hz P1 Q1
 go_wp2_with (go_at_call 36;refine (eqIrInsS_same _ _ _ _ _ _ _ HC1.out HC2.out).mono ?_;rintro e u2 ⟨rfl,d2⟩)
 go_ret
 exact⟨rfl,B1.out.trans (d2.mono B1.out.size)⟩
end Go.Proofs.YtcgfgmlfbgbkfaaGreatDoor.W
namespace Go.Proofs.YtcgfgmlfbgbkfaaGreatDoor.Pl
def irTab:List Int:=[0,33,5,53,37,37,52,97,33,194,134,32,32,116,8,52,36]
def regOk (regs r how:Int):Bool:=if how=0 then decide (r=0) else decide (r<regs/\(0<=r\/(how=2/\r=-1)))
def numOk (slots:Nat) (op n:Int):Bool:=
 if op=1 then decide (0<=n/\n<=4294967295)
 else if op=3 then decide (1<=n/\n<=18)
 else if op=4 then decide (1<=n/\n<=4)
 else if op=5\/op=6 then decide (1<=n/\n<=5)
 else if op=7 then decide (0<=n/\n<=60000)
 else if op=8 then decide (0<=n/\n<slots)
 else if op=15\/op=16 then decide (1<=n/\n<=60000)
 else decide (op=11\/op=12\/op=13\/n=0)
end Go.Proofs.YtcgfgmlfbgbkfaaGreatDoor.Pl
namespace Go.Proofs.YtcgfgmlfbgbkfaaGreatDoor.W
open Go.RowKit
theorem irTab_at:∀ op:Nat,op<=16->(#[.int .i64 0,.int .i64 33,.int .i64 5,.int .i64 53,.int .i64 37,.int .i64 37,.int .i64 52,.int .i64 97,.int .i64 33,.int .i64 194,.int .i64 134,.int .i64 32,.int .i64 32,.int .i64 116,.int .i64 8,.int .i64 52,.int .i64 36]:Array Value)[op]?=some (.int .i64 (Pl.irTab.getD op 0))
 | 0,_=>rfl | 1,_=>rfl | 2,_=>rfl | 3,_=>rfl | 4,_=>rfl | 5,_=>rfl | 6,_=>rfl | 7,_=>rfl | 8,_=>rfl | 9,_=>rfl | 10,_=>rfl | 11,_=>rfl | 12,_=>rfl | 13,_=>rfl | 14,_=>rfl | 15,_=>rfl | 16,_=>rfl
 | n+17,h=>absurd h (by omega)
theorem l10Fields_any (op:Nat) (h:op<=16) (w:World):Calls Tryz.prog 86 #[.int .i64 (op:Int)] w fun e w'=>e=.returned (.int .i64 (Pl.irTab.getD op 0))/\Below w.heap.size w w':=by
 have hi:(op:Int)<17:=by omega
 have hc:(w.alloc (.cells #[.int .i64 0,.int .i64 33,.int .i64 5,.int .i64 53,.int .i64 37,.int .i64 37,.int .i64 52,.int .i64 97,.int .i64 33,.int .i64 194,.int .i64 134,.int .i64 32,.int .i64 32,.int .i64 116,.int .i64 8,.int .i64 52,.int .i64 36] 3)).cell? ⟨w.heap.size,op,none⟩=some (.int .i64 (Pl.irTab.getD op 0)):=by
  rw[cell_of_row _ _ _ _ _ (0,0) (heap_alloc_new w _)];exact irTab_at op h
 generalize Pl.irTab.getD op 0=z at hc ⊢
 go_enter Tryz.func86,Tryz.ntmps86
 go_wp2_with fail
 go_ret
 exact⟨rfl,below_alloc _ _⟩
theorem l10RegOk_any (x:Pl.IrF) (v s:SV) (r how:Int) (w:World):Calls Tryz.prog 87 #[.agg #[.string x.name,.int .i64 x.params,.int .i64 x.regs,.slice v.a v.len v.cap,.slice s.a s.len s.cap],.int .i64 r,.int .i64 how] w fun e w'=>e=.returned (.bool (Pl.regOk x.regs r how))/\Below w.heap.size w w':=by
 by_cases h0:how=0
 ·subst h0
  go_enter Tryz.func87,Tryz.ntmps87
  go_wp2_with fail
  go_ret
  refine⟨ret_bool ?_,below_alloc _ _⟩
  rw[Bool.eq_iff_iff];simp[Pl.regOk]
 ·have e0:(how == 0)=false:=by rw[beq_eq_false_iff_ne];exact h0
  by_cases h1:r<x.regs
  ·by_cases h2:0<=r
   ·have HE:Hid (Pl.regOk x.regs r how=true):=by show Pl.regOk x.regs r how=true;unfold Pl.regOk;rw[if_neg h0,decide_eq_true_eq];exact⟨h1,.inl h2⟩
    go_enter Tryz.func87,Tryz.ntmps87
    go_wp2_with fail
    go_ret
    exact⟨by rw[HE.out];rfl,below_alloc _ _⟩
   ·by_cases h3:how=2
    ·subst h3
     by_cases h4:r=-1
     ·subst h4
      have HE:Hid (Pl.regOk x.regs (-1) 2=true):=by show Pl.regOk x.regs (-1) 2=true;unfold Pl.regOk;rw[if_neg (by decide),decide_eq_true_eq];exact⟨h1,.inr ⟨rfl,rfl⟩⟩
      go_enter Tryz.func87,Tryz.ntmps87
      go_wp2_with fail
      go_ret
      exact⟨by rw[HE.out];rfl,below_alloc _ _⟩
     ·have e4:(r == -1)=false:=by rw[beq_eq_false_iff_ne];exact h4
      have HE:Hid (Pl.regOk x.regs r 2=false):=by show Pl.regOk x.regs r 2=false;unfold Pl.regOk;rw[if_neg (by decide),decide_eq_false_iff_not];omega
      go_enter Tryz.func87,Tryz.ntmps87
      go_wp2_with fail
      go_ret
      exact⟨by rw[HE.out];rfl,below_alloc _ _⟩
    ·have e3:(how == 2)=false:=by rw[beq_eq_false_iff_ne];exact h3
     have HE:Hid (Pl.regOk x.regs r how=false):=by show Pl.regOk x.regs r how=false;unfold Pl.regOk;rw[if_neg h0,decide_eq_false_iff_not];omega
     go_enter Tryz.func87,Tryz.ntmps87
     go_wp2_with fail
     go_ret
     exact⟨by rw[HE.out];rfl,below_alloc _ _⟩
  ·have HE:Hid (Pl.regOk x.regs r how=false):=by show Pl.regOk x.regs r how=false;unfold Pl.regOk;rw[if_neg h0,decide_eq_false_iff_not];omega
   go_enter Tryz.func87,Tryz.ntmps87
   go_wp2_with fail
   go_ret
   exact⟨by rw[HE.out];rfl,below_alloc _ _⟩
end Go.Proofs.YtcgfgmlfbgbkfaaGreatDoor.W
namespace Go.Proofs.YtcgfgmlfbgbkfaaGreatDoor.Pl
def dg (c:Int):Bool:=decide (48<=c/\c<=57)
def lt (c:Int):Bool:=decide (97<=c/\c<=122) || decide (65<=c/\c<=90)
def ch (c:Int):Bool:=dg c || lt c || c == 95 || c == 46 || c == 36
def byt (s:ByteArray) (i:Nat):Int:=((s.data.toList.getD i 0).toNat:Int)
def lab (s:ByteArray):Bool:=decide (1<=s.size) && decide (s.size<=48) && !dg (byt s 0) && (List.range s.size).all fun i=>ch (byt s i)
end Go.Proofs.YtcgfgmlfbgbkfaaGreatDoor.Pl
namespace Go.Proofs.YtcgfgmlfbgbkfaaGreatDoor.W
open Go.RowKit
theorem l3WordOk_at (n:Int) (w:World):Calls Tryz.prog 113 #[.int .i64 n] w fun e w'=>e=.returned (.bool (decide (0<=n/\n<=4294967295)))/\w'=w:=by
 go_enter Tryz.func113,Tryz.ntmps113
 go_wp2
 all_goals (go_ret;refine⟨ret_bool ?_,rfl⟩; rw[Bool.eq_iff_iff];simp <;> omega)
end Go.Proofs.YtcgfgmlfbgbkfaaGreatDoor.W
