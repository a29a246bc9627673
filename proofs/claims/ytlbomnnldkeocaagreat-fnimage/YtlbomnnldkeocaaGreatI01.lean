import Derived.Test.YtlbomnnldkeocaaGreatI00
import Derived.Deep.QuietTactic
import Derived.BigQuiet
import Derived.Great.Walk
set_option maxHeartbeats 16000000
namespace Go.Proofs.YtlbomnnldkeocaaGreat.W
open Go.RowKit
def iE (w:World) (c:Nat):Prop:=∃ (a:Option Addr) (len cap p:Nat),w.heap[c]?=some (.cells #[.slice a len cap,.int .i64 (p:Int)] 102)/\len<=1500/\p<=len/\
 (len=0\/∃ b off,a=some ⟨b,off,none⟩/\b<c/\∀ i,i<len->∃ v:Nat,v<=255/\w.cell? ⟨b,off+i,none⟩=some (.int .u8 (v:Int)))
theorem iE.drewN {w:World} {c:Nat} (h:iE w c) (m:Nat):iE (w.drewN m) c:=h
theorem QE {w u:World} {c b off len cap p:Nat} (hu:u.heap=w.heap) (hrow:w.heap[c]?=some (.cells #[.slice (some ⟨b,off,none⟩) len cap,.int .i64 (p:Int)] 102)) (hl:len<=1500) (hlt:p<len) (hb:b<c)
  (hby:∀ i,i<len->∃ v:Nat,v<=255/\w.cell? ⟨b,off+i,none⟩=some (.int .u8 (v:Int))):iE (u.setCell ⟨c,1,none⟩ (.int .i64 ((p:Int)+1))) c:=by
 refine⟨some ⟨b,off,none⟩,len,cap,p+1,?_,hl,hlt,.inr ⟨b,off,rfl,hb,fun i hi=>?_⟩⟩
 ·have h':u.heap[c]?=some (.cells #[.slice (some ⟨b,off,none⟩) len cap,.int .i64 (p:Int)] 102 (0,0)):=by rw[hu];exact hrow
  rw[heap_setCell_same u c 1 _ 102 _ h']
  simp
 ·obtain⟨v,hv,hc⟩:=hby i hi
  refine⟨v,hv,?_⟩
  rw[<- hc]
  refine World.cell?_of_block (w:=w) ?_
  show (u.setCell ⟨c,1,none⟩ _).heap[b]?=w.heap[b]?
  rw[heap_setCell_other u ⟨c,1,none⟩ b _ (Nat.ne_of_lt hb),hu]
def pY (w:World) (a:Option Addr) (len cap:Nat):Prop:=len<=cap/\cap<=maxLen/\(len=0\/∃ b off,a=some ⟨b,off,none⟩/\b<w.heap.size/\∀ i,i<len->∃ v:Nat,v<=255/\w.cell? ⟨b,off+i,none⟩=some (.int .u8 (v:Int)))
theorem QF {w:World} {a:Option Addr} {len cap n:Nat} (h:pY w a len cap) (hn:n<=len) (hn':n<=1500):iE (w.alloc (.cells #[.slice a n cap,.int .i64 0] 102)) w.heap.size:=by
 obtain⟨_,_,h⟩:=h
 refine⟨a,n,cap,0,heap_alloc_new w _,hn',Nat.zero_le _,?_⟩
 rcases h with h | ⟨b,off,rfl,hb,hby⟩
 ·exact .inl (by omega)
 ·refine .inr ⟨b,off,rfl,hb,fun i hi=>?_⟩
  obtain⟨v,hv,hc⟩:=hby i (by omega)
  exact⟨v,hv,by rw[<- hc];exact World.cell?_of_block (w:=w) (Below.heap_alloc w _ b hb)⟩
theorem QG (w:World) (a:Option Addr) (len cap:Nat) (h:pY w a len cap):Calls Tryz.prog 17 #[.slice a len cap] w fun e w'=>e=.returned (.pointer (some ⟨w.heap.size,0,none⟩))/\iE w' w.heap.size/\Below w.heap.size w w':=by
 have h1:=h.1
 have h2:=h.2.1
 unfold maxLen at h2
 have HH:Hid (pY w a len cap):=h
 clear h
 by_cases hl:1500<len
 ·go_enter Tryz.func17,Tryz.ntmps17
  go_wp2
  go_ret
  exact⟨rfl,QF HH.out (by omega) (Nat.le_refl _),(Below.refl _ _).alloc (Nat.le_refl _) _⟩
 ·go_enter Tryz.func17,Tryz.ntmps17
  go_wp2
  go_ret
  exact⟨rfl,QF HH.out (Nat.le_refl _) (by omega),(Below.refl _ _).alloc (Nat.le_refl _) _⟩
theorem iE.lt {w:World} {c:Nat} (h:iE w c):c<w.heap.size:=by
 obtain⟨a,len,cap,p,hrow,_⟩:=h
 exact (Array.getElem?_eq_some_iff.1 hrow).1
theorem iE.alloc {w:World} {c:Nat} (h:iE w c) (o:Obj):iE (w.alloc o) c:=by
 have hlt:=h.lt
 obtain⟨a,len,cap,p,hrow,hl,hp,hb⟩:=h
 refine⟨a,len,cap,p,by rw[Below.heap_alloc w o c hlt];exact hrow,hl,hp,?_⟩
 rcases hb with hb | ⟨b,off,ha,hbc,hby⟩
 ·exact .inl hb
 ·refine .inr ⟨b,off,ha,hbc,fun i hi=>?_⟩
  obtain⟨v,hv,hc⟩:=hby i hi
  exact⟨v,hv,by rw[<- hc];exact World.cell?_of_block (w:=w) (Below.heap_alloc w o b (by omega))⟩
end Go.Proofs.YtlbomnnldkeocaaGreat.W
