import Derived.Test.YtjcdiegfnoaedaaGreatDoorZ17
set_option linter.unusedVariables false
set_option linter.unusedSimpArgs false
set_option maxHeartbeats 16000000
namespace Go.Proofs.YtjcdiegfnoaedaaGreatDoor
namespace W
open Go.RowKit
theorem Vr (lo:Nat) (w:World):Row .i64 lo w none 0 0 []:=⟨rfl,Nat.le_refl _,Nat.zero_le _,fun n hn=>(by cases hn),.inl rfl⟩
theorem Vs {lo:Nat}{w:World}{g:Nat}{zs:List Int}{t:TypeId}(hg:w.heap[g]?=some (.cells (zs.map (Value.int .i64)).toArray t)) (hlo:lo<=g) (hz:∀n∈zs,(Lit.int .i64 n).wf=true) (hl:zs.length<=maxLen):Row .i64 lo w (some ⟨g,0,none⟩) zs.length zs.length zs:=by
 refine⟨rfl,Nat.le_refl _,hl,hz,.inr ⟨g,0,rfl,hlo,(Array.getElem?_eq_some_iff.1 hg).1,fun i hi=>?_⟩⟩;rw[Nat.zero_add,cell_of_row w g i _ t (0,0) hg,List.getElem?_toArray,List.getElem?_map,List.getD_eq_getElem?_getD,List.getElem?_eq_getElem hi];rfl
theorem vW {k:IntKind}{lo lo':Nat}{w w':World}{a:Option Addr}{len cap:Nat}{zs:List Int}(h:Row k lo w a len cap zs) (hb:∀b,lo<=b->b<w.heap.size->w'.heap[b]?=w.heap[b]?) (hs:w.heap.size<=w'.heap.size) (hl:lo'<=lo):Row k lo' w' a len cap zs:=by
 obtain⟨h1,h2,h3,h4,h5⟩:=h;refine⟨h1,h2,h3,h4,?_⟩;rcases h5 with h5|⟨b,off,rfl,hlo,hlt,hc⟩
 ·exact .inl h5
 ·exact .inr ⟨b,off,rfl,Nat.le_trans hl hlo,Nat.lt_of_lt_of_le hlt hs,fun i hi=>(World.cell?_of_block (w:=w) (a:=⟨b,off+i,none⟩) (hb b hlo hlt)).trans (hc i hi)⟩
theorem pK {B:Nat}{a b:World}(h:Below B a b){g:Nat}(hp:B<=g) (cs:Array Value):Below B a (b.setRow g cs):=
 ⟨h.os,h.tape,h.output,by simpa using h.size,fun k hk=>(setRow_other b g k cs (by omega)).trans (h.block k hk)⟩
def zH (r:Pl.Rl) (w:World) (e:Ending) (w':World):Prop:=∃v:SV,e=.returned (.agg #[.int .i64 r.xO,.int .i64 r.word,.int .i64 r.uZ,.int .i64 r.pQ,.int .i64 r.xP,.int .i64 r.rX,.slice v.a v.len v.cap,.int .i64 r.more,.int .i64 r.most])/\Row .i64 w.heap.size w' v.a v.len v.cap r.kids/\Bw w w'
def rlV (r:Pl.Rl) (g:Nat):Value:=.agg #[.int .i64 r.xO,.int .i64 r.word,.int .i64 r.uZ,.int .i64 r.pQ,.int .i64 r.xP,.int .i64 r.rX,if r.kids=[] then .slice none 0 0 else .slice (some ⟨g,0,none⟩) r.kids.length r.kids.length,.int .i64 r.more,.int .i64 r.most]
theorem zI {r:Pl.Rl}{w w':World}{v:Value}(hv:v=rlV r (w.heap.size+1)) (hr:r.kids=[]\/w'.heap[w.heap.size+1]?=some (.cells (r.kids.map (Value.int .i64)).toArray 117)/\(∀n∈r.kids,(Lit.int .i64 n).wf=true)/\r.kids.length<=9) (d:Bw w w'):zH r w (.returned v) w':=by
 subst hv;unfold rlV;by_cases q:r.kids=[]
 ·rw[if_pos q];exact⟨⟨none,0,0⟩,rfl,by rw[q];exact Vr _ _,d⟩
 ·rw[if_neg q];obtain⟨h1,h2,h3⟩:=hr.resolve_left q;exact⟨⟨some ⟨w.heap.size+1,0,none⟩,_,_⟩,rfl,Vs h1 (by omega) h2 (by unfold maxLen;omega),d⟩
theorem MX (w:World) (A B:Obj):((w.alloc A).alloc B).heap[w.heap.size+1]?=some B:=by simpa using heap_alloc_new (w.alloc A) B
theorem IJ (k:Int) (h:k<=6) (w:World):Calls Tryz.prog 93 #[.int .i64 k] w fun e w'=>zH (Pl.rl k) w e w':=by
 obtain⟨r,hr⟩:∃r,r=Pl.rl k:=⟨_,rfl⟩;have hk:k=1\/k=2\/k=3\/k=4\/k=5\/k=6\/(¬k=1/\¬k=2/\¬k=3/\¬k=4/\¬k=5/\¬k=6):=by omega
 rw[<- hr];rcases hk with rfl|rfl|rfl|rfl|rfl|rfl|⟨h1,h2,h3,h4,h5,h6⟩
 rotate_right
 ·have e:Pl.rl k=Pl.Rl.zero:=by
   by_cases q:k<0\/49<k
   ·exact Pl.yU q
   ·obtain rfl:k=0:=by omega
    rfl
  rw[e]at hr;clear e h;subst hr;go_enter Tryz.func93,Tryz.ntmps93;go_wp2;refine bodyPost_ret ?_ rfl (zI rfl (.inl rfl) ?_)
  ·simp[results,Tryz.results93,go_sem,rlV,Pl.Rl.zero]
  ·repeat (first|exact Below.refl _ _|refine Below.alloc ?_ (by simp <;> omega) _)
 all_goals
  subst hr;clear h;go_enter Tryz.func93,Tryz.ntmps93;go_wp2;refine bodyPost_ret ?_ rfl (zI rfl ?_ ?_)
  ·simp[results,Tryz.results93,go_sem];rfl
  ·first|exact .inl rfl|exact .inr ⟨MX w _ _,by decide,by decide⟩
  ·repeat (first|exact Below.refl _ _|refine Below.alloc ?_ (by simp <;> omega) _)
theorem vI (k:Int) (h:7<=k/\k<=16) (w:World):Calls Tryz.prog 94 #[.int .i64 k] w fun e w'=>zH (Pl.rl k) w e w':=by
 have hk:k=7\/k=8\/k=9\/k=10\/k=11\/k=12\/k=13\/k=14\/k=15\/k=16:=by omega
 rcases hk with rfl|rfl|rfl|rfl|rfl|rfl|rfl|rfl|rfl|rfl;all_goals
  clear h;go_enter Tryz.func94,Tryz.ntmps94;go_wp2;refine bodyPost_ret ?_ rfl (zI rfl ?_ ?_)
  ·simp[results,Tryz.results94,go_sem];rfl
  ·first|exact .inl rfl|exact .inr ⟨MX w _ _,by decide,by decide⟩
  ·repeat (first|exact Below.refl _ _|refine Below.alloc ?_ (by simp <;> omega) _)
end W
end Go.Proofs.YtjcdiegfnoaedaaGreatDoor
