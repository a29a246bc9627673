import Derived.Test.YtcgfgmlfbgbkfaaGreatDoorM16
import Derived.Deep.AppendLies
import Derived.Test.YtcgfgmlfbgbkfaaGreatDoorM01
import Derived.Deep.Cut
import Derived.Deep.DeepCutAuto
import Derived.Deep.CutRange
import Derived.Laws.MakeOwn
import Derived.Laws.OwnMore
import Derived.RangeFuncNested
import Derived.RangeFuncBound
import Derived.RangeFuncCalls
import Derived.RangeFuncLeaves
import Derived.Shelf.Abstract
import Derived.Shelf.RegionOpen
import Derived.WalkKit
import Derived.OwnWalkIn
import Derived.TacticsInMore
import Derived.LoopNIn
import Derived.LoopIn
import Derived.Test.YtcgfgmlfbgbkfaaGreatDoorM07
set_option linter.unusedVariables false
set_option linter.unusedSimpArgs false
set_option maxHeartbeats 16000000
namespace Go.Proofs.YtcgfgmlfbgbkfaaGreatDoor.Pl
def CallU (code:List IrI) (i:Nat) (xs:List Int):Prop:=(∀ a b,a<b->b<xs.length->xs.getD a 0<xs.getD b 0)/\∀ p:Int,p∈xs↔∃ k:Nat,p=(k:Int)/\k<i/\isCall code k
theorem CallU.nil (code:List IrI):CallU code 0 []:=⟨fun a b _ h=>absurd h (Nat.not_lt_zero _),fun p=>⟨(fun h=>(by cases h)),fun ⟨k,_,h,_⟩=>absurd h (Nat.not_lt_zero _)⟩⟩
theorem CallU.no {code:List IrI} {i:Nat} {xs:List Int} (h:CallU code i xs) (hc:¬ isCall code i):CallU code (i+1) xs:=by
 refine⟨h.1,fun p=>(h.2 p).trans ⟨fun ⟨k,e,hk,q⟩=>⟨k,e,by omega,q⟩,fun ⟨k,e,hk,q⟩=>⟨k,e,if g:k=i then absurd (g ▸ q) hc else by omega,q⟩⟩⟩
theorem CallU.yes {code:List IrI} {i:Nat} {xs:List Int} (h:CallU code i xs) (hc:isCall code i):CallU code (i+1) (xs ++ [(i:Int)]):=by
 have hlt:∀ a,a<xs.length->xs.getD a 0<(i:Int):=fun a ha=>by
  have hm:xs.getD a 0∈xs:=by rw[List.getD_eq_getElem?_getD,List.getElem?_eq_getElem ha];exact List.getElem_mem _
  obtain⟨k,e,hk,_⟩:=(h.2 _).1 hm
  omega
 have hg1:∀ a,a<xs.length->(xs ++ [(i:Int)]).getD a 0=xs.getD a 0:=fun a ha=>by
  rw[List.getD_eq_getElem?_getD,List.getD_eq_getElem?_getD,List.getElem?_append_left ha]
 have hg2:(xs ++ [(i:Int)]).getD xs.length 0=(i:Int):=by
  rw[List.getD_eq_getElem?_getD,List.getElem?_append_right (Nat.le_refl _),Nat.sub_self];rfl
 refine⟨fun a b hab hb=>?_,fun p=>?_⟩
 ·simp at hb
  by_cases e:b=xs.length
  ·subst e;rw[hg2,hg1 a hab];exact hlt a hab
  ·rw[hg1 a (by omega),hg1 b (by omega)];exact h.1 a b hab (by omega)
 ·rw[List.mem_append,List.mem_singleton,h.2 p]
  constructor
  ·rintro (⟨k,e,hk,q⟩ | e)
   ·exact⟨k,e,by omega,q⟩
   ·exact⟨i,e,by omega,hc⟩
  ·rintro⟨k,e,hk,q⟩
   by_cases g:k=i
   ·exact .inr (by omega)
   ·exact .inl ⟨k,e,by omega,q⟩
theorem CallU.all {code:List IrI} {xs:List Int} (h:CallU code code.length xs):CallL code xs:=⟨h.1,h.2⟩
end Go.Proofs.YtcgfgmlfbgbkfaaGreatDoor.Pl
namespace Go.Proofs.YtcgfgmlfbgbkfaaGreatDoor.W
open Go.RowKit
theorem ta_9 (k:Nat) (hk:1<=k/\k<=16) (x:Pl.IrI) (y:SV):∃ A:Value,∀ w:World,(Instr.typeAssert (stV k x y) 93 168 true).run Tryz.prog w=.ok (.tuple #[A,.bool (decide (k=9))]) w:=by
 have e:k=1\/k=2\/k=3\/k=4\/k=5\/k=6\/k=7\/k=8\/k=9\/k=10\/k=11\/k=12\/k=13\/k=14\/k=15\/k=16:=by omega
 rcases e with rfl | rfl | rfl | rfl | rfl | rfl | rfl | rfl | rfl | rfl | rfl | rfl | rfl | rfl | rfl | rfl
 ·exact⟨.agg #[.int .i64 0,.string ⟨#[]⟩,.slice none 0 0],fun w=>by kernel_rfl⟩
 ·exact⟨.agg #[.int .i64 0,.string ⟨#[]⟩,.slice none 0 0],fun w=>by kernel_rfl⟩
 ·exact⟨.agg #[.int .i64 0,.string ⟨#[]⟩,.slice none 0 0],fun w=>by kernel_rfl⟩
 ·exact⟨.agg #[.int .i64 0,.string ⟨#[]⟩,.slice none 0 0],fun w=>by kernel_rfl⟩
 ·exact⟨.agg #[.int .i64 0,.string ⟨#[]⟩,.slice none 0 0],fun w=>by kernel_rfl⟩
 ·exact⟨.agg #[.int .i64 0,.string ⟨#[]⟩,.slice none 0 0],fun w=>by kernel_rfl⟩
 ·exact⟨.agg #[.int .i64 0,.string ⟨#[]⟩,.slice none 0 0],fun w=>by kernel_rfl⟩
 ·exact⟨.agg #[.int .i64 0,.string ⟨#[]⟩,.slice none 0 0],fun w=>by kernel_rfl⟩
 ·exact⟨.agg #[.int .i64 x.d,.string x.sym,.slice y.a y.len y.cap],fun w=>by kernel_rfl⟩
 ·exact⟨.agg #[.int .i64 0,.string ⟨#[]⟩,.slice none 0 0],fun w=>by kernel_rfl⟩
 ·exact⟨.agg #[.int .i64 0,.string ⟨#[]⟩,.slice none 0 0],fun w=>by kernel_rfl⟩
 ·exact⟨.agg #[.int .i64 0,.string ⟨#[]⟩,.slice none 0 0],fun w=>by kernel_rfl⟩
 ·exact⟨.agg #[.int .i64 0,.string ⟨#[]⟩,.slice none 0 0],fun w=>by kernel_rfl⟩
 ·exact⟨.agg #[.int .i64 0,.string ⟨#[]⟩,.slice none 0 0],fun w=>by kernel_rfl⟩
 ·exact⟨.agg #[.int .i64 0,.string ⟨#[]⟩,.slice none 0 0],fun w=>by kernel_rfl⟩
 ·exact⟨.agg #[.int .i64 0,.string ⟨#[]⟩,.slice none 0 0],fun w=>by kernel_rfl⟩
theorem ta_10 (k:Nat) (hk:1<=k/\k<=16) (x:Pl.IrI) (y:SV):∃ A:Value,∀ w:World,(Instr.typeAssert (stV k x y) 93 170 true).run Tryz.prog w=.ok (.tuple #[A,.bool (decide (k=10))]) w:=by
 have e:k=1\/k=2\/k=3\/k=4\/k=5\/k=6\/k=7\/k=8\/k=9\/k=10\/k=11\/k=12\/k=13\/k=14\/k=15\/k=16:=by omega
 rcases e with rfl | rfl | rfl | rfl | rfl | rfl | rfl | rfl | rfl | rfl | rfl | rfl | rfl | rfl | rfl | rfl
 ·exact⟨.agg #[.int .i64 0,.int .i64 0,.slice none 0 0],fun w=>by kernel_rfl⟩
 ·exact⟨.agg #[.int .i64 0,.int .i64 0,.slice none 0 0],fun w=>by kernel_rfl⟩
 ·exact⟨.agg #[.int .i64 0,.int .i64 0,.slice none 0 0],fun w=>by kernel_rfl⟩
 ·exact⟨.agg #[.int .i64 0,.int .i64 0,.slice none 0 0],fun w=>by kernel_rfl⟩
 ·exact⟨.agg #[.int .i64 0,.int .i64 0,.slice none 0 0],fun w=>by kernel_rfl⟩
 ·exact⟨.agg #[.int .i64 0,.int .i64 0,.slice none 0 0],fun w=>by kernel_rfl⟩
 ·exact⟨.agg #[.int .i64 0,.int .i64 0,.slice none 0 0],fun w=>by kernel_rfl⟩
 ·exact⟨.agg #[.int .i64 0,.int .i64 0,.slice none 0 0],fun w=>by kernel_rfl⟩
 ·exact⟨.agg #[.int .i64 0,.int .i64 0,.slice none 0 0],fun w=>by kernel_rfl⟩
 ·exact⟨.agg #[.int .i64 x.d,.int .i64 x.a,.slice y.a y.len y.cap],fun w=>by kernel_rfl⟩
 ·exact⟨.agg #[.int .i64 0,.int .i64 0,.slice none 0 0],fun w=>by kernel_rfl⟩
 ·exact⟨.agg #[.int .i64 0,.int .i64 0,.slice none 0 0],fun w=>by kernel_rfl⟩
 ·exact⟨.agg #[.int .i64 0,.int .i64 0,.slice none 0 0],fun w=>by kernel_rfl⟩
 ·exact⟨.agg #[.int .i64 0,.int .i64 0,.slice none 0 0],fun w=>by kernel_rfl⟩
 ·exact⟨.agg #[.int .i64 0,.int .i64 0,.slice none 0 0],fun w=>by kernel_rfl⟩
 ·exact⟨.agg #[.int .i64 0,.int .i64 0,.slice none 0 0],fun w=>by kernel_rfl⟩

def CpSaid (w:World) (code:List Pl.IrI) (e:Ending) (w':World):Prop:=∃ (xs:List Int) (g m c:Nat),e=.returned (.slice (some ⟨g,0,none⟩) m c)/\m=xs.length/\m<=code.length/\w'.ownsRow w.heap.size 3 1 (.slice (some ⟨g,0,none⟩) m c) m (xs.map (Value.int .i64))/\Pl.CallL code xs/\Below w.heap.size w w'
set_option maxRecDepth 100000 in
theorem callPlaces_is (gr g n c:Nat) (code:List Pl.IrI) (Y:Nat->SV) (w:World) (hn:n=code.length) (hn8:n<=8000) (hgr:gr<w.heap.size) (hg:g<w.heap.size) (c5:w.cell? ⟨gr,5,none⟩=some (.slice (some ⟨g,0,none⟩) n c)) (cz:∀ i,i<n->w.cell? ⟨g,i,none⟩=some (stV (code.getD i Pl.IrI.zero).op.toNat (code.getD i Pl.IrI.zero) (Y i))) (ho:∀ i,i<n->1<=(code.getD i Pl.IrI.zero).op/\(code.getD i Pl.IrI.zero).op<=16):Calls Tryz.prog 71 #[.pointer (some ⟨gr,0,none⟩)] w fun e w'=>CpSaid w code e w':=by
 have HZ:Hid (∀ u,Below w.heap.size w u->∀ i,i<n->u.cell? ⟨g,i,none⟩=some (stV (code.getD i Pl.IrI.zero).op.toNat (code.getD i Pl.IrI.zero) (Y i))):=fun u hu i hi=>(hu.cell (p:=⟨g,i,none⟩) hg).trans (cz i hi)
 have HO:Hid ((∀ i,i<n->1<=(code.getD i Pl.IrI.zero).op/\(code.getD i Pl.IrI.zero).op<=16)/\n=code.length):=⟨ho,hn⟩
 obtain⟨i0,hi0,hz0,hz1,hz2⟩:=info_parts Tryz.infoi64
 have HI:Hid (_/\_/\_/\_):=⟨hi0,hz0,hz1,hz2⟩
 clear hi0 hz0 hz1 hz2 cz ho hn
 go_enter Tryz.func71,Tryz.ntmps71
 go_wp2_with fail
 go_loopw [3,12] (fun o t wr=>∃ (i gq m cq:Nat),i<=n/\t=.int .i64 (i:Int)/\o=.slice (some ⟨gq,0,none⟩) m cq/\m<=i/\Hid (∃ xs:List Int,m=xs.length/\wr.ownsRow w.heap.size 3 1 (.slice (some ⟨gq,0,none⟩) m cq) m (xs.map (Value.int .i64))/\Pl.CallU code i xs/\Below w.heap.size w wr)) (fun _ t _=>n-(intOf t).toNat)
 case atStart=>
  refine⟨0,_,_,_,Nat.zero_le _,rfl,rfl,Nat.zero_le _,[],rfl,World.ownsRow_lit w #[] 0 (Nat.le_refl _) (Nat.zero_le _) rfl,Pl.CallU.nil _,below_alloc w _⟩
 case round=>
  obtain⟨i,gq,m,cq,hin,rfl,rfl,hmi,SX⟩:=hrel
  obtain⟨xs,hm,own,hU,bw⟩:=SX.out
  have HX:Hid (m=xs.length/\wr.ownsRow w.heap.size 3 1 (.slice (some ⟨gq,0,none⟩) m cq) m (xs.map (Value.int .i64))/\Pl.CallU code i xs/\Below w.heap.size w wr):=⟨hm,own,hU,bw⟩
  have hwz:=bw.size
  clear SX own hU bw hm
  by_cases hlt:i<n
  rotate_left
  ·have hni:¬ (i:Int)<(n:Int):=by omega
   have HE:Hid (CpSaid w code (.returned (.slice (some ⟨gq,0,none⟩) m cq)) wr):=by
    obtain⟨q1,q2,q3,q4⟩:=HX.out
    have hnn:=HO.out.2
    exact⟨xs,gq,m,cq,rfl,q1,by omega,q2,Pl.CallU.all (by rw[show code.length=i by omega];exact q3),q4⟩
   go_wp2_with fail
   go_ret
   exact HE.out
  have hni:(i:Int)<(n:Int):=by omega
  have z1:=HZ.out wr HX.out.2.2.2 i hlt
  obtain⟨x,hx⟩:∃ x,x=code.getD i Pl.IrI.zero:=⟨_,rfl⟩
  rw[<- hx]at z1
  have hop:=HO.out.1 i hlt
  rw[<- hx]at hop
  obtain⟨A1,ha1⟩:=ta_9 x.op.toNat (by omega) x (Y i)
  obtain⟨A2,ha2⟩:=ta_10 x.op.toNat (by omega) x (Y i)
  obtain⟨V,hV⟩:∃ V,V=stV x.op.toNat x (Y i):=⟨_,rfl⟩
  rw[<- hV]at z1 ha1 ha2
  obtain⟨b1,hb1⟩:∃ b1,b1=decide (x.op.toNat=9):=⟨_,rfl⟩
  obtain⟨b2,hb2⟩:∃ b2,b2=decide (x.op.toNat=10):=⟨_,rfl⟩
  rw[<- hb1]at ha1
  rw[<- hb2]at ha2
  have HB:Hid ((b1=true\/b2=true)↔Pl.isCall code i):=by
   unfold Pl.isCall
   rw[hb1,hb2,<- hx]
   simp only[decide_eq_true_eq]
   constructor
   ·rintro (e | e)
    ·exact .inl (by omega)
    ·exact .inr (by omega)
   ·rintro (e | e)
    ·exact .inl (by omega)
    ·exact .inr (by omega)
  clear hV hb1 hb2 hx hop
  by_cases hc:b1=true\/b2=true
  ·have HC:Hid (Pl.isCall code i):=HB.out.1 hc
   clear HB
   have hbb:(b1=true/\b2=true)\/(b1=true/\b2=false)\/(b1=false/\b2=true):=by
    cases b1 <;> cases b2 <;> simp_all
   clear hc
   rcases hbb with ⟨rfl,rfl⟩ | ⟨rfl,rfl⟩ | ⟨rfl,rfl⟩
   all_goals
    go_wp2_with (at_builtin;refine wpList_append_lies _ rfl (.tmp 25) (.tmp 27) 22 rfl w.heap.size 3 i0 (.int .i64 0) 1 8 Tryz.underlying22 HI.out.1 HI.out.2.1 HI.out.2.2.1 HI.out.2.2.2 rfl (by decide) (.slice (some ⟨gq,0,none⟩) m cq) m (xs.map (Value.int .i64)) rfl (World.ownsRow.alloc HX.out.2.1 _) ⟨wr.heap.size,0,none⟩ 1 1 [.int .i64 (i:Int)] rfl rfl (one_newsM _ _ _ _ rfl) (by intro u hu;simp at hu;subst hu;rfl) (by decide) (by unfold maxLen;omega) (by omega) (by simp;omega) (wr.heap.size+1) (by simp) ?_;intro g4 c4 y4 hown hgr hli hlt2;have H5:Hid (y4.ownsRow w.heap.size 3 1 (.slice (some ⟨g4,0,none⟩) (m+1) c4) (m+1) (xs.map (Value.int .i64) ++ [.int .i64 (i:Int)])/\(wr.alloc (.cells #[.int .i64 (i:Int)] 3)).grownBy y4 (some gq)):=⟨hown,hgr⟩; clear hown hgr hli hlt2)
    refine⟨⟨i+1,g4,m+1,c4,by omega,by go_num,rfl,by omega,xs ++ [(i:Int)],by simp;exact HX.out.1,by rw[List.map_append];exact H5.out.1,HX.out.2.2.1.yes HC.out,?_⟩,by simp[intOf];omega⟩
    refine (HX.out.2.2.2.trans ((below_alloc wr _).mono hwz)).grown H5.out.2 (by simp;omega) (fun q hq=>?_)
    simp only[Option.some.injEq]at hq
    subst hq
    exact (HX.out.2.1.lt _ rfl).1
  ·have HC:Hid (¬ Pl.isCall code i):=fun q=>hc (HB.out.2 q)
   clear HB
   obtain⟨rfl,rfl⟩:b1=false/\b2=false:=by cases b1 <;> cases b2 <;> simp_all
   clear hc
   go_wp2_with fail
   exact⟨⟨i+1,gq,m,cq,by omega,by go_num,rfl,by omega,xs,HX.out.1,HX.out.2.1,HX.out.2.2.1.no HC.out,HX.out.2.2.2⟩,by simp[intOf];omega⟩
end Go.Proofs.YtcgfgmlfbgbkfaaGreatDoor.W
namespace Go.Proofs.YtcgfgmlfbgbkfaaGreatDoor.Pl
structure Nd where
 k:Int
 m:Int
 n:Int
 s:ByteArray
 kids:List Int
 line:Int
 col:Int
def Nd.cells (x:Nd) (v:W.SV):Array Value:=#[.int .i64 x.k,.int .i64 x.m,.int .i64 x.n,.string x.s,.slice v.a v.len v.cap,.int .i64 x.line,.int .i64 x.col]
def Nd.zero:Nd:=⟨0,0,0,⟨#[]⟩,[],0,0⟩
end Go.Proofs.YtcgfgmlfbgbkfaaGreatDoor.Pl
namespace Go.Proofs.YtcgfgmlfbgbkfaaGreatDoor.W
open Go.RowKit
def NRow (lo:Nat) (w:World) (a:Option Addr) (len cap:Nat) (xs:List Pl.Nd):Prop:=
 (xs.length=len/\∀ x∈xs,x.s.size<=maxLen)/\len<=cap/\cap<=maxLen/\(len=0\/∃ b off,a=some ⟨b,off,none⟩/\lo<=b/\b<w.heap.size/\∀ i,i<len->∃ v:SV,(∀ j,j<7->w.cell? ⟨b,off+i*7+j,none⟩=((xs.getD i Pl.Nd.zero).cells v)[j]?)/\Row .i64 lo w v.a v.len v.cap (xs.getD i Pl.Nd.zero).kids)
theorem NRow.keep {lo:Nat} {w w':World} {a:Option Addr} {len cap:Nat} {xs:List Pl.Nd} (h:NRow lo w a len cap xs) (hb:Below w.heap.size w w'):NRow lo w' a len cap xs:=by
 obtain⟨h1,h2,h3,h4⟩:=h
 refine⟨h1,h2,h3,?_⟩
 rcases h4 with h4 | ⟨b,off,ha,hlo,hlt,hc⟩
 ·exact .inl h4
 ·refine .inr ⟨b,off,ha,hlo,Nat.lt_of_lt_of_le hlt hb.size,fun i hi=>?_⟩
  obtain⟨v,h5,h6⟩:=hc i hi
  exact⟨v,fun j hj=>(hb.cell (p:=⟨b,off+i*7+j,none⟩) hlt).trans (h5 j hj),h6.keep hb⟩
theorem NRow.at {lo:Nat} {w:World} {a:Option Addr} {len cap:Nat} {xs:List Pl.Nd} (h:NRow lo w a len cap xs) {k:Nat} (hk:k<len) :
  ∃ (b off:Nat) (v:SV),a=some ⟨b,off,none⟩/\lo<=b/\b<w.heap.size/\(∀ j,j<7->w.cell? ⟨b,off+k*7+j,none⟩=((xs.getD k Pl.Nd.zero).cells v)[j]?)/\Row .i64 lo w v.a v.len v.cap (xs.getD k Pl.Nd.zero).kids/\(xs.getD k Pl.Nd.zero).s.size<=maxLen:=by
 obtain⟨h1,h2,h3,h4⟩:=h
 rcases h4 with h4 | ⟨b,off,ha,hlo,hlt,hc⟩
 ·omega
 ·obtain⟨v,h5,h6⟩:=hc k hk
  refine⟨b,off,v,ha,hlo,hlt,h5,h6,?_⟩
  rw[List.getD_eq_getElem?_getD,List.getElem?_eq_getElem (by rw[h1.1];exact hk)]
  exact h1.2 _ (List.getElem_mem _)
open Go.RowKit Go.Shelf
attribute [local go_sem] Oper.semAt_some
theorem below_allocB (w:World) (o:Obj):Below w.heap.size w (w.alloc o):=(Below.refl _ _).alloc (Nat.le_refl _) _
theorem alloc_atB (w:World) (o:Obj) (k:Nat) (h:k=w.heap.size):(w.alloc o).heap[k]?=some o:=by subst h;exact World.alloc_heap_new w o
def NRowV (lo:Nat) (w:World) (a:Option Addr) (len cap:Nat) (xs:List Pl.Nd) (V:Nat->SV):Prop:=
 (xs.length=len/\∀ x∈xs,x.s.size<=maxLen)/\len<=cap/\cap<=maxLen/\(len=0\/∃ b off,a=some ⟨b,off,none⟩/\lo<=b/\b<w.heap.size/\∀ i,i<len->(∀ j,j<7->w.cell? ⟨b,off+i*7+j,none⟩=((xs.getD i Pl.Nd.zero).cells (V i))[j]?)/\Row .i64 lo w (V i).a (V i).len (V i).cap (xs.getD i Pl.Nd.zero).kids)
theorem NRowV.row {lo:Nat} {w:World} {a:Option Addr} {len cap:Nat} {xs:List Pl.Nd} {V:Nat->SV} (h:NRowV lo w a len cap xs V):NRow lo w a len cap xs:=by
 obtain⟨h1,h2,h3,h4⟩:=h
 refine⟨h1,h2,h3,?_⟩
 rcases h4 with h4 | ⟨b,off,e,hlo,hb,hc⟩
 ·exact .inl h4
 ·exact .inr ⟨b,off,e,hlo,hb,fun i hi=>⟨V i,hc i hi⟩⟩
theorem NRow.named {lo:Nat} {w:World} {a:Option Addr} {len cap:Nat} {xs:List Pl.Nd} (h:NRow lo w a len cap xs):∃ V,NRowV lo w a len cap xs V:=by
 obtain⟨h1,h2,h3,h4⟩:=h
 rcases h4 with h4 | ⟨b,off,e,hlo,hb,hc⟩
 ·exact⟨fun _=>⟨none,0,0⟩,h1,h2,h3,.inl h4⟩
 ·classical
  refine⟨fun i=>if q:i<len then Classical.choose (hc i q) else ⟨none,0,0⟩,h1,h2,h3,.inr ⟨b,off,e,hlo,hb,fun i hi=>?_⟩⟩
  simp only[dif_pos hi]
  exact Classical.choose_spec (hc i hi)
theorem NRowV.keep {lo:Nat} {w w':World} {a:Option Addr} {len cap:Nat} {xs:List Pl.Nd} {V:Nat->SV} (h:NRowV lo w a len cap xs V) (hb:Below w.heap.size w w'):NRowV lo w' a len cap xs V:=by
 obtain⟨h1,h2,h3,h4⟩:=h
 refine⟨h1,h2,h3,?_⟩
 rcases h4 with h4 | ⟨b,off,ha,hlo,hlt,hc⟩
 ·exact .inl h4
 ·refine .inr ⟨b,off,ha,hlo,Nat.lt_of_lt_of_le hlt hb.size,fun i hi=>?_⟩
  obtain⟨h5,h6⟩:=hc i hi
  exact⟨fun j hj=>(hb.cell (p:=⟨b,off+i*7+j,none⟩) hlt).trans (h5 j hj),h6.keep hb⟩
def qPost (D:Nat) (Wb:World) (I:World->Prop) (Ix:World->Prop):Exit->Act->World->Prop
 | .normal,_,W'=>(∀ b,D<=b->b<D+2->W'.heap[b]?=Wb.heap[b]?)/\I W'
 | .ret,_,W'=>(∀ b,D<=b->b<D+2->W'.heap[b]?=Wb.heap[b]?)/\Ix W'
 | _,_,_=>False
end Go.Proofs.YtcgfgmlfbgbkfaaGreatDoor.W
namespace Go.Proofs.YtcgfgmlfbgbkfaaGreatDoor.Pl
def putsW (ws:List Nat) (ns:List Nat):List Nat:=ns.foldl putW ws
theorem putsW_take (ws ns:List Nat) (j:Nat) (h:j<ns.length):putsW ws (ns.take (j+1))=putW (putsW ws (ns.take j)) (ns.getD j 0):=by
 unfold putsW
 rw[List.take_add_one,List.getElem?_eq_getElem h,List.foldl_append,List.getD_eq_getElem?_getD,List.getElem?_eq_getElem h]
 rfl
theorem putsW_len (ws ns:List Nat):(putsW ws ns).length=ws.length:=by
 unfold putsW
 induction ns generalizing ws with
 | nil=>rfl
 | cons n ns ih=>rw[List.foldl_cons,ih,putW_len]
theorem smallW.puts {ws:List Nat} (h:smallW ws) (ns:List Nat):smallW (putsW ws ns):=by
 unfold putsW
 induction ns generalizing ws with
 | nil=>exact h
 | cons n ns ih=>exact ih (h.put n)
theorem inW_puts (ws ns:List Nat) (m:Nat) (h:∀ n∈ns,n / 64<ws.length):inW (putsW ws ns) m=true↔inW ws m=true\/m∈ns:=by
 unfold putsW
 induction ns generalizing ws with
 | nil=>simp
 | cons n ns ih=>
  rw[List.foldl_cons,ih _ (fun q hq=>by rw[putW_len];exact h q (List.mem_cons_of_mem _ hq)),inW_put _ _ _ (h n (List.mem_cons_self ..))]
  simp[or_assoc]
end Go.Proofs.YtcgfgmlfbgbkfaaGreatDoor.Pl
namespace Go.Proofs.YtcgfgmlfbgbkfaaGreatDoor.W
open Go.RowKit
theorem putS_is {lo lo':Nat} (g k c:Nat) (ws:List Nat) (a:Option Addr) (len cap:Nat) (ns:List Nat) (w:World) (ho:w.ownsRow lo 110 1 (.slice (some ⟨g,0,none⟩) k c) k (Pl.wsV ws)) (hs:Pl.smallW ws) (hk:ws.length=k) (hn:∀ n∈ns,n / 64<k) (hk2:k<=100000) (hr:Row .i64 lo' w a len cap (ns.map fun n:Nat=>(n:Int))) (hne:∀ b off,a=some ⟨b,off,none⟩->b≠g) :
  Calls Tryz.prog 73 #[.slice (some ⟨g,0,none⟩) k c,.slice a len cap] w fun e w'=>(∃ v,e=.returned v)/\w'.ownsRow lo 110 1 (.slice (some ⟨g,0,none⟩) k c) k (Pl.wsV (Pl.putsW ws ns))/\OnlyG g w w':=by
 have hlen:ns.length=len:=by simpa using hr.1
 have hsm:=hr.small
 have HH:Hid (Row .i64 lo' w a len cap (ns.map fun n:Nat=>(n:Int))/\ns.length=len/\(∀ b off,a=some ⟨b,off,none⟩->b≠g)/\∀ n∈ns,n / 64<k):=⟨hr,hlen,hne,hn⟩
 have HO:Hid (w.ownsRow lo 110 1 (.slice (some ⟨g,0,none⟩) k c) k (Pl.wsV ws)/\Pl.smallW ws/\ws.length=k):=⟨ho,hs,hk⟩
 have hlm:(len:Int)<=9223372036854775807:=by first | omega | (simp only at hsm;omega)
 clear hr hne hn ho hs hk hlen hsm
 go_enter Tryz.func73,Tryz.ntmps73
 go_wp2_with fail
 go_loopw [8] (fun t wr=>∃ j:Nat,j<=len/\t=.int .i64 (j:Int)/\Hid (wr.ownsRow lo 110 1 (.slice (some ⟨g,0,none⟩) k c) k (Pl.wsV (Pl.putsW ws (ns.take j)))/\OnlyG g w wr)) (fun t _=>len-(intOf t).toNat)
 case atStart=>exact⟨0,Nat.zero_le _,rfl,HO.out.1,OnlyG.refl _ _⟩
 case round=>
  obtain⟨j,hj,rfl,HR⟩:=hrel
  by_cases hlt:j<len
  rotate_left
  ·have hji:¬ ((j:Int)<(len:Int)):=by omega
   have hje:j=len:=by omega
   have HE:Hid (wr.ownsRow lo 110 1 (.slice (some ⟨g,0,none⟩) k c) k (Pl.wsV (Pl.putsW ws ns))/\OnlyG g w wr):=by
    have:=HR.out
    rw[List.take_of_length_le (by have:=HH.out.2.1;omega)]at this
    exact this
   clear hje
   go_wp2_with fail
   refine bodyPost_end (results_none rfl _ _ _) rfl ?_
   exact⟨⟨_,rfl⟩,HE.out⟩
  have hji:(j:Int)<(len:Int):=by omega
  obtain⟨b,off,rfl,_,hb,hcz⟩:=HH.out.1.2.2.2.2.resolve_left (by omega)
  have hbg:b≠g:=HH.out.2.2.1 b off rfl
  have cz:=(HR.out.2.cell (p:=⟨b,off+j,none⟩) hbg).trans (hcz j hlt)
  obtain⟨n,hnn⟩:∃ n:Nat,n=ns.getD j 0:=⟨_,rfl⟩
  have hjl:j<ns.length:=by have:=HH.out.2.1;omega
  rw[show (ns.map fun n:Nat=>(n:Int)).getD j 0=((ns.getD j 0:Nat):Int) from by simp[List.getD_eq_getElem?_getD,List.getElem?_map,List.getElem?_eq_getElem hjl],<- hnn]at cz
  have hnk:n / 64<k:=by rw[hnn,List.getD_eq_getElem?_getD,List.getElem?_eq_getElem hjl];exact HH.out.2.2.2 _ (List.getElem_mem _)
  have hws:(Pl.putsW ws (ns.take j)).length=k:=(Pl.putsW_len _ _).trans HO.out.2.2
  have hsx:=(HO.out.2.1.puts (ns.take j)) (n / 64)
  obtain⟨W,hW⟩:∃ W,W=Pl.putsW ws (ns.take j):=⟨_,rfl⟩
  have HN:Hid (Pl.putsW ws (ns.take (j+1))=Pl.putW W n):=by rw[hW,hnn];exact Pl.putsW_take ws ns j hjl
  have HR2:Hid (wr.ownsRow lo 110 1 (.slice (some ⟨g,0,none⟩) k c) k (Pl.wsV W)/\OnlyG g w wr):=by rw[hW];exact HR.out
  rw[<- hW]at hws hsx
  have cw:wr.cell? ⟨g,n / 64,none⟩=some (.int .u64 ((W.getD (n / 64) 0:Nat):Int)):=by rw[HR2.out.1.cellAt (n / 64) (by omega)];exact Pl.wsV_at W _ (by omega)
  have fz:∀ q,wr.frozen? ⟨g,q,none⟩=false:=fun q=>HR2.out.1.frozenAt q
  have hd:((n:Int)).tdiv 64=((n / 64:Nat):Int):=by rw[Int.tdiv_eq_ediv_of_nonneg (by omega)];omega
  have hm:((n:Int)).tmod 64=((n % 64:Nat):Int):=by rw[Int.tmod_eq_emod_of_nonneg (by omega)];omega
  obtain⟨x,hx⟩:∃ x:Nat,x=W.getD (n / 64) 0:=⟨_,rfl⟩
  have HS:Hid ((Pl.wsV W).set (n / 64) (.int .u64 ((x ||| 2 ^ (n % 64):Nat):Int))=Pl.wsV (Pl.putW W n)):=by rw[hx];exact Pl.wsV_put W n
  rw[<- hx]at cw hsx
  obtain⟨q,hq⟩:∃ q:Nat,q=n / 64:=⟨_,rfl⟩
  obtain⟨r,hr⟩:∃ r:Nat,r=n % 64:=⟨_,rfl⟩
  rw[<- hq]at cw hd hnk HS
  rw[<- hr]at hm HS
  have hr64:r<64:=by omega
  have fq:=fz q
  have hqk:(q:Int)<(k:Int):=by omega
  obtain⟨p,hp⟩:∃ p:Nat,p=2 ^ r:=⟨_,rfl⟩
  have hp2:p<18446744073709551616:=by
   have e:(2:Nat) ^ r<2 ^ 64:=Nat.pow_lt_pow_right (by decide) hr64
   rw[hp];exact e
  rw[<- hp]at HS
  have hpi:((2:Int) ^ r)=(p:Int):=by rw[hp];simp
  have hsh:IntKind.u64.wrap ((2:Int) ^ r)=(p:Int):=by rw[hpi,IntKind.wrap_u64];omega
  have hor:bits BinOp.or IntKind.u64 (x:Int) (p:Int)=((x ||| p:Nat):Int):=bits_or_u64_nat x p hsx hp2
  have hwq:IntKind.i64.wrap (q:Int)=(q:Int):=by rw[IntKind.wrap_i64];omega
  have hwr:IntKind.i64.wrap (r:Int)=(r:Int):=by rw[IntKind.wrap_i64];omega
  clear hcz hb hnn hws hW hx hq hr HR hlt hjl fz hp hpi
  have HSO:Hid (Value.int .u64 (bits BinOp.or IntKind.u64 (x:Int) (IntKind.u64.wrap ((2:Int) ^ r)))=Value.int .u64 ((x ||| p:Nat):Int)):=by show _=_;rw[hsh,hor]
  clear hsh hor
  have HF:Hid (∀ v,v=Value.int .u64 ((x ||| p:Nat):Int)->(wr.setCell ⟨g,q,none⟩ v).ownsRow lo 110 1 (.slice (some ⟨g,0,none⟩) k c) k (Pl.wsV (Pl.putsW ws (ns.take (j+1))))/\OnlyG g w (wr.setCell ⟨g,q,none⟩ v).drew):=by
   rintro v rfl
   refine⟨?_,(HR2.out.2.trans (OnlyG.setCell _ _ _ _)).drew⟩
   rw[HN.out,<- HS.out]
   exact (HR2.out.1.stored q _).1
  go_upto_region 3 with fail
  go_region
  go_wp2_with fail
  go_roundw
  case rel=>exact⟨j+1,by omega,by go_num,HF.out _ HSO.out⟩
  case measure=>simp[intOf];omega
open Go.RowKit Go.Shelf
attribute [local go_sem] Oper.semAt_some
def SetAt (W:World) (bx g k c:Nat) (ws:List Nat):Prop:=W.cell? ⟨bx,0,none⟩=some (.slice (some ⟨g,0,none⟩) k c)/\(∀ i,i<k->W.cell? ⟨g,i,none⟩=some (.int .u64 ((ws.getD i 0:Nat):Int)))/\TabT W
set_option maxRecDepth 100000 in
theorem runS_is (m bx l:Nat) (hm:1<=m) (g k c:Nat) (ws:List Nat) (hs:Pl.smallW ws) (hk:ws.length=k) (hk2:k<=100000) (J:List Nat->World->Prop) (Jx:World->Prop)
  (hJ:∀ acc W,J acc W->SetAt W bx g k c ws)
  (hY:∀ acc n rest W,acc ++ n :: rest=Pl.allW ws->J acc W->YieldAt Fence.wide (m-1) Tryz.prog l #[.int .i64 ((n:Nat):Int)] W fun e W'=>(e=.returned (.bool true)/\J (acc ++ [n]) W')\/(e=.returned (.bool false)/\Jx W'))
  (W:World) (h0:J [] W):CallsIn Fence.wide m Tryz.prog 97 #[.func (.yield l) #[] #[],.pointer (some ⟨bx,0,none⟩)] W fun e W'=>(∃ v,e=.returned v)/\(J (Pl.allW ws) W'\/Jx W'):=by
 have HY:Hid _:=hY
 have HJ:Hid _:=hJ
 have H0:Hid (J [] W):=h0
 have hc0:=(hJ [] W h0).1
 have HS:Hid (Pl.smallW ws/\ws.length=k):=⟨hs,hk⟩
 have hkm:(k:Int)<=100000:=by omega
 clear hY hJ h0 hs hk
 refine callsIn_of_wp Tryz.func97 rfl trivial ?_ rfl
 simp only[Tryz.ntmps97,List.size_toArray,List.length_cons,List.length_nil,Nat.reduceAdd,Nat.reduceSub,Array.replicate_succ,Array.replicate_zero,List.push_toArray,List.append_toArray,List.nil_append,List.cons_append]
 gi_wp2
 gi_loopw [7] (fun v wr=>∃ (i:Nat) (acc:List Nat),i<=k/\v=.int .i64 (i:Int)/\Hid (J acc wr/\acc ++ Pl.restW ws i=Pl.allW ws)) (fun v _=>k-(intOf v).toNat)
 case atStart=>exact⟨0,[],Nat.zero_le _,rfl,H0.out,by rw[Pl.restW_all];rfl⟩
 case round=>
  obtain⟨i,acc,hi,rfl,HA⟩:=hrel
  by_cases hlt:i<k
  rotate_left
  ·have hii:¬ ((i:Int)<(k:Int)):=by omega
   have HE:Hid (J (Pl.allW ws) wr):=by
    have:=HA.out.2
    rw[Pl.restW_end ws i (by have:=HS.out.2;omega),List.append_nil]at this
    rw[<- this];exact HA.out.1
   clear HY HJ H0 hc0
   gi_wp2
   refine bodyPost_end (results_none rfl _ _ _) rfl ?_
   exact⟨⟨_,rfl⟩,.inl HE.out⟩
  have hii:(i:Int)<(k:Int):=by omega
  have cz:=(HJ.out acc wr HA.out.1).2.1 i hlt
  obtain⟨x0,hx0⟩:∃ x:Nat,x=ws.getD i 0:=⟨_,rfl⟩
  have HX:Hid (x0<18446744073709551616/\J acc wr/\acc ++ (Pl.oneW i x0 ++ Pl.restW ws (i+1))=Pl.allW ws):=by
   refine⟨by rw[hx0];exact HS.out.1 i,HA.out.1,?_⟩
   rw[hx0,<- Pl.restW_step ws i (by have:=HS.out.2;omega)]
   exact HA.out.2
  rw[<- hx0]at cz
  clear hx0 HA
  gi_wp2
  gi_loopw [4] (fun v wr=>∃ (x:Nat) (acc:List Nat),v=.int .u64 (x:Int)/\Hid (x<18446744073709551616/\J acc wr/\acc ++ (Pl.oneW i x ++ Pl.restW ws (i+1))=Pl.allW ws)) (fun v _=>(intOf v).toNat)
  case atStart=>exact⟨x0,acc,rfl,HX⟩
  case round=>
   obtain⟨x,ac,rfl,HB⟩:=hrel
   by_cases hxz:x=0
   ·subst hxz
    have HE:Hid (J ac wr/\ac ++ Pl.restW ws (i+1)=Pl.allW ws):=by
     have:=HB.out.2
     rw[Pl.oneW_zero,List.nil_append]at this
     exact this
    clear HY HJ H0 hc0 HB HX
    gi_wp2
    go_roundw
    case rel=>exact⟨i+1,ac,by omega,by go_num,HE⟩
    case measure=>simp[intOf];omega
   have hxn:((x:Int) != 0)=true:=by simp;omega
   have hx64:x<18446744073709551616:=HB.out.1
   obtain⟨b1,b2,b3,hct⟩:=Pl.ctz_bits x hxz hx64
   have HTZ:Hid (∀ u:World,TabT u->Calls Tryz.prog 98 #[.int .u64 (x:Int)] u fun e w'=>e=.returned (.int .i64 ((Lib.ctz 64 x:Nat):Int))/\w'=u):=fun u hu=>tz_is x hx64 hxz u hu
   have HOS:=Pl.oneW_step i x hxz hx64
   obtain⟨z,hz⟩:∃ z:Nat,z=Lib.ctz 64 x:=⟨_,rfl⟩
   rw[<- hz]at HTZ HOS hct
   obtain⟨n,hn⟩:∃ n:Nat,n=64*i+z:=⟨_,rfl⟩
   have hni:(i:Int)*64+(z:Int)=(n:Int):=by omega
   have hnm:(n:Int)<=10000000:=by omega
   obtain⟨y,hy0⟩:∃ y:Nat,y=x &&& (x-1):=⟨_,rfl⟩
   have hyx:y<x:=by rw[hy0];exact Pl.ctz_and_lt x hxz
   have hsub:IntKind.u64.wrap ((x:Int)-1)=((x-1:Nat):Int):=by rw[IntKind.wrap_u64];omega
   have hand:bits BinOp.and IntKind.u64 (x:Int) ((x-1:Nat):Int)=(y:Int):=by rw[hy0];exact bits_and_u64_nat x (x-1) hx64 (by omega)
   rw[<- hn,<- hy0]at HOS
   have hyy:=HY.out ac n (Pl.oneW i y ++ Pl.restW ws (i+1)) wr (by have:=HB.out.2.2;rw[HOS]at this;exact this) HB.out.2.1
   have HN:Hid ((ac ++ [n]) ++ (Pl.oneW i y ++ Pl.restW ws (i+1))=Pl.allW ws):=by
    have:=HB.out.2.2;rw[HOS]at this
    show (ac ++ [n]) ++ _=_
    rw[List.append_assoc];exact this
   have htab:=(HJ.out ac wr HB.out.2.1).2.2
   have HT:Hid (TabT wr):=htab
   obtain⟨fn,tmps,assign,body,hy,hR⟩:=hyy
   have HR:Hid _:=hR
   have HNI:Hid ((i:Int)*64+(z:Int)=(n:Int)):=hni
   clear hR HY HJ H0 hc0 HX hn hz hy0 htab b1 b2 b3 HOS
   gi_wp2_with (refine⟨trivial,?_⟩; gi_at_call 98;refine (callsIn_wide.2 (HTZ.out _ HT.out)).mono ?_;rintro e u1 ⟨rfl,hu1⟩; rw[hu1];clear hu1 u1)
   refine RoundIn.mono HR.out ?_
   rintro e W3 (⟨rfl,hJ3⟩ | ⟨rfl,hJx3⟩)
   ·have HJ3:Hid (J (ac ++ [n]) W3):=hJ3
    clear hJ3 hy HR
    gi_wp2
    go_roundw
    case rel=>exact⟨y,ac ++ [n],rfl,by omega,HJ3.out,HN.out⟩
    case measure=>simp[intOf];omega
   ·have HJ3:Hid (Jx W3):=hJx3
    clear hJx3 hy HR
    gi_wp2
    refine bodyPost_ret (results_none rfl _ _ _) rfl ?_
    exact⟨⟨_,rfl⟩,.inr HJ3.out⟩
theorem rangeS_is {op:Operand} {ps:Array Tmp} {assign body:Code} {Q:Exit->Act->World->Prop} {a:Act} {w:World} (n bx:Nat) (h1:2<=n)
  (hop:a.eval op=.func (.func 97) #[] #[.pointer (some ⟨bx,0,none⟩)]) (hps:ps.size=1)
  (g k c:Nat) (ws:List Nat) (hs:Pl.smallW ws) (hk:ws.length=k) (hk2:k<=100000)
  (I:List Nat->World->Prop) (Ix:World->Prop)
  (hJ:∀ j W,I j W->SetAt W bx g k c ws)
  (h0:∀ A,Below w.heap.size w A->w.heap.size+2<=A.heap.size->I [] A)
  (hIp:∀ j A l o o',I j A->w.heap.size<=l->l<w.heap.size+2->A.heap[l]?=some o'->o'.isCells=false->I j (A.putObj l o))
  (hIxp:∀ A l o o',Ix A->w.heap.size<=l->l<w.heap.size+2->A.heap[l]?=some o'->o'.isCells=false->Ix (A.putObj l o))
  (Ax:Nat->World->Act->World->Prop)
  (hassign:∀ (l q:Nat) (W:World) (K:Act->World->Prop),(∀ a' W',Below W.heap.size W W'->Ax q W a' W'->K a' W')->
   assign.wpIn (Fence.wide.inRound l) (n-1-1) Tryz.prog (Exit.then K (fun _ _ _=>False)) { tmps:=(ps.zip #[.int .i64 (q:Int)]).foldl (fun t (p,v)=>t.setIfInBounds p v) a.tmps,defers:=[] } W)
  (hbody:∀ (l:Nat) (acc:List Nat) (q:Nat) (rest:List Nat) (W:World) (a':Act) (W1:World) (o:Obj),acc ++ q :: rest=Pl.allW ws->w.heap.size<=l->l<w.heap.size+2->I acc W->(∀ b,w.heap.size<=b->b<w.heap.size+2->∃ o',W.heap[b]?=some o'/\o'.isCells=false)->Below W.heap.size W W1->Ax q W a' W1->
   body.wpIn (Fence.wide.inRound l) (n-1-1) Tryz.prog (qPost w.heap.size (W1.putObj l o) (I (acc ++ [q])) Ix) a' (W1.putObj l o))
  (hdone:∀ W,I (Pl.allW ws) W->W.heap[w.heap.size]?=some (.deferred (some []))->Q .normal { a with defers:={ target:=.collected w.heap.size,args:=#[] } :: a.defers } W)
  (hstop:∀ W,Ix W->W.heap[w.heap.size]?=some (.deferred (some []))->Code.ret.wpIn Fence.wide n Tryz.prog Q { a with defers:={ target:=.collected w.heap.size,args:=#[] } :: a.defers } W) :
  (Code.rangeFunc op ps assign body).wpIn Fence.wide n Tryz.prog Q a w:=by
 refine wpIn_rangeFunc fun fn hfn=>?_
 let r0:Loop:={ state:=.ready,pending:=none,fn:=fn,tmps:=a.tmps,params:=ps,assign:=assign,body:=body,defers:=w.heap.size }
 obtain⟨W1,hW1⟩:∃ W1,(w.alloc (.deferred (some []))).alloc (.loop r0)=W1:=⟨_,rfl⟩
 have hL1:W1.heap[w.heap.size+1]?=some (.loop r0):=hW1 ▸ alloc_atB _ _ _ (by simp)
 have hD1:W1.heap[w.heap.size]?=some (.deferred (some [])):=hW1 ▸ (Below.heap_alloc _ _ _ (by simp)).trans (alloc_atB w _ _ rfl)
 have hB1:Below w.heap.size w W1:=by rw[<- hW1];exact (below_allocB w _).trans ((below_allocB _ _).mono (by simp))
 have hz1:w.heap.size+2<=W1.heap.size:=by have:=(Array.getElem?_eq_some_iff.1 hL1).1;omega
 refine⟨w.heap.size+1,[{ target:=.collected w.heap.size,args:=#[] }],W1,{ target:=.fn (.func 97) #[.pointer (some ⟨bx,0,none⟩)],args:=#[.func (.yield (w.heap.size+1)) #[] #[]] },W1,97,
  #[.func (.yield (w.heap.size+1)) #[] #[]] ++ #[.pointer (some ⟨bx,0,none⟩)],W1,?_,?_,?_,?_,fun _=>by omega,?_⟩
 ·rw[<- hW1];exact run_enterLoop_outer _ _ _ _ _
 ·simp only[resolve,hop]
  simp[go_sem]
 ·intro f' _;trivial
 ·simp[invoke,go_sem,enters_of Tryz.func97 (by kernel_rfl) rfl]
 refine (runS_is (n-1) bx (w.heap.size+1) (by omega) g k c ws hs hk hk2
  (fun j W=>I j W/\W.heap[w.heap.size+1]?=some (.loop r0)/\W.heap[w.heap.size]?=some (.deferred (some [])))
  (fun W=>Ix W/\W.heap[w.heap.size+1]?=some (.loop { r0 with state:=.done,pending:=some .ret })/\W.heap[w.heap.size]?=some (.deferred (some [])))
  (fun j W h=>hJ j W h.1) ?hY W1 ⟨h0 _ hB1 hz1,hL1,hD1⟩).mono ?post
 case hY=>
  rintro acc q rest W hq ⟨hi,hl,hd⟩
  have z0:w.heap.size+2<=W.heap.size:=by have:=(Array.getElem?_eq_some_iff.1 hl).1;omega
  refine⟨_,_,_,_,run_yield hl (by show 1=ps.size;omega),roundIn_of_wpIn hfn (hassign _ q W _ fun a' W' hb ha=>?_)⟩
  have hl':W'.heap[w.heap.size+1]?=some (.loop r0):=(hb.block _ (by omega)).trans hl
  have hd':W'.heap[w.heap.size]?=some (.deferred (some [])):=(hb.block _ (by omega)).trans hd
  refine⟨_,run_beginRound hl' rfl,wpIn_mono (hbody _ acc q rest W a' W' _ hq (by omega) (by omega) hi (fun b hb1 hb2=>by rcases (show b=w.heap.size\/b=w.heap.size+1 by omega) with rfl | rfl;exact⟨_,hd,rfl⟩; exact⟨_,hl,rfl⟩) hb ha) ?_⟩
  have zW':w.heap.size+2<=W'.heap.size:=Nat.le_trans z0 hb.size
  have hl2:(W'.putObj (w.heap.size+1) (.loop { r0 with state:=.busy })).heap[w.heap.size+1]?=some (.loop { r0 with state:=.busy }):=World.putObj_heap_same (by omega)
  have hd2:(W'.putObj (w.heap.size+1) (.loop { r0 with state:=.busy })).heap[w.heap.size]?=some (.deferred (some [])):=(World.putObj_heap_other (by omega)).trans hd'
  rintro e a3 W3 hp
  cases e with
  | normal=>
   obtain⟨k1,hi3⟩:=hp
   have hl3:=(k1 (w.heap.size+1) (by omega) (by omega)).trans hl2
   have hd3:=(k1 w.heap.size (by omega) (by omega)).trans hd2
   exact⟨_,_,run_endRound none hl3,.inl ⟨rfl,hIp _ _ _ _ _ hi3 (by omega) (by omega) hl3 rfl,World.putObj_heap_same (Array.getElem?_eq_some_iff.1 hl3).1,(World.putObj_heap_other (by omega)).trans hd3⟩⟩
  | ret=>
   obtain⟨k1,hi3⟩:=hp
   have hl3:=(k1 (w.heap.size+1) (by omega) (by omega)).trans hl2
   have hd3:=(k1 w.heap.size (by omega) (by omega)).trans hd2
   exact⟨_,_,run_endRound (some .ret) hl3,.inr ⟨rfl,hIxp _ _ _ _ hi3 (by omega) (by omega) hl3 rfl,World.putObj_heap_same (Array.getElem?_eq_some_iff.1 hl3).1,(World.putObj_heap_other (by omega)).trans hd3⟩⟩
  | exit id=>exact hp.elim
  | goto t=>exact hp.elim
  | panic ch=>exact hp.elim
  | outgrown=>exact hp.elim
 case post=>
  rintro e W2 ⟨⟨v,rfl⟩,(⟨hi,hl,hd⟩ | ⟨hi,hl,hd⟩)⟩
  ·exact⟨_,_,run_endLoop hl (show LoopState.ready≠LoopState.busy by decide),hdone _ (hIp _ _ _ _ _ hi (by omega) (by omega) hl rfl) ((World.putObj_heap_other (by omega)).trans hd)⟩
  ·exact⟨_,_,run_endLoop hl (show LoopState.done≠LoopState.busy by decide),hstop _ (hIxp _ _ _ _ hi (by omega) (by omega) hl rfl) ((World.putObj_heap_other (by omega)).trans hd)⟩
attribute [local go_sem] Oper.semAt_some
def mark (D:Nat):Deferred:={ target:=.collected D,args:=#[] }
structure Sh (lo:Nat) (w w':World):Prop where
 os:w'.os=w.os
 tape:w'.tape=w.tape
 output:w'.output=w.output
 size:w'.heap.size=w.heap.size
 block:∀ b,(b<lo\/∃ cs t fr,w.heap[b]?=some (.cells cs t fr))->w'.heap[b]?=w.heap[b]?
theorem Sh.refl (lo:Nat) (w:World):Sh lo w w:=⟨rfl,rfl,rfl,rfl,fun _ _=>rfl⟩
theorem leaves_marks {F:Fence} {n:Nat} {P:Program} {fn:Func} {tmps:Array Value} {R:Ending->World->Prop} {lo:Nat}:∀ (Ds:List Nat) (w:World),Ds.Nodup->(∀ D∈Ds,lo<=D/\w.heap[D]?=some (.deferred (some [])))->(∀ w',Sh lo w w'->∃ v,(results fn tmps).run P w'=.ok v w'/\R (.returned v) w')->LeavesInM F n P fn tmps R (Ds.map mark) .returning w
 | [],w,_,_,h=>h w (Sh.refl _ _)
 | D :: Ds,w,hn,hd,h=>by
  obtain⟨hn1,hn2⟩:=List.nodup_cons.1 hn
  have hD:=hd D (List.mem_cons_self)
  refine⟨by simp,.inl ⟨D,_,rfl,run_takeDeferred hD.2,?_⟩⟩
  refine leaves_marks Ds _ hn2 (fun E hE=>⟨(hd E (List.mem_cons_of_mem _ hE)).1,?_⟩) fun w' hs=>h w' ?_
  ·rw[World.putObj_heap_other (by rintro rfl;exact hn1 hE)]
   exact (hd E (List.mem_cons_of_mem _ hE)).2
  ·have hz:(w.putObj D (.deferred none)).heap.size=w.heap.size:=by simp[World.putObj]
   refine⟨hs.os,hs.tape,hs.output,hs.size.trans hz,fun b hb=>?_⟩
   have hbD:b≠D:=by
    rintro rfl
    rcases hb with q | ⟨cs,t,fr,q⟩
    ·omega
    ·rw[hD.2]at q;cases q
   rw[hs.block b,World.putObj_heap_other hbD]
   rcases hb with q | ⟨cs,t,fr,q⟩
   ·exact .inl q
   ·exact .inr ⟨cs,t,fr,by rw[World.putObj_heap_other hbD];exact q⟩
theorem putObj_belowB {D l:Nat} {A B:World} (h:Below D A B) (hl:D<=l) (o:Obj):Below D A (B.putObj l o):=
 ⟨h.os,h.tape,h.output,by simpa [World.putObj] using h.size,fun b hb=>(World.putObj_heap_other (by omega)).trans (h.block b hb)⟩
theorem ne_of_kind {W:World} {b l:Nat} {cs:Array Value} {t:TypeId} {fr:Nat × Nat} {o':Obj} (h:W.heap[b]?=some (.cells cs t fr)) (ho:W.heap[l]?=some o') (hc:o'.isCells=false):b≠l:=by
 rintro rfl
 rw[h]at ho;cases ho;cases hc
theorem SetAt.keep {W W':World} {bx g k c:Nat} {ws:List Nat} (h:SetAt W bx g k c ws) (hb:∀ (p:Addr) (v:Value),W.cell? p=some v->(p.block=bx\/p.block=g\/p.block=0)->W'.cell? p=some v):SetAt W' bx g k c ws:=
 ⟨hb _ _ h.1 (.inl rfl),fun i hi=>hb _ _ (h.2.1 i hi) (.inr (.inl rfl)),fun j hj=>hb _ _ (h.2.2 j hj) (.inr (.inr rfl))⟩
theorem cell_putObj {W:World} {p:Addr} {v:Value} {r:Nat} {o o':Obj} (h:W.cell? p=some v) (ho:W.heap[r]?=some o') (hc:o'.isCells=false):(W.putObj r o).cell? p=some v:=by
 obtain⟨ob,h1,h2⟩:=cells_of_cell h
 have hne:p.block≠r:=fun e=>by rw[e,ho]at h1;cases h1;rw[hc]at h2;cases h2
 rw[<- h]
 simp only[World.cell?,World.putObj_heap_other hne]
theorem SetAt.put {W:World} {bx g k c:Nat} {ws:List Nat} (h:SetAt W bx g k c ws) {r:Nat} {o o':Obj} (ho:W.heap[r]?=some o') (hc:o'.isCells=false):SetAt (W.putObj r o) bx g k c ws:=h.keep fun p v hp _=>cell_putObj hp ho hc
theorem SetAt.later {W W':World} {bx g k c:Nat} {ws:List Nat} (h:SetAt W bx g k c ws) (hb:Below W.heap.size W W'):SetAt W' bx g k c ws:=h.keep fun p v hp _=>(hb.cell (block_lt_of_cell hp)).trans hp
end Go.Proofs.YtcgfgmlfbgbkfaaGreatDoor.W
namespace Go.Proofs.YtcgfgmlfbgbkfaaGreatDoor.Pl
def firstW (ws:List Nat) (d:Int):Int:=match allW ws with | []=>d | q :: _=>(q:Int)
end Go.Proofs.YtcgfgmlfbgbkfaaGreatDoor.Pl
namespace Go.Proofs.YtcgfgmlfbgbkfaaGreatDoor.W
open Go.RowKit Go.Shelf
attribute [local go_sem] Oper.semAt_some
structure FI (w:World) (d:Int) (g k c:Nat) (ws:List Nat) (A:World):Prop where
 bel:Below w.heap.size w A
 res:A.heap[w.heap.size]?=some (.cells #[.int .i64 d] 108 (0,0))
 st:SetAt A (w.heap.size+1) g k c ws
theorem FI.put {w:World} {d:Int} {g k c:Nat} {ws:List Nat} {A:World} (h:FI w d g k c ws A) {r:Nat} {o o':Obj} (hr:w.heap.size<=r) (ho:A.heap[r]?=some o') (hc:o'.isCells=false):FI w d g k c ws (A.putObj r o):=
 ⟨putObj_belowB h.bel hr _,(World.putObj_heap_other (ne_of_kind h.res ho hc)).trans h.res,h.st.put ho hc⟩
def FX (w:World) (z:Int) (A:World):Prop:=Below w.heap.size w A/\A.heap[w.heap.size]?=some (.cells #[.int .i64 z] 108 (0,0))
theorem FX.put {w:World} {z:Int} {A:World} (h:FX w z A) {r:Nat} {o o':Obj} (hr:w.heap.size<=r) (ho:A.heap[r]?=some o') (hc:o'.isCells=false):FX w z (A.putObj r o):=
 ⟨putObj_belowB h.1 hr _,(World.putObj_heap_other (ne_of_kind h.2 ho hc)).trans h.2⟩
theorem shS_below {w W W':World} (hb:Below w.heap.size w W) (hs:Sh w.heap.size W W'):Below w.heap.size w W':=⟨hs.os.trans hb.os,hs.tape.trans hb.tape,hs.output.trans hb.output,by rw[hs.size];exact hb.size,fun k hk=>(hs.block k (.inl hk)).trans (hb.block k hk)⟩
theorem load_oneS (w:World) (b:Nat) (v:Value) (h:w.cell? ⟨b,0,none⟩=some v):(loadVar 108 ⟨b,0,none⟩).run Tryz.prog w=.ok v w:=by
 simp[loadVar,go_sem,Tryz.underlying108,h]
theorem results_cellS {fn:Func} {p:Tmp} (h:fn.results=#[.cell p 108]) (tmps:Array Value) (w:World) (b0:Nat) (v0:Value)
  (hp:tmps.getD p undef=.pointer (some ⟨b0,0,none⟩)) (h0:w.cell? ⟨b0,0,none⟩=some v0) :
  (results fn tmps).run Tryz.prog w=.ok v0 w:=by
 have hp':tmps[p]?.getD undef=.pointer (some ⟨b0,0,none⟩):=by simpa using hp
 simp[results,h,hp',asAddr,load_oneS w b0 v0 h0]
theorem FX.res {w W W':World} {fn:Func} {p:Tmp} {tmps:Array Value} {z:Int} (h:FX w z W) (hf:fn.results=#[.cell p 108]) (ht:tmps.getD p undef=.pointer (some ⟨w.heap.size,0,none⟩)) (hs:Sh w.heap.size W W'):∃ v,(results fn tmps).run Tryz.prog W'=.ok v W'/\Ending.returned v=.returned (.int .i64 z)/\Below w.heap.size w W':=
 ⟨_,results_cellS hf _ _ _ _ ht (cell_of_row W' w.heap.size 0 _ 108 (0,0) ((hs.block _ (.inr ⟨_,_,_,h.2⟩)).trans h.2)),rfl,shS_below h.1 hs⟩
set_option maxRecDepth 100000 in
theorem first_is {lo:Nat} (g k c:Nat) (ws:List Nat) (hs:Pl.smallW ws) (hk:ws.length=k) (hk2:k<=1000) (d:Int) (w:World) (ho:w.ownsRow lo 110 1 (.slice (some ⟨g,0,none⟩) k c) k (Pl.wsV ws)) (hT:TabT w) (hTl:0<w.heap.size) :
  Calls Tryz.prog 74 #[.slice (some ⟨g,0,none⟩) k c,.int .i64 d] w fun e w'=>e=.returned (.int .i64 (Pl.firstW ws d))/\Below w.heap.size w w':=by
 have H0:Hid (Pl.smallW ws/\ws.length=k):=⟨hs,hk⟩
 obtain⟨V,hV⟩:∃ V,V=(w.alloc (.cells #[.int .i64 0] 108)).alloc (.cells #[.slice (some ⟨g,0,none⟩) k c] 105):=⟨_,rfl⟩
 have hVz:V.heap.size=w.heap.size+2:=by rw[hV];simp
 have HFI:Hid (∀ A,Below V.heap.size V A->FI w 0 g k c ws A):=fun A hA=>by
  have hg:=(ho.lt g rfl).2
  have b1:Below w.heap.size w V:=by rw[hV];exact (below_alloc w _).trans ((below_alloc _ _).mono (by simp))
  have b2:Below w.heap.size w A:=b1.trans (hA.mono b1.size)
  refine⟨b2,?_,?_,fun i hi=>?_,hT.keep hTl b2⟩
  ·rw[hA.block _ (by omega),hV]
   exact ((below_alloc _ _).block _ (by simp)).trans (heap_alloc_new w _)
  ·rw[hA.cell (p:=⟨w.heap.size+1,0,none⟩) (show w.heap.size+1<V.heap.size by omega),hV]
   have:=cell_of_row _ (w.alloc (.cells #[.int .i64 0] 108)).heap.size 0 _ 105 (0,0) (heap_alloc_new (w.alloc (.cells #[.int .i64 0] 108)) (.cells #[.slice (some ⟨g,0,none⟩) k c] 105))
   simp at this
   simp
  ·rw[b2.cell (p:=⟨g,i,none⟩) hg,ho.cellAt i (by omega)];exact Pl.wsV_at ws _ (by omega)
 have HVZ:Hid (V.heap.size=w.heap.size+2):=hVz
 clear hs hk ho hT hTl hVz
 refine (callsIn_wide (n:=4)).1 ?_
 refine callsIn_of_wp_marks Tryz.func74 rfl trivial ?_ rfl
 simp only[Tryz.ntmps74,List.size_toArray,List.length_cons,List.length_nil,Nat.reduceAdd,Nat.reduceSub,Array.replicate_succ,Array.replicate_zero,List.push_toArray,List.append_toArray,List.nil_append,List.cons_append]
 gi_wp2_with (refine⟨trivial,?_⟩; gi_at_call 64;refine (callsIn_wide.2 (allS_is _ _ _ _)).mono ?_;rintro e u3 ⟨rfl,hu3⟩; rw[hu3];clear hu3 u3)
 rw[<- hV]
 clear hV
 refine rangeS_is 4 (w.heap.size+1) (by decide) rfl rfl g k c ws H0.out.1 H0.out.2 (by omega) (fun acc A=>acc=[]/\FI w 0 g k c ws A) (fun A=>∃ q rest,Pl.allW ws=q :: rest/\FX w (q:Int) A) ?hJ ?h0 ?hIp ?hIxp (fun q A a' A'=>a' = { tmps:=#[.slice (some ⟨g,0,none⟩) k c,.int .i64 d,undef,undef,.pointer (some ⟨w.heap.size,0,none⟩),.int .i64 (q:Int),.slice (some ⟨g,0,none⟩) k c,.func (.func 97) #[] #[.pointer (some ⟨w.heap.size+1,0,none⟩)],.int .i64 (q:Int),undef,undef],defers:=[] }/\A'=A) ?hassign ?hbody ?hdone ?hstop
 case hJ=>rintro acc A ⟨_,h⟩; exact h.st
 case h0=>intro A hA _;exact⟨rfl,HFI.out A hA⟩
 case hIp=>rintro acc A r o o' ⟨e,h⟩ h1 h2 h3 h4;exact⟨e,h.put (by have:=HVZ.out;omega) h3 h4⟩
 case hIxp=>rintro A r o o' ⟨q,rest,e,h⟩ h1 h2 h3 h4;exact⟨q,rest,e,h.put (by have:=HVZ.out;omega) h3 h4⟩
 case hassign=>
  intro r q A K hK
  gi_wp2
  exact hK _ _ (Below.refl _ _) ⟨rfl,rfl⟩
 case hbody=>
  rintro r acc q rest A a' A1 o hacc hr1 hr2 ⟨rfl,hfi⟩ hbk hb1 ⟨rfl,rfl⟩
  obtain⟨o',ho',hoc⟩:=hbk r hr1 hr2
  have hU:=hfi.put (o:=o) (by have:=HVZ.out;omega) ho' hoc
  obtain⟨U,hUU⟩:∃ U,U=A1.putObj r o:=⟨_,rfl⟩
  rw[<- hUU]at hU ⊢
  have HU:Hid (FI w 0 g k c ws U/\Pl.allW ws=q :: rest):=⟨hU,hacc.symm⟩
  have t4:U.cell? ⟨w.heap.size,0,none⟩=some (.int .i64 0):=cell_of_row U _ 0 _ 108 (0,0) hU.res
  have f4:U.frozen? ⟨w.heap.size,0,none⟩=false:=frozen_of_row U _ 0 _ 108 hU.res
  clear hfi hbk hb1 ho' hU hUU hacc
  gi_wp2
  refine⟨fun b h1 h2=>heap_setCell_other U ⟨w.heap.size,0,none⟩ b _ (by have:=HVZ.out;show b≠w.heap.size;omega),q,rest,HU.out.2,HU.out.1.bel.setCell (Nat.le_refl _) _,?_⟩
  rw[heap_setCell_same U w.heap.size 0 _ 108 _ HU.out.1.res];rfl
 case hdone=>
  rintro A ⟨e,hfi⟩ hD
  have HA:Hid (FI w 0 g k c ws A/\Pl.allW ws=[]/\A.heap[V.heap.size]?=some (.deferred (some []))):=⟨hfi,e,hD⟩
  have t4:A.cell? ⟨w.heap.size,0,none⟩=some (.int .i64 0):=cell_of_row A _ 0 _ 108 (0,0) hfi.res
  have f4:A.frozen? ⟨w.heap.size,0,none⟩=false:=frozen_of_row A _ 0 _ 108 hfi.res
  have HX:Hid (FX w d (A.setCell ⟨w.heap.size,0,none⟩ (.int .i64 d))):=⟨hfi.bel.setCell (Nat.le_refl _) _,by rw[heap_setCell_same A w.heap.size 0 _ 108 _ hfi.res];rfl⟩
  clear hfi hD e
  gi_wp2
  refine leaves_marks (lo:=w.heap.size) [V.heap.size] _ (by simp) (fun D hD=>?_) fun w' hs=>?_
  ·rw[List.mem_singleton]at hD;subst hD
   have hz:=HVZ.out
   exact⟨by omega,(heap_setCell_other A ⟨w.heap.size,0,none⟩ _ _ (show V.heap.size≠w.heap.size by omega)).trans HA.out.2.2⟩
  ·unfold Pl.firstW
   rw[HA.out.2.1]
   exact HX.out.res (p:=4) rfl rfl hs
 case hstop=>
  rintro A ⟨q,rest,e,hfx⟩ hD
  have HX:Hid (FX w (q:Int) A/\Pl.allW ws=q :: rest/\A.heap[V.heap.size]?=some (.deferred (some []))):=⟨hfx,e,hD⟩
  clear hfx hD e
  gi_wp2
  refine leaves_marks (lo:=w.heap.size) [V.heap.size] _ (by simp) (fun D hD=>?_) fun w' hs=>?_
  ·rw[List.mem_singleton]at hD;subst hD
   have hz:=HVZ.out
   exact⟨by omega,HX.out.2.2⟩
  ·unfold Pl.firstW
   rw[HX.out.2.1]
   exact HX.out.1.res (p:=4) rfl rfl hs
end Go.Proofs.YtcgfgmlfbgbkfaaGreatDoor.W
namespace Go.Proofs.YtcgfgmlfbgbkfaaGreatDoor.Pl
abbrev Ln (x k:Nat):Prop:=0<k/\2 ^ (k-1)<=x/\x<2 ^ k
def atL (l:List Nat) (y:Nat):Nat:=l.getD y 0
theorem Ln.up {s d x y k:Nat} (hd:d=2 ^ s) (hy:y=x / d) (h:Ln y k):Ln x (k+s):=by
 subst hd
 obtain⟨h0,h1,h2⟩:=h
 refine⟨by omega,?_,?_⟩
 ·rw[show k+s-1=(k-1)+s by omega,Nat.pow_add]
  rw[hy,Nat.le_div_iff_mul_le (Nat.two_pow_pos s)]at h1
  exact h1
 ·rw[Nat.pow_add]
  rw[hy,Nat.div_lt_iff_lt_mul (Nat.two_pow_pos s)]at h2
  exact h2
theorem Ln.up32 {x y k:Nat} (hy:y=x / 4294967296) (h:Ln y k):Ln x (k+32):=Ln.up (by decide) hy h
theorem Ln.up16 {x y k:Nat} (hy:y=x / 65536) (h:Ln y k):Ln x (k+16):=Ln.up (by decide) hy h
theorem Ln.up8 {x y k:Nat} (hy:y=x / 256) (h:Ln y k):Ln x (k+8):=Ln.up (by decide) hy h
theorem tab_use {tab:List Nat} {y t:Nat} (hq:atL tab y=t) (hT:∀ y,y<256->y≠0->Ln y (tab.getD y 0)/\tab.getD y 0<=8) (hy:y<256) (h0:y≠0):Ln y t/\t<=8:=by
 subst hq;exact hT y hy h0
end Go.Proofs.YtcgfgmlfbgbkfaaGreatDoor.Pl
namespace Go.Proofs.YtcgfgmlfbgbkfaaGreatDoor.W
open Go.RowKit
theorem bget (s:ByteArray) (y:Nat) (h:y<s.size):(s[y]'h).toNat=Pl.atL (s.data.toList.map UInt8.toNat) y:=by
 unfold Pl.atL
 rw[List.getD_eq_getElem?_getD,List.getElem?_map]
 have:s.data.toList[y]?=some s[y]:=by
  rw[Array.getElem?_toList,Array.getElem?_eq_getElem (by exact h)];rfl
 rw[this];rfl
theorem w64a {t k:Nat} (h:t<=8) (e:k=t):Ending.returned (.int .i64 (wrap64 (wrap64 (t:Int))))=.returned (.int .i64 (k:Int)):=by
 rw[show wrap64 (t:Int)=t by unfold wrap64;omega,show wrap64 (t:Int)=t by unfold wrap64;omega,e]
theorem w64b {t k:Nat} {c:Int} (h:t<=8) (hc:0<=c/\c<=64) (e:(k:Int)=c+t):Ending.returned (.int .i64 (wrap64 (c+wrap64 (t:Int))))=.returned (.int .i64 (k:Int)):=by
 rw[show wrap64 (t:Int)=t by unfold wrap64;omega,show wrap64 (c+(t:Int))=c+t by unfold wrap64;omega,e]
set_option maxRecDepth 100000 in
theorem len64_is (x:Nat) (hx:x<18446744073709551616) (hx0:x≠0) (w:World):Calls Tryz.prog 101 #[.int .u64 (x:Int)] w fun e w'=>(∃ k:Nat,e=.returned (.int .i64 (k:Int))/\Pl.Ln x k)/\w'=w:=by
 by_cases g0:4294967296<=x
 ·have k0:(4294967296:Int)<=(x:Int):=by omega
  obtain⟨y1,hy1⟩:∃ y1:Nat,y1=x / 4294967296:=⟨_,rfl⟩
  have e0:(x:Int) / 4294967296=(y1:Int):=by omega
  have b0:y1<4294967296:=by omega
  have n0:y1≠0:=by omega
  by_cases g1:65536<=y1
  ·have k1:(65536:Int)<=(y1:Int):=by omega
   obtain⟨y2,hy2⟩:∃ y2:Nat,y2=y1 / 65536:=⟨_,rfl⟩
   have e1:(y1:Int) / 65536=(y2:Int):=by omega
   have b1:y2<65536:=by omega
   have n1:y2≠0:=by omega
   by_cases g2:256<=y2
   ·have k2:(256:Int)<=(y2:Int):=by omega
    obtain⟨y3,hy3⟩:∃ y3:Nat,y3=y2 / 256:=⟨_,rfl⟩
    have e2:(y2:Int) / 256=(y3:Int):=by omega
    have b2:y3<256:=by omega
    have n2:y3≠0:=by omega
    have h4:IntKind.u8.wrap (y3:Int)=(y3:Int):=by rw[IntKind.wrap_u8];omega
    have HC:Hid (y1=x / 4294967296/\y2=y1 / 65536/\y3=y2 / 256):=⟨hy1,hy2,hy3⟩
    have HY:Hid (y3<256/\y3≠0):=⟨by omega,by omega⟩
    have hy9:(y3:Int)<256:=by omega
    clear hy1 hy2 hy3 g0 g1 g2 b0 n0 b1 n1 b2 n2 hx hx0
    go_enter Tryz.func101,Tryz.ntmps101
    go_wp2_with fail
    go_ret
    refine⟨?_,rfl⟩
    rw[bget]
    generalize hq:Pl.atL _ _=t
    obtain⟨hL,h8⟩:=Pl.tab_use hq (by decide +kernel) HY.out.1 HY.out.2
    exact⟨t+8+16+32,w64b h8 (by omega) (by omega),(Pl.Ln.up32 HC.out.1 (Pl.Ln.up16 HC.out.2.1 (Pl.Ln.up8 HC.out.2.2 hL)))⟩
   ·have k2:¬ (256:Int)<=(y2:Int):=by omega
    have h4:IntKind.u8.wrap (y2:Int)=(y2:Int):=by rw[IntKind.wrap_u8];omega
    have HC:Hid (y1=x / 4294967296/\y2=y1 / 65536):=⟨hy1,hy2⟩
    have HY:Hid (y2<256/\y2≠0):=⟨by omega,by omega⟩
    have hy9:(y2:Int)<256:=by omega
    clear hy1 hy2 g0 g1 g2 b0 n0 b1 n1 hx hx0
    go_enter Tryz.func101,Tryz.ntmps101
    go_wp2_with fail
    go_ret
    refine⟨?_,rfl⟩
    rw[bget]
    generalize hq:Pl.atL _ _=t
    obtain⟨hL,h8⟩:=Pl.tab_use hq (by decide +kernel) HY.out.1 HY.out.2
    exact⟨t+16+32,w64b h8 (by omega) (by omega),(Pl.Ln.up32 HC.out.1 (Pl.Ln.up16 HC.out.2 hL))⟩
  ·have k1:¬ (65536:Int)<=(y1:Int):=by omega
   by_cases g2:256<=y1
   ·have k2:(256:Int)<=(y1:Int):=by omega
    obtain⟨y3,hy3⟩:∃ y3:Nat,y3=y1 / 256:=⟨_,rfl⟩
    have e2:(y1:Int) / 256=(y3:Int):=by omega
    have b2:y3<256:=by omega
    have n2:y3≠0:=by omega
    have h4:IntKind.u8.wrap (y3:Int)=(y3:Int):=by rw[IntKind.wrap_u8];omega
    have HC:Hid (y1=x / 4294967296/\y3=y1 / 256):=⟨hy1,hy3⟩
    have HY:Hid (y3<256/\y3≠0):=⟨by omega,by omega⟩
    have hy9:(y3:Int)<256:=by omega
    clear hy1 hy3 g0 g1 g2 b0 n0 b2 n2 hx hx0
    go_enter Tryz.func101,Tryz.ntmps101
    go_wp2_with fail
    go_ret
    refine⟨?_,rfl⟩
    rw[bget]
    generalize hq:Pl.atL _ _=t
    obtain⟨hL,h8⟩:=Pl.tab_use hq (by decide +kernel) HY.out.1 HY.out.2
    exact⟨t+8+32,w64b h8 (by omega) (by omega),(Pl.Ln.up32 HC.out.1 (Pl.Ln.up8 HC.out.2 hL))⟩
   ·have k2:¬ (256:Int)<=(y1:Int):=by omega
    have h4:IntKind.u8.wrap (y1:Int)=(y1:Int):=by rw[IntKind.wrap_u8];omega
    have HC:Hid (y1=x / 4294967296):=hy1
    have HY:Hid (y1<256/\y1≠0):=⟨by omega,by omega⟩
    have hy9:(y1:Int)<256:=by omega
    clear hy1 g0 g1 g2 b0 n0 hx hx0
    go_enter Tryz.func101,Tryz.ntmps101
    go_wp2_with fail
    go_ret
    refine⟨?_,rfl⟩
    rw[bget]
    generalize hq:Pl.atL _ _=t
    obtain⟨hL,h8⟩:=Pl.tab_use hq (by decide +kernel) HY.out.1 HY.out.2
    exact⟨t+32,w64b h8 (by omega) (by omega),(Pl.Ln.up32 HC.out hL)⟩
 ·have k0:¬ (4294967296:Int)<=(x:Int):=by omega
  by_cases g1:65536<=x
  ·have k1:(65536:Int)<=(x:Int):=by omega
   obtain⟨y2,hy2⟩:∃ y2:Nat,y2=x / 65536:=⟨_,rfl⟩
   have e1:(x:Int) / 65536=(y2:Int):=by omega
   have b1:y2<65536:=by omega
   have n1:y2≠0:=by omega
   by_cases g2:256<=y2
   ·have k2:(256:Int)<=(y2:Int):=by omega
    obtain⟨y3,hy3⟩:∃ y3:Nat,y3=y2 / 256:=⟨_,rfl⟩
    have e2:(y2:Int) / 256=(y3:Int):=by omega
    have b2:y3<256:=by omega
    have n2:y3≠0:=by omega
    have h4:IntKind.u8.wrap (y3:Int)=(y3:Int):=by rw[IntKind.wrap_u8];omega
    have HC:Hid (y2=x / 65536/\y3=y2 / 256):=⟨hy2,hy3⟩
    have HY:Hid (y3<256/\y3≠0):=⟨by omega,by omega⟩
    have hy9:(y3:Int)<256:=by omega
    clear hy2 hy3 g0 g1 g2 b1 n1 b2 n2 hx hx0
    go_enter Tryz.func101,Tryz.ntmps101
    go_wp2_with fail
    go_ret
    refine⟨?_,rfl⟩
    rw[bget]
    generalize hq:Pl.atL _ _=t
    obtain⟨hL,h8⟩:=Pl.tab_use hq (by decide +kernel) HY.out.1 HY.out.2
    exact⟨t+8+16,w64b h8 (by omega) (by omega),(Pl.Ln.up16 HC.out.1 (Pl.Ln.up8 HC.out.2 hL))⟩
   ·have k2:¬ (256:Int)<=(y2:Int):=by omega
    have h4:IntKind.u8.wrap (y2:Int)=(y2:Int):=by rw[IntKind.wrap_u8];omega
    have HC:Hid (y2=x / 65536):=hy2
    have HY:Hid (y2<256/\y2≠0):=⟨by omega,by omega⟩
    have hy9:(y2:Int)<256:=by omega
    clear hy2 g0 g1 g2 b1 n1 hx hx0
    go_enter Tryz.func101,Tryz.ntmps101
    go_wp2_with fail
    go_ret
    refine⟨?_,rfl⟩
    rw[bget]
    generalize hq:Pl.atL _ _=t
    obtain⟨hL,h8⟩:=Pl.tab_use hq (by decide +kernel) HY.out.1 HY.out.2
    exact⟨t+16,w64b h8 (by omega) (by omega),(Pl.Ln.up16 HC.out hL)⟩
  ·have k1:¬ (65536:Int)<=(x:Int):=by omega
   by_cases g2:256<=x
   ·have k2:(256:Int)<=(x:Int):=by omega
    obtain⟨y3,hy3⟩:∃ y3:Nat,y3=x / 256:=⟨_,rfl⟩
    have e2:(x:Int) / 256=(y3:Int):=by omega
    have b2:y3<256:=by omega
    have n2:y3≠0:=by omega
    have h4:IntKind.u8.wrap (y3:Int)=(y3:Int):=by rw[IntKind.wrap_u8];omega
    have HC:Hid (y3=x / 256):=hy3
    have HY:Hid (y3<256/\y3≠0):=⟨by omega,by omega⟩
    have hy9:(y3:Int)<256:=by omega
    clear hy3 g0 g1 g2 b2 n2 hx hx0
    go_enter Tryz.func101,Tryz.ntmps101
    go_wp2_with fail
    go_ret
    refine⟨?_,rfl⟩
    rw[bget]
    generalize hq:Pl.atL _ _=t
    obtain⟨hL,h8⟩:=Pl.tab_use hq (by decide +kernel) HY.out.1 HY.out.2
    exact⟨t+8,w64b h8 (by omega) (by omega),(Pl.Ln.up8 HC.out hL)⟩
   ·have k2:¬ (256:Int)<=(x:Int):=by omega
    have h4:IntKind.u8.wrap (x:Int)=(x:Int):=by rw[IntKind.wrap_u8];omega
    have HC:Hid (True):=trivial
    have HY:Hid (x<256/\x≠0):=⟨by omega,by omega⟩
    have hy9:(x:Int)<256:=by omega
    clear  g0 g1 g2  hx hx0
    go_enter Tryz.func101,Tryz.ntmps101
    go_wp2_with fail
    go_ret
    refine⟨?_,rfl⟩
    rw[bget]
    generalize hq:Pl.atL _ _=t
    obtain⟨hL,h8⟩:=Pl.tab_use hq (by decide +kernel) HY.out.1 HY.out.2
    exact⟨t,w64a h8 (by omega),hL⟩
end Go.Proofs.YtcgfgmlfbgbkfaaGreatDoor.W
namespace Go.Proofs.YtcgfgmlfbgbkfaaGreatDoor.Pl
def LastW (ws:List Nat) (d z:Int):Prop:=(z=d/\∀ n,inW ws n=false)\/∃ n:Nat,z=(n:Int)/\inW ws n=true/\∀ m,inW ws m=true->m<=n
theorem LastW.none {ws:List Nat} (d:Int) (h:∀ i,i<ws.length->ws.getD i 0=0):LastW ws d d:=by
 refine .inl ⟨rfl,fun n=>?_⟩
 unfold inW
 have:ws.getD (n / 64) 0=0:=by
  by_cases e:n / 64<ws.length
  ·exact h _ e
  ·rw[List.getD_eq_getElem?_getD,List.getElem?_eq_none (by omega)];rfl
 rw[this,Nat.zero_testBit]
theorem LastW.at {ws:List Nat} (d:Int) {i k:Nat} (hi:i<ws.length) (hab:∀ j,i<j->j<ws.length->ws.getD j 0=0) (hsm:ws.getD i 0<18446744073709551616) (hl:Ln (ws.getD i 0) k):LastW ws d ((i:Int)*64+(k:Int)-1):=by
 obtain⟨h0,h1,h2⟩:=hl
 have hk:k<=64:=Nat.le_of_not_lt fun c=>by
  have:2 ^ 64<=2 ^ (k-1):=Nat.pow_le_pow_right (by decide) (by omega)
  have e:(2:Nat) ^ 64=18446744073709551616:=by decide
  omega
 refine .inr ⟨i*64+(k-1),by omega,?_,fun m hm=>?_⟩
 ·unfold inW
  rw[show (i*64+(k-1)) / 64=i by omega,show (i*64+(k-1)) % 64=k-1 by omega]
  exact Nat.testBit_of_two_pow_le_and_two_pow_add_one_gt h1 (by rw[show k-1+1=k by omega];exact h2)
 ·unfold inW at hm
  by_cases e1:m / 64<i
  ·omega
  ·by_cases e2:m / 64=i
   ·rw[e2]at hm
    have h3:=Nat.ge_two_pow_of_testBit hm
    have h4:m % 64<k:=Nat.le_of_not_lt fun c=>by
     have:2 ^ k<=2 ^ (m % 64):=Nat.pow_le_pow_right (by decide) (by omega)
     omega
    omega
   ·exfalso
    have:ws.getD (m / 64) 0=0:=by
     by_cases e:m / 64<ws.length
     ·exact hab _ (by omega) e
     ·rw[List.getD_eq_getElem?_getD,List.getElem?_eq_none (by omega)];rfl
    rw[this,Nat.zero_testBit]at hm
    cases hm
end Go.Proofs.YtcgfgmlfbgbkfaaGreatDoor.Pl
namespace Go.Proofs.YtcgfgmlfbgbkfaaGreatDoor.W
open Go.RowKit Go.Shelf
attribute [local go_sem] Oper.semAt_some
def RowU (W:World) (a:Option Addr) (len cap:Nat) (zs:List Nat):Prop:=∃ gb,a=some ⟨gb,0,none⟩/\∀ i,i<len->W.cell? ⟨gb,i,none⟩=some (.int .u64 ((zs.getD i 0:Nat):Int))
set_option maxRecDepth 100000 in
theorem back_words_is (m bx l:Nat) (hm:1<=m) (a:Option Addr) (len cap:Nat) (zs:List Nat) (hlen:(len:Int)<=9223372036854775807) (J:Nat->World->Prop) (Jx:World->Prop)
  (hJ:∀ j W,J j W->W.cell? ⟨bx,0,none⟩=some (.slice a len cap)/\RowU W a len cap zs)
  (hY:∀ j W,j<len->J j W->YieldAt Fence.wide (m-1) Tryz.prog l #[.int .i64 ((len-1-j:Nat):Int),.int .u64 ((zs.getD (len-1-j) 0:Nat):Int)] W fun e W'=>(e=.returned (.bool true)/\J (j+1) W')\/(e=.returned (.bool false)/\Jx W'))
  (W:World) (h0:J 0 W):CallsIn Fence.wide m Tryz.prog 115 #[.func (.yield l) #[] #[],.pointer (some ⟨bx,0,none⟩)] W fun e W'=>(∃ v,e=.returned v)/\(J len W'\/Jx W'):=by
 have HY:Hid _:=hY
 have HJ:Hid _:=hJ
 have H0:Hid (J 0 W):=h0
 have hc0:=(hJ 0 W h0).1
 clear hY hJ h0
 refine callsIn_of_wp Tryz.func115 rfl trivial ?_ rfl
 simp only[Tryz.ntmps115,List.size_toArray,List.length_cons,List.length_nil,Nat.reduceAdd,Nat.reduceSub,Array.replicate_succ,Array.replicate_zero,List.push_toArray,List.append_toArray,List.nil_append,List.cons_append]
 gi_wp2
 gi_loopw [3] (fun v wr=>∃ j:Nat,j<=len/\v=.int .i64 ((len:Int)-1-(j:Int))/\J j wr) (fun v _=>(intOf v+1).toNat)
 case atStart=>exact⟨0,Nat.zero_le _,by simp,H0.out⟩
 case round=>
  obtain⟨j,hj,rfl,hjw⟩:=hrel
  have HJW:Hid (J j wr):=hjw
  clear hjw
  by_cases hlt:j<len
  ·obtain⟨q,hq⟩:∃ q:Nat,q=len-1-j:=⟨_,rfl⟩
   have hq1:(len:Int)-1-(j:Int)=(q:Int):=by omega
   rw[hq1]
   have HQ:Hid ((len:Int)-1-(j:Int)=(q:Int)):=hq1
   have hql:q<len:=by omega
   have hqi:(q:Int)<(len:Int):=by omega
   have hyy:=HY.out j wr hlt HJW.out
   rw[<- hq]at hyy
   obtain⟨hbx,hrow⟩:=HJ.out j wr HJW.out
   obtain⟨gb,rfl,hcz⟩:=hrow
   have cz:=hcz q hql
   obtain⟨z,hz⟩:∃ z,z=zs.getD q 0:=⟨_,rfl⟩
   rw[<- hz]at cz hyy
   clear hcz hz
   obtain⟨fn,tmps,assign,body,hy,hR⟩:=hyy
   have HR:Hid _:=hR
   clear hR hq hq1 HY HJ H0 hc0
   gi_wp2
   refine RoundIn.mono HR.out ?_
   rintro e W3 (⟨rfl,hJ3⟩ | ⟨rfl,hJx3⟩)
   ·have HJ3:Hid (J (j+1) W3):=hJ3
    clear hJ3 hy HR
    gi_wp2
    go_roundw
    case rel=>exact⟨j+1,by omega,congrArg (Value.int .i64) (by have:=HQ.out;omega),HJ3.out⟩
    case measure=>simp[intOf]
   ·have HJ3:Hid (Jx W3):=hJx3
    clear hJx3 hy HR
    gi_wp2
    refine bodyPost_ret (results_none rfl _ _ _) rfl ?_
    exact⟨⟨_,rfl⟩,.inr HJ3.out⟩
  ·obtain rfl:len=j:=by omega
   obtain⟨d,hd⟩:∃ d:Int,(len:Int)-1-(len:Int)=d:=⟨_,rfl⟩
   rw[hd]
   have hdn:¬ (0:Int)<=d:=by omega
   clear hd HY HJ H0 hc0
   gi_wp2
   refine bodyPost_end (results_none rfl _ _ _) rfl ?_
   exact⟨⟨_,rfl⟩,.inl HJW.out⟩
theorem range_words {op:Operand} {ps:Array Tmp} {assign body:Code} {Q:Exit->Act->World->Prop} {a:Act} {w:World} (n bx:Nat) (h1:2<=n)
  (hop:a.eval op=.func (.func 115) #[] #[.pointer (some ⟨bx,0,none⟩)]) (hps:ps.size=2)
  (ad:Option Addr) (len cap:Nat) (zs:List Nat) (hlen:(len:Int)<=9223372036854775807)
  (I:Nat->World->Prop) (Ix:World->Prop)
  (hJ:∀ j W,I j W->W.cell? ⟨bx,0,none⟩=some (.slice ad len cap)/\RowU W ad len cap zs)
  (h0:∀ A,Below w.heap.size w A->w.heap.size+2<=A.heap.size->I 0 A)
  (hIp:∀ j A l o o',I j A->w.heap.size<=l->l<w.heap.size+2->A.heap[l]?=some o'->o'.isCells=false->I j (A.putObj l o))
  (hIxp:∀ A l o o',Ix A->w.heap.size<=l->l<w.heap.size+2->A.heap[l]?=some o'->o'.isCells=false->Ix (A.putObj l o))
  (Ax:Nat->World->Act->World->Prop)
  (hassign:∀ (l q:Nat) (W:World) (K:Act->World->Prop),(∀ a' W',Below W.heap.size W W'->Ax q W a' W'->K a' W')->
   assign.wpIn (Fence.wide.inRound l) (n-1-1) Tryz.prog (Exit.then K (fun _ _ _=>False)) { tmps:=(ps.zip #[.int .i64 (q:Int),.int .u64 ((zs.getD q 0:Nat):Int)]).foldl (fun t (p,v)=>t.setIfInBounds p v) a.tmps,defers:=[] } W)
  (hbody:∀ (l j:Nat) (W:World) (a':Act) (W1:World) (o:Obj),j<len->w.heap.size<=l->l<w.heap.size+2->I j W->(∀ b,w.heap.size<=b->b<w.heap.size+2->∃ o',W.heap[b]?=some o'/\o'.isCells=false)->Below W.heap.size W W1->Ax (len-1-j) W a' W1->
   body.wpIn (Fence.wide.inRound l) (n-1-1) Tryz.prog (qPost w.heap.size (W1.putObj l o) (I (j+1)) Ix) a' (W1.putObj l o))
  (hdone:∀ W,I len W->W.heap[w.heap.size]?=some (.deferred (some []))->Q .normal { a with defers:={ target:=.collected w.heap.size,args:=#[] } :: a.defers } W)
  (hstop:∀ W,Ix W->W.heap[w.heap.size]?=some (.deferred (some []))->Code.ret.wpIn Fence.wide n Tryz.prog Q { a with defers:={ target:=.collected w.heap.size,args:=#[] } :: a.defers } W) :
  (Code.rangeFunc op ps assign body).wpIn Fence.wide n Tryz.prog Q a w:=by
 refine wpIn_rangeFunc fun fn hfn=>?_
 let r0:Loop:={ state:=.ready,pending:=none,fn:=fn,tmps:=a.tmps,params:=ps,assign:=assign,body:=body,defers:=w.heap.size }
 obtain⟨W1,hW1⟩:∃ W1,(w.alloc (.deferred (some []))).alloc (.loop r0)=W1:=⟨_,rfl⟩
 have hL1:W1.heap[w.heap.size+1]?=some (.loop r0):=hW1 ▸ alloc_atB _ _ _ (by simp)
 have hD1:W1.heap[w.heap.size]?=some (.deferred (some [])):=hW1 ▸ (Below.heap_alloc _ _ _ (by simp)).trans (alloc_atB w _ _ rfl)
 have hB1:Below w.heap.size w W1:=by rw[<- hW1];exact (below_allocB w _).trans ((below_allocB _ _).mono (by simp))
 have hz1:w.heap.size+2<=W1.heap.size:=by have:=(Array.getElem?_eq_some_iff.1 hL1).1;omega
 refine⟨w.heap.size+1,[{ target:=.collected w.heap.size,args:=#[] }],W1,{ target:=.fn (.func 115) #[.pointer (some ⟨bx,0,none⟩)],args:=#[.func (.yield (w.heap.size+1)) #[] #[]] },W1,115,
  #[.func (.yield (w.heap.size+1)) #[] #[]] ++ #[.pointer (some ⟨bx,0,none⟩)],W1,?_,?_,?_,?_,fun _=>by omega,?_⟩
 ·rw[<- hW1];exact run_enterLoop_outer _ _ _ _ _
 ·simp only[resolve,hop]
  simp[go_sem]
 ·intro f' _;trivial
 ·simp[invoke,go_sem,enters_of Tryz.func115 (by kernel_rfl) rfl]
 refine (back_words_is (n-1) bx (w.heap.size+1) (by omega) ad len cap zs hlen
  (fun j W=>I j W/\W.heap[w.heap.size+1]?=some (.loop r0)/\W.heap[w.heap.size]?=some (.deferred (some [])))
  (fun W=>Ix W/\W.heap[w.heap.size+1]?=some (.loop { r0 with state:=.done,pending:=some .ret })/\W.heap[w.heap.size]?=some (.deferred (some [])))
  (fun j W h=>hJ j W h.1) ?hY W1 ⟨h0 _ hB1 hz1,hL1,hD1⟩).mono ?post
 case hY=>
  rintro j W hj ⟨hi,hl,hd⟩
  have z0:w.heap.size+2<=W.heap.size:=by have:=(Array.getElem?_eq_some_iff.1 hl).1;omega
  refine⟨_,_,_,_,run_yield hl (by show 2=ps.size;omega),roundIn_of_wpIn hfn (hassign _ (len-1-j) W _ fun a' W' hb ha=>?_)⟩
  have hl':W'.heap[w.heap.size+1]?=some (.loop r0):=(hb.block _ (by omega)).trans hl
  have hd':W'.heap[w.heap.size]?=some (.deferred (some [])):=(hb.block _ (by omega)).trans hd
  refine⟨_,run_beginRound hl' rfl,wpIn_mono (hbody _ j W a' W' _ hj (by omega) (by omega) hi (fun b hb1 hb2=>by rcases (show b=w.heap.size\/b=w.heap.size+1 by omega) with rfl | rfl;exact⟨_,hd,rfl⟩; exact⟨_,hl,rfl⟩) hb ha) ?_⟩
  have zW':w.heap.size+2<=W'.heap.size:=Nat.le_trans z0 hb.size
  have hl2:(W'.putObj (w.heap.size+1) (.loop { r0 with state:=.busy })).heap[w.heap.size+1]?=some (.loop { r0 with state:=.busy }):=World.putObj_heap_same (by omega)
  have hd2:(W'.putObj (w.heap.size+1) (.loop { r0 with state:=.busy })).heap[w.heap.size]?=some (.deferred (some [])):=(World.putObj_heap_other (by omega)).trans hd'
  rintro e a3 W3 hp
  cases e with
  | normal=>
   obtain⟨k1,hi3⟩:=hp
   have hl3:=(k1 (w.heap.size+1) (by omega) (by omega)).trans hl2
   have hd3:=(k1 w.heap.size (by omega) (by omega)).trans hd2
   exact⟨_,_,run_endRound none hl3,.inl ⟨rfl,hIp _ _ _ _ _ hi3 (by omega) (by omega) hl3 rfl,World.putObj_heap_same (Array.getElem?_eq_some_iff.1 hl3).1,(World.putObj_heap_other (by omega)).trans hd3⟩⟩
  | ret=>
   obtain⟨k1,hi3⟩:=hp
   have hl3:=(k1 (w.heap.size+1) (by omega) (by omega)).trans hl2
   have hd3:=(k1 w.heap.size (by omega) (by omega)).trans hd2
   exact⟨_,_,run_endRound (some .ret) hl3,.inr ⟨rfl,hIxp _ _ _ _ hi3 (by omega) (by omega) hl3 rfl,World.putObj_heap_same (Array.getElem?_eq_some_iff.1 hl3).1,(World.putObj_heap_other (by omega)).trans hd3⟩⟩
  | exit id=>exact hp.elim
  | goto t=>exact hp.elim
  | panic ch=>exact hp.elim
  | outgrown=>exact hp.elim
 case post=>
  rintro e W2 ⟨⟨v,rfl⟩,(⟨hi,hl,hd⟩ | ⟨hi,hl,hd⟩)⟩
  ·exact⟨_,_,run_endLoop hl (show LoopState.ready≠LoopState.busy by decide),hdone _ (hIp _ _ _ _ _ hi (by omega) (by omega) hl rfl) ((World.putObj_heap_other (by omega)).trans hd)⟩
  ·exact⟨_,_,run_endLoop hl (show LoopState.done≠LoopState.busy by decide),hstop _ (hIxp _ _ _ _ hi (by omega) (by omega) hl rfl) ((World.putObj_heap_other (by omega)).trans hd)⟩
theorem fx_end {X:Value->Prop} {z:Int} {Y:Prop} {L:Int->Prop} (h:∃ v,X v/\Ending.returned v=.returned (.int .i64 z)/\Y) (hL:L z):∃ v,X v/\∃ z,Ending.returned v=.returned (.int .i64 z)/\L z/\Y:=by
 obtain⟨v,h1,h2,h3⟩:=h
 exact⟨v,h1,z,h2,hL,h3⟩
theorem backS_is (a:Option Addr) (n c:Nat) (w:World):Calls Tryz.prog 100 #[.slice a n c] w fun e w'=>e=.returned (.func (.func 115) #[] #[.pointer (some ⟨w.heap.size,0,none⟩)])/\w'=w.alloc (.cells #[.slice a n c] 105):=by
 go_enter Tryz.func100,Tryz.ntmps100
 go_wp2
 go_ret
 exact⟨rfl,rfl⟩
set_option maxRecDepth 100000 in
theorem last_is {lo:Nat} (g k c:Nat) (ws:List Nat) (hs:Pl.smallW ws) (hk:ws.length=k) (hk2:k<=1000) (d:Int) (w:World) (ho:w.ownsRow lo 110 1 (.slice (some ⟨g,0,none⟩) k c) k (Pl.wsV ws)) (hT:TabT w) (hTl:0<w.heap.size) :
  Calls Tryz.prog 75 #[.slice (some ⟨g,0,none⟩) k c,.int .i64 d] w fun e w'=>∃ z,e=.returned (.int .i64 z)/\Pl.LastW ws d z/\Below w.heap.size w w':=by
 have H0:Hid (Pl.smallW ws/\ws.length=k):=⟨hs,hk⟩
 obtain⟨V,hV⟩:∃ V,V=(w.alloc (.cells #[.int .i64 0] 108)).alloc (.cells #[.slice (some ⟨g,0,none⟩) k c] 105):=⟨_,rfl⟩
 have hVz:V.heap.size=w.heap.size+2:=by rw[hV];simp
 have HFI:Hid (∀ A,Below V.heap.size V A->FI w 0 g k c ws A):=fun A hA=>by
  have hg:=(ho.lt g rfl).2
  have b1:Below w.heap.size w V:=by rw[hV];exact (below_alloc w _).trans ((below_alloc _ _).mono (by simp))
  have b2:Below w.heap.size w A:=b1.trans (hA.mono b1.size)
  refine⟨b2,?_,?_,fun i hi=>?_,hT.keep hTl b2⟩
  ·rw[hA.block _ (by omega),hV]
   exact ((below_alloc _ _).block _ (by simp)).trans (heap_alloc_new w _)
  ·rw[hA.cell (p:=⟨w.heap.size+1,0,none⟩) (show w.heap.size+1<V.heap.size by omega),hV]
   simp
  ·rw[b2.cell (p:=⟨g,i,none⟩) hg,ho.cellAt i (by omega)];exact Pl.wsV_at ws _ (by omega)
 have HVZ:Hid (V.heap.size=w.heap.size+2):=hVz
 clear hs hk ho hT hTl hVz
 refine (callsIn_wide (n:=4)).1 ?_
 refine callsIn_of_wp_marks Tryz.func75 rfl trivial ?_ rfl
 simp only[Tryz.ntmps75,List.size_toArray,List.length_cons,List.length_nil,Nat.reduceAdd,Nat.reduceSub,Array.replicate_succ,Array.replicate_zero,List.push_toArray,List.append_toArray,List.nil_append,List.cons_append]
 gi_wp2_with (refine⟨trivial,?_⟩; gi_at_call 100;refine (callsIn_wide.2 (backS_is _ _ _ _)).mono ?_;rintro e u3 ⟨rfl,hu3⟩; rw[hu3];clear hu3 u3)
 rw[<- hV]
 clear hV
 refine range_words 4 (w.heap.size+1) (by decide) rfl rfl (some ⟨g,0,none⟩) k c ws (by omega) (fun j A=>(∀ i,k-j<=i->i<k->ws.getD i 0=0)/\FI w 0 g k c ws A) (fun A=>∃ z,Pl.LastW ws d z/\FX w z A) ?hJ ?h0 ?hIp ?hIxp (fun q A a' A'=>a' = { tmps:=#[.slice (some ⟨g,0,none⟩) k c,.int .i64 d,undef,undef,.pointer (some ⟨w.heap.size,0,none⟩),.int .i64 (q:Int),.int .u64 ((ws.getD q 0:Nat):Int),.slice (some ⟨g,0,none⟩) k c,.func (.func 115) #[] #[.pointer (some ⟨w.heap.size+1,0,none⟩)],.int .i64 (q:Int),.int .u64 ((ws.getD q 0:Nat):Int),undef,undef,undef,undef,undef,undef,undef,undef,undef],defers:=[] }/\A'=A) ?hassign ?hbody ?hdone ?hstop
 case hJ=>rintro j A ⟨_,h⟩; exact⟨h.st.1,g,rfl,h.st.2.1⟩
 case h0=>intro A hA _;exact⟨fun i h1 h2=>by omega,HFI.out A hA⟩
 case hIp=>rintro acc A r o o' ⟨e,h⟩ h1 h2 h3 h4;exact⟨e,h.put (by have:=HVZ.out;omega) h3 h4⟩
 case hIxp=>rintro A r o o' ⟨z,e,h⟩ h1 h2 h3 h4;exact⟨z,e,h.put (by have:=HVZ.out;omega) h3 h4⟩
 case hassign=>
  intro r q A K hK
  generalize ws.getD q 0=x at hK ⊢
  gi_wp2
  exact hK _ _ (Below.refl _ _) ⟨rfl,rfl⟩
 case hbody=>
  rintro r j A a' A1 o hjk hr1 hr2 ⟨hzz,hfi⟩ hbk hb1 ⟨rfl,rfl⟩
  obtain⟨o',ho',hoc⟩:=hbk r hr1 hr2
  have hU:=hfi.put (o:=o) (by have:=HVZ.out;omega) ho' hoc
  obtain⟨U,hUU⟩:∃ U,U=A1.putObj r o:=⟨_,rfl⟩
  rw[<- hUU]at hU ⊢
  obtain⟨q,hq⟩:∃ q,q=k-1-j:=⟨_,rfl⟩
  rw[<- hq]
  obtain⟨x,hx⟩:∃ x,x=ws.getD q 0:=⟨_,rfl⟩
  rw[<- hx]
  have HU:Hid (FI w 0 g k c ws U/\(∀ i,q<i->i<k->ws.getD i 0=0)/\x=ws.getD q 0):=⟨hU,fun i h1 h2=>hzz i (by omega) h2,hx⟩
  have t4:U.cell? ⟨w.heap.size,0,none⟩=some (.int .i64 0):=cell_of_row U _ 0 _ 108 (0,0) hU.res
  have f4:U.frozen? ⟨w.heap.size,0,none⟩=false:=frozen_of_row U _ 0 _ 108 hU.res
  have hqk:q<k:=by omega
  have hq9:(q:Int)<=1000:=by omega
  have HQJ:Hid (k-(j+1)=q):=by show _=_;omega
  have hxs:x<18446744073709551616:=by rw[hx];exact H0.out.1 q
  clear hfi hbk hb1 ho' hU hUU hzz hq hx
  by_cases hx0:x=0
  ·have hxb:((x:Int) != 0)=false:=by simp[hx0]
   have HE:Hid (∀ b:Nat,(∀ i,k-(j+1)<=i->i<k->ws.getD i 0=0)/\FI w 0 g k c ws U):=fun _=>⟨fun i h1 h2=>by
    have:=HQJ.out
    by_cases e:i=q
    ·rw[e,<- HU.out.2.2,hx0]
    ·exact HU.out.2.1 i (by omega) h2,HU.out.1⟩
   clear hx0
   gi_wp2
   exact⟨fun b h1 h2=>rfl,HE.out 0⟩
  ·have hxb:((x:Int) != 0)=true:=by simp[hx0]
   have HLN:Hid (∀ u:World,Calls Tryz.prog 101 #[.int .u64 (x:Int)] u fun e w'=>(∃ k:Nat,e=.returned (.int .i64 (k:Int))/\Pl.Ln x k/\k<=64)/\w'=u):=fun u=>(len64_is x hxs hx0 u).mono fun e w' h=>⟨by
    obtain⟨⟨k,e1,e2⟩,_⟩:=h
    refine⟨k,e1,e2,Nat.le_of_not_lt fun c=>?_⟩
    have:2 ^ 64<=2 ^ (k-1):=Nat.pow_le_pow_right (by decide) (by omega)
    have e:(2:Nat) ^ 64=18446744073709551616:=by decide
    have:=e2.2.1
    omega,h.2⟩
   clear hx0
   gi_wp2
   refine⟨trivial,?_⟩
   refine (((callsIn_wide (n:=1)).2 (HLN.out _)).inRound r).mono ?_
   rintro e u3 ⟨⟨kk,rfl,hkk,hk64⟩,hu3⟩
   rw[hu3]
   clear hu3 u3
   have HKK:Hid (Pl.Ln x kk):=hkk
   have hk65:(kk:Int)<=64:=by omega
   clear hkk
   gi_wp2
   refine⟨fun b h1 h2=>heap_setCell_other U ⟨w.heap.size,0,none⟩ b _ (by have:=HVZ.out;show b≠w.heap.size;omega),(q:Int)*64+(kk:Int)-1,?_,HU.out.1.bel.setCell (Nat.le_refl _) _,?_⟩
   rotate_left
   ·rw[heap_setCell_same U w.heap.size 0 _ 108 _ HU.out.1.res];rfl
   ·have e:=HU.out.2.2
    exact Pl.LastW.at d (by have:=H0.out.2;omega) (fun i h1 h2=>HU.out.2.1 i h1 (by have:=H0.out.2;omega)) (by rw[<- e];exact hxs) (by rw[<- e];exact HKK.out)
 case hdone=>
  rintro A ⟨e,hfi⟩ hD
  have HA:Hid (FI w 0 g k c ws A/\Pl.LastW ws d d/\A.heap[V.heap.size]?=some (.deferred (some []))):=⟨hfi,Pl.LastW.none d (fun i hi=>e i (by omega) (by have:=H0.out.2;omega)),hD⟩
  have t4:A.cell? ⟨w.heap.size,0,none⟩=some (.int .i64 0):=cell_of_row A _ 0 _ 108 (0,0) hfi.res
  have f4:A.frozen? ⟨w.heap.size,0,none⟩=false:=frozen_of_row A _ 0 _ 108 hfi.res
  have HX:Hid (FX w d (A.setCell ⟨w.heap.size,0,none⟩ (.int .i64 d))):=⟨hfi.bel.setCell (Nat.le_refl _) _,by rw[heap_setCell_same A w.heap.size 0 _ 108 _ hfi.res];rfl⟩
  clear hfi hD e
  gi_wp2
  refine leaves_marks (lo:=w.heap.size) [V.heap.size] _ (by simp) (fun D hD=>?_) fun w' hs=>?_
  ·rw[List.mem_singleton]at hD;subst hD
   have hz:=HVZ.out
   exact⟨by omega,(heap_setCell_other A ⟨w.heap.size,0,none⟩ _ _ (show V.heap.size≠w.heap.size by omega)).trans HA.out.2.2⟩
  ·exact fx_end (HX.out.res (p:=4) rfl rfl hs) HA.out.2.1
 case hstop=>
  rintro A ⟨z,e,hfx⟩ hD
  have HX:Hid (FX w z A/\Pl.LastW ws d z/\A.heap[V.heap.size]?=some (.deferred (some []))):=⟨hfx,e,hD⟩
  clear hfx hD e
  gi_wp2
  refine leaves_marks (lo:=w.heap.size) [V.heap.size] _ (by simp) (fun D hD=>?_) fun w' hs=>?_
  ·rw[List.mem_singleton]at hD;subst hD
   have hz:=HVZ.out
   exact⟨by omega,HX.out.2.2⟩
  ·exact fx_end (HX.out.1.res (p:=4) rfl rfl hs) HX.out.2.1
open Go.RowKit
structure Gd where
 A:Nat->Option Addr
 C:Nat->Nat
 N:Nat->List Int
def Gd.L (d:Gd):Nat->List Value:=fun i=>(d.N i).map (Value.int .i64)
def Gd.V (d:Gd) (i:Nat):Value:=.slice (d.A i) (d.L i).length (d.C i)
def Gd.put (d:Gd) (i:Nat) (g c:Nat) (x:Int):Gd:=⟨upd d.A i (some ⟨g,0,none⟩),upd d.C i c,upd d.N i (d.N i ++ [x])⟩
theorem Gd.put_L (d:Gd) (i g c:Nat) (x:Int):(d.put i g c x).L=upd d.L i (d.L i ++ [.int .i64 x]):=by
 funext j
 unfold Gd.L Gd.put
 by_cases e:j=i
 ·subst e;simp[upd_at]
 ·simp[upd_ne e]
def newT (T:Nat->Nat) (z t:Nat):Nat->Nat:=fun g=>if g<z then T g else t
theorem newT_old {T:Nat->Nat} {z t g:Nat} (h:g<z):newT T z t g=T g:=if_pos h
theorem newT_new {T:Nat->Nat} {z t g:Nat} (h:z<=g):newT T z t g=t:=if_neg (by omega)
def LvC (gb gs gu gt n R:Nat):Array Value:=#[.slice (some ⟨gb,0,none⟩) n n,.slice (some ⟨gs,0,none⟩) n n,.slice (some ⟨gu,0,none⟩) R R,.slice (some ⟨gt,0,none⟩) R R]
structure Lv (W0 w:World) (gl gb gs gu gt n R:Nat) (B U S:Gd) (ss:List Int) (T:Nat->Nat):Prop where
 bel:Below W0.heap.size W0 w
 glo:W0.heap.size<=gl
 box:w.heap[gl]?=some (.cells (LvC gb gs gu gt n R) 122 (0,0))
 tb:T gl=0
 rb:Rw 119 108 W0.heap.size w gb n n B.A B.C B.L T 1
 ru:Rw 119 108 W0.heap.size w gu R R U.A U.C U.L T 3
 rt:Rw 119 108 W0.heap.size w gt R R S.A S.C S.L T 5
 sl:w.ownsRow W0.heap.size 3 1 (.slice (some ⟨gs,0,none⟩) n n) n (ss.map (Value.int .i64))
 ts:T gs=7
 sn:ss.length=n
section
variable {W0 w:World} {gl gb gs gu gt n R:Nat} {B U S:Gd} {ss:List Int} {T:Nat->Nat}
theorem Lv.later {w':World} (h:Lv W0 w gl gb gs gu gt n R B U S ss T) (hb:Below w.heap.size w w'):Lv W0 w' gl gb gs gu gt n R B U S ss T:=
 ⟨h.bel.trans (hb.mono h.bel.size),h.glo,(hb.block _ (Array.getElem?_eq_some_iff.1 h.box).1).trans h.box,h.tb,h.rb.later hb,h.ru.later hb,h.rt.later hb,own_eqL h.sl fun g hg=>hb.block g (h.sl.lt g hg).2,h.ts,h.sn⟩
theorem Lv.cell (h:Lv W0 w gl gb gs gu gt n R B U S ss T) (j:Nat):w.cell? ⟨gl,j,none⟩=(LvC gb gs gu gt n R)[j]?:=cell_of_row w gl j _ 122 (0,0) h.box
theorem Lv.gl_lt (h:Lv W0 w gl gb gs gu gt n R B U S ss T):gl<w.heap.size:=(Array.getElem?_eq_some_iff.1 h.box).1
theorem Lv.setS (h:Lv W0 w gl gb gs gu gt n R B U S ss T) {i:Nat} (hi:i<n) (r:Int):Lv W0 (w.setCell ⟨gs,i,none⟩ (.int .i64 r)) gl gb gs gu gt n R B U S (ss.set i r) T:=by
 have hgs:=h.sl.lt gs rfl
 have ho:∀ g,g≠gs->(w.setCell ⟨gs,i,none⟩ (.int .i64 r)).heap[g]?=w.heap[g]?:=fun g hg=>heap_setCell_other w ⟨gs,i,none⟩ g _ hg
 have hne:∀ g t,T g=t->t≠7->g≠gs:=fun g t h1 h2 e=>by rw[e,h.ts]at h1;omega
 have hrw:∀ {go k:Nat} {A:Nat->Option Addr} {C:Nat->Nat} {L:Nat->List Value} {t:Nat},Rw 119 108 W0.heap.size w go k k A C L T t->t≠7->t+1≠7->Rw 119 108 W0.heap.size (w.setCell ⟨gs,i,none⟩ (.int .i64 r)) go k k A C L T t:=fun q h1 h2=>q.kept (fun g hg hT=>ho g (by rcases hT with e | e;exact hne g _ e h1;exact hne g _ e h2)) fun _ _=>rfl
 refine⟨h.bel.setCell hgs.1 _,h.glo,(ho gl (hne gl 0 h.tb (by decide))).trans h.box,h.tb,hrw h.rb (by decide) (by decide),hrw h.ru (by decide) (by decide),hrw h.rt (by decide) (by decide),?_,h.ts,by simpa using h.sn⟩
 have:=(h.sl.stored i (.int .i64 r)).1
 rw[List.map_set];exact this
theorem Lv.app_b (h:Lv W0 w gl gb gs gu gt n R B U S ss T) {i:Nat} (hi:i<n) {w1 y:World} (hb1:Below w.heap.size w w1) {g' c':Nat} {x:Int} (hown:y.ownsRow W0.heap.size 108 1 (.slice (some ⟨g',0,none⟩) ((B.L i).length+1) c') ((B.L i).length+1) (B.L i ++ [.int .i64 x])) (hgr:w1.grownBy y (B.V i).ownBlock) (hli:(B.V i).ownBlock=some g'\/w.heap.size<=g'):Lv W0 (y.setCell ⟨gb,i,none⟩ (.slice (some ⟨g',0,none⟩) ((B.L i).length+1) c')) gl gb gs gu gt n R (B.put i g' c' x) U S ss (newT T w.heap.size 2):=by
 have hy:∀ g,g<w.heap.size->(Value.slice (B.A i) (B.L i).length (B.C i)).ownBlock≠some g->y.heap[g]?=w.heap[g]?:=fun g hg hne=>by
  rw[hgr.block g (Nat.lt_of_lt_of_le hg hb1.size) (fun e=>hne e.symm)]
  exact hb1.block g hg
 have hT:∀ g,g<w.heap.size->newT T w.heap.size 2 g=T g:=fun g hg=>newT_old hg
 have hlen:(B.L i ++ [Value.int .i64 x]).length=(B.L i).length+1:=by simp
 have hgo:=h.rb.oo.lt gb rfl
 have key:=h.rb.repl hi (a:=some ⟨g',0,none⟩) (c:=c') (l:=B.L i ++ [.int .i64 x]) hy (by rw[hlen];exact hown) (fun g hg=>by
  have e:g'=g:=by simpa [Value.ownBlock] using hg
  rw[<- e];exact hli) hT (fun g hg=>newT_new hg)
 rw[hlen]at key
 have far:∀ g,g<w.heap.size->T g≠1->T g≠2->(y.setCell ⟨gb,i,none⟩ (.slice (some ⟨g',0,none⟩) ((B.L i).length+1) c')).heap[g]?=w.heap[g]?:=fun g hg h1 h2=>h.rb.repl_far hi hy hg h1 h2
 have hrw:∀ {go2 k2:Nat} {A:Nat->Option Addr} {C:Nat->Nat} {L:Nat->List Value} {t:Nat},Rw 119 108 W0.heap.size w go2 k2 k2 A C L T t->t≠1->t≠2->t+1≠1->t+1≠2->Rw 119 108 W0.heap.size (y.setCell ⟨gb,i,none⟩ (.slice (some ⟨g',0,none⟩) ((B.L i).length+1) c')) go2 k2 k2 A C L (newT T w.heap.size 2) t:=fun q h1 h2 h3 h4=>q.kept (fun g hg hTg=>far g hg (by omega) (by omega)) hT
 have hgl:=h.gl_lt
 have hgs:=h.sl.lt gs rfl
 have hbel:Below W0.heap.size W0 y:=(h.bel.trans (hb1.mono h.bel.size)).grown hgr (Nat.le_trans h.bel.size hb1.size) (fun q hq=>((h.rb.nr i hi).lt q hq).1)
 refine⟨hbel.setCell hgo.1 _,h.glo,(far gl hgl (by rw[h.tb];decide) (by rw[h.tb];decide)).trans h.box,(hT gl hgl).trans h.tb,?_,?_,?_,own_eqL h.sl fun g hg=>?_,(hT gs hgs.2).trans h.ts,h.sn⟩
 ·rw[Gd.put_L];exact key
 ·exact hrw h.ru (by decide) (by decide) (by decide) (by decide)
 ·exact hrw h.rt (by decide) (by decide) (by decide) (by decide)
 ·simp only[Value.ownBlock,Option.some.injEq]at hg
  subst hg
  exact far gs hgs.2 (by rw[h.ts];decide) (by rw[h.ts];decide)
theorem Lv.app_u (h:Lv W0 w gl gb gs gu gt n R B U S ss T) {i:Nat} (hi:i<R) {w1 y:World} (hb1:Below w.heap.size w w1) {g' c':Nat} {x:Int} (hown:y.ownsRow W0.heap.size 108 1 (.slice (some ⟨g',0,none⟩) ((U.L i).length+1) c') ((U.L i).length+1) (U.L i ++ [.int .i64 x])) (hgr:w1.grownBy y (U.V i).ownBlock) (hli:(U.V i).ownBlock=some g'\/w.heap.size<=g'):Lv W0 (y.setCell ⟨gu,i,none⟩ (.slice (some ⟨g',0,none⟩) ((U.L i).length+1) c')) gl gb gs gu gt n R B (U.put i g' c' x) S ss (newT T w.heap.size 4):=by
 have hy:∀ g,g<w.heap.size->(Value.slice (U.A i) (U.L i).length (U.C i)).ownBlock≠some g->y.heap[g]?=w.heap[g]?:=fun g hg hne=>by
  rw[hgr.block g (Nat.lt_of_lt_of_le hg hb1.size) (fun e=>hne e.symm)]
  exact hb1.block g hg
 have hT:∀ g,g<w.heap.size->newT T w.heap.size 4 g=T g:=fun g hg=>newT_old hg
 have hlen:(U.L i ++ [Value.int .i64 x]).length=(U.L i).length+1:=by simp
 have hgo:=h.ru.oo.lt gu rfl
 have key:=h.ru.repl hi (a:=some ⟨g',0,none⟩) (c:=c') (l:=U.L i ++ [.int .i64 x]) hy (by rw[hlen];exact hown) (fun g hg=>by
  have e:g'=g:=by simpa [Value.ownBlock] using hg
  rw[<- e];exact hli) hT (fun g hg=>newT_new hg)
 rw[hlen]at key
 have far:∀ g,g<w.heap.size->T g≠3->T g≠4->(y.setCell ⟨gu,i,none⟩ (.slice (some ⟨g',0,none⟩) ((U.L i).length+1) c')).heap[g]?=w.heap[g]?:=fun g hg h1 h2=>h.ru.repl_far hi hy hg h1 h2
 have hrw:∀ {go2 k2:Nat} {A:Nat->Option Addr} {C:Nat->Nat} {L:Nat->List Value} {t:Nat},Rw 119 108 W0.heap.size w go2 k2 k2 A C L T t->t≠3->t≠4->t+1≠3->t+1≠4->Rw 119 108 W0.heap.size (y.setCell ⟨gu,i,none⟩ (.slice (some ⟨g',0,none⟩) ((U.L i).length+1) c')) go2 k2 k2 A C L (newT T w.heap.size 4) t:=fun q h1 h2 h3 h4=>q.kept (fun g hg hTg=>far g hg (by omega) (by omega)) hT
 have hgl:=h.gl_lt
 have hgs:=h.sl.lt gs rfl
 have hbel:Below W0.heap.size W0 y:=(h.bel.trans (hb1.mono h.bel.size)).grown hgr (Nat.le_trans h.bel.size hb1.size) (fun q hq=>((h.ru.nr i hi).lt q hq).1)
 refine⟨hbel.setCell hgo.1 _,h.glo,(far gl hgl (by rw[h.tb];decide) (by rw[h.tb];decide)).trans h.box,(hT gl hgl).trans h.tb,?_,?_,?_,own_eqL h.sl fun g hg=>?_,(hT gs hgs.2).trans h.ts,h.sn⟩
 ·exact hrw h.rb (by decide) (by decide) (by decide) (by decide)
 ·rw[Gd.put_L];exact key
 ·exact hrw h.rt (by decide) (by decide) (by decide) (by decide)
 ·simp only[Value.ownBlock,Option.some.injEq]at hg
  subst hg
  exact far gs hgs.2 (by rw[h.ts];decide) (by rw[h.ts];decide)
theorem Lv.app_t (h:Lv W0 w gl gb gs gu gt n R B U S ss T) {i:Nat} (hi:i<R) {w1 y:World} (hb1:Below w.heap.size w w1) {g' c':Nat} {x:Int} (hown:y.ownsRow W0.heap.size 108 1 (.slice (some ⟨g',0,none⟩) ((S.L i).length+1) c') ((S.L i).length+1) (S.L i ++ [.int .i64 x])) (hgr:w1.grownBy y (S.V i).ownBlock) (hli:(S.V i).ownBlock=some g'\/w.heap.size<=g'):Lv W0 (y.setCell ⟨gt,i,none⟩ (.slice (some ⟨g',0,none⟩) ((S.L i).length+1) c')) gl gb gs gu gt n R B U (S.put i g' c' x) ss (newT T w.heap.size 6):=by
 have hy:∀ g,g<w.heap.size->(Value.slice (S.A i) (S.L i).length (S.C i)).ownBlock≠some g->y.heap[g]?=w.heap[g]?:=fun g hg hne=>by
  rw[hgr.block g (Nat.lt_of_lt_of_le hg hb1.size) (fun e=>hne e.symm)]
  exact hb1.block g hg
 have hT:∀ g,g<w.heap.size->newT T w.heap.size 6 g=T g:=fun g hg=>newT_old hg
 have hlen:(S.L i ++ [Value.int .i64 x]).length=(S.L i).length+1:=by simp
 have hgo:=h.rt.oo.lt gt rfl
 have key:=h.rt.repl hi (a:=some ⟨g',0,none⟩) (c:=c') (l:=S.L i ++ [.int .i64 x]) hy (by rw[hlen];exact hown) (fun g hg=>by
  have e:g'=g:=by simpa [Value.ownBlock] using hg
  rw[<- e];exact hli) hT (fun g hg=>newT_new hg)
 rw[hlen]at key
 have far:∀ g,g<w.heap.size->T g≠5->T g≠6->(y.setCell ⟨gt,i,none⟩ (.slice (some ⟨g',0,none⟩) ((S.L i).length+1) c')).heap[g]?=w.heap[g]?:=fun g hg h1 h2=>h.rt.repl_far hi hy hg h1 h2
 have hrw:∀ {go2 k2:Nat} {A:Nat->Option Addr} {C:Nat->Nat} {L:Nat->List Value} {t:Nat},Rw 119 108 W0.heap.size w go2 k2 k2 A C L T t->t≠5->t≠6->t+1≠5->t+1≠6->Rw 119 108 W0.heap.size (y.setCell ⟨gt,i,none⟩ (.slice (some ⟨g',0,none⟩) ((S.L i).length+1) c')) go2 k2 k2 A C L (newT T w.heap.size 6) t:=fun q h1 h2 h3 h4=>q.kept (fun g hg hTg=>far g hg (by omega) (by omega)) hT
 have hgl:=h.gl_lt
 have hgs:=h.sl.lt gs rfl
 have hbel:Below W0.heap.size W0 y:=(h.bel.trans (hb1.mono h.bel.size)).grown hgr (Nat.le_trans h.bel.size hb1.size) (fun q hq=>((h.rt.nr i hi).lt q hq).1)
 refine⟨hbel.setCell hgo.1 _,h.glo,(far gl hgl (by rw[h.tb];decide) (by rw[h.tb];decide)).trans h.box,(hT gl hgl).trans h.tb,?_,?_,?_,own_eqL h.sl fun g hg=>?_,(hT gs hgs.2).trans h.ts,h.sn⟩
 ·exact hrw h.rb (by decide) (by decide) (by decide) (by decide)
 ·exact hrw h.ru (by decide) (by decide) (by decide) (by decide)
 ·rw[Gd.put_L];exact key
 ·simp only[Value.ownBlock,Option.some.injEq]at hg
  subst hg
  exact far gs hgs.2 (by rw[h.ts];decide) (by rw[h.ts];decide)
theorem Lv.far_b (h:Lv W0 w gl gb gs gu gt n R B U S ss T) {i:Nat} (hi:i<n) {w1 y:World} (hb1:Below w.heap.size w w1) (hgr:w1.grownBy y (B.V i).ownBlock) {v:Value} {g:Nat} (hg:g<w.heap.size) (h9:T g=9):(y.setCell ⟨gb,i,none⟩ v).heap[g]?=w.heap[g]?:=by
 refine h.rb.repl_far hi (fun g hg hne=>?_) hg (by rw[h9];decide) (by rw[h9];decide)
 rw[hgr.block g (Nat.lt_of_lt_of_le hg hb1.size) (fun e=>hne e.symm)]
 exact hb1.block g hg
theorem Lv.far_u (h:Lv W0 w gl gb gs gu gt n R B U S ss T) {i:Nat} (hi:i<R) {w1 y:World} (hb1:Below w.heap.size w w1) (hgr:w1.grownBy y (U.V i).ownBlock) {v:Value} {g:Nat} (hg:g<w.heap.size) (h9:T g=9):(y.setCell ⟨gu,i,none⟩ v).heap[g]?=w.heap[g]?:=by
 refine h.ru.repl_far hi (fun g hg hne=>?_) hg (by rw[h9];decide) (by rw[h9];decide)
 rw[hgr.block g (Nat.lt_of_lt_of_le hg hb1.size) (fun e=>hne e.symm)]
 exact hb1.block g hg
theorem Lv.far_t (h:Lv W0 w gl gb gs gu gt n R B U S ss T) {i:Nat} (hi:i<R) {w1 y:World} (hb1:Below w.heap.size w w1) (hgr:w1.grownBy y (S.V i).ownBlock) {v:Value} {g:Nat} (hg:g<w.heap.size) (h9:T g=9):(y.setCell ⟨gt,i,none⟩ v).heap[g]?=w.heap[g]?:=by
 refine h.rt.repl_far hi (fun g hg hne=>?_) hg (by rw[h9];decide) (by rw[h9];decide)
 rw[hgr.block g (Nat.lt_of_lt_of_le hg hb1.size) (fun e=>hne e.symm)]
 exact hb1.block g hg
def Kp (T T':Nat->Nat) (y y':World):Prop:=y.heap.size<=y'.heap.size/\∀ g,g<y.heap.size->T' g=T g/\(T g=9->y'.heap[g]?=y.heap[g]?)
theorem Lv.tag {T':Nat->Nat} (h:Lv W0 w gl gb gs gu gt n R B U S ss T) (hT:∀ g,g<w.heap.size->T' g=T g):Lv W0 w gl gb gs gu gt n R B U S ss T':=
 ⟨h.bel,h.glo,h.box,(hT _ h.gl_lt).trans h.tb,h.rb.kept (fun _ _ _=>rfl) hT,h.ru.kept (fun _ _ _=>rfl) hT,h.rt.kept (fun _ _ _=>rfl) hT,h.sl,(hT _ (h.sl.lt gs rfl).2).trans h.ts,h.sn⟩
end
end Go.Proofs.YtcgfgmlfbgbkfaaGreatDoor.W
