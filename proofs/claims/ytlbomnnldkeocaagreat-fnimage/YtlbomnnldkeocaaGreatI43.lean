import Derived.Test.YtlbomnnldkeocaaGreatI42
import Derived.Sort.MapsRangeIn
import Derived.Sort.KeysCollected
import Derived.RangeFuncGives
import Derived.RangeFuncNested
import Derived.RangeFuncBound
import Derived.RangeFuncCalls
import Derived.RangeFuncLeaves
import Derived.Shelf.Abstract
import Derived.Shelf.RegionOpen
import Derived.WalkKit
import Derived.OwnWalkIn
import Derived.TacticsInMore
import Derived.LoopNIn
import Derived.LoopIn
import Derived.Deep.AppendLies
import Derived.Shelf.SlGeneric
import Derived.Shelf.SlSortCmp.Whole1
import Derived.Shelf.SlSortCmp.NoneTotal
import Derived.Ground.SlsfProg
import Derived.Test.YtlbomnnldkeocaaGreatProg
import Derived.Test.YtlbomnnldkeocaaGreatI23
import Derived.OrdersIn
set_option linter.unusedVariables false
set_option linter.unusedSimpArgs false
set_option maxHeartbeats 16000000
namespace Go.Proofs.YtlbomnnldkeocaaGreat.W
open Go.RowKit Go.Maps Go.WideMaps
structure KQ (u:World) (g p:Nat):Prop where
 c:u.cell? ⟨g,0,none⟩=some (.pointer (some ⟨p,0,none⟩))
theorem KQ.keep {u u':World} {g p:Nat} (h:KQ u g p) (hb:Below u.heap.size u u'):KQ u' g p:=⟨aF hb h.c⟩
variable {lo:Nat} {xs:List Pl.Ln} {w u u':World} {ga gm:Nat} {a:Option Addr} {len cap:Nat} {stack:Int} {ec:Pl.kV} {B:Nat} {mb:Nat->Nat} {d:Nat->Bool} {ad:Nat->Int}
structure kH (lo:Nat) (xs:List Pl.Ln) (w u:World) (ga gm:Nat) (a:Option Addr) (len cap:Nat) (stack:Int) (ec:Pl.kV) (B:Nat) (mb:Nat->Nat) (d:Nat->Bool) (ad:Nat->Int):Prop where
 am:xG lo xs w u ga gm a len cap stack ec
 lm:rX xs B u gm len mb d ad
 hB:w.heap.size<=B
 vI:ga<B
 n:len<=20000
theorem kH.keep (h:kH lo xs w u ga gm a len cap stack ec B mb d ad) (hb:Below u.heap.size u u'):kH lo xs w u' ga gm a len cap stack ec B mb d ad:=⟨h.am.keep hb,h.lm.keep hb,h.hB,h.vI,h.n⟩
theorem kH.sD (h:kH lo xs w u ga gm a len cap stack ec B mb d ad):xs.length=len:=h.am.ln.len.1
theorem kH.look (h:kH lo xs w u ga gm a len cap stack ec B mb d ad) {s:ByteArray} (hs:s.size<=maxLen):(Instr.lookup 67 (.map (some gm)) (.string s) false).run Tryz.prog u=.ok (.pointer (match Pl.lb xs s with | none=>none | some i=>some ⟨mb i,0,none⟩)) u:=by
 have:=h.lm.look hs
 rw[<- h.sD,Pl.UB]at this
 exact this
theorem kH.mark (h:kH lo xs w u ga gm a len cap stack ec B mb d ad) {s:ByteArray} {i:Nat} (hl:Pl.lb xs s=some i):u.cell? ⟨mb i,0,none⟩=some (.int .i64 (i:Nat))/\u.cell? ⟨mb i,1,none⟩=some (.bool (d i))/\u.cell? ⟨mb i,2,none⟩=some (.int .i64 (ad i)):=by
 obtain⟨h1,h2,_,_⟩:=Pl.lS.1 hl
 rw[h.sD]at h1
 have hr:=(h.lm.yU i h1 h2).2
 exact⟨cell_of_row _ _ 0 _ 117 (0,0) hr,cell_of_row _ _ 1 _ 117 (0,0) hr,cell_of_row _ _ 2 _ 117 (0,0) hr⟩
theorem GL (x:Pl.Ln) (gb:Nat) (h:kH lo xs w u ga gm a len cap stack ec B mb d ad) (hb:KQ u gb ga) (hs:x.s.size<=maxLen):Calls Tryz.prog 78 #[.agg #[.int .i64 x.k,.int .i64 x.op,.int .i64 x.rd,.int .i64 x.r1,.int .i64 x.r2,.int .i64 x.im,.string x.s,.int .i64 x.n],.pointer (some ⟨gb,0,none⟩)] u fun e u'=>e=.returned (.bool (decide (x.s≠⟨#[]⟩) && decide (Pl.lb xs x.s=none)))/\Below u.heap.size u u':=by
 have HU:Hid (∀ o n,kH lo xs w ((u.alloc o).drewN n) ga gm a len cap stack ec B mb d ad/\Below u.heap.size u ((u.alloc o).drewN n)):=fun o n=>⟨(h.keep (aB u o)).keep (below_drewN (Below.refl _ _) n),below_drewN (aB u o) n⟩
 have hbx:∀ o,(u.alloc o).cell? ⟨gb,0,none⟩=some (.pointer (some ⟨ga,0,none⟩)):=fun o=>(hb.keep (aB u o)).c
 have hm2:∀ o,(u.alloc o).cell? ⟨ga,2,none⟩=some (.map (some gm)):=fun o=>(h.am.keep (aB u o)).cell 2
 have kU:∀ o n,(Instr.lookup 67 (.map (some gm)) (.string x.s) false).run Tryz.prog ((u.alloc o).drewN n)=.ok (.pointer (match Pl.lb xs x.s with | none=>none | some i=>some ⟨mb i,0,none⟩)) ((u.alloc o).drewN n):=fun o n=>(HU.out o n).1.look hs
 have Ng:Hid (decide (x.s=⟨#[]⟩)=x.s.toList.isEmpty):=Pl.jU x.s
 clear h hb
 cases se:x.s.toList.isEmpty
 ·have sI:Hid (decide (x.s=⟨#[]⟩)=false):=by show _=_;rw[Ng.out,se]
  cases hl:Pl.lb xs x.s with
  | none=>
   rw[hl]at kU
   go_enter Tryz.func78,Tryz.ntmps78
   go_upto_region 1 with fail
   have q1:=hbx (.cells #[.int .i64 x.k,.int .i64 x.op,.int .i64 x.rd,.int .i64 x.r1,.int .i64 x.r2,.int .i64 x.im,.string x.s,.int .i64 x.n] 51);have q2:=hm2 (.cells #[.int .i64 x.k,.int .i64 x.op,.int .i64 x.rd,.int .i64 x.r1,.int .i64 x.r2,.int .i64 x.im,.string x.s,.int .i64 x.n] 51);have q3:=kU (.cells #[.int .i64 x.k,.int .i64 x.op,.int .i64 x.rd,.int .i64 x.r1,.int .i64 x.r2,.int .i64 x.im,.string x.s,.int .i64 x.n] 51);have q6:(u.alloc (.cells #[.int .i64 x.k,.int .i64 x.op,.int .i64 x.rd,.int .i64 x.r1,.int .i64 x.r2,.int .i64 x.im,.string x.s,.int .i64 x.n] 51)).cell? ⟨u.heap.size,6,none⟩=some (.string x.s):=cell_of_row _ _ 6 _ 51 (0,0) (heap_alloc_new u _)
   have HQ:Hid (∀ n,Below u.heap.size u ((u.alloc (.cells #[.int .i64 x.k,.int .i64 x.op,.int .i64 x.rd,.int .i64 x.r1,.int .i64 x.r2,.int .i64 x.im,.string x.s,.int .i64 x.n] 51)).drewN n)):=fun n=>(HU.out _ n).2
   clear hbx hm2 kU hl
   generalize u.alloc (.cells #[.int .i64 x.k,.int .i64 x.op,.int .i64 x.rd,.int .i64 x.r1,.int .i64 x.r2,.int .i64 x.im,.string x.s,.int .i64 x.n] 51)=W1 at *
   go_quiet (fail)
   go_wp2_with fail
   go_ret
   refine⟨aI ?_,HQ.out _⟩
   have h0:¬ x.s=⟨#[]⟩:=of_decide_eq_false sI.out
   simp[h0]
  | some i=>
   rw[hl]at kU
   go_enter Tryz.func78,Tryz.ntmps78
   go_upto_region 1 with fail
   have q1:=hbx (.cells #[.int .i64 x.k,.int .i64 x.op,.int .i64 x.rd,.int .i64 x.r1,.int .i64 x.r2,.int .i64 x.im,.string x.s,.int .i64 x.n] 51);have q2:=hm2 (.cells #[.int .i64 x.k,.int .i64 x.op,.int .i64 x.rd,.int .i64 x.r1,.int .i64 x.r2,.int .i64 x.im,.string x.s,.int .i64 x.n] 51);have q3:=kU (.cells #[.int .i64 x.k,.int .i64 x.op,.int .i64 x.rd,.int .i64 x.r1,.int .i64 x.r2,.int .i64 x.im,.string x.s,.int .i64 x.n] 51);have q6:(u.alloc (.cells #[.int .i64 x.k,.int .i64 x.op,.int .i64 x.rd,.int .i64 x.r1,.int .i64 x.r2,.int .i64 x.im,.string x.s,.int .i64 x.n] 51)).cell? ⟨u.heap.size,6,none⟩=some (.string x.s):=cell_of_row _ _ 6 _ 51 (0,0) (heap_alloc_new u _)
   have HQ:Hid (∀ n,Below u.heap.size u ((u.alloc (.cells #[.int .i64 x.k,.int .i64 x.op,.int .i64 x.rd,.int .i64 x.r1,.int .i64 x.r2,.int .i64 x.im,.string x.s,.int .i64 x.n] 51)).drewN n)):=fun n=>(HU.out _ n).2
   clear hbx hm2 kU hl
   generalize u.alloc (.cells #[.int .i64 x.k,.int .i64 x.op,.int .i64 x.rd,.int .i64 x.r1,.int .i64 x.r2,.int .i64 x.im,.string x.s,.int .i64 x.n] 51)=W1 at *
   go_quiet (fail)
   go_wp2_with fail
   go_ret
   refine⟨aI ?_,HQ.out _⟩
   simp
 ·have sI:Hid (decide (x.s=⟨#[]⟩)=true):=by show _=_;rw[Ng.out,se]
  go_enter Tryz.func78,Tryz.ntmps78
  go_upto_region 1 with fail
  have q6:(u.alloc (.cells #[.int .i64 x.k,.int .i64 x.op,.int .i64 x.rd,.int .i64 x.r1,.int .i64 x.r2,.int .i64 x.im,.string x.s,.int .i64 x.n] 51)).cell? ⟨u.heap.size,6,none⟩=some (.string x.s):=cell_of_row _ _ 6 _ 51 (0,0) (heap_alloc_new u _)
  have HQ:Hid (∀ n,Below u.heap.size u ((u.alloc (.cells #[.int .i64 x.k,.int .i64 x.op,.int .i64 x.rd,.int .i64 x.r1,.int .i64 x.r2,.int .i64 x.im,.string x.s,.int .i64 x.n] 51)).drewN n)):=fun n=>(HU.out _ n).2
  clear hbx hm2 kU
  generalize u.alloc (.cells #[.int .i64 x.k,.int .i64 x.op,.int .i64 x.rd,.int .i64 x.r1,.int .i64 x.r2,.int .i64 x.im,.string x.s,.int .i64 x.n] 51)=W1 at *
  go_quiet (fail)
  go_wp2_with fail
  go_ret
  refine⟨aI ?_,HQ.out _⟩
  have h0:x.s=⟨#[]⟩:=of_decide_eq_true sI.out
  simp[h0]
theorem AA (h:kH lo xs w u ga gm a len cap stack ec B mb d ad):Calls Tryz.prog 32 #[.pointer (some ⟨ga,0,none⟩)] u fun e u'=>e=.returned (.int .i64 (Pl.aV (Pl.lost xs) len))/\Below u.heap.size u u':=by
 have hm0:∀ o,(u.alloc o).cell? ⟨ga,0,none⟩=some (.slice a len cap):=fun o=>(h.am.keep (aB u o)).cell 0
 have HX:Hid (∀ o,o=.cells #[.pointer (some ⟨ga,0,none⟩)] 112->Calls Tryz.prog 71 #[.slice a len cap,.func (.func 78) #[] #[.pointer (some ⟨u.heap.size,0,none⟩)]] (u.alloc o) fun e w'=>e=.returned (.int .i64 (Pl.aV (Pl.lost xs) len))/\Below u.heap.size u w'):=fun o ho=>by
  have hbx:KQ (u.alloc o) u.heap.size ga:=⟨by rw[ho];exact cell_of_row _ _ 0 _ _ (0,0) (heap_alloc_new u _)⟩
  have hA:=h.keep (aB u o)
  refine (wB a len cap xs _ (u.alloc o) (Pl.lost xs) (fun k v=>Below (u.alloc o).heap.size (u.alloc o) v) (fun k v hv=>(hA.keep hv).am.lines) (Below.refl _ _) (fun k v hk _ hv=>?_)).mono ?_
  ·obtain⟨_,_,_,_,_,hsz,_⟩:=(hA.keep hv).am.lines.at k hk
   refine (GL (Pl.gl xs k) u.heap.size (hA.keep hv) (hbx.keep hv) hsz).mono ?_
   rintro e v' ⟨rfl,h1⟩
   exact⟨rfl,hv.trans (h1.mono hv.size)⟩
  ·rintro e w' ⟨rfl,k,_,hI,_⟩
   exact⟨rfl,Below.trans (aB u o) (hI.mono (by simp))⟩
 clear h
 go_enter Tryz.func32,Tryz.ntmps32
 go_wp2_with (go_at_call 71;refine (HX.out _ rfl).mono ?_;rintro e u1 ⟨rfl,d1⟩)
 go_ret
 exact⟨rfl,d1⟩
end Go.Proofs.YtlbomnnldkeocaaGreat.W
namespace Go.Proofs.YtlbomnnldkeocaaGreat.Pl
def Hm (xs:List Ln) (i:Nat):List UInt8:=(gl xs i).s.data.toList
end Go.Proofs.YtlbomnnldkeocaaGreat.Pl
namespace Go.Proofs.YtlbomnnldkeocaaGreat.W
open Go.RowKit Go.Shelf Go.Maps Go.WideMaps Go.Sort
attribute [local go_sem] Oper.semAt_some
structure Qw (xs:List Pl.Ln) (mb:Nat->Nat) (D:DataW Nat):Prop where
 at_:∀ s:ByteArray,D.atKey (.string s.data.toList) .nil=match Pl.lb xs s with | none=>.nil | some i=>.held (mb i)
 has:∀ s:ByteArray,Maps.has D (.string s.data.toList)=(Pl.lb xs s).isSome
def GM (xs:List Pl.Ln) (acc:List Nat):Prop:=acc.Nodup/\∀ i,i∈acc↔Pl.lb xs (Pl.gl xs i).s=some i
theorem yX (x:List UInt8):(⟨x.toArray⟩:ByteArray).data.toList=x:=rfl
set_option maxRecDepth 100000 in
theorem Nh (n l bx gm nn:Nat) (hn:1<=n) (xs:List Pl.Ln) (mb:Nat->Nat) (D0:DataW Nat) (hD:Qw xs mb D0) (J:List Nat->World->Prop)
  (hY:∀ acc i W,J acc W->acc.length<Maps.size D0->YieldAt Fence.wide (n-1) Tryz.prog l #[.pointer (some ⟨mb i,0,none⟩)] W fun e W'=>e=.returned (.bool true)/\J (acc ++ [i]) W'/\KeepsWalks W W')
  (W:World) (hJ:AbidesFrom W.heap.size J) (hm:W.cell? ⟨bx,0,none⟩=some (.map (some gm))) (hown:W.ownsMap Tryz.prog 9 zZ gm nn D0) (h0:J [] W) :
  CallsIn Fence.wide n Tryz.prog 139 #[.func (.yield l) #[] #[],.pointer (some ⟨bx,0,none⟩)] W fun e W'=>(∃ v,e=.returned v)/\∃ acc,GM xs acc/\J acc W':=by
 have hK:Keyed Tryz.prog 9:=string_keyed Tryz.underlying9
 refine callsIn_of_wp Tryz.func139 rfl trivial ?_ rfl
 simp only[Tryz.ntmps139,List.size_toArray,List.length_cons,List.length_nil,Nat.reduceAdd,Nat.reduceSub,Array.replicate_succ,Array.replicate_zero,List.push_toArray,List.append_toArray,List.nil_append,List.cons_append]
 gi_wp2_with (first
  | (gi_at_range;refine wpListIn_range_own _ rfl _ 67 rfl 9 115 hK Tryz.underlying67 zZ gm nn D0 rfl hown ?_;intro w0 hrg0 hg0 hs0)
  | gi_in)
 go_frame
 gi_loopw [4] (fun _ wr=>∃ (left:Lit->Bool) (cnt:Nat) (acc:List Nat),wr.ranges Tryz.prog 9 zZ gm W.heap.size nn D0 left cnt/\acc.length+cnt<=Maps.size D0/\Collected D0 left (acc.map (Pl.Hm xs))/\(∀ i∈acc,Pl.lb xs (Pl.gl xs i).s=some i)/\J acc wr)
  (fun _ wr=>wr.rangeLeft gm W.heap.size)
 case atStart=>
  exact⟨_,_,[],hrg0,by simp,Collected.start D0,by simp,hJ [] W w0 none h0 hg0 (fun r e=>by cases e)⟩
 case round=>
  obtain⟨left,cnt,acc,hrg,hcs,hC,hV,hJs⟩:=hrel
  gi_wp2_with (first
   | (gi_at_next;refine wpListIn_next_ranges _ rfl _ rfl 9 hK zZ encStr id (fun key kl hk=>by obtain⟨x,hx,_⟩:=Maps.keyOf_str Tryz.underlying9 hk;exact⟨x,hx⟩) (fun v _ _=>⟨v,rfl⟩) gm W.heap.size nn _ _ _ rfl hrg ?_ ?_)
   | gi_in)
  ·intro hc0 hl0
   gi_wp2
   go_end0
   refine⟨⟨_,rfl⟩,acc,⟨?_,fun i=>⟨hV i,fun hi=>?_⟩⟩,hJs⟩
   ·exact (List.pairwise_map.1 hC.1).imp (fun h e=>h (by rw[e]))
   ·have h1:Maps.has D0 (.string (Pl.Hm xs i))=true:=by
     have:=hD.has (Pl.gl xs i).s
     rw[hi]at this
     exact this
    have h2:=(hC.2 (Pl.Hm xs i)).2 ⟨h1,hl0 _⟩
    obtain⟨j,hj,he⟩:=List.mem_map.1 h2
    have h3:=hV j hj
    have h4:(Pl.gl xs j).s=(Pl.gl xs i).s:=Pl.key_inj he
    rw[h4,hi]at h3
    injection h3 with h3
    rw[h3];exact hj
  ·intro x c kl yd yp w2 cnt2 hkey hlk hv hat hrg2 hlt hg2 hs2 hen
   obtain⟨x',ex,rfl,_⟩:=Maps.keyOf_str Tryz.underlying9 hkey
   obtain rfl:x=x':=encStr_inj ex
   have hhas:Maps.has D0 (.string x)=true:=has_true_of_atKey hat
   have h5:=hD.has ⟨x.toArray⟩
   rw[yX,hhas]at h5
   obtain⟨i,hi⟩:=Option.isSome_iff_exists.1 h5.symm
   have h6:=hD.at_ ⟨x.toArray⟩
   rw[yX,hi,hat .nil]at h6
   have h6':yd=.held (mb i):=h6
   subst h6'
   have hcv:c=.pointer (some ⟨mb i,0,none⟩):=GJ hv
   subst hcv
   have hnm:(Pl.gl xs i).s=⟨x.toArray⟩:=(Pl.lS.1 hi).2.2.1
   have hJ2:J acc w2:=hJ acc wr w2 (some W.heap.size) hJs hg2 (fun r e=>by cases e;exact⟨Nat.le_refl _,hrg.iter_walk⟩)
   obtain⟨fn,tmps,assign,body,hy,hR⟩:=hY acc i w2 hJ2 (by omega)
   have hC2:Collected D0 (fun z=>left z && !z.sameKey (.string x)) ((acc ++ [i]).map (Pl.Hm xs)):=by
    have:=hC.step hlk hat
    rw[List.map_append]
    have e:[i].map (Pl.Hm xs)=[x]:=by show [Pl.Hm xs i]=[x];unfold Pl.Hm;rw[hnm]
    rw[e];exact this
   have hV2:∀ j∈acc ++ [i],Pl.lb xs (Pl.gl xs j).s=some j:=fun j hj=>by
    rcases List.mem_append.1 hj with q | q
    ·exact hV j q
    ·rw[List.mem_singleton]at q;subst q;rw[hnm];exact hi
   have NB:Hid _:=hC2
   have Kh:Hid _:=hV2
   have vS:Hid (acc.length+cnt2<Maps.size D0):=by show _<_;omega
   have Qx:Hid (cnt2<cnt):=hlt
   have HRG:Hid (wr.ranges Tryz.prog 9 zZ gm W.heap.size nn D0 left cnt):=hrg
   have Xn:Hid (w2.ranges Tryz.prog 9 zZ gm W.heap.size nn D0 (fun z=>left z && !z.sameKey (.string x)) cnt2):=hrg2
   have HR:Hid _:=hR
   clear hs2 h5 h6 hnm hi hhas hv hkey hat hlk hC2 hV2 hC hV hcs hlt hrg hrg2 hJ2 hJs hg2 hR hY hJ hrg0 hg0 hs0 hown hm h0 ex
   gi_wp2
   refine RoundIn.mono HR.out ?_
   rintro e W3 ⟨rfl,hJ3,hk3⟩
   have Qy:Hid _:=hJ3
   clear hJ3
   gi_wp2
   have hrg2:w2.ranges Tryz.prog 9 zZ gm W.heap.size nn D0 (fun z=>left z && !z.sameKey (.string x)) cnt2:=Xn.out
   have hrg:wr.ranges Tryz.prog 9 zZ gm W.heap.size nn D0 left cnt:=HRG.out
   have hlt:=Qx.out
   have hC2:=NB.out
   have hV2:=Kh.out
   have hJ3:=Qy.out
   have hcs:=vS.out
   have hrg3:=hrg2.of_walks hk3
   go_roundw
   case rel=>exact⟨_,cnt2,acc ++ [i],hrg3,by simp;omega,hC2,hV2,hJ3⟩
   case measure=>rw[hrg3.left_eq,hrg.left_eq];exact hlt
attribute [local go_sem] Oper.semAt_some
def pR (mb:Nat->Nat) (i:Nat):Value:=.pointer (some ⟨mb i,0,none⟩)
def Ni (D:Nat) (Wb:World) (I:World->Prop):Exit->Act->World->Prop
 | .normal,_,W'=>(∀ b,D<=b->b<D+2->W'.heap[b]?=Wb.heap[b]?)/\I W'/\KeepsWalks Wb W'
 | _,_,_=>False
theorem Ho {op:Operand} {ps:Array Tmp} {assign body:Code} {Q:Exit->Act->World->Prop} {a:Act} {w:World} (n bx gm nn:Nat) (h1:2<=n)
  (hop:a.eval op=.func (.func 139) #[] #[.pointer (some ⟨bx,0,none⟩)]) (hps:ps.size=1)
  (xs:List Pl.Ln) (mb:Nat->Nat) (D0:DataW Nat) (hD:Qw xs mb D0) (hm:w.cell? ⟨bx,0,none⟩=some (.map (some gm))) (hown:w.ownsMap Tryz.prog 9 zZ gm nn D0)
  (I:List Nat->World->Prop) (Hq:AbidesFrom (w.heap.size+2) I)
  (h0:∀ A,Below w.heap.size w A->I [] A)
  (ZN:∀ j A l o o',I j A->w.heap.size<=l->l<w.heap.size+2->A.heap[l]?=some o'->o'.isCells=false->I j (A.putObj l o))
  (Ax:Nat->World->Act->World->Prop)
  (hassign:∀ (l q:Nat) (W:World) (K:Act->World->Prop),(∀ a' W',W'=W->Ax q W a' W'->K a' W')->
   assign.wpIn (Fence.wide.inRound l) (n-1-1) Tryz.prog (Exit.then K (fun _ _ _=>False)) { tmps:=(ps.zip #[pR mb q]).foldl (fun t (p,v)=>t.setIfInBounds p v) a.tmps,defers:=[] } W)
  (hbody:∀ (l:Nat) (acc:List Nat) (q:Nat) (W:World) (a':Act) (o:Obj),acc.length<Maps.size D0->w.heap.size<=l->l<w.heap.size+2->I acc W->(∀ b,w.heap.size<=b->b<w.heap.size+2->∃ o',W.heap[b]?=some o'/\o'.isCells=false)->Ax q W a' W->
   body.wpIn (Fence.wide.inRound l) (n-1-1) Tryz.prog (Ni w.heap.size (W.putObj l o) (I (acc ++ [q]))) a' (W.putObj l o))
  (hdone:∀ acc W,GM xs acc->I acc W->W.heap[w.heap.size]?=some (.deferred (some []))->Q .normal { a with defers:={ target:=.collected w.heap.size,args:=#[] } :: a.defers } W) :
  (Code.rangeFunc op ps assign body).wpIn Fence.wide n Tryz.prog Q a w:=by
 refine wpIn_rangeFunc fun fn hfn=>?_
 let r0:Loop:={ state:=.ready,pending:=none,fn:=fn,tmps:=a.tmps,params:=ps,assign:=assign,body:=body,defers:=w.heap.size }
 obtain⟨W1,hW1⟩:∃ W1,(w.alloc (.deferred (some []))).alloc (.loop r0)=W1:=⟨_,rfl⟩
 have hL1:W1.heap[w.heap.size+1]?=some (.loop r0):=hW1 ▸ bL (by simp)
 have hD1:W1.heap[w.heap.size]?=some (.deferred (some [])):=hW1 ▸ (Below.heap_alloc _ _ _ (by simp)).trans (heap_alloc_new w _)
 have hB1:Below w.heap.size w W1:=by rw[<- hW1];exact (aB w _).trans ((aB _ _).mono (by simp))
 have hz1:W1.heap.size=w.heap.size+2:=by rw[<- hW1];simp
 have hmW:W1.cell? ⟨bx,0,none⟩=some (.map (some gm)):=aF hB1 hm
 have hoW:W1.ownsMap Tryz.prog 9 zZ gm nn D0:=hown.kept (nH hB1) (by simp)
 refine⟨w.heap.size+1,[{ target:=.collected w.heap.size,args:=#[] }],W1,{ target:=.fn (.func 139) #[.pointer (some ⟨bx,0,none⟩)],args:=#[.func (.yield (w.heap.size+1)) #[] #[]] },W1,139,
  #[.func (.yield (w.heap.size+1)) #[] #[]] ++ #[.pointer (some ⟨bx,0,none⟩)],W1,?_,?_,?_,?_,fun _=>by omega,?_⟩
 ·rw[<- hW1];exact run_enterLoop_outer _ _ _ _ _
 ·simp only[resolve,hop]
  simp[go_sem]
 ·intro f' _;trivial
 ·simp[invoke,go_sem,enters_of Tryz.func139 (by kernel_rfl) rfl]
 refine (Nh (n-1) (w.heap.size+1) bx gm nn (by omega) xs mb D0 hD
  (fun j W=>I j W/\W.heap[w.heap.size+1]?=some (.loop r0)/\W.heap[w.heap.size]?=some (.deferred (some [])))
  ?hY W1 ?hJ hmW hoW ⟨h0 _ hB1,hL1,hD1⟩).mono ?post
 case hJ=>
  rintro j A A' row ⟨q1,q2,q3⟩ hg hr
  rw[hz1]at hr
  have keepW:∀ (b:Nat) (o:Obj),A.heap[b]?=some o->o.isWalk=false->A'.heap[b]?=some o:=fun b o hb ho=>by
   refine (hg.block b (Array.getElem?_eq_some_iff.1 hb).1 (fun c=>?_)).trans hb
   obtain⟨_,o2,h2,h3⟩:=hr b c.symm
   rw[hb]at h2;cases h2;rw[ho]at h3;cases h3
  exact⟨Hq j A A' row q1 hg hr,keepW _ _ q2 rfl,keepW _ _ q3 rfl⟩
 case hY=>
  rintro acc q W ⟨hi,hl,hd⟩ hac
  have z0:w.heap.size+2<=W.heap.size:=by have:=(Array.getElem?_eq_some_iff.1 hl).1;omega
  refine⟨_,_,_,_,run_yield hl (by show 1=ps.size;omega),roundIn_of_wpIn hfn (hassign _ q W _ fun a' W' hW' ha=>?_)⟩
  subst hW'
  refine⟨_,run_beginRound hl rfl,wpIn_mono (hbody _ acc q W' a' _ hac (by omega) (by omega) hi (fun b hb1 hb2=>by rcases (show b=w.heap.size\/b=w.heap.size+1 by omega) with rfl | rfl;exact⟨_,hd,rfl⟩; exact⟨_,hl,rfl⟩) ha) ?_⟩
  have hl2:(W'.putObj (w.heap.size+1) (.loop { r0 with state:=.busy })).heap[w.heap.size+1]?=some (.loop { r0 with state:=.busy }):=World.putObj_heap_same (by omega)
  have hd2:(W'.putObj (w.heap.size+1) (.loop { r0 with state:=.busy })).heap[w.heap.size]?=some (.deferred (some [])):=(World.putObj_heap_other (by omega)).trans hd
  rintro e a3 W3 hp
  cases e with
  | normal=>
   obtain⟨k1,hi3,hk3⟩:=hp
   have hl3:=(k1 (w.heap.size+1) (by omega) (by omega)).trans hl2
   have hd3:=(k1 w.heap.size (by omega) (by omega)).trans hd2
   exact⟨_,_,run_endRound none hl3,rfl,⟨ZN _ _ _ _ _ hi3 (by omega) (by omega) hl3 rfl,World.putObj_heap_same (Array.getElem?_eq_some_iff.1 hl3).1,(World.putObj_heap_other (by omega)).trans hd3⟩,((KeepsWalks.putObj _ hl rfl).trans hk3).trans (KeepsWalks.putObj _ hl3 rfl)⟩
  | ret=>exact hp.elim
  | exit id=>exact hp.elim
  | goto t=>exact hp.elim
  | panic ch=>exact hp.elim
  | outgrown=>exact hp.elim
 case post=>
  rintro e W2 ⟨⟨v,rfl⟩,acc,hall,hi,hl,hd⟩
  exact⟨_,_,run_endLoop hl (show LoopState.ready≠LoopState.busy by decide),hdone acc _ hall (ZN _ _ _ _ _ hi (by omega) (by omega) hl rfl) ((World.putObj_heap_other (by omega)).trans hd)⟩
attribute [local go_sem] Oper.semAt_some
def Nj (D:Nat):Deferred:={ target:=.collected D,args:=#[] }
structure Nk (lo:Nat) (w w':World):Prop where
 os:w'.os=w.os
 tape:w'.tape=w.tape
 output:w'.output=w.output
 size:w'.heap.size=w.heap.size
 block:∀ b,(b<lo\/∃ cs t fr,w.heap[b]?=some (.cells cs t fr))->w'.heap[b]?=w.heap[b]?
theorem Nk.refl (lo:Nat) (w:World):Nk lo w w:=⟨rfl,rfl,rfl,rfl,fun _ _=>rfl⟩
theorem CU {F:Fence} {n:Nat} {P:Program} {fn:Func} {tmps:Array Value} {R:Ending->World->Prop} {lo:Nat}:∀ (Ds:List Nat) (w:World),Ds.Nodup->(∀ D∈Ds,lo<=D/\w.heap[D]?=some (.deferred (some [])))->(∀ w',Nk lo w w'->∃ v,(results fn tmps).run P w'=.ok v w'/\R (.returned v) w')->LeavesInM F n P fn tmps R (Ds.map Nj) .returning w
 | [],w,_,_,h=>h w (Nk.refl _ _)
 | D :: Ds,w,hn,hd,h=>by
  obtain⟨hn1,hn2⟩:=List.nodup_cons.1 hn
  have hD:=hd D (List.mem_cons_self)
  refine⟨by simp,.inl ⟨D,_,rfl,run_takeDeferred hD.2,?_⟩⟩
  refine CU Ds _ hn2 (fun E hE=>⟨(hd E (List.mem_cons_of_mem _ hE)).1,?_⟩) fun w' hs=>h w' ?_
  ·rw[World.putObj_heap_other (by rintro rfl;exact hn1 hE)]
   exact (hd E (List.mem_cons_of_mem _ hE)).2
  ·have hz:(w.putObj D (.deferred none)).heap.size=w.heap.size:=by simp[World.putObj]
   refine⟨hs.os,hs.tape,hs.output,hs.size.trans hz,fun b hb=>?_⟩
   have hbD:b≠D:=by
    rintro rfl
    rcases hb with q | ⟨cs,t,fr,q⟩
    ·omega
    ·rw[hD.2]at q;cases q
   rw[hs.block b,World.putObj_heap_other hbD]
   rcases hb with q | ⟨cs,t,fr,q⟩
   ·exact .inl q
   ·exact .inr ⟨cs,t,fr,by rw[World.putObj_heap_other hbD];exact q⟩
theorem yY {B:Nat} {e:TypeId} {s n:Nat} {v:Value} {ys:List Value} {W W':World} (h:W.ownsRow B e s v n ys) (hb:∀ (b:Nat) (cs:Array Value) (t:TypeId) (fr:Nat × Nat),W.heap[b]?=some (.cells cs t fr)->W'.heap[b]?=some (.cells cs t fr)):W'.ownsRow B e s v n ys:=by
 refine⟨h.1,?_⟩
 rcases h.2 with hn | ⟨g,cap,cur,rfl,hbb,hgg,rest⟩
 ·exact .inl hn
 ·exact .inr ⟨g,cap,cur,rfl,hbb,hb _ _ _ _ hgg,rest⟩
structure Hr (w0:World) (mb:Nat->Nat) (acc:List Nat) (W:World):Prop where
 box:∃ c cap,W.heap[w0.heap.size]?=some (.cells #[.slice c acc.length cap] 153 (0,0))/\W.ownsRow w0.heap.size 115 1 (.slice c acc.length cap) acc.length (acc.map (pR mb))
 gP:Below w0.heap.size w0 W
theorem Hr.cells {w0:World} {mb:Nat->Nat} {acc:List Nat} {W W':World} (h:Hr w0 mb acc W) (hc:∀ (b:Nat) (cs:Array Value) (t:TypeId) (fr:Nat × Nat),W.heap[b]?=some (.cells cs t fr)->W'.heap[b]?=some (.cells cs t fr)) (hb:Below w0.heap.size w0 W'):Hr w0 mb acc W':=by
 obtain⟨c,cap,h1,h2⟩:=h.box
 exact⟨⟨c,cap,hc _ _ _ _ h1,yY h2 hc⟩,hb⟩
theorem ZO:(Tryz.prog.info? 115).map (fun i=>(i.zero,i.size,i.bytes))=some (some (.pointer none),1,8):=by kernel_rfl
set_option maxRecDepth 100000 in
theorem Ht (bx gm nn:Nat) (xs:List Pl.Ln) (mb:Nat->Nat) (D0:DataW Nat) (hD:Qw xs mb D0) (w:World) (hm:w.cell? ⟨bx,0,none⟩=some (.map (some gm))) (hown:w.ownsMap Tryz.prog 9 zZ gm nn D0) (hsz:Maps.size D0<=20000) :
  Calls Tryz.prog 142 #[.slice none 0 0,.func (.func 139) #[] #[.pointer (some ⟨bx,0,none⟩)]] w fun e w'=>∃ c cap acc,e=.returned (.slice c acc.length cap)/\GM xs acc/\acc.length<=20000/\w'.ownsRow w.heap.size 115 1 (.slice c acc.length cap) acc.length (acc.map (pR mb))/\Below w.heap.size w w':=by
 obtain⟨i0,hi0,hz0,hz1,hz2⟩:=info_parts ZO
 have HI:Hid (Tryz.prog.info? 115=some i0/\i0.zero=some (.pointer none)/\i0.size=1/\i0.bytes=8):=⟨hi0,hz0,hz1,hz2⟩
 obtain⟨V,hV⟩:∃ V,V=w.alloc (.cells #[.slice none 0 0] 153):=⟨_,rfl⟩
 have yZ:Below w.heap.size w V:=by rw[hV];exact aB _ _
 have I8:V.heap.size=w.heap.size+1:=by rw[hV];simp
 have hbx:V.heap[w.heap.size]?=some (.cells #[.slice none 0 0] 153 (0,0)):=by rw[hV];exact heap_alloc_new w _
 have Ki:Hid (∀ A,Below V.heap.size V A->Hr w mb [] A/\0<=20000):=fun A hA=>⟨⟨⟨none,0,(hA.block _ (by omega)).trans hbx,World.ownsRow_nil _ _ _ _⟩,yZ.trans (hA.mono (by omega))⟩,by omega⟩
 have I9:=aF yZ hm
 have J2:V.ownsMap Tryz.prog 9 zZ gm nn D0:=hown.kept (nH yZ) (by simp)
 have Xo:Hid (V.cell? ⟨bx,0,none⟩=some (.map (some gm))/\V.ownsMap Tryz.prog 9 zZ gm nn D0):=⟨I9,J2⟩
 have Nl:Hid (V.heap.size=w.heap.size+1):=I8
 clear hm hown I9 J2 hi0 hz0 hz1 hz2 hbx
 refine (callsIn_wide (n:=4)).1 ?_
 refine callsIn_of_wp_marks Tryz.func142 rfl trivial ?_ rfl
 simp only[Tryz.ntmps142,List.size_toArray,List.length_cons,List.length_nil,Nat.reduceAdd,Nat.reduceSub,Array.replicate_succ,Array.replicate_zero,List.push_toArray,List.append_toArray,List.nil_append,List.cons_append]
 gi_wp2
 rw[<- hV]
 clear hV yZ I8
 refine Ho 4 bx gm nn (by decide) rfl rfl xs mb D0 hD Xo.out.1 Xo.out.2 (fun acc A=>Hr w mb acc A/\acc.length<=20000) ?Hq ?h0 ?ZN (fun q A a' A'=>a' = { tmps:=#[.slice none 0 0,.func (.func 139) #[] #[.pointer (some ⟨bx,0,none⟩)],.pointer (some ⟨w.heap.size,0,none⟩),undef,.slice none 0 0,.pointer (some ⟨mb q,0,none⟩),.func (.func 139) #[] #[.pointer (some ⟨bx,0,none⟩)],.pointer (some ⟨mb q,0,none⟩),undef,undef,undef,undef,undef],defers:=[] }) ?hassign ?hbody ?hdone
 case Hq=>
  rintro acc A A' row ⟨h1,h2⟩ hg hr
  refine⟨h1.cells (fun b cs t fr hb=>?_) (h1.gP.grown hg h1.gP.size (fun k hk=>by have:=(hr k hk).1;have:=Nl.out;omega)),h2⟩
  refine (hg.block b (Array.getElem?_eq_some_iff.1 hb).1 (fun c=>?_)).trans hb
  obtain⟨_,o2,q1,q2⟩:=hr b c.symm
  rw[hb]at q1;cases q1;cases q2
 case h0=>intro A hA;exact Ki.out A hA
 case ZN=>
  rintro acc A r o o' ⟨h1,h2⟩ hr1 hr2 ho hc
  refine⟨h1.cells (fun b cs t fr hb=>(World.putObj_heap_other (by rintro rfl;rw[hb]at ho;cases ho;cases hc)).trans hb) ⟨h1.gP.os,h1.gP.tape,h1.gP.output,by simpa [World.putObj] using h1.gP.size,fun b hb=>(World.putObj_heap_other (by have:=Nl.out;omega)).trans (h1.gP.block b hb)⟩,h2⟩
 case hassign=>
  intro r q A K hK
  gi_wp2
  exact hK _ _ rfl rfl
 case hbody=>
  rintro r acc q A a' o hacc hr1 hr2 ⟨has,_⟩ hbk rfl
  obtain⟨o',ho',hoc⟩:=hbk r hr1 hr2
  obtain⟨U,hU⟩:∃ U,U=A.putObj r o:=⟨_,rfl⟩
  have Qz:∀ (b:Nat) (cs:Array Value) (t:TypeId) (fr:Nat × Nat),A.heap[b]?=some (.cells cs t fr)->U.heap[b]?=some (.cells cs t fr):=fun b cs t fr hb=>by rw[hU];exact (World.putObj_heap_other (by rintro rfl;rw[hb]at ho'; cases ho'; cases hoc)).trans hb
  have Nn:Hr w mb acc U:=has.cells Qz (by rw[hU];exact⟨has.gP.os,has.gP.tape,has.gP.output,by simpa [World.putObj] using has.gP.size,fun b hb=>(World.putObj_heap_other (by have:=Nl.out;omega)).trans (has.gP.block b hb)⟩)
  obtain⟨c,cap,Br,UC⟩:=has.box
  have Un:Hid (∀ b,V.heap.size<=b->b<V.heap.size+2->b<U.heap.size/\(Value.slice c acc.length cap).ownBlock≠some b):=fun b h1 h2=>by
   obtain⟨o2,q1,q2⟩:=hbk b h1 h2
   refine⟨by rw[hU];simpa [World.putObj] using (Array.getElem?_eq_some_iff.1 q1).1,fun e=>?_⟩
   rcases UC.2 with ⟨e1,_⟩ | ⟨g,cc,cur,e1,_,e2,_⟩
   ·rw[e1]at e;simp[Value.ownBlock]at e
   ·rw[e1]at e
    have:g=b:=by simpa [Value.ownBlock] using e
    subst this
    rw[q1]at e2;cases e2;cases q2
  have GQ:=Qz _ _ _ _ Br
  have hrow:=yY UC Qz
  rw[<- hU]
  have t2:U.cell? ⟨w.heap.size,0,none⟩=some (.slice c acc.length cap):=cell_of_row U _ 0 _ 153 (0,0) GQ
  have tf:U.frozen? ⟨w.heap.size,0,none⟩=false:=frozen_of_row U _ 0 _ 153 GQ
  have HOWN:Hid (U.ownsRow w.heap.size 115 1 (.slice c acc.length cap) acc.length (acc.map (pR mb))):=hrow
  have HBX:Hid (U.heap[w.heap.size]?=some (.cells #[.slice c acc.length cap] 153 (0,0))):=GQ
  have Ra:Hid (Below w.heap.size w U):=Nn.gP
  have hal:acc.length<20000:=by omega
  have Dj:w.heap.size<U.heap.size:=(Array.getElem?_eq_some_iff.1 GQ).1
  clear has Nn hU Qz hbk ho' hacc Ki Xo GQ hrow Br UC
  gi_wp2_with (gi_at_builtin;refine wpListIn_append_own _ rfl _ _ 153 rfl w.heap.size 115 i0 (.pointer none) 1 8 Tryz.underlying153 HI.out.1 HI.out.2.1 HI.out.2.2.1 HI.out.2.2.2 rfl (by decide) (.slice c acc.length cap) acc.length (acc.map (pR mb)) rfl (World.ownsRow.alloc HOWN.out _) ⟨U.heap.size,0,none⟩ 1 1 [.pointer (some ⟨mb q,0,none⟩)] rfl rfl (rU U _ _ rfl) (by intro u hu;simp at hu;subst hu;rfl) (by unfold maxLen;omega) (by omega) (by simp;omega) ?_;intro v' y hown' hg3 _;obtain⟨c2,cap2,hv2⟩:=aT hown'; subst hv2;have hby:oZ 115 U y:=(oZ.below (aB U _)).trans (oZ.grown (HOWN.out.alloc _) hg3);have ZP:y.heap[w.heap.size]?=some (.cells #[.slice c acc.length cap] 153 (0,0)):=hby.block _ _ HBX.out (fun c q=>by injection q with _ q2 _;exact absurd q2 (by decide));have t3:y.cell? ⟨w.heap.size,0,none⟩=some (.slice c acc.length cap):=cell_of_row y _ 0 _ 153 (0,0) ZP;have tf3:y.frozen? ⟨w.heap.size,0,none⟩=false:=frozen_of_row y _ 0 _ 153 ZP;have Xp:Hid (oZ 115 U y):=hby;have Xm:Hid (y.ownsRow w.heap.size 115 1 (.slice c2 (acc.length+1) cap2) (acc.length+1) (acc.map (pR mb) ++ [pR mb q])):=hown'; have HB2:Hid (y.heap[w.heap.size]?=some (.cells #[.slice c acc.length cap] 153 (0,0))):=ZP;have Np:Hid ((U.alloc (.cells #[.pointer (some ⟨mb q,0,none⟩)] 115)).grownBy y (Value.slice c acc.length cap).ownBlock):=hg3;have Xq:Hid (Below w.heap.size w y):=(Ra.out.alloc Ra.out.size _).grown hg3 (by simp;omega) (fun k hk=>(HOWN.out.lt k hk).1);have HKW:Hid (KeepsWalks U y):=(KeepsWalks.alloc U _).trans (KeepsWalks.of_grownBy hg3 (fun j o hj ho=>by obtain⟨q1,q2⟩ | ⟨g,cc,cur,q1,_,q2,_⟩:=(HOWN.out.alloc (.cells #[.pointer (some ⟨mb q,0,none⟩)] 115)).2; (· rw[q1]at hj;simp[Value.ownBlock]at hj); (· rw[q1]at hj;simp[Value.ownBlock]at hj;subst hj;rw[q2]at ho;cases ho;rfl)));clear hown' hg3 hby ZP)
  refine⟨fun b h1 h2=>?_,⟨⟨⟨c2,cap2,?_,?_⟩,Xq.out.setCell (p:=⟨w.heap.size,0,none⟩) (Nat.le_refl _) _⟩,?_⟩,HKW.out.trans (KeepsWalks.setCell _ _ _)⟩
  ·obtain⟨q1,q2⟩:=Un.out b h1 h2
   rw[Below.heap_setCell y ⟨w.heap.size,0,none⟩ _ b (by have:=Nl.out;show b≠w.heap.size;omega)]
   rw[Np.out.block b (by simp;omega) (fun e=>q2 e.symm),Below.heap_alloc _ _ _ q1]
  ·rw[List.length_append];exact heap_setCell_same _ _ _ _ _ _ HB2.out
  ·rw[List.length_append,List.map_append]
   exact dD Xm.out HB2.out (by decide)
  ·rw[List.length_append];show acc.length+1<=20000;omega
 case hdone=>
  rintro acc A hall ⟨has,hle⟩ Nq
  obtain⟨c,cap,GQ,hrow⟩:=has.box
  have t2:A.cell? ⟨w.heap.size,0,none⟩=some (.slice c acc.length cap):=cell_of_row A _ 0 _ 153 (0,0) GQ
  have HA:Hid (Hr w mb acc A/\GM xs acc/\acc.length<=20000):=⟨has,hall,hle⟩
  have HR:Hid (A.ownsRow w.heap.size 115 1 (.slice c acc.length cap) acc.length (acc.map (pR mb))):=hrow
  have Rb:Hid (A.heap[V.heap.size]?=some (.deferred (some []))):=Nq
  clear has Nq Ki hall hle GQ hrow
  gi_wp2
  refine CU (lo:=w.heap.size) [V.heap.size] A (by simp) (fun D hD=>?_) fun w' hs=>?_
  ·rw[List.mem_singleton]at hD;subst hD;exact⟨by have:=Nl.out;omega,Rb.out⟩
  ·refine⟨_,results_tmp rfl _ _ _,c,cap,acc,rfl,HA.out.2.1,HA.out.2.2,?_,?_⟩
   ·exact yY HR.out (fun b cs t fr hb=>(hs.block _ (.inr ⟨_,_,_,hb⟩)).trans hb)
   ·have hb:=HA.out.1.gP
    exact⟨hs.os.trans hb.os,hs.tape.trans hb.tape,hs.output.trans hb.output,by rw[hs.size];exact hb.size,fun b h=>(hs.block b (.inl h)).trans (hb.block b h)⟩
end Go.Proofs.YtlbomnnldkeocaaGreat.W
/-
 DERIVED: THE SHELF's CONTRACTS AT THIS DUMP,IN PLAIN WORDS (tools/lay-plain.mjs out of 'Nr.lean',which tools/lay-shelf.mjs wrote): THE SAME ZQ UNDER THE SAME NAMES: 'Rc,'Hu,'open','aAc,'Ns AND NOTHING ELSE: no command of the shelf's: FOR A HAND-IN. Each laying: the table of numbers ('.._ren') and one theorem,a field a fact of the dump's own or the kernel's comparison;each contract: ONE Bt.
-/
namespace Go.Proofs
open Go.Shelf
def Tryz.sortPM_ren:Go.Shelf.Ren:=⟨fun | 6=>138 | 15=>144 | 14=>143 | 28=>153 | 29=>154 | 20=>145 | 21=>146 | 22=>147 | 23=>148 | 24=>149 | 25=>150 | 26=>151 | 27=>152 | 46=>155 | 47=>156 | 48=>157 | 49=>158 | 50=>159 | 57=>160 | n=>n,fun | 22=>153 | 24=>115 | 25=>151 | 3=>3 | 39=>128 | 0=>0 | 53=>158 | 55=>171 | 4=>4 | 46=>164 | 45=>163 | 50=>88 | 5=>5 | 9=>9 | 66=>172 | 70=>176 | 76=>178 | 77=>179 | n=>n,fun | n=>n⟩
theorem Tryz.sortPM:Go.Proofs.SlLaysF.n6 Tryz.prog Tryz.sortPM_ren:={
 mixed:=by kernel_rfl
 f6:=⟨Tryz.f138.name,by decide,Tryz.func138.trans (congrArg some (by kernel_rfl))⟩
 f14:=⟨Tryz.f143.name,by decide,Tryz.func143.trans (congrArg some (by kernel_rfl))⟩
 f15:=Tryz.func144.trans (congrArg some (by kernel_rfl))
 f20:=⟨Tryz.f145.name,by decide,Tryz.func145.trans (congrArg some (by kernel_rfl))⟩
 f21:=⟨Tryz.f146.name,by decide,Tryz.func146.trans (congrArg some (by kernel_rfl))⟩
 f22:=⟨Tryz.f147.name,by decide,Tryz.func147.trans (congrArg some (by kernel_rfl))⟩
 f23:=⟨Tryz.f148.name,by decide,Tryz.func148.trans (congrArg some (by kernel_rfl))⟩
 f24:=⟨Tryz.f149.name,by decide,Tryz.func149.trans (congrArg some (by kernel_rfl))⟩
 f25:=⟨Tryz.f150.name,by decide,Tryz.func150.trans (congrArg some (by kernel_rfl))⟩
 f26:=⟨Tryz.f151.name,by decide,Tryz.func151.trans (congrArg some (by kernel_rfl))⟩
 f27:=⟨Tryz.f152.name,by decide,Tryz.func152.trans (congrArg some (by kernel_rfl))⟩
 f28:=Tryz.func153.trans (congrArg some (by kernel_rfl))
 f29:=Tryz.func154.trans (congrArg some (by kernel_rfl))
 f46:=⟨Tryz.f155.name,by decide,Tryz.func155.trans (congrArg some (by kernel_rfl))⟩
 f47:=Tryz.func156.trans (congrArg some (by kernel_rfl))
 f48:=Tryz.func157.trans (congrArg some (by kernel_rfl))
 f49:=⟨Tryz.f158.name,by decide,Tryz.func158.trans (congrArg some (by kernel_rfl))⟩
 f50:=⟨Tryz.f159.name,by decide,Tryz.func159.trans (congrArg some (by kernel_rfl))⟩
 f57:=⟨Tryz.f160.name,by decide,Tryz.func160.trans (congrArg some (by kernel_rfl))⟩
 t0:=Tryz.underlying0
 a0:=Tryz.isAgg0
 z0:=Tryz.sizeOf0
 v0:=Tryz.zeroValue0
 t3:=Tryz.underlying3
 a3:=Tryz.isAgg3
 z3:=Tryz.sizeOf3
 v3:=Tryz.zeroValue3
 t4:=Tryz.underlying4
 a4:=Tryz.isAgg4
 z4:=Tryz.sizeOf4
 v4:=Tryz.zeroValue4
 t5:=Tryz.underlying5
 a5:=Tryz.isAgg5
 z5:=Tryz.sizeOf5
 v5:=Tryz.zeroValue5
 t9:=Tryz.underlying9
 a9:=Tryz.isAgg9
 z9:=Tryz.sizeOf9
 v9:=Tryz.zeroValue9
 t22:=Tryz.underlying153
 a22:=Tryz.isAgg153
 z22:=Tryz.sizeOf153
 v22:=Tryz.zeroValue153
 a24:=Tryz.isAgg115
 z24:=Tryz.sizeOf115
 t25:=Tryz.underlying151
 a25:=Tryz.isAgg151
 z25:=Tryz.sizeOf151
 v25:=Tryz.zeroValue151
 t39:=Tryz.underlying128
 a39:=Tryz.isAgg128
 z39:=Tryz.sizeOf128
 v39:=Tryz.zeroValue128
 t45:=Tryz.underlying163
 a45:=Tryz.isAgg163
 z45:=Tryz.sizeOf163
 v45:=Tryz.zeroValue163
 t46:=Tryz.underlying164
 a46:=Tryz.isAgg164
 z46:=Tryz.sizeOf164
 v46:=Tryz.zeroValue164
 t50:=Tryz.underlying88
 a50:=Tryz.isAgg88
 z50:=Tryz.sizeOf88
 v50:=Tryz.zeroValue88
 t53:=Tryz.underlying158
 a53:=Tryz.isAgg158
 z53:=Tryz.sizeOf158
 v53:=Tryz.zeroValue158
 t55:=Tryz.underlying171
 a55:=Tryz.isAgg171
 z55:=Tryz.sizeOf171
 v55:=Tryz.zeroValue171
 t66:=Tryz.underlying172
 a66:=Tryz.isAgg172
 z66:=Tryz.sizeOf172
 v66:=Tryz.zeroValue172
 t70:=Tryz.underlying176
 a70:=Tryz.isAgg176
 z70:=Tryz.sizeOf176
 v70:=Tryz.zeroValue176
 t76:=Tryz.underlying178
 a76:=Tryz.isAgg178
 z76:=Tryz.sizeOf178
 v76:=Tryz.zeroValue178
 t77:=Tryz.underlying179
 a77:=Tryz.isAgg179
 z77:=Tryz.sizeOf179
 v77:=Tryz.zeroValue179 }
end Go.Proofs
namespace Go.Proofs.YtlbomnnldkeocaaGreat.Pl
def KR (x y:Int):Int:=if x<y then -1 else if y<x then 1 else 0
theorem vJ:∀ (l m:List Nat),l.Pairwise (· < ·)->m.Pairwise (· < ·)->(∀ i,i∈l↔i∈m)->l=m
 | [],[],_,_,_=>rfl
 | [],b :: m,_,_,h=>by have:=(h b).2 (List.mem_cons_self);cases this
 | a :: l,[],_,_,h=>by have:=(h a).1 (List.mem_cons_self);cases this
 | a :: l,b :: m,hl,hm,h=>by
  obtain⟨l1,l2⟩:=List.pairwise_cons.1 hl
  obtain⟨m1,m2⟩:=List.pairwise_cons.1 hm
  have hab:a=b:=by
   rcases List.mem_cons.1 ((h a).1 (List.mem_cons_self)) with q | q
   ·exact q
   ·rcases List.mem_cons.1 ((h b).2 (List.mem_cons_self)) with q' | q'
    ·exact q'.symm
    ·have:=m1 a q;have:=l1 b q'; omega
  subst hab
  refine congrArg _ (vJ l m l2 m2 fun i=>?_)
  constructor
  ·intro hi
   rcases List.mem_cons.1 ((h i).1 (List.mem_cons_of_mem _ hi)) with q | q
   ·have:=l1 i hi;omega
   ·exact q
  ·intro hi
   rcases List.mem_cons.1 ((h i).2 (List.mem_cons_of_mem _ hi)) with q | q
   ·have:=m1 i hi;omega
   ·exact q
theorem wX {xs:List Ln} (h:∀ i,i<xs.length->twice xs i=false) (i:Nat):lb xs (gl xs i).s=some i↔i∈cZ xs xs.length:=by
 rw[BN]
 constructor
 ·intro q
  obtain⟨h1,h2,_⟩:=lS.1 q
  exact⟨h1,h2⟩
 ·rintro⟨h1,h2⟩
  have:=h i h1
  unfold twice at this
  simpa [h2] using this
end Go.Proofs.YtlbomnnldkeocaaGreat.Pl
namespace Go.Proofs.YtlbomnnldkeocaaGreat.W
open Go.RowKit Go.Shelf Go.Maps Go.WideMaps Go.Sort Go.Lib
theorem UD (x y:Int) (w:World):Calls Tryz.prog 128 #[.int .i64 x,.int .i64 y] w fun e w'=>e=.returned (.int .i64 (Pl.KR x y))/\w'=w:=by
 have HN:Hid (∀ (z:Int) (u:World),Calls Tryz.prog 136 #[.int .i64 z] u fun e w'=>e=.returned (.bool false)/\w'=u):=fun z u=>by
  go_enter Tryz.func136,Tryz.ntmps136
  go_wp2
  go_ret
  exact⟨rfl,rfl⟩
 have HD:Hid (Pl.KR x y=if x<y then -1 else if y<x then 1 else 0):=rfl
 go_enter Tryz.func128,Tryz.ntmps128
 go_wp2_with (go_at_call 136;refine (HN.out _ _).mono ?_;rintro e u1 ⟨rfl,rfl⟩)
 all_goals (go_ret;refine⟨aO ?_,rfl⟩; rw[HD.out])
 all_goals (repeat (first | rw[if_pos (by omega)] | rw[if_neg (by omega)]))
theorem AZ {α:Type} [Inhabited α] (enc:α->Value) (w:World) (g m:Nat) (d:Array α) (os:Array Obj):OnlyC g w (sortWorld enc w g 0 m d os):=by
 refine⟨rfl,rfl,rfl,?_,fun k hk hn=>?_⟩
 ·unfold sortWorld;rw[size_grow,size_putRow];exact Nat.le_add_right _ _
 ·unfold sortWorld
  rw[heap_grow_old _ _ (by rw[size_putRow];exact hk)]
  unfold putRow mapBlock Sort.ahead
  simp only[Array.getElem?_modify]
  rw[if_neg (by omega)]
abbrev lC (xs:List Pl.Ln):Type:={ i:Nat // Pl.lb xs (Pl.gl xs i).s=some i }
def lC.enc {xs:List Pl.Ln} (mb:Nat->Nat) (x:lC xs):Value:=.pointer (some ⟨mb x.1,0,none⟩)
def lC.cf {xs:List Pl.Ln} (x y:lC xs):Int:=Pl.KR x.1 y.1
theorem qI {xs:List Pl.Ln} (x y:lC xs):ltOf lC.cf x y=decide (x.1<y.1):=by
 unfold ltOf lC.cf Pl.KR
 rcases Nat.lt_trichotomy x.1 y.1 with h | h | h
 ·rw[if_pos (by omega)];simp[h]
 ·rw[if_neg (by omega),if_neg (by omega)];simp;omega
 ·rw[if_neg (by omega),if_pos (by omega)];simp;omega
theorem Hw {xs:List Pl.Ln}:SWO (ltOf (lC.cf (xs:=xs))):=
 ⟨fun x=>by rw[qI];simp,fun x y z=>by rw[qI,qI,qI];simp;omega,fun x y z=>by rw[qI,qI,qI];simp;omega⟩
theorem PO (p q:Nat) (x y:Int) (w:World) (hp:w.cell? ⟨p,0,none⟩=some (.int .i64 x)) (hq:w.cell? ⟨q,0,none⟩=some (.int .i64 y)):Calls Tryz.prog 127 #[.pointer (some ⟨p,0,none⟩),.pointer (some ⟨q,0,none⟩)] w fun e w'=>e=.returned (.int .i64 (Pl.KR x y))/\∃ k,w'=w.drewN k:=by
 have HC:Hid (∀ n:Nat,Calls Tryz.prog 128 #[.int .i64 x,.int .i64 y] (w.drewN n) fun e u'=>e=.returned (.int .i64 (Pl.KR x y))/\∃ q,u'=(w.drewN n).drewN q):=fun n=>(UD x y _).mono fun e w' h=>⟨h.1,0,h.2⟩
 generalize Pl.KR x y=z at *
 go_enter Tryz.func127,Tryz.ntmps127
 go_upto_region 1 with fail
 go_quiet ((go_at_call 128;exact Calls.quiet_of (HC.out _)))
 go_wp2_with fail
 go_ret
 exact⟨rfl,_,rfl⟩
theorem Nt (xs:List Pl.Ln) (mb:Nat->Nat) (wP:∀ i,i<xs.length->Pl.twice xs i=false) (g cap:Nat) (acc:List Nat) (hall:GM xs acc) (w:World) (hg:g<w.heap.size) (hrow:∀ j,j<acc.length->w.cell? ⟨g,j,none⟩=some (pR mb (acc.getD j 0))/\w.frozen? ⟨g,j,none⟩=false)
  (hmk:∀ i,Pl.lb xs (Pl.gl xs i).s=some i->mb i≠g/\mb i<w.heap.size/\w.cell? ⟨mb i,0,none⟩=some (.int .i64 (i:Nat))) (hn:acc.length<=20000) :
  Calls Tryz.prog 138 #[.slice (some ⟨g,0,none⟩) acc.length cap,.func (.func 127) #[] #[]] w fun e w'=>e=.returned (.tuple #[])/\OnlyC g w w'/\acc.length=(Pl.cZ xs xs.length).length/\∀ j,j<acc.length->w'.cell? ⟨g,j,none⟩=some (pR mb ((Pl.cZ xs xs.length).getD j 0)):=by
 have hperm:∀ i,i∈acc↔i∈Pl.cZ xs xs.length:=fun i=>(hall.2 i).trans (Pl.wX wP i)
 by_cases h0:acc=[]
 ·subst h0
  have hl:Pl.cZ xs xs.length=[]:=by
   apply List.eq_nil_iff_forall_not_mem.2
   intro i hi
   exact absurd ((hperm i).2 hi) (by simp)
  refine (AnyF.slices_SortFunc_none { Tryz.sortPM with } (some ⟨g,0,none⟩) cap (.func (.func 127) #[] #[]) w).mono ?_
  rintro e w' ⟨rfl,rfl⟩
  exact⟨rfl,⟨rfl,rfl,rfl,Nat.le_refl _,fun _ _ _=>rfl⟩,by rw[hl],fun j hj=>absurd hj (Nat.not_lt_zero _)⟩
 ·obtain⟨i1,hi1⟩:=List.exists_mem_of_ne_nil acc h0
  haveI:Inhabited (lC xs):=⟨⟨i1,(hall.2 i1).1 hi1⟩⟩
  let L:List (lC xs):=acc.attach.map fun x=>⟨x.1,(hall.2 x.1).1 x.2⟩
  have Nu:L.map (fun x:lC xs=>x.1)=acc:=by
   show (acc.attach.map _).map _=acc
   rw[List.map_map]
   exact List.attach_map_subtype_val acc
  have Nv:L.length=acc.length:=by have:=congrArg List.length Nu;rw[List.length_map]at this;exact this
  have hH:Holds (lC.enc (xs:=xs) mb) w g 0 L.toArray:=fun j hj=>by
   have hj':j<acc.length:=by rw[<- Nv];simpa using hj
   obtain⟨q1,q2⟩:=hrow j hj'
   rw[Nat.zero_add]
   refine⟨?_,q2⟩
   rw[q1]
   have e:acc.getD j 0=(L.toArray[j]!).1:=by
    rw[getElem!_pos _ j hj]
    rw[List.getD_eq_getElem?_getD,List.getElem?_eq_getElem hj']
    simp only[Option.getD_some,List.getElem_toArray]
    have:=List.getElem_map (fun x:lC xs=>x.1) (l:=L) (i:=j) (h:=by rw[Nu];exact hj')
    rw[<- this]
    congr 1
    exact Nu.symm
   unfold lC.enc pR
   rw[e]
  have hcmp:CmpLays1 Tryz.prog 127 #[] (lC.enc (xs:=xs) mb) lC.cf g 0 L.toArray.size w:=CmpReads.lays fun m os dk hs x y=>by
   have ho:=AZ (lC.enc (xs:=xs) mb) w g m dk os
   obtain⟨a1,a2,a3⟩:=hmk x.1 x.2
   obtain⟨b1,b2,b3⟩:=hmk y.1 y.2
   refine PO (mb x.1) (mb y.1) x.1 y.1 _ ?_ ?_
   ·exact (World.cell?_of_block (ho.block _ a2 a1)).trans a3
   ·exact (World.cell?_of_block (ho.block _ b2 b1)).trans b3
  have hT:∀ x y:lC xs,(ltOf lC.cf) x y=false->(ltOf lC.cf) y x=false->x=y:=fun x y h1 h2=>by
   rw[qI]at h1 h2
   have h1':¬ x.1<y.1:=of_decide_eq_false h1
   have h2':¬ y.1<x.1:=of_decide_eq_false h2
   exact Subtype.ext (by omega)
  have hcon:=Any.slices_SortFunc_total Tryz.sortPM (lC.enc (xs:=xs) mb) (fun _=>rfl) lC.cf Hw 127 #[] g 0 cap L.toArray w (enters_of Tryz.func127 (by kernel_rfl) rfl) hcmp hH hg (by simp only[List.size_toArray,Nv];omega) hT
  have hsz:L.toArray.size=acc.length:=by simpa using Nv
  rw[hsz]at hcon
  change Calls Tryz.prog 138 _ _ _ at hcon
  refine hcon.mono ?_
  rintro e w' ⟨rfl,n,os,rfl⟩
  obtain⟨R,hR⟩:∃ R,R=L.mergeSort (fun x y=>!(ltOf lC.cf) y x):=⟨_,rfl⟩
  have Xr:R.Perm L:=by rw[hR];exact List.mergeSort_perm _ _
  have hRl:R.length=acc.length:=by rw[Xr.length_eq,Nv]
  have hRs:R.Pairwise (fun x y:lC xs=>(!(ltOf lC.cf) y x)=true):=by
   rw[hR]
   refine List.pairwise_mergeSort ?_ ?_ _
   ·intro x y z
    rw[qI,qI,qI];simp;omega
   ·intro x y
    rw[qI,qI];simp;omega
  have hRe:R.map (fun x:lC xs=>x.1)=Pl.cZ xs xs.length:=by
   have hnd:(R.map (fun x:lC xs=>x.1)).Nodup:=by
    refine (Xr.map (fun x:lC xs=>x.1)).nodup_iff.2 ?_
    rw[Nu];exact hall.1
   refine Pl.vJ _ _ ?_ (Pl.rH xs xs.length) fun i=>?_
   ·have h1:(R.map (fun x:lC xs=>x.1)).Pairwise (·<=·):=by
     rw[List.pairwise_map]
     refine hRs.imp fun {x y} h=>?_
     rw[qI]at h
     have:¬ y.1<x.1:=by simpa using h
     omega
    exact (h1.and hnd).imp fun {x y} h=>by have:=h.1;have:=h.2;omega
   ·rw[<- hperm i,<- Nu]
    exact (Xr.map (fun x:lC xs=>x.1)).mem_iff
  have hlen:acc.length=(Pl.cZ xs xs.length).length:=by rw[<- hRe,List.length_map,hRl]
  refine⟨rfl,AZ _ _ _ _ _ _,hlen,fun j hj=>?_⟩
  have hh:=holds_sortWorld (lC.enc (xs:=xs) mb) w g 0 n L.toArray R.toArray os hg hH (by simp[hRl,Nv]) j (by simp[hRl];exact hj)
  rw[Nat.zero_add]at hh
  have e1:(L.toArray.toList.mergeSort fun x y=>!(ltOf lC.cf) y x)=R:=by rw[hR]
  rw[e1,hh.1]
  have J3:j<R.length:=by rw[hRl];exact hj
  have e2:(R.toArray[j]!).1=(Pl.cZ xs xs.length).getD j 0:=by
   rw[getElem!_pos _ j (by simpa using J3)]
   rw[<- hRe,List.getD_eq_getElem?_getD,List.getElem?_map,List.getElem?_eq_getElem J3]
   simp
  unfold lC.enc pR
  rw[e2]
open Go.RowKit
section
variable {P:Program} {ops:Array Oper} {Q:Exit->Act->World->Prop} {md:Region.Mode}
def GR (md:Region.Mode) (ops:Array Oper):Bool:=(List.range ops.size).all fun i=>((ops[i]?).map fun o=>o.after.all fun e=>!Region.binds md e || decide (e.on<i)).getD true
theorem UE (h:GR md ops=true) {i:Nat} {o:Oper} (ho:ops[i]?=some o):∀ e∈o.after,Region.binds md e=true->e.on<i:=by
 unfold GR at h
 rw[List.all_eq_true]at h
 have h1:=h i (List.mem_range.2 (Array.getElem?_eq_some_iff.1 ho).1)
 rw[ho]at h1
 simp only[Option.map_some,Option.getD_some]at h1
 intro e he hb
 have h2:=Array.all_eq_true_iff_forall_mem.1 h1 e he
 rw[hb]at h2
 simpa using h2
theorem pU (hac:GR md ops=true) {L:Array Bool} (hs:L.size=ops.size) (hr:Region.ready md ops L=[]):∀ i,i<ops.size->L.getD i true=true:=by
 intro i
 induction i using Nat.strongRecOn with
 | ind i ih=>
  intro hi
  cases hb:L.getD i true with
  | true=>rfl
  | false=>
   exfalso
   have hm:i∈Region.ready md ops L:=mem_ready.2 ⟨hb,ops[i],Array.getElem?_eq_getElem hi,fun e he hbe=>by
    have hlt:=UE hac (Array.getElem?_eq_getElem hi) e he hbe
    have h1:=ih e.on hlt (by omega)
    have h2:e.on<L.size:=by omega
    simp[h2]at h1 ⊢
    exact h1⟩
   rw[hr]at hm
   cases hm
theorem PQ (I:Array Bool->Act->World->Prop)
  (hdone:∀ L a w,I L a w->(∀ i,i<ops.size->up L i=true)->Q .normal a w)
  (hac:GR md ops=true)
  (hstep:∀ (L:Array Bool) (a:Act) (w:World) (i:Nat) (o:Oper),I L a w->i<L.size->L.size=ops.size->up L i=false->WJ md ops L->(∀ e∈o.after,Region.binds md e=true->up L e.on=true)->ops[i]?=some o->∀ K:Act->World->Prop,(∀ a w,I (L.setIfInBounds i true) a w->K a w)->if Region.wanted o (yielded ops a.tmps)=true then Oper.wp P o a w K Q else K (a.put o.dst undef) w)
  (fuel n:Nat) (a:Act) (w:World) (hn:n=ops.size) (hI:I (Array.replicate n false) a w) (hf:n<=fuel):wpAny P md ops Q fuel (Array.replicate n false) a w:=by
 refine AL (fun L a w=>I L a w/\WJ md ops L/\L.size=ops.size) (fun L a w h hs ha=>hdone L a w h.1 fun i hi=>MJ (ha i hi) (by omega)) (fun L hs hr=>pU hac hs hr) (fun L a w i o h hs hi ho K hK=>?_) fuel _ a w ⟨hI,?_,by simp[hn]⟩ (by simp[hn]) ?_
 ·obtain⟨h0,o',ho',hd⟩:=mem_ready.1 hi
  rw[ho]at ho'
  cases ho'
  have hlt:i<L.size:=by rw[hs];exact (Array.getElem?_eq_some_iff.1 ho).1
  have hd':∀ e∈o.after,Region.binds md e=true->up L e.on=true:=hd
  refine hstep L a w i o h.1 hlt hs (yH h0) h.2.1 hd' ho K fun a' w' h'=>hK a' w' ⟨h',fun j oj hoj hj e he hb=>?_,by simpa using hs⟩
  rw[dY hlt]at hj
  by_cases q:i=j
  ·subst q
   rw[ho]at hoj
   cases hoj
   exact mY hlt (hd' e he hb)
  ·rw[if_neg q]at hj
   exact mY hlt (h.2.1 j oj hoj hj e he hb)
 ·intro j o ho hj
  rw[bR]at hj
  cases hj
 ·have:∀ k:Nat,yF (List.replicate k false)=k:=fun k=>by
   induction k with
   | zero=>rfl
   | succ k ih=>show yF (false :: List.replicate k false)=k+1;unfold yF at ih ⊢; rw[List.map_cons,List.sum_cons,ih];simp;omega
  rw[Array.toList_replicate,this]
  exact hf
end
section
variable {F:Fence} {n:Nat} {P:Program} {ops:Array Oper} {Q:Exit->Act->World->Prop} {md:Region.Mode}
theorem sW (I:Array Bool->Act->World->Prop)
  (hdone:∀ L a w,I L a w->(∀ i,i<ops.size->up L i=true)->Q .normal a w)
  (hac:GR md ops=true)
  (hstep:∀ (L:Array Bool) (a:Act) (w:World) (i:Nat) (o:Oper),I L a w->i<L.size->L.size=ops.size->up L i=false->WJ md ops L->(∀ e∈o.after,Region.binds md e=true->up L e.on=true)->ops[i]?=some o->∀ K:Act->World->Prop,(∀ a w,I (L.setIfInBounds i true) a w->K a w)->wpOpIn F n P ops Q i K a w) :
  ∀ (fuel:Nat) (L:Array Bool) (a:Act) (w:World),I L a w->WJ md ops L->L.size=ops.size->yF L.toList<=fuel->wpAnyIn F n P md ops Q fuel L a w:=by
 intro fuel
 induction fuel with
 | zero=>
  intro L a w hI hC hs hu
  have hr:Region.ready md ops L=[]:=by
   cases hrr:Region.ready md ops L with
   | nil=>rfl
   | cons i rs=>
    have:=qB hs (i:=i) (md:=md) (by rw[hrr];exact List.mem_cons_self)
    exact absurd this (yG _ (by omega) i)
  exact⟨hr,hdone L a w hI fun i hi=>MJ (pU hac hs hr i hi) (by omega)⟩
 | succ fuel ih=>
  intro L a w hI hC hs hu
  refine⟨fun hr=>hdone L a w hI fun i hi=>MJ (pU hac hs hr i hi) (by omega),fun i hi=>?_⟩
  obtain⟨h0,o,ho,hd⟩:=mem_ready.1 hi
  have hlt:i<L.size:=by rw[hs];exact (Array.getElem?_eq_some_iff.1 ho).1
  have hd':∀ e∈o.after,Region.binds md e=true->up L e.on=true:=hd
  refine hstep L a w i o hI hlt hs (yH h0) hC hd' ho _ fun a' w' h'=>ih _ a' w' h' (fun j oj hoj hj e he hb=>?_) (by simpa using hs) ?_
  ·rw[dY hlt]at hj
   by_cases q:i=j
   ·subst q
    rw[ho]at hoj
    cases hoj
    exact mY hlt (hd' e he hb)
   ·rw[if_neg q]at hj
    exact mY hlt (hC j oj hoj hj e he hb)
  ·have h1:=BS L.toList i (qB hs hi)
   rw[Array.toList_setIfInBounds]
   omega
theorem qR (k:Nat):yF (Array.replicate k false).toList=k:=by
 rw[Array.toList_replicate]
 induction k with
 | zero=>rfl
 | succ k ih=>show yF (false :: List.replicate k false)=k+1;unfold yF at ih ⊢; rw[List.map_cons,List.sum_cons,ih];simp;omega
theorem zA (k:Nat):WJ md ops (Array.replicate k false):=fun j o ho hj=>by
 rw[bR]at hj
 cases hj
end
open Go.RowKit Go.Shelf Go.Maps Go.WideMaps Go.Sort
attribute [local go_sem] Oper.semAt_some
theorem bT {F:Fence} {n:Nat} {P:Program} {ops:Array Oper} {Q:Exit->Act->World->Prop} {i:Nat} {o:Oper} {K:Act->World->Prop} {a:Act} {w:World} (h:ops[i]?=some o) (hh:if Region.wanted o (yielded ops a.tmps) then o.wpIn F n P a w K Q else (∀ f,o.about P w a.eval=some f->F.fn f)/\K (a.put o.dst undef) w):wpOpIn F n P ops Q i K a w:=by
 unfold wpOpIn
 rw[h]
 exact hh
structure Bu (xs:List Pl.Ln) (mb:Nat->Nat) (gm:Nat) (w:World):Prop where
 map:∃ nn D,Qw xs mb D/\Maps.size D<=20000/\w.ownsMap Tryz.prog 9 zZ gm nn D
 yU:∀ i,Pl.lb xs (Pl.gl xs i).s=some i->w.cell? ⟨mb i,0,none⟩=some (.int .i64 (i:Nat))
theorem Bu.keep {xs:List Pl.Ln} {mb:Nat->Nat} {gm:Nat} {w w':World} (h:Bu xs mb gm w) (hb:Below w.heap.size w w'):Bu xs mb gm w':=by
 obtain⟨nn,D,h1,h2,h3⟩:=h.map
 exact⟨⟨nn,D,h1,h2,h3.kept (nH hb) (by simp)⟩,fun i hi=>aF hb (h.yU i hi)⟩
def xP (xs:List Pl.Ln) (mb:Nat->Nat) (w:World) (c:Option Addr) (cap:Nat) (w':World):Prop:=
 Below w.heap.size w w'/\(Pl.cZ xs xs.length=[]\/∃ g,c=some ⟨g,0,none⟩/\w.heap.size<=g/\g<w'.heap.size/\(∃ cur t f,w'.heap[g]?=some (.cells cur t f))/\∀ j,j<(Pl.cZ xs xs.length).length->w'.cell? ⟨g,j,none⟩=some (pR mb ((Pl.cZ xs xs.length).getD j 0)))
theorem PR (bx gm:Nat) (xs:List Pl.Ln) (mb:Nat->Nat) (wP:∀ i,i<xs.length->Pl.twice xs i=false) (w:World) (hL:Bu xs mb gm w) (hm:w.cell? ⟨bx,0,none⟩=some (.map (some gm))) :
  Calls Tryz.prog 130 #[.func (.func 139) #[] #[.pointer (some ⟨bx,0,none⟩)],.func (.func 127) #[] #[]] w fun e w'=>∃ c cap,e=.returned (.slice c (Pl.cZ xs xs.length).length cap)/\xP xs mb w c cap w':=by
 obtain⟨nn,D,hD,hsz,hown⟩:=hL.map
 have hA:=Ht bx gm nn xs mb D hD w hm hown hsz
 have HC:Hid (Calls Tryz.prog 137 #[.func (.func 139) #[] #[.pointer (some ⟨bx,0,none⟩)]] w fun e w'=>∃ c cap acc,e=.returned (.slice c acc.length cap)/\GM xs acc/\acc.length<=20000/\w'.ownsRow w.heap.size 115 1 (.slice c acc.length cap) acc.length (acc.map (pR mb))/\Below w.heap.size w w'):=by
  have HA:Hid (Calls Tryz.prog 142 #[.slice none 0 0,.func (.func 139) #[] #[.pointer (some ⟨bx,0,none⟩)]] w fun e w'=>∃ c cap acc,e=.returned (.slice c acc.length cap)/\GM xs acc/\acc.length<=20000/\w'.ownsRow w.heap.size 115 1 (.slice c acc.length cap) acc.length (acc.map (pR mb))/\Below w.heap.size w w'):=hA
  clear hA hown hL hm hsz hD
  show Calls _ _ _ _ _
  go_enter Tryz.func137,Tryz.ntmps137
  go_wp2_with (go_at_call 142;refine Calls.mono HA.out ?_;rintro e u1 ⟨c,cap,acc,rfl,q1,q2,q3,q4⟩)
  go_ret
  exact⟨c,cap,acc,rfl,q1,q2,q3,q4⟩
 have HS:Hid (∀ (u1:World) (c:Option Addr) (cap:Nat) (acc:List Nat),GM xs acc->acc.length<=20000->u1.ownsRow w.heap.size 115 1 (.slice c acc.length cap) acc.length (acc.map (pR mb))->Below w.heap.size w u1->Calls Tryz.prog 138 #[.slice c acc.length cap,.func (.func 127) #[] #[]] u1 fun e w'=>e=.returned (.tuple #[])/\acc.length=(Pl.cZ xs xs.length).length/\xP xs mb w c cap w'):=fun u1 c cap acc hall hn ho hb=>by
  have hmem:∀ i,i∈acc↔i∈Pl.cZ xs xs.length:=fun i=>(hall.2 i).trans (Pl.wX wP i)
  by_cases h0:acc=[]
  ·subst h0
   have hl:Pl.cZ xs xs.length=[]:=List.eq_nil_iff_forall_not_mem.2 fun i hi=>absurd ((hmem i).2 hi) (by simp)
   refine (AnyF.slices_SortFunc_none { Tryz.sortPM with } c cap (.func (.func 127) #[] #[]) u1).mono ?_
   rintro e w' ⟨rfl,rfl⟩
   exact⟨rfl,by rw[hl],hb,.inl hl⟩
  ·rcases ho.2 with ⟨_,q⟩ | ⟨g,cp,cur,e1,hlo,hg,hnc,hcm,hcs,htk⟩
   ·exact absurd (List.eq_nil_of_length_eq_zero q) h0
   injection e1 with e1 _ e2
   subst e1 e2
   have Nw:=(Array.getElem?_eq_some_iff.1 hg).1
   have hc:=ho.cells (g:=g) rfl
   refine (Nt xs mb wP g cap acc hall u1 Nw (fun j hj=>⟨?_,frozen_of_row _ _ j _ 115 hg⟩) (fun i hi=>?_) hn).mono ?_
   ·have:=hc j (pR mb (acc.getD j 0)) (by rw[List.getElem?_map,List.getElem?_eq_getElem hj,List.getD_eq_getElem?_getD,List.getElem?_eq_getElem hj];rfl)
    rw[Addr.add_lit,Nat.zero_add]at this
    exact this
   ·have J4:=hL.yU i hi
    have hlt:mb i<w.heap.size:=block_lt_of_cell J4
    have hb1:=hb.size
    exact⟨by omega,by omega,aF hb J4⟩
   ·rintro e w' ⟨rfl,h1,h2,h3⟩
    refine⟨rfl,h2,?_,.inr ⟨g,rfl,hlo,Nat.lt_of_lt_of_le Nw h1.size,?_,fun j hj=>h3 j (by omega)⟩⟩
    ·exact hb.trans (h1.low hlo hb.size)
    ·have h4:=h3 0 (by rcases acc with _ | _;exact absurd rfl h0;simp)
     unfold World.cell? at h4
     cases hh:w'.heap[g]? with
     | none=>rw[hh]at h4;simp at h4
     | some o=>
      rw[hh]at h4
      cases o <;> simp at h4
      exact⟨_,_,_,rfl⟩
 clear hA hown hL hm hsz hD wP
 go_enter Tryz.func130,Tryz.ntmps130
 go_wp2_with (first | (go_at_call 137;refine Calls.mono HC.out ?_;rintro e u1 ⟨c,cap,acc,rfl,q1,q2,q3,q4⟩; have HS2:Hid _:=HS.out u1 c cap acc q1 q2 q3 q4;clear q1 q2 q3 q4) | (go_at_call 138;refine Calls.mono HS2.out ?_;rintro e u2 ⟨rfl,hl,hs⟩; have aX:Hid (acc.length=(Pl.cZ xs xs.length).length):=hl;have HSS:Hid (xP xs mb w c cap u2):=hs;clear hl hs))
 go_ret
 refine⟨c,cap,?_,HSS.out⟩
 rw[<- aX.out]
 rfl
theorem PS (gm:Nat) (w:World):Calls Tryz.prog 131 #[.map (some gm)] w fun e w'=>e=.returned (.func (.func 139) #[] #[.pointer (some ⟨w.heap.size,0,none⟩)])/\w'=w.alloc (.cells #[.map (some gm)] 67):=by
 go_enter Tryz.func131,Tryz.ntmps131
 go_wp2
 go_ret
 exact⟨rfl,rfl⟩
noncomputable def Xt (n:Nat):Code:=((Tryz.f129.body.bind (lG n)).getD .skip)
def lK (l bm bf gm hv N m:Nat) (A:Option Addr->Nat->World->Prop)  (c3 c4 c5 c12 c13 c14 c15 c16 c17 c18 c19 d6 d7 d8 d9 vK tZ:Value) (c2:Option Addr) (y2:Nat) (L:Array Bool):Act:={ tmps:=#[.func (.yield l) #[] #[],.pointer (some ⟨bm,0,none⟩),.pointer (some ⟨bf,0,none⟩),c3,c4,c5,aR d6 L 0 (.map (some gm)),aR d7 L 1 (.func (.func 139) #[] #[.pointer (some ⟨hv,0,none⟩)]),aR d8 L 2 (.func (.func 127) #[] #[]),aR d9 L 3 (.slice c2 N y2),aR vK L 4 (.int .i64 (N:Nat)),aR tZ L 5 (.int .i64 0),c12,c13,c14,c15,c16,c17,c18,c19],defers:=[] }
set_option maxRecDepth 100000 in
theorem Xu (l bm bf gm hv N m:Nat) (A:Option Addr->Nat->World->Prop) {c3 c4 c5 c12 c13 c14 c15 c16 c17 c18 c19 d6 d7 d8 d9 vK tZ:Value} (Y:World) (hh:hv=Y.heap.size) (m1:Y.cell? ⟨bm,0,none⟩=some (.map (some gm))) (m2:Y.cell? ⟨bf,0,none⟩=some (.func (.func 127) #[] #[])) (hT:Calls Tryz.prog 130 #[.func (.func 139) #[] #[.pointer (some ⟨hv,0,none⟩)],.func (.func 127) #[] #[]] (Y.drew.alloc (.cells #[.map (some gm)] 67)) fun e w'=>∃ c2 y2,e=.returned (.slice c2 N y2)/\A c2 y2 w') (hN:(N:Int)<=20000) (hm1:1<=m) {Q:Exit->Act->World->Prop}
  (hK:∀ (c2:Option Addr) (y2:Nat) (w1:World),A c2 y2 w1->Q .normal { tmps:=#[.func (.yield l) #[] #[],.pointer (some ⟨bm,0,none⟩),.pointer (some ⟨bf,0,none⟩),c3,c4,c5,.map (some gm),.func (.func 139) #[] #[.pointer (some ⟨hv,0,none⟩)],.func (.func 127) #[] #[],.slice c2 N y2,.int .i64 (N:Nat),.int .i64 0,c12,c13,c14,c15,c16,c17,c18,c19],defers:=[] } w1) :
  (Xt 0).wpIn Fence.wide m Tryz.prog Q { tmps:=#[.func (.yield l) #[] #[],.pointer (some ⟨bm,0,none⟩),.pointer (some ⟨bf,0,none⟩),c3,c4,c5,d6,d7,d8,d9,vK,tZ,c12,c13,c14,c15,c16,c17,c18,c19],defers:=[] } Y:=by
 have nI:Hid _:=hK
 clear hK
 have HT:Hid _:=hT
 have j1:Y.drew.cell? ⟨bm,0,none⟩=some (.map (some gm)):=m1
 have j2:Y.drew.cell? ⟨bf,0,none⟩=some (.func (.func 127) #[] #[]):=m2
 subst hh
 clear hT m1 m2
 conv=>arg 4;whnf
 refine wpIn_region_any (by kernel_rfl) ?_
 change wpAnyIn _ _ _ _ _ _ _ _ _ (World.drew _)
 refine sW (fun L jD u=>∃ c2 y2 w1,jD=lK l bm bf gm Y.heap.size N m A  c3 c4 c5 c12 c13 c14 c15 c16 c17 c18 c19 d6 d7 d8 d9 vK tZ c2 y2 L/\iO Y.drew (fun u=>u=Y.drew.alloc (.cells #[.map (some gm)] 67)) (A c2 y2) 1 3 w1 L u) ?done (by kernel_rfl) ?step 6 _ _ _ ?init (zA _) (by kernel_rfl) (by rw[qR];exact Nat.le_refl _)
 case init=>exact⟨none,0,Y,by simp only[lK,dG (bR _ _)],iO.init⟩
 case step=>
  intro L act w i o hI hlt hs nl hC hd ho K hK
  obtain⟨c2,y2,w1,rfl,hW⟩:=hI
  have jB:i<6:=(Array.getElem?_eq_some_iff.1 ho).1
  have hD:=fun k m=>hd {on:=k,ground:=.data} m rfl
  rcases (show i=0\/i=1\/i=2\/i=3\/i=4\/i=5 by omega) with rfl|rfl|rfl|rfl|rfl|rfl<;>(change some _=some o at ho;cases ho)
  ·have n1:up L 1=false:=hC.no nl 1 rfl (by kernel_rfl)
   obtain rfl:=hW.1 n1
   simp only[lK]
   refine bT rfl ?_
   go_simp
   exact hK _ _ ⟨c2,y2,w1,by simp only[lK,aD hlt,reduceIte,Nat.reduceEqDiff];try rfl,(hW.keep hlt (by decide) (by decide))⟩
  ·have q0:up L 0=true:=hD 0 (by simp)
   have n3:up L 3=false:=hC.no nl 3 rfl (by kernel_rfl)
   obtain rfl:=hW.1 nl
   simp only[lK,aA q0]
   refine bT rfl ?_
   go_simp
   refine⟨trivial,?_⟩
   refine (callsIn_wide.2 (PS gm _)).mono ?_
   rintro e w3 ⟨rfl,rfl⟩
   go_simp
   exact hK _ _ ⟨c2,y2,_,by simp only[lK,aD hlt,aA q0,reduceIte,Nat.reduceEqDiff];try rfl,iO.first hlt (by decide) n3 rfl⟩
  ·have n3:up L 3=false:=hC.no nl 3 rfl (by kernel_rfl)
   have xo:=hW.cell n3 j2 (fun q=>by rw[q];exact aF (aB _ _) j2)
   simp only[lK]
   refine bT rfl ?_
   go_simp
   exact hK _ _ ⟨c2,y2,w1,by simp only[lK,aD hlt,reduceIte,Nat.reduceEqDiff];try rfl,(hW.keep hlt (by decide) (by decide))⟩
  ·have q1:up L 1=true:=hD 1 (by simp)
   have q2:up L 2=true:=hD 2 (by simp)
   obtain⟨d1,y4,_⟩:=hW.2 q1
   obtain rfl:=y4 nl
   have Xv:=HT.out
   rw[<- d1]at Xv
   have HT2:Hid _:=Xv
   have D1:Hid _:=d1
   clear Xv d1
   simp only[lK,aA q1,aA q2]
   refine bT rfl ?_
   go_simp
   refine⟨trivial,?_⟩
   refine (callsIn_wide.2 HT2.out).mono ?_
   rintro e w3 ⟨c3,y3,rfl,hs3⟩
   go_simp
   exact hK _ _ ⟨c3,y3,w,by simp only[lK,aD hlt,aA q1,aA q2,reduceIte,Nat.reduceEqDiff];try rfl,⟨fun z=>absurd (z.symm.trans ((dY hlt 1).trans ((if_neg (by decide)).trans q1))) (by decide),fun _=>⟨D1.out,fun z=>absurd (z.symm.trans ((dY hlt _).trans (if_pos rfl))) (by decide),fun _=>hs3⟩⟩⟩
  ·have q3:up L 3=true:=hD 3 (by simp)
   simp only[lK,aA q3]
   refine bT rfl ?_
   go_simp
   exact hK _ _ ⟨c2,y2,w1,by simp only[lK,aD hlt,aA q3,reduceIte,Nat.reduceEqDiff];try rfl,(hW.keep hlt (by decide) (by decide))⟩
  ·simp only[lK]
   refine bT rfl ?_
   go_simp
   exact hK _ _ ⟨c2,y2,w1,by simp only[lK,aD hlt,reduceIte,Nat.reduceEqDiff];try rfl,(hW.keep hlt (by decide) (by decide))⟩
 case done=>
  rintro L a u ⟨c2,y2,w1,rfl,hW⟩ hall
  simp only[lK,aA (hall 0 (by decide)),aA (hall 1 (by decide)),aA (hall 2 (by decide)),aA (hall 3 (by decide)),aA (hall 4 (by decide)),aA (hall 5 (by decide))]
  obtain⟨d1,_,hB⟩:=hW.2 (hall 1 (by decide))
  exact nI.out c2 y2 u (hB (hall 3 (by decide)))
attribute [local go_sem] Oper.semAt_some
theorem KS (gm:Nat) (w:World):Calls Tryz.prog 115 #[.map (some gm)] w fun e w'=>e=.returned (.func (.func 129) #[] #[.pointer (some ⟨w.heap.size,0,none⟩),.pointer (some ⟨w.heap.size+1,0,none⟩)])/\w'=(w.alloc (.cells #[.map (some gm)] 67)).alloc (.cells #[.func (.func 127) #[] #[]] 151):=by
 go_enter Tryz.func115,Tryz.ntmps115
 go_wp2
 have hz:((w.alloc (.cells #[.map (some gm)] 67)).alloc (.cells #[.nilFunc] 151)).frozen? ⟨w.heap.size+1,0,none⟩=false:=by
  have hr:((w.alloc (.cells #[.map (some gm)] 67)).alloc (.cells #[.nilFunc] 151)).heap[w.heap.size+1]?=some (.cells #[.nilFunc] 151 (0,0)):=bL (by simp)
  simp only[World.frozen?,hr]
  simp
 rw[run_store _ _ _ _ _ rfl]
 go_wp2
 all_goals first | (go_ret;exact⟨rfl,rfl⟩) | exact absurd (hz.symm.trans (by assumption)) (by decide)
set_option maxRecDepth 100000 in
theorem Hy (m l bm bf gm:Nat) (hm:1<=m) (xs:List Pl.Ln) (hxs:xs.length<=20000) (mb:Nat->Nat) (wP:∀ i,i<xs.length->Pl.twice xs i=false) (J:Nat->World->Prop) (W:World) (hL:Bu xs mb gm W) (m1:W.cell? ⟨bm,0,none⟩=some (.map (some gm))) (m2:W.cell? ⟨bf,0,none⟩=some (.func (.func 127) #[] #[]))
  (J5:∀ p A A',J p A->Below A.heap.size A A'->J p A')
  (hY:∀ p A,p<(Pl.cZ xs xs.length).length->J p A->W.heap.size<=A.heap.size->YieldAt Fence.wide (m-1) Tryz.prog l #[pR mb ((Pl.cZ xs xs.length).getD p 0)] A fun e A'=>e=.returned (.bool true)/\J (p+1) A'/\(∀ (b:Nat) (o:Obj),W.heap.size<=b->A.heap[b]?=some o->A'.heap[b]?=some o)/\A.heap.size<=A'.heap.size)
  (h0:J 0 W):CallsIn Fence.wide m Tryz.prog 129 #[.func (.yield l) #[] #[],.pointer (some ⟨bm,0,none⟩),.pointer (some ⟨bf,0,none⟩)] W fun e W'=>(∃ v,e=.returned v)/\J (Pl.cZ xs xs.length).length W':=by
 have hbb:Below W.heap.size W (W.drew.alloc (.cells #[.map (some gm)] 67)):=Below.alloc (Below.drew (Below.refl _ _)) (Nat.le_refl _) _
 have HT:Hid _:=PR W.heap.size gm xs mb wP _ (hL.keep hbb) (show (W.drew.alloc (.cells #[.map (some gm)] 67)).cell? ⟨W.heap.size,0,none⟩=_ from cell_of_row _ _ 0 _ 67 (0,0) (bL rfl))
 have hNl:(Pl.cZ xs xs.length).length<=20000:=by
  have h2:(Pl.cZ xs xs.length).length<=xs.length:=by unfold Pl.cZ;refine Nat.le_trans (List.length_filter_le _ _) (by simp)
  omega
 have Xw:Hid _:=J5
 have HY:Hid _:=hY
 have H0:Hid (J 0 W):=h0
 have aX:Hid (Pl.cZ xs xs.length=[]->(Pl.cZ xs xs.length).length=0):=fun h=>by rw[h];rfl
 clear J5 hY h0 hL
 obtain⟨N,hN⟩:∃ N,N=(Pl.cZ xs xs.length).length:=⟨_,rfl⟩
 rw[<- hN]at hNl HY HT aX ⊢
 have HNE:Hid (N=(Pl.cZ xs xs.length).length):=hN
 clear hN
 refine callsIn_of_wp Tryz.func129 rfl trivial ?_ rfl
 simp only[Tryz.ntmps129,List.size_toArray,List.length_cons,List.length_nil,Nat.reduceAdd,Nat.reduceSub,Array.replicate_succ,Array.replicate_zero,List.push_toArray,List.append_toArray,List.nil_append,List.cons_append]
 refine wpIn_seq ?_
 refine Xu l bm bf gm W.heap.size N m (fun c cap u=>xP xs mb (W.drew.alloc (.cells #[.map (some gm)] 67)) c cap u) W rfl m1 m2 HT.out (by omega) hm ?_
 intro c2 y2 w1 hs
 have J6:Hid (J 0 w1):=Xw.out 0 W w1 H0.out (hbb.trans (hs.1.mono (by simp)))
 have hsz:W.heap.size<=w1.heap.size:=(hbb.trans (hs.1.mono (by simp))).size
 have HRW:Hid (N=0\/∃ g cur t f,c2=some ⟨g,0,none⟩/\W.heap.size<=g/\w1.heap[g]?=some (.cells cur t f)/\∀ j,j<N->w1.cell? ⟨g,j,none⟩=some (pR mb ((Pl.cZ xs xs.length).getD j 0))):=by
  rcases hs.2 with q | ⟨g,q1,q2,q3,⟨cur,t,f,q4⟩,q5⟩
  ·exact .inl (aX.out q)
  ·exact .inr ⟨g,cur,t,f,q1,by simp at q2;omega,q4,fun j hj=>q5 j (by rw[<- HNE.out];exact hj)⟩
 clear hs HT H0 hbb m1 m2
 rcases HRW.out with hN0 | ⟨g,cur,t,f,hc2,hg,hgr,hcl⟩
 ·have HN0:Hid (N=0):=hN0
  clear HRW
  subst hN0
  gi_wp2
  gi_loopw [11] (fun v wr=>v=.int .i64 0/\J 0 wr) (fun _ _=>0)
  case atStart=>exact⟨rfl,J6.out⟩
  case round=>
   obtain⟨rfl,hj⟩:=hrel
   have HJ2:Hid (J 0 wr):=hj
   clear hj
   gi_wp2
   refine bodyPost_end (results_none rfl _ _ _) rfl ?_
   exact⟨⟨_,rfl⟩,HJ2.out⟩
 subst hc2
 have HCL:Hid (∀ A:World,A.heap[g]?=some (.cells cur t f)->∀ j,j<N->A.cell? ⟨g,j,none⟩=some (pR mb ((Pl.cZ xs xs.length).getD j 0))):=fun A hA j hj=>(World.cell?_of_block (hA.trans hgr.symm)).trans (hcl j hj)
 have Np:Hid (w1.heap[g]?=some (.cells cur t f)):=hgr
 clear hcl HRW hgr
 gi_wp2
 gi_loopw [11] (fun v wr=>∃ j:Nat,j<=N/\v=.int .i64 (j:Nat)/\Hid (J j wr/\wr.heap[g]?=some (.cells cur t f)/\W.heap.size<=wr.heap.size)) (fun v _=>N-(intOf v).toNat)
 case atStart=>exact⟨0,Nat.zero_le _,rfl,J6.out,Np.out,hsz⟩
 case round=>
  obtain⟨j,hj,rfl,HW⟩:=hrel
  by_cases hlt:j<N
  rotate_left
  ·have hii:¬ ((j:Int)<(N:Int)):=by omega
   have hjn:j=N:=by omega
   have HE:Hid (J N wr):=by rw[<- hjn];exact HW.out.1
   clear hjn HY Xw
   gi_wp2
   refine bodyPost_end (results_none rfl _ _ _) rfl ?_
   exact⟨⟨_,rfl⟩,HE.out⟩
  have hii:(j:Int)<(N:Int):=by omega
  have cz:=HCL.out wr HW.out.2.1 j hlt
  have Ke:=HY.out j wr hlt HW.out.1 HW.out.2.2
  obtain⟨q,hq⟩:∃ q,q=mb ((Pl.cZ xs xs.length).getD j 0):=⟨_,rfl⟩
  unfold pR at cz Ke
  rw[<- hq]at cz Ke
  clear hq
  obtain⟨fn,tmps,assign,body,hy,hR⟩:=Ke
  have HR:Hid _:=hR
  have HGW:Hid (wr.heap[g]?=some (.cells cur t f)):=HW.out.2.1
  have hzw:=HW.out.2.2
  clear hR HY Xw HW
  gi_wp2
  refine RoundIn.mono HR.out ?_
  rintro e W3 ⟨rfl,hJ3,hk3,hz9⟩
  have Qy:Hid (J (j+1) W3/\W3.heap[g]?=some (.cells cur t f)):=⟨hJ3,hk3 g _ hg HGW.out⟩
  have hz3:W.heap.size<=W3.heap.size:=Nat.le_trans hzw hz9
  clear hJ3 hk3 hy HR
  gi_wp2
  go_roundw
  case rel=>exact⟨j+1,by omega,by go_num,Qy.out.1,Qy.out.2,hz3⟩
  case measure=>simp[intOf];omega
attribute [local go_sem] Oper.semAt_some
def Ny (D:Nat) (Wb:World) (I:World->Prop):Exit->Act->World->Prop
 | .normal,_,W'=>(∀ b,D<=b->b<Wb.heap.size->W'.heap[b]?=Wb.heap[b]?)/\I W'/\Wb.heap.size<=W'.heap.size
 | _,_,_=>False
theorem Hz {op:Operand} {ps:Array Tmp} {assign body:Code} {Q:Exit->Act->World->Prop} {a:Act} {w:World} (n bm bf gm:Nat) (h1:2<=n)
  (hop:a.eval op=.func (.func 129) #[] #[.pointer (some ⟨bm,0,none⟩),.pointer (some ⟨bf,0,none⟩)]) (hps:ps.size=1)
  (xs:List Pl.Ln) (hxs:xs.length<=20000) (mb:Nat->Nat) (wP:∀ i,i<xs.length->Pl.twice xs i=false) (hL:Bu xs mb gm w) (m1:w.cell? ⟨bm,0,none⟩=some (.map (some gm))) (m2:w.cell? ⟨bf,0,none⟩=some (.func (.func 127) #[] #[]))
  (I:Nat->World->Prop) (Hq:∀ p A A',I p A->Below A.heap.size A A'->I p A')
  (h0:∀ A,Below w.heap.size w A->I 0 A)
  (ZN:∀ p A l o o',I p A->w.heap.size<=l->l<w.heap.size+2->A.heap[l]?=some o'->o'.isCells=false->I p (A.putObj l o))
  (Ax:Nat->World->Act->World->Prop)
  (hassign:∀ (l q:Nat) (W:World) (K:Act->World->Prop),(∀ a' W',W'=W->Ax q W a' W'->K a' W')->
   assign.wpIn (Fence.wide.inRound l) (n-1-1) Tryz.prog (Exit.then K (fun _ _ _=>False)) { tmps:=(ps.zip #[pR mb q]).foldl (fun t (p,v)=>t.setIfInBounds p v) a.tmps,defers:=[] } W)
  (hbody:∀ (l p:Nat) (W:World) (a':Act) (o:Obj),p<(Pl.cZ xs xs.length).length->w.heap.size<=l->l<w.heap.size+2->I p W->w.heap.size+2<=W.heap.size->(∀ b,w.heap.size<=b->b<w.heap.size+2->∃ o',W.heap[b]?=some o'/\o'.isCells=false)->Ax ((Pl.cZ xs xs.length).getD p 0) W a' W->
   body.wpIn (Fence.wide.inRound l) (n-1-1) Tryz.prog (Ny w.heap.size (W.putObj l o) (I (p+1))) a' (W.putObj l o))
  (hdone:∀ W,I (Pl.cZ xs xs.length).length W->W.heap[w.heap.size]?=some (.deferred (some []))->Q .normal { a with defers:={ target:=.collected w.heap.size,args:=#[] } :: a.defers } W) :
  (Code.rangeFunc op ps assign body).wpIn Fence.wide n Tryz.prog Q a w:=by
 refine wpIn_rangeFunc fun fn hfn=>?_
 let r0:Loop:={ state:=.ready,pending:=none,fn:=fn,tmps:=a.tmps,params:=ps,assign:=assign,body:=body,defers:=w.heap.size }
 obtain⟨W1,hW1⟩:∃ W1,(w.alloc (.deferred (some []))).alloc (.loop r0)=W1:=⟨_,rfl⟩
 have hL1:W1.heap[w.heap.size+1]?=some (.loop r0):=hW1 ▸ bL (by simp)
 have hD1:W1.heap[w.heap.size]?=some (.deferred (some [])):=hW1 ▸ (Below.heap_alloc _ _ _ (by simp)).trans (heap_alloc_new w _)
 have hB1:Below w.heap.size w W1:=by rw[<- hW1];exact (aB w _).trans ((aB _ _).mono (by simp))
 have hz1:W1.heap.size=w.heap.size+2:=by rw[<- hW1];simp
 refine⟨w.heap.size+1,[{ target:=.collected w.heap.size,args:=#[] }],W1,{ target:=.fn (.func 129) #[.pointer (some ⟨bm,0,none⟩),.pointer (some ⟨bf,0,none⟩)],args:=#[.func (.yield (w.heap.size+1)) #[] #[]] },W1,129,
  #[.func (.yield (w.heap.size+1)) #[] #[]] ++ #[.pointer (some ⟨bm,0,none⟩),.pointer (some ⟨bf,0,none⟩)],W1,?_,?_,?_,?_,fun _=>by omega,?_⟩
 ·rw[<- hW1];exact run_enterLoop_outer _ _ _ _ _
 ·simp only[resolve,hop]
  simp[go_sem]
 ·intro f' _;trivial
 ·simp[invoke,go_sem,enters_of Tryz.func129 (by kernel_rfl) rfl]
 refine (Hy (n-1) (w.heap.size+1) bm bf gm (by omega) xs hxs mb wP
  (fun j W=>I j W/\W.heap[w.heap.size+1]?=some (.loop r0)/\W.heap[w.heap.size]?=some (.deferred (some [])))
  W1 (hL.keep hB1) (aF hB1 m1) (aF hB1 m2) ?hJ ?hY ⟨h0 _ hB1,hL1,hD1⟩).mono ?post
 case hJ=>
  rintro p A A' ⟨q1,q2,q3⟩ hb
  exact⟨Hq p A A' q1 hb,(hb.block _ (Array.getElem?_eq_some_iff.1 q2).1).trans q2,(hb.block _ (Array.getElem?_eq_some_iff.1 q3).1).trans q3⟩
 case hY=>
  rintro p W hp ⟨hi,hl,hd⟩ hz
  rw[hz1]at hz
  refine⟨_,_,_,_,run_yield hl (by show 1=ps.size;omega),roundIn_of_wpIn hfn (hassign _ _ W _ fun a' W' hW' ha=>?_)⟩
  subst hW'
  refine⟨_,run_beginRound hl rfl,wpIn_mono (hbody _ p W' a' _ hp (by omega) (by omega) hi hz (fun b hb1 hb2=>by rcases (show b=w.heap.size\/b=w.heap.size+1 by omega) with rfl | rfl;exact⟨_,hd,rfl⟩; exact⟨_,hl,rfl⟩) ha) ?_⟩
  have Nz:∀ (A:World) (l:Nat) (o:Obj),(A.putObj l o).heap.size=A.heap.size:=fun A l o=>by simp[World.putObj]
  have hl2:(W'.putObj (w.heap.size+1) (.loop { r0 with state:=.busy })).heap[w.heap.size+1]?=some (.loop { r0 with state:=.busy }):=World.putObj_heap_same (by omega)
  have hd2:(W'.putObj (w.heap.size+1) (.loop { r0 with state:=.busy })).heap[w.heap.size]?=some (.deferred (some [])):=(World.putObj_heap_other (by omega)).trans hd
  rintro e a3 W3 hp
  cases e with
  | normal=>
   obtain⟨k1,hi3,hk3⟩:=hp
   rw[Nz]at hk3
   have hl3:=(k1 (w.heap.size+1) (by omega) (by rw[Nz];omega)).trans hl2
   have hd3:=(k1 w.heap.size (by omega) (by rw[Nz];omega)).trans hd2
   refine⟨_,_,run_endRound none hl3,rfl,⟨ZN _ _ _ _ _ hi3 (by omega) (by omega) hl3 rfl,World.putObj_heap_same (Array.getElem?_eq_some_iff.1 hl3).1,(World.putObj_heap_other (by omega)).trans hd3⟩,fun b o hb ho=>?_,?_⟩
   ·rw[hz1]at hb
    have hbz:=(Array.getElem?_eq_some_iff.1 ho).1
    exact (World.putObj_heap_other (by omega)).trans ((k1 b (by omega) (by rw[Nz];exact hbz)).trans ((World.putObj_heap_other (by omega)).trans ho))
   ·rw[Nz];exact hk3
  | ret=>exact hp.elim
  | exit id=>exact hp.elim
  | goto t=>exact hp.elim
  | panic ch=>exact hp.elim
  | outgrown=>exact hp.elim
 case post=>
  rintro e W2 ⟨⟨v,rfl⟩,hi,hl,hd⟩
  exact⟨_,_,run_endLoop hl (show LoopState.ready≠LoopState.busy by decide),hdone _ (ZN _ _ _ _ _ hi (by omega) (by omega) hl rfl) ((World.putObj_heap_other (by omega)).trans hd)⟩
theorem jE.part {lo:Nat} {w:World} {a:Option Addr} {len cap:Nat} {xs:List Pl.Ln} (h:jE lo w a len cap xs) (l i:Nat) (hl:l<=i) (hi:i<=len):∃ a2 c2,sliced a l i cap 8=.slice a2 (i-l) c2/\jE lo w a2 (i-l) c2 ((xs.drop l).take (i-l)):=by
 obtain⟨⟨h1,h1'⟩,h2,h3,h4⟩:=h
 refine⟨_,_,rfl,⟨by simp;omega,fun x hx=>h1' x (List.mem_of_mem_drop (List.mem_of_mem_take hx))⟩,by omega,by omega,?_⟩
 rcases h4 with h4 | ⟨b,off,ha,hlo,hlt,hc⟩
 ·left;omega
 by_cases hz:i-l=0
 ·exact .inl hz
 right
 rw[if_neg (by omega),ha]
 refine⟨b,off+l*8,by simp[Addr.add],hlo,hlt,fun j hj q hq=>?_⟩
 rw[show off+l*8+j*8+q=off+(l+j)*8+q by omega,hc (l+j) (by omega) q hq]
 congr 2
 simp[List.getD_eq_getElem?_getD,List.getElem?_take,hj]
theorem NC (xs:List Pl.Ln) (l i j:Nat) (hj:j<i-l):Pl.gl ((xs.drop l).take (i-l)) j=Pl.gl xs (l+j):=by
 unfold Pl.gl
 simp[List.getD_eq_getElem?_getD,List.getElem?_take,hj]
theorem Bv (u:World):(sizeOf (Tryz.prog.elem 23)).run Tryz.prog u=.ok 8 u:=by
 have h:Tryz.prog.elem 23=51:=by kernel_rfl
 rw[h]
 go_simp
theorem UF (a:Option Addr) (len cap l i:Nat) (hl:l<=i) (hi:i<=cap) (u:World):(Instr.slice 23 (.slice a len cap) (some (.int .i64 (l:Nat))) (some (.int .i64 (i:Nat))) none).run Tryz.prog u=.ok (sliced a l i cap 8) u:=by
 rw[run_slice_lh (P:=Tryz.prog) (w:=u) 23 a len cap (by kernel_rfl) .i64 .i64 (l:Nat) (i:Nat) (by omega) (by omega) (by omega),Bv]
 rfl
theorem ZR (a:Option Addr) (len cap l:Nat) (hl:l<=len) (u:World):(Instr.slice 23 (.slice a len cap) (some (.int .i64 (l:Nat))) none none).run Tryz.prog u=.ok (sliced a l len cap 8) u:=by
 rw[run_slice_l (P:=Tryz.prog) (w:=u) 23 a len cap (by kernel_rfl) .i64 (l:Nat) (by omega) (by omega),Bv]
 rfl
noncomputable def Oa (n:Nat):Code:=((Tryz.f79.body.bind (lG n)).getD .skip)
def fJ (ga hb hn hm n i k y2 len cap rl m:Nat) (a a2:Option Addr)  (c0 c2 c5 c6 c7 c8 c9 c10 c11 c12 c13 c14 c15 c28 eQ eT c31 c32 eU c34 eX eY c37 fP fQ c40 gQ iP iQ iF iG c46 iY iH c49 iI c51 iJ c53 iZ iK iL iM fH c59 fU fV fZ gU c64 qJ qK qL qM qN qO oO oP rP rQ qP oN:Value)  (L:Array Bool):Act:={ tmps:=#[c0,.pointer (some ⟨hb,0,none⟩),c2,.pointer (some ⟨hn,0,none⟩),.pointer (some ⟨hm,0,none⟩),c5,c6,c7,c8,c9,c10,c11,c12,c13,c14,c15,aR qJ L 0 (.pointer (some ⟨ga,0,none⟩)),aR qK L 1 (.pointer (some ⟨ga,0,none⟩)),aR qL L 2 (.pointer (some ⟨ga,0,none⟩)),aR qM L 3 (.slice a len cap),aR qN L 4 (.int .i64 (n:Nat)),aR qO L 5 (.pointer (some ⟨hm,0,none⟩)),aR oO L 6 (.pointer (some ⟨hm,0,none⟩)),aR oP L 7 (.pointer (some ⟨hm,0,none⟩)),aR rP L 8 (.int .i64 (i:Nat)),aR rQ L 9 (.slice a2 k y2),aR qP L 10 (.int .i64 (k:Nat)),aR oN L 11 (.int .i64 0),c28,eQ,eT,c31,c32,eU,c34,eX,eY,c37,fP,fQ,c40,gQ,iP,iQ,iF,iG,c46,iY,iH,c49,iI,c51,iJ,c53,iZ,iK,iL,iM,fH,c59,fU,fV,fZ,gU,c64],defers:=[] }
set_option maxRecDepth 100000 in
theorem Xx (ga hb hn hm n i k y2 len cap rl m:Nat) (a a2:Option Addr) {c0 c2 c5 c6 c7 c8 c9 c10 c11 c12 c13 c14 c15 c28 eQ eT c31 c32 eU c34 eX eY c37 fP fQ c40 gQ iP iQ iF iG c46 iY iH c49 iI c51 iJ c53 iZ iK iL iM fH c59 fU fV fZ gU c64 qJ qK qL qM qN qO oO oP rP rQ qP oN:Value} (Y:World) (m1:Y.cell? ⟨hb,0,none⟩=some (.pointer (some ⟨ga,0,none⟩))) (m2:Y.cell? ⟨ga,0,none⟩=some (.slice a len cap)) (m3:Y.cell? ⟨hn,0,none⟩=some (.int .i64 (n:Nat))) (m4:Y.cell? ⟨hm,0,none⟩=some (.int .i64 (i:Nat))) (hsl:∀ u:World,(Instr.slice 23 (.slice a len cap) (some (.int .i64 (n:Nat))) (some (.int .i64 (i:Nat))) none).run Tryz.prog u=.ok (.slice a2 k y2) u) (hm1:1<=m) {Q:Exit->Act->World->Prop}
  (hK:Q .normal { tmps:=#[c0,.pointer (some ⟨hb,0,none⟩),c2,.pointer (some ⟨hn,0,none⟩),.pointer (some ⟨hm,0,none⟩),c5,c6,c7,c8,c9,c10,c11,c12,c13,c14,c15,.pointer (some ⟨ga,0,none⟩),.pointer (some ⟨ga,0,none⟩),.pointer (some ⟨ga,0,none⟩),.slice a len cap,.int .i64 (n:Nat),.pointer (some ⟨hm,0,none⟩),.pointer (some ⟨hm,0,none⟩),.pointer (some ⟨hm,0,none⟩),.int .i64 (i:Nat),.slice a2 k y2,.int .i64 (k:Nat),.int .i64 0,c28,eQ,eT,c31,c32,eU,c34,eX,eY,c37,fP,fQ,c40,gQ,iP,iQ,iF,iG,c46,iY,iH,c49,iI,c51,iJ,c53,iZ,iK,iL,iM,fH,c59,fU,fV,fZ,gU,c64],defers:=[] } Y.drew) :
  (Oa 5).wpIn (Fence.wide.inRound rl) m Tryz.prog Q { tmps:=#[c0,.pointer (some ⟨hb,0,none⟩),c2,.pointer (some ⟨hn,0,none⟩),.pointer (some ⟨hm,0,none⟩),c5,c6,c7,c8,c9,c10,c11,c12,c13,c14,c15,qJ,qK,qL,qM,qN,qO,oO,oP,rP,rQ,qP,oN,c28,eQ,eT,c31,c32,eU,c34,eX,eY,c37,fP,fQ,c40,gQ,iP,iQ,iF,iG,c46,iY,iH,c49,iI,c51,iJ,c53,iZ,iK,iL,iM,fH,c59,fU,fV,fZ,gU,c64],defers:=[] } Y:=by
 have nI:Hid _:=hK
 clear hK
 have j1:Y.drew.cell? ⟨hb,0,none⟩=some (.pointer (some ⟨ga,0,none⟩)):=m1
 have j2:Y.drew.cell? ⟨ga,0,none⟩=some (.slice a len cap):=m2
 have j3:Y.drew.cell? ⟨hn,0,none⟩=some (.int .i64 (n:Nat)):=m3
 have j4:Y.drew.cell? ⟨hm,0,none⟩=some (.int .i64 (i:Nat)):=m4
 clear m1 m2 m3 m4
 conv=>arg 4;whnf
 dsimp only
 refine wpIn_region_any (by kernel_rfl) ?_
 change wpAnyIn _ _ _ _ _ _ _ _ _ (World.drew _)
 refine sW (fun L jD u=>jD=fJ ga hb hn hm n i k y2 len cap rl m a a2  c0 c2 c5 c6 c7 c8 c9 c10 c11 c12 c13 c14 c15 c28 eQ eT c31 c32 eU c34 eX eY c37 fP fQ c40 gQ iP iQ iF iG c46 iY iH c49 iI c51 iJ c53 iZ iK iL iM fH c59 fU fV fZ gU c64 qJ qK qL qM qN qO oO oP rP rQ qP oN  L/\u=Y.drew) ?done (by kernel_rfl) ?step 12 _ _ _ ?init (zA _) (by kernel_rfl) (by rw[qR];exact Nat.le_refl _)
 case init=>exact⟨by simp only[fJ,dG (bR _ _)],rfl⟩
 case step=>
  intro L act w i o hI hlt hs nl hC hd ho K hK
  obtain⟨rfl,hW⟩:=hI
  have jB:i<12:=(Array.getElem?_eq_some_iff.1 ho).1
  have hD:=fun k m=>hd {on:=k,ground:=.data} m rfl
  rcases (show i=0\/i=1\/i=2\/i=3\/i=4\/i=5\/i=6\/i=7\/i=8\/i=9\/i=10\/i=11 by omega) with rfl|rfl|rfl|rfl|rfl|rfl|rfl|rfl|rfl|rfl|rfl|rfl<;>(change some _=some o at ho;cases ho)
  ·subst hW
   simp only[fJ]
   refine bT rfl ?_
   go_simp
   exact hK _ _ ⟨by simp only[fJ,aD hlt,reduceIte,Nat.reduceEqDiff];try rfl,rfl⟩
  ·have q0:up L 0=true:=hD 0 (by simp)
   subst hW
   simp only[fJ,aA q0]
   refine bT rfl ?_
   go_simp
   exact hK _ _ ⟨by simp only[fJ,aD hlt,aA q0,reduceIte,Nat.reduceEqDiff];try rfl,rfl⟩
  ·have q1:up L 1=true:=hD 1 (by simp)
   subst hW
   simp only[fJ,aA q1]
   refine bT rfl ?_
   go_simp
   exact hK _ _ ⟨by simp only[fJ,aD hlt,aA q1,reduceIte,Nat.reduceEqDiff];try rfl,rfl⟩
  ·have q2:up L 2=true:=hD 2 (by simp)
   subst hW
   simp only[fJ,aA q2]
   refine bT rfl ?_
   go_simp
   exact hK _ _ ⟨by simp only[fJ,aD hlt,aA q2,reduceIte,Nat.reduceEqDiff];try rfl,rfl⟩
  ·subst hW
   simp only[fJ]
   refine bT rfl ?_
   go_simp
   exact hK _ _ ⟨by simp only[fJ,aD hlt,reduceIte,Nat.reduceEqDiff];try rfl,rfl⟩
  ·subst hW
   simp only[fJ]
   refine bT rfl ?_
   go_simp
   exact hK _ _ ⟨by simp only[fJ,aD hlt,reduceIte,Nat.reduceEqDiff];try rfl,rfl⟩
  ·have q5:up L 5=true:=hD 5 (by simp)
   subst hW
   simp only[fJ,aA q5]
   refine bT rfl ?_
   go_simp
   exact hK _ _ ⟨by simp only[fJ,aD hlt,aA q5,reduceIte,Nat.reduceEqDiff];try rfl,rfl⟩
  ·have q6:up L 6=true:=hD 6 (by simp)
   subst hW
   simp only[fJ,aA q6]
   refine bT rfl ?_
   go_simp
   exact hK _ _ ⟨by simp only[fJ,aD hlt,aA q6,reduceIte,Nat.reduceEqDiff];try rfl,rfl⟩
  ·have q7:up L 7=true:=hD 7 (by simp)
   subst hW
   simp only[fJ,aA q7]
   refine bT rfl ?_
   go_simp
   exact hK _ _ ⟨by simp only[fJ,aD hlt,aA q7,reduceIte,Nat.reduceEqDiff];try rfl,rfl⟩
  ·have q3:up L 3=true:=hD 3 (by simp)
   have q4:up L 4=true:=hD 4 (by simp)
   have q8:up L 8=true:=hD 8 (by simp)
   subst hW
   simp only[fJ,aA q3,aA q4,aA q8]
   refine bT rfl ?_
   go_simp
   exact hK _ _ ⟨by simp only[fJ,aD hlt,aA q3,aA q4,aA q8,reduceIte,Nat.reduceEqDiff];try rfl,rfl⟩
  ·have q9:up L 9=true:=hD 9 (by simp)
   subst hW
   simp only[fJ,aA q9]
   refine bT rfl ?_
   go_simp
   exact hK _ _ ⟨by simp only[fJ,aD hlt,aA q9,reduceIte,Nat.reduceEqDiff];try rfl,rfl⟩
  ·subst hW
   simp only[fJ]
   refine bT rfl ?_
   go_simp
   exact hK _ _ ⟨by simp only[fJ,aD hlt,reduceIte,Nat.reduceEqDiff];try rfl,rfl⟩
 case done=>
  rintro L a u ⟨rfl,hW⟩ hall
  simp only[fJ,aA (hall 0 (by decide)),aA (hall 1 (by decide)),aA (hall 2 (by decide)),aA (hall 3 (by decide)),aA (hall 4 (by decide)),aA (hall 5 (by decide)),aA (hall 6 (by decide)),aA (hall 7 (by decide)),aA (hall 8 (by decide)),aA (hall 9 (by decide)),aA (hall 10 (by decide)),aA (hall 11 (by decide))]
  subst hW
  exact nI.out
def iT (ga hb hn n k y2 len cap m:Nat) (a a2:Option Addr) (df:List Deferred)  (c0 c2 c4 c5 c6 c7 c8 c9 c10 c11 c12 c13 c14 c15 c16 c17 c18 c19 c20 c21 dW c23 c24 dP eP fO c28 eQ eT c31 c32 eU c34 eX eY c37 fP fQ c40 gQ iP iQ iF iG c46 iK iL iM fH c59 fU fV fZ gU c64 MZ ZT Re XR XT XU MR MS:Value)  (L:Array Bool):Act:={ tmps:=#[c0,.pointer (some ⟨hb,0,none⟩),c2,.pointer (some ⟨hn,0,none⟩),c4,c5,c6,c7,c8,c9,c10,c11,c12,c13,c14,c15,c16,c17,c18,c19,c20,c21,dW,c23,c24,dP,eP,fO,c28,eQ,eT,c31,c32,eU,c34,eX,eY,c37,fP,fQ,c40,gQ,iP,iQ,iF,iG,c46,aR MZ L 0 (.pointer (some ⟨ga,0,none⟩)),aR ZT L 1 (.pointer (some ⟨ga,0,none⟩)),aR Re L 2 (.pointer (some ⟨ga,0,none⟩)),aR XR L 3 (.slice a len cap),aR XT L 4 (.int .i64 (n:Nat)),aR XU L 5 (.slice a2 k y2),aR MR L 6 (.int .i64 (k:Nat)),aR MS L 7 (.int .i64 0),iK,iL,iM,fH,c59,fU,fV,fZ,gU,c64],defers:=df }
set_option maxRecDepth 100000 in
theorem Ob (ga hb hn n k y2 len cap m:Nat) (a a2:Option Addr) (df:List Deferred) {c0 c2 c4 c5 c6 c7 c8 c9 c10 c11 c12 c13 c14 c15 c16 c17 c18 c19 c20 c21 dW c23 c24 dP eP fO c28 eQ eT c31 c32 eU c34 eX eY c37 fP fQ c40 gQ iP iQ iF iG c46 iK iL iM fH c59 fU fV fZ gU c64 MZ ZT Re XR XT XU MR MS:Value} (Y:World) (m1:Y.cell? ⟨hb,0,none⟩=some (.pointer (some ⟨ga,0,none⟩))) (m2:Y.cell? ⟨ga,0,none⟩=some (.slice a len cap)) (m3:Y.cell? ⟨hn,0,none⟩=some (.int .i64 (n:Nat))) (hsl:∀ u:World,(Instr.slice 23 (.slice a len cap) (some (.int .i64 (n:Nat))) none none).run Tryz.prog u=.ok (.slice a2 k y2) u) (hm1:1<=m) {Q:Exit->Act->World->Prop}
  (hK:Q .normal { tmps:=#[c0,.pointer (some ⟨hb,0,none⟩),c2,.pointer (some ⟨hn,0,none⟩),c4,c5,c6,c7,c8,c9,c10,c11,c12,c13,c14,c15,c16,c17,c18,c19,c20,c21,dW,c23,c24,dP,eP,fO,c28,eQ,eT,c31,c32,eU,c34,eX,eY,c37,fP,fQ,c40,gQ,iP,iQ,iF,iG,c46,.pointer (some ⟨ga,0,none⟩),.pointer (some ⟨ga,0,none⟩),.pointer (some ⟨ga,0,none⟩),.slice a len cap,.int .i64 (n:Nat),.slice a2 k y2,.int .i64 (k:Nat),.int .i64 0,iK,iL,iM,fH,c59,fU,fV,fZ,gU,c64],defers:=df } Y.drew) :
  (Oa 13).wpIn Fence.wide m Tryz.prog Q { tmps:=#[c0,.pointer (some ⟨hb,0,none⟩),c2,.pointer (some ⟨hn,0,none⟩),c4,c5,c6,c7,c8,c9,c10,c11,c12,c13,c14,c15,c16,c17,c18,c19,c20,c21,dW,c23,c24,dP,eP,fO,c28,eQ,eT,c31,c32,eU,c34,eX,eY,c37,fP,fQ,c40,gQ,iP,iQ,iF,iG,c46,MZ,ZT,Re,XR,XT,XU,MR,MS,iK,iL,iM,fH,c59,fU,fV,fZ,gU,c64],defers:=df } Y:=by
 have nI:Hid _:=hK
 clear hK
 have j1:Y.drew.cell? ⟨hb,0,none⟩=some (.pointer (some ⟨ga,0,none⟩)):=m1
 have j2:Y.drew.cell? ⟨ga,0,none⟩=some (.slice a len cap):=m2
 have j3:Y.drew.cell? ⟨hn,0,none⟩=some (.int .i64 (n:Nat)):=m3
 clear m1 m2 m3
 conv=>arg 4;whnf
 dsimp only
 refine wpIn_region_any (by kernel_rfl) ?_
 change wpAnyIn _ _ _ _ _ _ _ _ _ (World.drew _)
 refine sW (fun L jD u=>jD=iT ga hb hn n k y2 len cap m a a2 df  c0 c2 c4 c5 c6 c7 c8 c9 c10 c11 c12 c13 c14 c15 c16 c17 c18 c19 c20 c21 dW c23 c24 dP eP fO c28 eQ eT c31 c32 eU c34 eX eY c37 fP fQ c40 gQ iP iQ iF iG c46 iK iL iM fH c59 fU fV fZ gU c64 MZ ZT Re XR XT XU MR MS  L/\u=Y.drew) ?done (by kernel_rfl) ?step 8 _ _ _ ?init (zA _) (by kernel_rfl) (by rw[qR];exact Nat.le_refl _)
 case init=>exact⟨by simp only[iT,dG (bR _ _)],rfl⟩
 case step=>
  intro L act w i o hI hlt hs nl hC hd ho K hK
  obtain⟨rfl,hW⟩:=hI
  have jB:i<8:=(Array.getElem?_eq_some_iff.1 ho).1
  have hD:=fun k m=>hd {on:=k,ground:=.data} m rfl
  rcases (show i=0\/i=1\/i=2\/i=3\/i=4\/i=5\/i=6\/i=7 by omega) with rfl|rfl|rfl|rfl|rfl|rfl|rfl|rfl<;>(change some _=some o at ho;cases ho)
  ·subst hW
   simp only[iT]
   refine bT rfl ?_
   go_simp
   exact hK _ _ ⟨by simp only[iT,aD hlt,reduceIte,Nat.reduceEqDiff];try rfl,rfl⟩
  ·have q0:up L 0=true:=hD 0 (by simp)
   subst hW
   simp only[iT,aA q0]
   refine bT rfl ?_
   go_simp
   exact hK _ _ ⟨by simp only[iT,aD hlt,aA q0,reduceIte,Nat.reduceEqDiff];try rfl,rfl⟩
  ·have q1:up L 1=true:=hD 1 (by simp)
   subst hW
   simp only[iT,aA q1]
   refine bT rfl ?_
   go_simp
   exact hK _ _ ⟨by simp only[iT,aD hlt,aA q1,reduceIte,Nat.reduceEqDiff];try rfl,rfl⟩
  ·have q2:up L 2=true:=hD 2 (by simp)
   subst hW
   simp only[iT,aA q2]
   refine bT rfl ?_
   go_simp
   exact hK _ _ ⟨by simp only[iT,aD hlt,aA q2,reduceIte,Nat.reduceEqDiff];try rfl,rfl⟩
  ·subst hW
   simp only[iT]
   refine bT rfl ?_
   go_simp
   exact hK _ _ ⟨by simp only[iT,aD hlt,reduceIte,Nat.reduceEqDiff];try rfl,rfl⟩
  ·have q3:up L 3=true:=hD 3 (by simp)
   have q4:up L 4=true:=hD 4 (by simp)
   subst hW
   simp only[iT,aA q3,aA q4]
   refine bT rfl ?_
   go_simp
   exact hK _ _ ⟨by simp only[iT,aD hlt,aA q3,aA q4,reduceIte,Nat.reduceEqDiff];try rfl,rfl⟩
  ·have q5:up L 5=true:=hD 5 (by simp)
   subst hW
   simp only[iT,aA q5]
   refine bT rfl ?_
   go_simp
   exact hK _ _ ⟨by simp only[iT,aD hlt,aA q5,reduceIte,Nat.reduceEqDiff];try rfl,rfl⟩
  ·subst hW
   simp only[iT]
   refine bT rfl ?_
   go_simp
   exact hK _ _ ⟨by simp only[iT,aD hlt,reduceIte,Nat.reduceEqDiff];try rfl,rfl⟩
 case done=>
  rintro L a u ⟨rfl,hW⟩ hall
  simp only[iT,aA (hall 0 (by decide)),aA (hall 1 (by decide)),aA (hall 2 (by decide)),aA (hall 3 (by decide)),aA (hall 4 (by decide)),aA (hall 5 (by decide)),aA (hall 6 (by decide)),aA (hall 7 (by decide))]
  subst hW
  exact nI.out
end Go.Proofs.YtlbomnnldkeocaaGreat.W
