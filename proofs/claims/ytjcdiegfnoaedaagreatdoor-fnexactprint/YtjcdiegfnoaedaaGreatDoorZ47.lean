import Derived.RangeFuncNested
import Derived.RangeFuncBound
import Derived.Shelf.RegionOpen
import Derived.OwnWalkIn
import Derived.LoopNIn
import Derived.LoopIn
import Derived.Test.YtjcdiegfnoaedaaGreatDoorZ02
import Derived.Deep.AppendLies
set_option linter.unusedVariables false
set_option linter.unusedSimpArgs false
set_option maxHeartbeats 16000000
namespace Go.Proofs.YtjcdiegfnoaedaaGreatDoor
namespace W
open Go.RowKit Go.Shelf
attribute [local go_sem] Oper.semAt_some
theorem qY (w:World) (o:Obj):Bw w (w.alloc o):=(Below.refl _ _).alloc (Nat.le_refl _) _
theorem wE (w:World) (o:Obj) (k:Nat) (h:k=w.heap.size):(w.alloc o).heap[k]?=some o:=by subst h;exact World.alloc_heap_new w o
def sM (lo:Nat) (w:World) (a:Option Addr) (len cap:Nat) (xs:List Pl.Nd) (V:Nat->SV):Prop:=
 (xs.length=len/\∀x∈xs,x.s.size<=maxLen)/\len<=cap/\cap<=maxLen/\(len=0\/∃b off,a=some ⟨b,off,none⟩/\lo<=b/\b<w.heap.size/\∀i,i<len->(∀j,j<7->w.cell? ⟨b,off+i*7+j,none⟩=((xs.getD i Pl.Nd.zero).cells (V i))[j]?)/\Row .i64 lo w (V i).a (V i).len (V i).cap (xs.getD i Pl.Nd.zero).kids)
theorem sM.row {lo:Nat}{w:World}{a:Option Addr}{len cap:Nat}{xs:List Pl.Nd}{V:Nat->SV}(h:sM lo w a len cap xs V):aT lo w a len cap xs:=by
 obtain⟨h1,h2,h3,h4⟩:=h;refine⟨h1,h2,h3,?_⟩;rcases h4 with h4|⟨b,off,e,hlo,hb,hc⟩
 ·exact .inl h4
 ·exact .inr ⟨b,off,e,hlo,hb,fun i hi=>⟨V i,hc i hi⟩⟩
theorem aT.named {lo:Nat}{w:World}{a:Option Addr}{len cap:Nat}{xs:List Pl.Nd}(h:aT lo w a len cap xs):∃V,sM lo w a len cap xs V:=by
 obtain⟨h1,h2,h3,h4⟩:=h;rcases h4 with h4|⟨b,off,e,hlo,hb,hc⟩
 ·exact⟨fun _=>⟨none,0,0⟩,h1,h2,h3,.inl h4⟩
 ·classical
  refine⟨fun i=>if q:i<len then Classical.choose (hc i q) else ⟨none,0,0⟩,h1,h2,h3,.inr ⟨b,off,e,hlo,hb,fun i hi=>?_⟩⟩;simp only[dif_pos hi];exact Classical.choose_spec (hc i hi)
theorem sM.keep {lo:Nat}{w w':World}{a:Option Addr}{len cap:Nat}{xs:List Pl.Nd}{V:Nat->SV}(h:sM lo w a len cap xs V) (hb:Bw w w'):sM lo w' a len cap xs V:=by
 obtain⟨h1,h2,h3,h4⟩:=h;refine⟨h1,h2,h3,?_⟩;rcases h4 with h4|⟨b,off,ha,hlo,hlt,hc⟩
 ·exact .inl h4
 ·refine .inr ⟨b,off,ha,hlo,Nat.lt_of_lt_of_le hlt hb.size,fun i hi=>?_⟩;obtain⟨h5,h6⟩:=hc i hi;exact⟨fun j hj=>(hb.cell (p:=⟨b,off+i*7+j,none⟩) hlt).trans (h5 j hj),h6.keep hb⟩
def aBj (D:Nat) (Wb:World) (I:World->Prop) (Ix:World->Prop):Exit->Act->World->Prop
 | .normal,_,W'=>(∀b,D<=b->b<D+2->W'.heap[b]?=Wb.heap[b]?)/\I W'
 | .ret,_,W'=>(∀b,D<=b->b<D+2->W'.heap[b]?=Wb.heap[b]?)/\Ix W'
 | _,_,_=>False
set_option maxRecDepth 100000 in
theorem OL (m bx l:Nat) (hm:1<=m) (a:Option Addr) (len cap:Nat) (zs:List Int) (hlen:(len:Int)<=9223372036854775807) (J:Nat->World->Prop) (Jx:World->Prop)
  (hJ:∀j W,J j W->W.cell? ⟨bx,0,none⟩=some (.slice a len cap)/\Row .i64 0 W a len cap zs)
  (hY:∀j W,j<len->J j W->YieldAt Fence.wide (m-1) Tryz.prog l #[.int .i64 ((len-1-j:Nat):Int),.int .i64 (zs.getD (len-1-j) 0)] W fun e W'=>(e=.returned (.bool true)/\J (j+1) W')\/(e=.returned (.bool false)/\Jx W'))
  (W:World) (h0:J 0 W):CallsIn Fence.wide m Tryz.prog 91 #[.func (.yield l) #[] #[],.pointer (some ⟨bx,0,none⟩)] W fun e W'=>(∃v,e=.returned v)/\(J len W'\/Jx W'):=by
 have HY:Hid _:=hY;have HJ:Hid _:=hJ;have H0:Hid (J 0 W):=h0;have hc0:=(hJ 0 W h0).1;clear hY hJ h0;refine callsIn_of_wp Tryz.func91 rfl trivial ?_ rfl;simp only[Tryz.ntmps91,List.size_toArray,List.length_cons,List.length_nil,Nat.reduceAdd,Nat.reduceSub,Array.replicate_succ,Array.replicate_zero,List.push_toArray,List.append_toArray,List.nil_append,List.cons_append]
 gi_wp2
 gi_loopw [3] (fun v wr=>∃j:Nat,j<=len/\v=.int .i64 ((len:Int)-1-(j:Int))/\J j wr) (fun v _=>(intOf v+1).toNat)
 case atStart=>exact⟨0,Nat.zero_le _,by simp,H0.o⟩
 case round=>
  obtain⟨j,hj,rfl,hjw⟩:=hrel;have HJW:Hid (J j wr):=hjw;clear hjw;by_cases hlt:j<len
  ·obtain⟨q,hq⟩:∃q:Nat,q=len-1-j:=⟨_,rfl⟩;have hq1:(len:Int)-1-(j:Int)=(q:Int):=(by omega);rw[hq1];have HQ:Hid ((len:Int)-1-(j:Int)=(q:Int)):=hq1;have KN:q<len:=(by omega);have hqi:(q:Int)<(len:Int):=(by omega);have Tg:=HY.o j wr hlt HJW.o;rw[<- hq]at Tg;obtain⟨hbx,hrow⟩:=HJ.o j wr HJW.o;obtain⟨b,off,rfl,_,hb,hcz⟩:=hrow.2.2.2.2.resolve_left (by omega);have cz:=hcz q KN;obtain⟨z,hz⟩:∃z,z=zs.getD q 0:=⟨_,rfl⟩;rw[<- hz]at cz Tg;clear hcz hrow hz;obtain⟨fn,tmps,assign,body,hy,hR⟩:=Tg;have HR:Hid _:=hR;clear hR hq hq1 HY HJ H0 hc0
   gi_wp2
   refine RoundIn.mono HR.o ?_;rintro e W3 (⟨rfl,hJ3⟩|⟨rfl,hJx3⟩)
   ·have Ol:Hid (J (j+1) W3):=hJ3;clear hJ3 hy HR
    gi_wp2
    go_roundw
    case rel=>exact⟨j+1,by omega,congrArg (Value.int .i64) (by have:=HQ.o;omega),Ol.o⟩
    case measure=>simp[intOf]
   ·have Ol:Hid (Jx W3):=hJx3;clear hJx3 hy HR
    gi_wp2
    refine bodyPost_ret (results_none rfl _ _ _) rfl ?_;exact⟨⟨_,rfl⟩,.inr Ol.o⟩
  ·obtain rfl:len=j:=by omega
   obtain⟨d,hd⟩:∃d:Int,(len:Int)-1-(len:Int)=d:=⟨_,rfl⟩;rw[hd];have hdn:¬(0:Int)<=d:=(by omega);clear hd HY HJ H0 hc0
   gi_wp2
   refine bodyPost_end (results_none rfl _ _ _) rfl ?_;exact⟨⟨_,rfl⟩,.inl HJW.o⟩
theorem ZP {op:Operand}{ps:Array Tmp}{assign body:Code}{Q:Exit->Act->World->Prop}{a:Act}{w:World}(n bx:Nat) (h1:2<=n)
  (hop:a.eval op=.func (.func 91) #[] #[.pointer (some ⟨bx,0,none⟩)]) (hps:ps.size=2)
  (ad:Option Addr) (len cap:Nat) (zs:List Int) (hlen:(len:Int)<=9223372036854775807)
  (I:Nat->World->Prop) (Ix:World->Prop)
  (hJ:∀j W,I j W->W.cell? ⟨bx,0,none⟩=some (.slice ad len cap)/\Row .i64 0 W ad len cap zs)
  (h0:∀A,Bw w A->w.heap.size+2<=A.heap.size->I 0 A)
  (Ca:∀j A l o o',I j A->w.heap.size<=l->l<w.heap.size+2->A.heap[l]?=some o'->o'.isCells=false->I j (A.putObj l o))
  (yF:∀A l o o',Ix A->w.heap.size<=l->l<w.heap.size+2->A.heap[l]?=some o'->o'.isCells=false->Ix (A.putObj l o))
  (Ax:Nat->World->Act->World->Prop)
  (hassign:∀(l q:Nat) (W:World) (K:Act->World->Prop),(∀a' W',Bw W W'->Ax q W a' W'->K a' W')->
   assign.wpIn (Fence.wide.inRound l) (n-1-1) Tryz.prog (Exit.then K (fun _ _ _=>False)) { tmps:=(ps.zip #[.int .i64 (q:Int),.int .i64 (zs.getD q 0)]).foldl (fun t (p,v)=>t.setIfInBounds p v) a.tmps,defers:=[] } W)
  (hbody:∀(l j:Nat) (W:World) (a':Act) (W1:World) (o:Obj),j<len->w.heap.size<=l->l<w.heap.size+2->I j W->(∀b,w.heap.size<=b->b<w.heap.size+2->∃o',W.heap[b]?=some o'/\o'.isCells=false)->Bw W W1->Ax (len-1-j) W a' W1->
   body.wpIn (Fence.wide.inRound l) (n-1-1) Tryz.prog (aBj w.heap.size (W1.putObj l o) (I (j+1)) Ix) a' (W1.putObj l o))
  (hdone:∀W,I len W->W.heap[w.heap.size]?=some (.deferred (some []))->Q .normal { a with defers:={ target:=.collected w.heap.size,args:=#[] } :: a.defers } W)
  (hstop:∀W,Ix W->W.heap[w.heap.size]?=some (.deferred (some []))->Code.ret.wpIn Fence.wide n Tryz.prog Q { a with defers:={ target:=.collected w.heap.size,args:=#[] } :: a.defers } W) :
  (Code.rangeFunc op ps assign body).wpIn Fence.wide n Tryz.prog Q a w:=by
 refine wpIn_rangeFunc fun fn hfn=>?_
 let r0:Loop:={ state:=.ready,pending:=none,fn:=fn,tmps:=a.tmps,params:=ps,assign:=assign,body:=body,defers:=w.heap.size }
 obtain⟨W1,hW1⟩:∃W1,(w.alloc (.deferred (some []))).alloc (.loop r0)=W1:=⟨_,rfl⟩;have hL1:W1.heap[w.heap.size+1]?=some (.loop r0):=hW1 ▸ wE _ _ _ (by simp);have hD1:W1.heap[w.heap.size]?=some (.deferred (some [])):=hW1 ▸ (Below.heap_alloc _ _ _ (by simp)).trans (wE w _ _ rfl);have hB1:Bw w W1:=by rw[<- hW1];exact (qY w _).trans ((qY _ _).mono (by simp))
 have hz1:w.heap.size+2<=W1.heap.size:=by have:=(Array.getElem?_eq_some_iff.1 hL1).1;omega
 refine⟨w.heap.size+1,[{ target:=.collected w.heap.size,args:=#[] }],W1,{ target:=.fn (.func 91) #[.pointer (some ⟨bx,0,none⟩)],args:=#[.func (.yield (w.heap.size+1)) #[] #[]] },W1,91,
  #[.func (.yield (w.heap.size+1)) #[] #[]] ++ #[.pointer (some ⟨bx,0,none⟩)],W1,?_,?_,?_,?_,fun _=>by omega,?_⟩
 ·rw[<- hW1];exact run_enterLoop_outer _ _ _ _ _
 ·simp only[resolve,hop];simp[go_sem]
 ·intro f' _;trivial
 ·simp[invoke,go_sem,enters_of Tryz.func91 (by kernel_rfl) rfl]
 refine (OL (n-1) bx (w.heap.size+1) (by omega) ad len cap zs hlen
  (fun j W=>I j W/\W.heap[w.heap.size+1]?=some (.loop r0)/\W.heap[w.heap.size]?=some (.deferred (some [])))
  (fun W=>Ix W/\W.heap[w.heap.size+1]?=some (.loop { r0 with state:=.done,pending:=some .ret })/\W.heap[w.heap.size]?=some (.deferred (some [])))
  (fun j W h=>hJ j W h.1) ?hY W1 ⟨h0 _ hB1 hz1,hL1,hD1⟩).mono ?post
 case hY=>
  rintro j W hj ⟨hi,hl,hd⟩;have z0:w.heap.size+2<=W.heap.size:=by have:=(Array.getElem?_eq_some_iff.1 hl).1;omega
  refine⟨_,_,_,_,run_yield hl (by show 2=ps.size;omega),roundIn_of_wpIn hfn (hassign _ (len-1-j) W _ fun a' W' hb ha=>?_)⟩;have hl':W'.heap[w.heap.size+1]?=some (.loop r0):=(hb.block _ (by omega)).trans hl;have hd':W'.heap[w.heap.size]?=some (.deferred (some [])):=(hb.block _ (by omega)).trans hd;refine⟨_,run_beginRound hl' rfl,wpIn_mono (hbody _ j W a' W' _ hj (by omega) (by omega) hi (fun b hb1 hb2=>by rcases (show b=w.heap.size\/b=w.heap.size+1 by omega) with rfl|rfl;exact⟨_,hd,rfl⟩;exact⟨_,hl,rfl⟩) hb ha) ?_⟩;have zW':w.heap.size+2<=W'.heap.size:=Nat.le_trans z0 hb.size;have hl2:(W'.putObj (w.heap.size+1) (.loop { r0 with state:=.busy })).heap[w.heap.size+1]?=some (.loop { r0 with state:=.busy }):=World.putObj_heap_same (by omega);have hd2:(W'.putObj (w.heap.size+1) (.loop { r0 with state:=.busy })).heap[w.heap.size]?=some (.deferred (some [])):=(World.putObj_heap_other (by omega)).trans hd';rintro e a3 W3 hp;cases e with
  | normal=>
   obtain⟨k1,hi3⟩:=hp;have hl3:=(k1 (w.heap.size+1) (by omega) (by omega)).trans hl2;have hd3:=(k1 w.heap.size (by omega) (by omega)).trans hd2;exact⟨_,_,run_endRound none hl3,.inl ⟨rfl,Ca _ _ _ _ _ hi3 (by omega) (by omega) hl3 rfl,World.putObj_heap_same (Array.getElem?_eq_some_iff.1 hl3).1,(World.putObj_heap_other (by omega)).trans hd3⟩⟩
  | ret=>
   obtain⟨k1,hi3⟩:=hp;have hl3:=(k1 (w.heap.size+1) (by omega) (by omega)).trans hl2;have hd3:=(k1 w.heap.size (by omega) (by omega)).trans hd2;exact⟨_,_,run_endRound (some .ret) hl3,.inr ⟨rfl,yF _ _ _ _ hi3 (by omega) (by omega) hl3 rfl,World.putObj_heap_same (Array.getElem?_eq_some_iff.1 hl3).1,(World.putObj_heap_other (by omega)).trans hd3⟩⟩
  | exit id=>exact hp.elim
  | goto t=>exact hp.elim
  | panic ch=>exact hp.elim
  | outgrown=>exact hp.elim
 case post=>
  rintro e W2 ⟨⟨v,rfl⟩,(⟨hi,hl,hd⟩|⟨hi,hl,hd⟩)⟩
  ·exact⟨_,_,run_endLoop hl (show LoopState.ready≠LoopState.busy by decide),hdone _ (Ca _ _ _ _ _ hi (by omega) (by omega) hl rfl) ((World.putObj_heap_other (by omega)).trans hd)⟩
  ·exact⟨_,_,run_endLoop hl (show LoopState.done≠LoopState.busy by decide),hstop _ (yF _ _ _ _ hi (by omega) (by omega) hl rfl) ((World.putObj_heap_other (by omega)).trans hd)⟩
set_option maxRecDepth 100000 in
theorem JF (m bx l:Nat) (hm:1<=m) (a:Option Addr) (len cap:Nat) (xs:List Pl.Nd) (V:Nat->SV) (hlen:(len:Int)<=9223372036854775807) (J:Nat->World->Prop) (Jx:World->Prop)
  (hJ:∀j W,J j W->W.cell? ⟨bx,0,none⟩=some (.slice a len cap)/\sM 0 W a len cap xs V)
  (hY:∀j W,j<len->J j W->YieldAt Fence.wide (m-1) Tryz.prog l #[.int .i64 ((len-1-j:Nat):Int),.agg ((xs.getD (len-1-j) Pl.Nd.zero).cells (V (len-1-j)))] W fun e W'=>(e=.returned (.bool true)/\J (j+1) W')\/(e=.returned (.bool false)/\Jx W'))
  (W:World) (h0:J 0 W):CallsIn Fence.wide m Tryz.prog 92 #[.func (.yield l) #[] #[],.pointer (some ⟨bx,0,none⟩)] W fun e W'=>(∃v,e=.returned v)/\(J len W'\/Jx W'):=by
 have HY:Hid _:=hY;have HJ:Hid _:=hJ;have H0:Hid (J 0 W):=h0;have hc0:=(hJ 0 W h0).1;clear hY hJ h0;refine callsIn_of_wp Tryz.func92 rfl trivial ?_ rfl;simp only[Tryz.ntmps92,List.size_toArray,List.length_cons,List.length_nil,Nat.reduceAdd,Nat.reduceSub,Array.replicate_succ,Array.replicate_zero,List.push_toArray,List.append_toArray,List.nil_append,List.cons_append]
 gi_wp2
 gi_loopw [3] (fun v wr=>∃j:Nat,j<=len/\v=.int .i64 ((len:Int)-1-(j:Int))/\J j wr) (fun v _=>(intOf v+1).toNat)
 case atStart=>exact⟨0,Nat.zero_le _,by simp,H0.o⟩
 case round=>
  obtain⟨j,hj,rfl,hjw⟩:=hrel;have HJW:Hid (J j wr):=hjw;clear hjw;by_cases hlt:j<len
  ·obtain⟨q,hq⟩:∃q:Nat,q=len-1-j:=⟨_,rfl⟩;have hq1:(len:Int)-1-(j:Int)=(q:Int):=(by omega);rw[hq1];have HQ:Hid ((len:Int)-1-(j:Int)=(q:Int)):=hq1;have KN:q<len:=(by omega);have hqi:(q:Int)<(len:Int):=(by omega);have Tg:=HY.o j wr hlt HJW.o;rw[<- hq]at Tg;obtain⟨hbx,hrow⟩:=HJ.o j wr HJW.o;obtain⟨b,off,rfl,_,hb,hcz⟩:=hrow.2.2.2.resolve_left (by omega);obtain⟨c0,c1,c2,c3,c4,c5,c6⟩:=iT (hcz q KN).1;obtain⟨x,hx⟩:∃x,x=xs.getD q Pl.Nd.zero:=⟨_,rfl⟩;obtain⟨v,hv⟩:∃v,v=V q:=⟨_,rfl⟩;rw[<- hx,<- hv]at Tg;rw[<- hx]at c0 c1 c2 c3 c5 c6;rw[<- hv]at c4;unfold Pl.Nd.cells at Tg;clear hcz hrow hx hv;obtain⟨fn,tmps,assign,body,hy,hR⟩:=Tg;have HR:Hid _:=hR;clear hR hq hq1 HY HJ H0 hc0
   gi_wp2
   refine RoundIn.mono HR.o ?_;rintro e W3 (⟨rfl,hJ3⟩|⟨rfl,hJx3⟩)
   ·have Ol:Hid (J (j+1) W3):=hJ3;clear hJ3 hy HR
    gi_wp2
    go_roundw
    case rel=>exact⟨j+1,by omega,congrArg (Value.int .i64) (by have:=HQ.o;omega),Ol.o⟩
    case measure=>simp[intOf]
   ·have Ol:Hid (Jx W3):=hJx3;clear hJx3 hy HR
    gi_wp2
    refine bodyPost_ret (results_none rfl _ _ _) rfl ?_;exact⟨⟨_,rfl⟩,.inr Ol.o⟩
  ·obtain rfl:len=j:=by omega
   obtain⟨d,hd⟩:∃d:Int,(len:Int)-1-(len:Int)=d:=⟨_,rfl⟩;rw[hd];have hdn:¬(0:Int)<=d:=(by omega);clear hd HY HJ H0 hc0
   gi_wp2
   refine bodyPost_end (results_none rfl _ _ _) rfl ?_;exact⟨⟨_,rfl⟩,.inl HJW.o⟩
theorem UZ {op:Operand}{ps:Array Tmp}{assign body:Code}{Q:Exit->Act->World->Prop}{a:Act}{w:World}(n bx:Nat) (h1:2<=n)
  (hop:a.eval op=.func (.func 92) #[] #[.pointer (some ⟨bx,0,none⟩)]) (hps:ps.size=2)
  (ad:Option Addr) (len cap:Nat) (xs:List Pl.Nd) (V:Nat->SV) (hlen:(len:Int)<=9223372036854775807)
  (I:Nat->World->Prop) (Ix:World->Prop)
  (hJ:∀j W,I j W->W.cell? ⟨bx,0,none⟩=some (.slice ad len cap)/\sM 0 W ad len cap xs V)
  (h0:∀A,Bw w A->w.heap.size+2<=A.heap.size->I 0 A)
  (Ca:∀j A l o o',I j A->w.heap.size<=l->l<w.heap.size+2->A.heap[l]?=some o'->o'.isCells=false->I j (A.putObj l o))
  (yF:∀A l o o',Ix A->w.heap.size<=l->l<w.heap.size+2->A.heap[l]?=some o'->o'.isCells=false->Ix (A.putObj l o))
  (Ax:Nat->World->Act->World->Prop)
  (hassign:∀(l q:Nat) (W:World) (K:Act->World->Prop),(∀a' W',Bw W W'->Ax q W a' W'->K a' W')->
   assign.wpIn (Fence.wide.inRound l) (n-1-1) Tryz.prog (Exit.then K (fun _ _ _=>False)) { tmps:=(ps.zip #[.int .i64 (q:Int),.agg ((xs.getD q Pl.Nd.zero).cells (V q))]).foldl (fun t (p,v)=>t.setIfInBounds p v) a.tmps,defers:=[] } W)
  (hbody:∀(l j:Nat) (W:World) (a':Act) (W1:World) (o:Obj),j<len->w.heap.size<=l->l<w.heap.size+2->I j W->(∀b,w.heap.size<=b->b<w.heap.size+2->∃o',W.heap[b]?=some o'/\o'.isCells=false)->Bw W W1->Ax (len-1-j) W a' W1->
   body.wpIn (Fence.wide.inRound l) (n-1-1) Tryz.prog (aBj w.heap.size (W1.putObj l o) (I (j+1)) Ix) a' (W1.putObj l o))
  (hdone:∀W,I len W->W.heap[w.heap.size]?=some (.deferred (some []))->Q .normal { a with defers:={ target:=.collected w.heap.size,args:=#[] } :: a.defers } W)
  (hstop:∀W,Ix W->W.heap[w.heap.size]?=some (.deferred (some []))->Code.ret.wpIn Fence.wide n Tryz.prog Q { a with defers:={ target:=.collected w.heap.size,args:=#[] } :: a.defers } W) :
  (Code.rangeFunc op ps assign body).wpIn Fence.wide n Tryz.prog Q a w:=by
 refine wpIn_rangeFunc fun fn hfn=>?_
 let r0:Loop:={ state:=.ready,pending:=none,fn:=fn,tmps:=a.tmps,params:=ps,assign:=assign,body:=body,defers:=w.heap.size }
 obtain⟨W1,hW1⟩:∃W1,(w.alloc (.deferred (some []))).alloc (.loop r0)=W1:=⟨_,rfl⟩;have hL1:W1.heap[w.heap.size+1]?=some (.loop r0):=hW1 ▸ wE _ _ _ (by simp);have hD1:W1.heap[w.heap.size]?=some (.deferred (some [])):=hW1 ▸ (Below.heap_alloc _ _ _ (by simp)).trans (wE w _ _ rfl);have hB1:Bw w W1:=by rw[<- hW1];exact (qY w _).trans ((qY _ _).mono (by simp))
 have hz1:w.heap.size+2<=W1.heap.size:=by have:=(Array.getElem?_eq_some_iff.1 hL1).1;omega
 refine⟨w.heap.size+1,[{ target:=.collected w.heap.size,args:=#[] }],W1,{ target:=.fn (.func 92) #[.pointer (some ⟨bx,0,none⟩)],args:=#[.func (.yield (w.heap.size+1)) #[] #[]] },W1,92,
  #[.func (.yield (w.heap.size+1)) #[] #[]] ++ #[.pointer (some ⟨bx,0,none⟩)],W1,?_,?_,?_,?_,fun _=>by omega,?_⟩
 ·rw[<- hW1];exact run_enterLoop_outer _ _ _ _ _
 ·simp only[resolve,hop];simp[go_sem]
 ·intro f' _;trivial
 ·simp[invoke,go_sem,enters_of Tryz.func92 (by kernel_rfl) rfl]
 refine (JF (n-1) bx (w.heap.size+1) (by omega) ad len cap xs V hlen
  (fun j W=>I j W/\W.heap[w.heap.size+1]?=some (.loop r0)/\W.heap[w.heap.size]?=some (.deferred (some [])))
  (fun W=>Ix W/\W.heap[w.heap.size+1]?=some (.loop { r0 with state:=.done,pending:=some .ret })/\W.heap[w.heap.size]?=some (.deferred (some [])))
  (fun j W h=>hJ j W h.1) ?hY W1 ⟨h0 _ hB1 hz1,hL1,hD1⟩).mono ?post
 case hY=>
  rintro j W hj ⟨hi,hl,hd⟩;have z0:w.heap.size+2<=W.heap.size:=by have:=(Array.getElem?_eq_some_iff.1 hl).1;omega
  refine⟨_,_,_,_,run_yield hl (by show 2=ps.size;omega),roundIn_of_wpIn hfn (hassign _ (len-1-j) W _ fun a' W' hb ha=>?_)⟩;have hl':W'.heap[w.heap.size+1]?=some (.loop r0):=(hb.block _ (by omega)).trans hl;have hd':W'.heap[w.heap.size]?=some (.deferred (some [])):=(hb.block _ (by omega)).trans hd;refine⟨_,run_beginRound hl' rfl,wpIn_mono (hbody _ j W a' W' _ hj (by omega) (by omega) hi (fun b hb1 hb2=>by rcases (show b=w.heap.size\/b=w.heap.size+1 by omega) with rfl|rfl;exact⟨_,hd,rfl⟩;exact⟨_,hl,rfl⟩) hb ha) ?_⟩;have zW':w.heap.size+2<=W'.heap.size:=Nat.le_trans z0 hb.size;have hl2:(W'.putObj (w.heap.size+1) (.loop { r0 with state:=.busy })).heap[w.heap.size+1]?=some (.loop { r0 with state:=.busy }):=World.putObj_heap_same (by omega);have hd2:(W'.putObj (w.heap.size+1) (.loop { r0 with state:=.busy })).heap[w.heap.size]?=some (.deferred (some [])):=(World.putObj_heap_other (by omega)).trans hd';rintro e a3 W3 hp;cases e with
  | normal=>
   obtain⟨k1,hi3⟩:=hp;have hl3:=(k1 (w.heap.size+1) (by omega) (by omega)).trans hl2;have hd3:=(k1 w.heap.size (by omega) (by omega)).trans hd2;exact⟨_,_,run_endRound none hl3,.inl ⟨rfl,Ca _ _ _ _ _ hi3 (by omega) (by omega) hl3 rfl,World.putObj_heap_same (Array.getElem?_eq_some_iff.1 hl3).1,(World.putObj_heap_other (by omega)).trans hd3⟩⟩
  | ret=>
   obtain⟨k1,hi3⟩:=hp;have hl3:=(k1 (w.heap.size+1) (by omega) (by omega)).trans hl2;have hd3:=(k1 w.heap.size (by omega) (by omega)).trans hd2;exact⟨_,_,run_endRound (some .ret) hl3,.inr ⟨rfl,yF _ _ _ _ hi3 (by omega) (by omega) hl3 rfl,World.putObj_heap_same (Array.getElem?_eq_some_iff.1 hl3).1,(World.putObj_heap_other (by omega)).trans hd3⟩⟩
  | exit id=>exact hp.elim
  | goto t=>exact hp.elim
  | panic ch=>exact hp.elim
  | outgrown=>exact hp.elim
 case post=>
  rintro e W2 ⟨⟨v,rfl⟩,(⟨hi,hl,hd⟩|⟨hi,hl,hd⟩)⟩
  ·exact⟨_,_,run_endLoop hl (show LoopState.ready≠LoopState.busy by decide),hdone _ (Ca _ _ _ _ _ hi (by omega) (by omega) hl rfl) ((World.putObj_heap_other (by omega)).trans hd)⟩
  ·exact⟨_,_,run_endLoop hl (show LoopState.done≠LoopState.busy by decide),hstop _ (yF _ _ _ _ hi (by omega) (by omega) hl rfl) ((World.putObj_heap_other (by omega)).trans hd)⟩
attribute [local go_sem] Oper.semAt_some
def mark (D:Nat):Deferred:={ target:=.collected D,args:=#[] }
structure Sh (lo:Nat) (w w':World):Prop where
 os:w'.os=w.os
 tape:w'.tape=w.tape
 output:w'.output=w.output
 size:w'.heap.size=w.heap.size
 block:∀b,(b<lo\/∃cs t fr,w.heap[b]?=some (.cells cs t fr))->w'.heap[b]?=w.heap[b]?
theorem Sh.refl (lo:Nat) (w:World):Sh lo w w:=⟨rfl,rfl,rfl,rfl,fun _ _=>rfl⟩
theorem oU {F:Fence}{n:Nat}{P:Program}{fn:Func}{tmps:Array Value}{R:Ending->World->Prop}{lo:Nat}:∀(Ds:List Nat) (w:World),Ds.Nodup->(∀D∈Ds,lo<=D/\w.heap[D]?=some (.deferred (some [])))->(∀w',Sh lo w w'->∃v,(results fn tmps).run P w'=.ok v w'/\R (.returned v) w')->LeavesInM F n P fn tmps R (Ds.map mark) .returning w
 | [],w,_,_,h=>h w (Sh.refl _ _)
 | D :: Ds,w,hn,hd,h=>by
  obtain⟨hn1,hn2⟩:=List.nodup_cons.1 hn;have hD:=hd D (List.mem_cons_self);refine⟨by simp,.inl ⟨D,_,rfl,run_takeDeferred hD.2,?_⟩⟩;refine oU Ds _ hn2 (fun E hE=>⟨(hd E (List.mem_cons_of_mem _ hE)).1,?_⟩) fun w' hs=>h w' ?_
  ·rw[World.putObj_heap_other (by rintro rfl;exact hn1 hE)];exact (hd E (List.mem_cons_of_mem _ hE)).2
  ·have hz:(w.putObj D (.deferred none)).heap.size=w.heap.size:=(by simp[World.putObj]);refine⟨hs.os,hs.tape,hs.output,hs.size.trans hz,fun b hb=>?_⟩;have hbD:b≠D:=by
    rintro rfl;rcases hb with q|⟨cs,t,fr,q⟩
    ·omega
    ·rw[hD.2]at q;cases q
   rw[hs.block b,World.putObj_heap_other hbD];rcases hb with q|⟨cs,t,fr,q⟩
   ·exact .inl q
   ·exact .inr ⟨cs,t,fr,by rw[World.putObj_heap_other hbD];exact q⟩
structure Jiq (w:World) (xs:List Pl.Nd) (i:Nat) (l:List Nat) (g2 g3 gb cb:Nat) (Ds:List Nat) (W:World):Prop where
 jR:Bw w W
 res:W.heap[g2]?=some (.cells #[.bool false] 4 (0,0))
 box:W.heap[g3]?=some (.cells #[.slice (some ⟨gb,0,none⟩) i cb] 43 (0,0))
 own:W.ownsRow w.heap.size 3 1 (.slice (some ⟨gb,0,none⟩) i cb) i (l.map fun n:Nat=>Value.int .i64 (n:Int))
 dn:Ds.Nodup
 dd:∀D∈Ds,w.heap.size<=D/\W.heap[D]?=some (.deferred (some []))
 bg:Pl.vP xs i=some l
theorem pO {D l:Nat}{A B:World}(h:Below D A B) (hl:D<=l) (o:Obj):Below D A (B.putObj l o):=
 ⟨h.os,h.tape,h.output,by simpa [World.putObj] using h.size,fun b hb=>(World.putObj_heap_other (by omega)).trans (h.block b hb)⟩
theorem lN {base:Nat}{e:TypeId}{k:Nat}{g n cap:Nat}{xs:List Value}{w:World}(h:w.ownsRow base e k (.slice (some ⟨g,0,none⟩) n cap) n xs):∃cur,w.heap[g]?=some (.cells cur e (0,0)):=by
 rcases h.2 with ⟨h',_⟩|⟨g',cap',cur,h',hb,hg,_⟩
 ·simp at h'
 ·simp only[Value.slice.injEq,Option.some.injEq,Addr.mk.injEq,and_true,true_and]at h';obtain⟨rfl,_⟩:=h';exact⟨cur,hg⟩
theorem rR {base:Nat}{e:TypeId}{k:Nat}{g n cap:Nat}{xs:List Value}{w w':World}(h:w.ownsRow base e k (.slice (some ⟨g,0,none⟩) n cap) n xs) (hb:w'.heap[g]?=w.heap[g]?):w'.ownsRow base e k (.slice (some ⟨g,0,none⟩) n cap) n xs:=by
 refine⟨h.1,?_⟩;rcases h.2 with ⟨a,b⟩|⟨g',cap',cur,h0,hlo,hg,r⟩
 ·exact .inl ⟨a,b⟩
 ·have h1:=h0;simp only[Value.slice.injEq,Option.some.injEq,Addr.mk.injEq,and_true,true_and]at h1;obtain⟨rfl,_⟩:=h1;exact .inr ⟨g,cap',cur,h0,hlo,hb.trans hg,r⟩
theorem kN {W:World}{b l:Nat}{cs:Array Value}{t:TypeId}{fr:Nat × Nat}{o':Obj}(h:W.heap[b]?=some (.cells cs t fr)) (ho:W.heap[l]?=some o') (hc:o'.isCells=false):b≠l:=by
 rintro rfl;rw[h]at ho;cases ho;cases hc
theorem Jiq.put {w:World}{xs:List Pl.Nd}{i:Nat}{l:List Nat}{g2 g3 gb cb:Nat}{Ds:List Nat}{W:World}(h:Jiq w xs i l g2 g3 gb cb Ds W){r:Nat}{o o':Obj}(hr:w.heap.size<=r) (ho:W.heap[r]?=some o') (hc:o'.isCells=false) (hD:r ∉ Ds):Jiq w xs i l g2 g3 gb cb Ds (W.putObj r o):=by
 obtain⟨cur,pI⟩:=lN h.own;refine⟨pO h.jR hr _,(World.putObj_heap_other (kN h.res ho hc)).trans h.res,(World.putObj_heap_other (kN h.box ho hc)).trans h.box,rR h.own (World.putObj_heap_other (kN pI ho hc)),h.dn,fun D hd=>⟨(h.dd D hd).1,?_⟩,h.bg⟩;rw[World.putObj_heap_other (by rintro rfl;exact hD hd)];exact (h.dd D hd).2
theorem Jiq.keep {w:World}{xs:List Pl.Nd}{i:Nat}{l:List Nat}{g2 g3 gb cb:Nat}{Ds:List Nat}{W W':World}(h:Jiq w xs i l g2 g3 gb cb Ds W) (hb:Bw W W'):Jiq w xs i l g2 g3 gb cb Ds W':=by
 obtain⟨cur,pI⟩:=lN h.own;have lt:∀ {b:Nat} {o:Obj},W.heap[b]?=some o->b<W.heap.size:=fun q=>(Array.getElem?_eq_some_iff.1 q).1;refine⟨h.jR.trans (hb.mono h.jR.size),(hb.block _ (lt h.res)).trans h.res,(hb.block _ (lt h.box)).trans h.box,rR h.own (hb.block _ (lt pI)),h.dn,fun D hd=>⟨(h.dd D hd).1,?_⟩,h.bg⟩;exact (hb.block _ (lt (h.dd D hd).2)).trans (h.dd D hd).2
def Ri (xs:List Pl.Nd) (n:Nat):Prop:=Pl.vP xs n=none
theorem VA (a:Option Addr) (len cap:Nat) (w:World):Calls Tryz.prog 61 #[.slice a len cap] w fun e w'=>e=.returned (.func (.func 91) #[] #[.pointer (some ⟨w.heap.size,0,none⟩)])/\w'=w.alloc (.cells #[.slice a len cap] 43):=by
 go_enter Tryz.func61,Tryz.ntmps61;go_wp2_with fail
 go_ret;exact⟨rfl,rfl⟩
theorem OM (a:Option Addr) (len cap:Nat) (w:World):Calls Tryz.prog 62 #[.slice a len cap] w fun e w'=>e=.returned (.func (.func 92) #[] #[.pointer (some ⟨w.heap.size,0,none⟩)])/\w'=w.alloc (.cells #[.slice a len cap] 29):=by
 go_enter Tryz.func62,Tryz.ntmps62;go_wp2_with fail
 go_ret;exact⟨rfl,rfl⟩
attribute [local go_sem] Oper.semAt_some
def ioF (w:World) (a:Option Addr) (len cap:Nat) (i:Nat) (u4 u5 u6 u13 u14 u15 u16 u17 u18 u19 u20 u35 u36 u37 u38 u39:Value):Array Value:=#[.slice a len cap,undef,.pointer (some ⟨w.heap.size,0,none⟩),.pointer (some ⟨w.heap.size+1+1,0,none⟩),u4,u5,u6,undef,undef,.slice (some ⟨w.heap.size+1,0,none⟩) 0 0,.slice a len cap,.int .i64 (len:Int),.int .i64 (i:Int),u13,u14,u15,u16,u17,u18,u19,u20,undef,undef,undef,undef,undef,undef,undef,undef,undef,undef,undef,undef,undef,undef,u35,u36,u37,u38,u39,undef,undef,undef,undef,undef,undef,undef]
structure IB (w:World) (xs:List Pl.Nd) (i:Nat) (l:List Nat) (gb cb:Nat) (Ds:List Nat) (g6 bx:Nat) (v:SV) (j p:Nat) (W:World):Prop where
 io:Jiq w xs i l w.heap.size (w.heap.size+1+1) gb cb Ds W
 Tj:W.heap[g6]?=some (.cells #[.int .i64 (p:Int)] 3 (0,0))
 ZR:W.heap[bx]?=some (.cells #[.slice v.a v.len v.cap] 43 (0,0))
 wk:Pl.tK l (Pl.nd xs i).kids i j=some p
 nb:g6≠gb
structure IX (w:World) (xs:List Pl.Nd) (n:Nat) (Ds:List Nat) (W:World):Prop where
 jR:Bw w W
 res:W.heap[w.heap.size]?=some (.cells #[.bool false] 4 (0,0))
 dn:Ds.Nodup
 dd:∀D∈Ds,w.heap.size<=D/\W.heap[D]?=some (.deferred (some []))
 no:Ri xs n
theorem IB.put {w:World}{xs:List Pl.Nd}{i:Nat}{l:List Nat}{gb cb:Nat}{Ds:List Nat}{g6 bx:Nat}{v:SV}{j p:Nat}{W:World}(h:IB w xs i l gb cb Ds g6 bx v j p W){r:Nat}{o o':Obj}(hr:w.heap.size<=r) (ho:W.heap[r]?=some o') (hc:o'.isCells=false) (hD:r ∉ Ds):IB w xs i l gb cb Ds g6 bx v j p (W.putObj r o):=
 ⟨h.io.put hr ho hc hD,(World.putObj_heap_other (kN h.Tj ho hc)).trans h.Tj,(World.putObj_heap_other (kN h.ZR ho hc)).trans h.ZR,h.wk,h.nb⟩
theorem IX.put {w:World}{xs:List Pl.Nd}{n:Nat}{Ds:List Nat}{W:World}(h:IX w xs n Ds W){r:Nat}{o o':Obj}(hr:w.heap.size<=r) (ho:W.heap[r]?=some o') (hc:o'.isCells=false) (hD:r ∉ Ds):IX w xs n Ds (W.putObj r o):=
 ⟨pO h.jR hr _,(World.putObj_heap_other (kN h.res ho hc)).trans h.res,h.dn,fun D hd=>⟨(h.dd D hd).1,by rw[World.putObj_heap_other (by rintro rfl;exact hD hd)];exact (h.dd D hd).2⟩,h.no⟩
theorem IB.keep {w:World}{xs:List Pl.Nd}{i:Nat}{l:List Nat}{gb cb:Nat}{Ds:List Nat}{g6 bx:Nat}{v:SV}{j p:Nat}{W W':World}(h:IB w xs i l gb cb Ds g6 bx v j p W) (hb:Bw W W'):IB w xs i l gb cb Ds g6 bx v j p W':=by
 have lt:∀ {b:Nat} {o:Obj},W.heap[b]?=some o->b<W.heap.size:=fun q=>(Array.getElem?_eq_some_iff.1 q).1;exact⟨h.io.keep hb,(hb.block _ (lt h.Tj)).trans h.Tj,(hb.block _ (lt h.ZR)).trans h.ZR,h.wk,h.nb⟩
theorem IB.step {w:World}{xs:List Pl.Nd}{i:Nat}{l:List Nat}{gb cb:Nat}{Ds:List Nat}{g6 bx:Nat}{v:SV}{j c:Nat}{U:World}(h:IB w xs i l gb cb Ds g6 bx v j (c+1) U) (hg:w.heap.size<=g6) (hk:(Pl.nd xs i).kids.getD ((Pl.nd xs i).kids.length-1-j) 0=(c:Int)):IB w xs i l gb cb Ds g6 bx v (j+1) (l.getD c 0) (U.setCell ⟨g6,0,none⟩ (.int .i64 ((l.getD c 0:Nat):Int))):=by
 have nt:∀ {b:Nat} {cs:Array Value} {t:TypeId} {fr:Nat × Nat},U.heap[b]?=some (.cells cs t fr)->t≠3->b≠g6:=fun hb ht e=>by
  rw[e,h.Tj]at hb;simp only[Option.some.injEq,Obj.cells.injEq]at hb;exact ht hb.2.1.symm
 have ot:∀ {b:Nat},b≠g6->(U.setCell ⟨g6,0,none⟩ (.int .i64 ((l.getD c 0:Nat):Int))).heap[b]?=U.heap[b]?:=fun hb=>heap_setCell_other U ⟨g6,0,none⟩ _ _ hb;refine⟨⟨h.io.jR.setCell hg _,(ot (nt h.io.res (by decide))).trans h.io.res,(ot (nt h.io.box (by decide))).trans h.io.box,rR h.io.own (ot (fun e=>h.nb e.symm)),h.io.dn,fun D hD=>⟨(h.io.dd D hD).1,?_⟩,h.io.bg⟩,?_,(ot (nt h.ZR (by decide))).trans h.ZR,?_,h.nb⟩
 ·have h1:=(h.io.dd D hD).2;rw[ot (fun e=>by rw[e,h.Tj]at h1;cases h1)];exact h1
 ·rw[heap_setCell_same U g6 0 _ 3 _ h.Tj];rfl
 ·have:=Pl.Ab h.wk (by omega) (by rw[hk];omega);simpa using this
theorem ZT {B:Nat}{e:TypeId}{k:Nat}{u:World}{g n cap:Nat}{xs:List Value}(h:u.ownsRow B e k (.slice (some ⟨g,0,none⟩) n cap) n xs):B<=g/\g<u.heap.size:=h.lt g rfl
theorem Io (w:World) (A:Value) (t:TypeId) (j:Nat) (u:Value) (hj:[A][j]?=some u):(w.alloc (.cells #[A] t)).cell? ((⟨w.heap.size,0,none⟩:Addr).add j)=some u:=by
 rcases j with _|j
 ·cases hj;exact cell_of_row _ w.heap.size 0 _ t (0,0) (heap_alloc_new w _)
 ·simp at hj
theorem IB.boxed {w:World}{xs:List Pl.Nd}{i:Nat}{l:List Nat}{gb cb:Nat}{Ds:List Nat}{g6 bx:Nat}{v:SV}{j p:Nat}{U y2:World}{o:Obj}(h:IB w xs i l gb cb Ds g6 bx v j p U) (hg:(U.alloc o).grownBy y2 (some gb)):y2.cell? ⟨w.heap.size+1+1,0,none⟩=some (.slice (some ⟨gb,0,none⟩) i cb)/\y2.frozen? ⟨w.heap.size+1+1,0,none⟩=false:=by
 obtain⟨cur,pI⟩:=lN h.io.own;have hlt:=(Array.getElem?_eq_some_iff.1 h.io.box).1;have hb:y2.heap[w.heap.size+1+1]?=some (.cells #[.slice (some ⟨gb,0,none⟩) i cb] 43 (0,0)):=by
  rw[hg.block _ (by simp;omega) (by
   intro e;simp only[Option.some.injEq]at e;have hx:=h.io.box;rw[e,pI]at hx;simp only[Option.some.injEq,Obj.cells.injEq]at hx;exact absurd hx.2.1 (by decide)),Below.heap_alloc _ _ _ hlt]
  exact h.io.box
 exact⟨cell_of_row y2 _ 0 _ 43 (0,0) hb,frozen_of_row y2 _ 0 _ 43 hb⟩
theorem IB.grow {w:World}{xs:List Pl.Nd}{i:Nat}{l:List Nat}{gb cb:Nat}{Ds:List Nat}{g6 bx:Nat}{v:SV}{vl p:Nat}{U y2:World}{o:Obj}{g2 c2 Dn:Nat}(h:IB w xs i l gb cb Ds g6 bx v vl p U) (hg:(U.alloc o).grownBy y2 (some gb)) (hown:y2.ownsRow w.heap.size 3 1 (.slice (some ⟨g2,0,none⟩) (i+1) c2) (i+1) ((l.map fun n:Nat=>Value.int .i64 (n:Int))++[.int .i64 (p:Int)])) (hD:U.heap[Dn]?=some (.deferred (some []))) (hDw:w.heap.size<=Dn) (hDn:Dn ∉ Ds) (hk:(Pl.nd xs i).kids.length=vl) :
  Jiq w xs (i+1) (l++[p]) w.heap.size (w.heap.size+1+1) g2 c2 (Dn :: Ds) (y2.setCell ⟨w.heap.size+1+1,0,none⟩ (.slice (some ⟨g2,0,none⟩) (i+1) c2)):=by
 obtain⟨cur,pI⟩:=lN h.io.own;obtain⟨aHl,aBk⟩:=lN hown;have lt:∀ {b:Nat} {ob:Obj},U.heap[b]?=some ob->b<U.heap.size:=fun q=>(Array.getElem?_eq_some_iff.1 q).1;have kp:∀ {b:Nat} {ob:Obj},U.heap[b]?=some ob->(∀cs,ob≠.cells cs 3 (0,0))->y2.heap[b]?=some ob:=fun {b ob} hb hn=>by
  rw[hg.block b (by have:=lt hb;simp;omega) (by
   intro e;simp only[Option.some.injEq]at e;rw[e,pI]at hb;cases hb;exact hn _ rfl),Below.heap_alloc _ _ _ (lt hb)]
  exact hb
 have tZ:=kp h.io.box (fun cs e=>by simp only[Obj.cells.injEq]at e;exact absurd e.2.1 (by decide));have ot:∀ {b:Nat} {ob:Obj},y2.heap[b]?=some ob->(∀cs,ob≠.cells cs 43 (0,0))->(y2.setCell ⟨w.heap.size+1+1,0,none⟩ (.slice (some ⟨g2,0,none⟩) (i+1) c2)).heap[b]?=some ob:=fun {b ob} hb hn=>by
  rw[heap_setCell_other y2 ⟨w.heap.size+1+1,0,none⟩ b _ (by
   intro e;change b=w.heap.size+1+1 at e;rw[e,tZ]at hb;cases hb;exact hn _ rfl)]
  exact hb
 have hgb:=(ZT h.io.own).1;refine⟨((h.io.jR.alloc h.io.jR.size _).grown hg (by have:=h.io.jR.size;simp;omega) (fun k hk=>by cases hk;exact hgb)).setCell (by show w.heap.size<=w.heap.size+1+1;omega) _,?_,?_,?_,List.nodup_cons.2 ⟨hDn,h.io.dn⟩,fun D hd=>?_,Pl.DD h.io.bg (by rw[hk];exact h.wk)⟩
 ·exact ot (kp h.io.res (fun cs e=>by simp only[Obj.cells.injEq]at e;exact absurd e.2.1 (by decide))) (fun cs e=>by simp only[Obj.cells.injEq]at e;exact absurd e.2.1 (by decide))
 ·rw[heap_setCell_same y2 (w.heap.size+1+1) 0 _ 43 _ tZ];rfl
 ·have:=rR (w':=y2.setCell ⟨w.heap.size+1+1,0,none⟩ (.slice (some ⟨g2,0,none⟩) (i+1) c2)) hown (by rw[ot aBk (fun cs e=>by simp only[Obj.cells.injEq]at e;exact absurd e.2.1 (by decide)),aBk]);rw[List.map_append];exact this
 ·rcases List.mem_cons.1 hd with e|e
  ·subst e;exact⟨hDw,ot (kp hD (fun cs e=>by cases e)) (fun cs e=>by cases e)⟩
  ·exact⟨(h.io.dd D e).1,ot (kp (h.io.dd D e).2 (fun cs e=>by cases e)) (fun cs e=>by cases e)⟩
theorem Ip (w:World) (b:Nat) (v:Value) (h:w.cell? ⟨b,0,none⟩=some v):(loadVar 4 ⟨b,0,none⟩).run Tryz.prog w=.ok v w:=by
 simp[loadVar,go_sem,Tryz.underlying4,h]
theorem JG {fn:Func}{p:Tmp}(h:fn.results=#[.cell p 4]) (tmps:Array Value) (w:World) (b0:Nat) (v0:Value)
  (hp:tmps.getD p undef=.pointer (some ⟨b0,0,none⟩)) (h0:w.cell? ⟨b0,0,none⟩=some v0) :
  (results fn tmps).run Tryz.prog w=.ok v0 w:=by
 have hp':tmps[p]?.getD undef=.pointer (some ⟨b0,0,none⟩):=by simpa using hp
 simp[results,h,hp',asAddr,Ip w b0 v0 h0]
theorem VD {B:Nat}{u:World}{g n cap:Nat}{l:List Nat}(h:u.ownsRow B 3 1 (.slice (some ⟨g,0,none⟩) n cap) n (l.map fun n:Nat=>Value.int .i64 (n:Int))){p:Nat}(hp:p<n):u.cell? ⟨g,p,none⟩=some (.int .i64 ((l.getD p 0:Nat):Int)):=by
 have hl:l.length=n:=by have:=h.1;simpa using this
 rw[h.cellAt p (by omega),List.getElem?_map,List.getD_eq_getElem?_getD,List.getElem?_eq_getElem (by omega)];rfl
theorem uR {w W W':World}{fn:Func}{p:Tmp}{tmps:Array Value}{b:Bool}(hf:fn.results=#[.cell p 4]) (ht:tmps.getD p undef=.pointer (some ⟨w.heap.size,0,none⟩)) (hb:Bw w W) (hr:W.heap[w.heap.size]?=some (.cells #[.bool b] 4 (0,0))) (hs:Sh w.heap.size W W'):(results fn tmps).run Tryz.prog W'=.ok (.bool b) W'/\Bw w W':=by
 have hr':W'.heap[w.heap.size]?=some (.cells #[.bool b] 4 (0,0)):=(hs.block _ (.inr ⟨_,_,_,hr⟩)).trans hr;refine⟨?_,hs.os.trans hb.os,hs.tape.trans hb.tape,hs.output.trans hb.output,by rw[hs.size];exact hb.size,fun k hk=>(hs.block k (.inl hk)).trans (hb.block k hk)⟩;exact JG hf _ _ _ _ ht (cell_of_row W' w.heap.size 0 _ 4 (0,0) hr')
theorem yN {w W W':World}(hb:Bw w W) (hs:Sh w.heap.size W W'):Bw w W':=⟨hs.os.trans hb.os,hs.tape.trans hb.tape,hs.output.trans hb.output,by rw[hs.size];exact hb.size,fun k hk=>(hs.block k (.inl hk)).trans (hb.block k hk)⟩
set_option maxRecDepth 100000 in
theorem FX {lo:Nat}(a:Option Addr) (len cap:Nat) (xs:List Pl.Nd) (w:World) (h:aT lo w a len cap xs) (hl1:1<=len) (hl4:len<=4000) (R:Bool)
  (hno:Ri xs len->R=false) (Si:∀l,Pl.vP xs len=some l->R=decide (((l.getD (len-1) 0:Nat):Int)=0)) :
  Calls Tryz.prog 36 #[.slice a len cap] w fun e w'=>e=.returned (.bool R)/\Bw w w':=by
 have HR:Hid (aT lo w a len cap xs):=h;have ZJ:Hid (Ri xs len->R=false):=hno;have HYE:Hid (∀l,Pl.vP xs len=some l->R=decide (((l.getD (len-1) 0:Nat):Int)=0)):=Si;have hm:(len:Int)<=9223372036854775807:=by omega
 clear h hno Si;refine (callsIn_wide (n:=4)).1 ?_;refine callsIn_of_wp_marks Tryz.func36 rfl trivial ?_ rfl;simp only[Tryz.ntmps36,List.size_toArray,List.length_cons,List.length_nil,Nat.reduceAdd,Nat.reduceSub,Array.replicate_succ,Array.replicate_zero,List.push_toArray,List.append_toArray,List.nil_append,List.cons_append]
 gi_wp2
 refine wpIn_loop (fun a' W=>∃(i:Nat) (l:List Nat) (gb cb:Nat) (Ds:List Nat) (u4 u5 u6 u13 u14 u15 u16 u17 u18 u19 u20 u35 u36 u37 u38 u39:Value),i<=len/\a' = { tmps:=ioF w a len cap i u4 u5 u6 u13 u14 u15 u16 u17 u18 u19 u20 u35 u36 u37 u38 u39,defers:=Ds.map mark }/\Jiq w xs i l w.heap.size (w.heap.size+1+1) gb cb Ds W) (fun a' _=>len-(intOf (a'.tmps.getD 12 undef)).toNat) ?start ?round
 case start=>
  refine⟨0,[],w.heap.size+1,0,[],undef,undef,undef,undef,undef,undef,undef,undef,undef,undef,undef,undef,undef,undef,undef,undef,Nat.zero_le _,rfl,?_⟩;refine⟨?_,?_,?_,?_,List.nodup_nil,fun D hD=>(by cases hD),rfl⟩
  ·exact (((Below.refl _ _).alloc (Nat.le_refl _) _).alloc (by simp) _).alloc (by simp;omega) _
  ·rw[Below.heap_alloc _ _ _ (by simp;omega),Below.heap_alloc _ _ _ (by simp)];exact heap_alloc_new w _
  ·have:=heap_alloc_new ((w.alloc (.cells #[.bool false] 4)).alloc (.cells #[] 3)) (.cells #[.slice (some ⟨w.heap.size+1,0,none⟩) 0 0] 43);simpa using this
  ·have:=World.ownsRow_lit (w.alloc (.cells #[.bool false] 4)) #[] 0 (base:=w.heap.size) (e:=3) (size:=1) (by simp) (Nat.zero_le _) rfl;have e:(w.alloc (.cells #[.bool false] 4)).heap.size=w.heap.size+1:=(by simp);rw[e]at this;exact this.alloc _
 case round=>
  rintro a' W ⟨i,l,gb,cb,Ds,u4,u5,u6,u13,u14,u15,u16,u17,u18,u19,u20,u35,u36,u37,u38,u39,hil,rfl,hio⟩;unfold ioF;have xI:Hid (Jiq w xs i l w.heap.size (w.heap.size+1+1) gb cb Ds W):=hio;clear hio;have cb3:W.cell? ⟨w.heap.size+1+1,0,none⟩=some (.slice (some ⟨gb,0,none⟩) i cb):=cell_of_row W _ 0 _ 43 (0,0) xI.o.box;by_cases hlt:i<len
  rotate_left
  ·have hie:i=len:=(by omega);subst hie;have hi:¬((i:Int)<(i:Int)):=(by omega);have cbl:=VD xI.o.own (p:=i-1) (by omega);have hi2:((i:Int)-1)=((i-1:Nat):Int):=(by omega);have fz2:W.frozen? ⟨w.heap.size,0,none⟩=false:=frozen_of_row W _ 0 _ 4 xI.o.res;have cc2:W.cell? ⟨w.heap.size,0,none⟩=some (.bool false):=cell_of_row W _ 0 _ 4 (0,0) xI.o.res;have HE:Hid (R=decide (((l.getD (i-1) 0:Nat):Int)=0)):=HYE.o l xI.o.bg;obtain⟨q,hq⟩:∃q:Nat,q=i-1:=⟨_,rfl⟩;rw[<- hq]at cbl hi2 HE;have hqi:(q:Int)<(i:Int):=(by omega);have aEO:(i:Int)<=4000:=(by omega);clear hq;obtain⟨z,hz⟩:∃z,z=l.getD q 0:=⟨_,rfl⟩;rw[<- hz]at cbl HE;clear hz
   gi_wp2
   have hne:∀D∈Ds,D≠w.heap.size:=fun D hD e=>by
    have h1:=(xI.o.dd D hD).2;rw[e,xI.o.res]at h1;cases h1
   refine oU (lo:=w.heap.size) Ds _ xI.o.dn (fun D hD=>⟨(xI.o.dd D hD).1,?_⟩) fun w' hs=>?_
   ·rw[heap_setCell_other W ⟨w.heap.size,0,none⟩ D _ (hne D hD)];exact (xI.o.dd D hD).2
   ·have hres:(W.setCell ⟨w.heap.size,0,none⟩ (.bool (((z:Nat):Int) == 0))).heap[w.heap.size]?=some (.cells #[.bool (((z:Nat):Int) == 0)] 4 (0,0)):=by
     rw[heap_setCell_same W w.heap.size 0 _ 4 _ xI.o.res];rfl
    refine⟨.bool (((z:Nat):Int) == 0),(uR (p:=2) rfl rfl (xI.o.jR.setCell (Nat.le_refl _) _) hres hs).1,?_,yN (xI.o.jR.setCell (Nat.le_refl _) _) hs⟩;rw[HE.o,Bool.eq_iff_iff.mpr (show ((((z:Nat):Int) == 0)=true↔decide (((z:Nat):Int)=0)=true) by simp)]
  have hi:(i:Int)<(len:Int):=by omega
  obtain⟨b,off,v,hab,_,hbb,hc,hrow,hsz⟩:=HR.o.at hlt;subst hab;obtain⟨va,vl,vc⟩:=v;obtain⟨x,hx⟩:∃x,x=xs.getD i Pl.Nd.zero:=⟨_,rfl⟩;have HX:Hid (x=Pl.nd xs i):=hx;rw[<- hx]at hc hrow;obtain⟨c0,c1,c2,c3,c4,c5,c6⟩:=iT (u:=W) (fun j hj=>(xI.o.jR.cell (p:=⟨b,off+i*7+j,none⟩) hbb).trans (hc j hj));have HRW:Hid (Row .i64 lo w va vl vc x.kids):=hrow;have hbW:b<W.heap.size:=Nat.lt_of_lt_of_le hbb xI.o.jR.size;have xJ:Hid (x.kids.length=vl):=hrow.1;have hvl:(vl:Int)<=9223372036854775807:=by have:=hrow.small;simp only at this;omega
  clear hc hx hrow hsz
  gi_wp2_with (refine⟨trivial,?_⟩;gi_at_call 61;refine (callsIn_wide.2 (VA va vl vc _)).mono ?_;rintro e u1 ⟨rfl,hu1⟩;rw[hu1];clear hu1 u1)
  obtain⟨V,hV⟩:∃V,V=(((W.alloc (.cells #[.int .i64 x.k,.int .i64 x.m,.int .i64 x.n,.string x.s,.slice va vl vc,.int .i64 x.line,.int .i64 x.aQ] 45)).alloc (.cells #[.int .i64 (i:Int)] 3)).alloc (.cells #[.slice va vl vc] 43)):=⟨_,rfl⟩;have hBV:Bw W V:=by rw[hV];exact (((Below.refl _ _).alloc (Nat.le_refl _) _).alloc (by simp) _).alloc (by simp;omega) _
  have hVz:V.heap.size=W.heap.size+3:=by rw[hV];simp
  have hV6:V.heap[W.heap.size+1]?=some (.cells #[.int .i64 (i:Int)] 3 (0,0)):=by
   rw[hV,Below.heap_alloc _ _ _ (by simp)];have:=heap_alloc_new (W.alloc (.cells #[.int .i64 x.k,.int .i64 x.m,.int .i64 x.n,.string x.s,.slice va vl vc,.int .i64 x.line,.int .i64 x.aQ] 45)) (.cells #[.int .i64 (i:Int)] 3);simpa using this
  have hVx:V.heap[W.heap.size+1+1]?=some (.cells #[.slice va vl vc] 43 (0,0)):=by
   rw[hV];have:=heap_alloc_new ((W.alloc (.cells #[.int .i64 x.k,.int .i64 x.m,.int .i64 x.n,.string x.s,.slice va vl vc,.int .i64 x.line,.int .i64 x.aQ] 45)).alloc (.cells #[.int .i64 (i:Int)] 3)) (.cells #[.slice va vl vc] 43);simpa using this
  have aGN:=lN xI.o.own;obtain⟨aHm,aFe⟩:=aGN;have aHn:gb<W.heap.size:=(Array.getElem?_eq_some_iff.1 aFe).1;have aGO:∀A,Bw V A->IB w xs i l gb cb Ds (W.heap.size+1) (W.heap.size+1+1) ⟨va,vl,vc⟩ 0 i A:=fun A hA=>
   ⟨(xI.o.keep hBV).keep hA,(hA.block _ (by omega)).trans hV6,(hA.block _ (by omega)).trans hVx,rfl,by omega⟩
  have hDs:∀D∈Ds,D<W.heap.size:=fun D hD=>(Array.getElem?_eq_some_iff.1 (xI.o.dd D hD).2).1;have hww:w.heap.size<=W.heap.size:=xI.o.jR.size;have HRK:Hid (∀A,Bw w A->Row .i64 0 A va vl vc x.kids):=fun A hA=>(HRW.o.keep hA).lower (Nat.zero_le _);rw[<- hV];clear hV c0 c1 c2 c3 c4 c5 c6 cb3;refine ZP 4 (W.heap.size+1+1) (by decide) rfl rfl va vl vc x.kids hvl (fun j A=>∃p,IB w xs i l gb cb Ds (W.heap.size+1) (W.heap.size+1+1) ⟨va,vl,vc⟩ j p A) (IX w xs len Ds) ?hJ ?h0 ?Ca ?yF (fun q A a' A'=>a' = { tmps:=#[.slice (some ⟨b,off,none⟩) len cap,undef,.pointer (some ⟨w.heap.size,0,none⟩),.pointer (some ⟨w.heap.size+1+1,0,none⟩),.int .i64 (i:Int),.pointer (some ⟨W.heap.size,0,none⟩),.pointer (some ⟨W.heap.size+1,0,none⟩),undef,.int .i64 (x.kids.getD q 0),.slice (some ⟨w.heap.size+1,0,none⟩) 0 0,.slice (some ⟨b,off,none⟩) len cap,.int .i64 (len:Int),.int .i64 (i:Int),.bool true,.int .i64 (i:Int),.pointer (some ⟨b,off+i*7,none⟩),.agg #[.int .i64 x.k,.int .i64 x.m,.int .i64 x.n,.string x.s,.slice va vl vc,.int .i64 x.line,.int .i64 x.aQ],.int .i64 (i:Int),.pointer (some ⟨W.heap.size,4,none⟩),.slice va vl vc,.func (.func 91) #[] #[.pointer (some ⟨W.heap.size+1+1,0,none⟩)],.int .i64 (q:Int),.int .i64 (x.kids.getD q 0),undef,undef,undef,undef,undef,undef,undef,undef,undef,undef,undef,undef,u35,u36,u37,u38,u39,undef,undef,undef,undef,undef,undef,undef],defers:=[] }/\A'=A) ?hassign ?hbody ?hdone ?hstop
  case hJ=>rintro j A ⟨p,h⟩;exact⟨cell_of_row A _ 0 _ 43 (0,0) h.ZR,HRK.o A h.io.jR⟩
  case h0=>intro A hA _;exact⟨i,aGO A hA⟩
  case Ca=>rintro j A r o o' ⟨p,h⟩ h1 h2 h3 h4;exact⟨p,h.put (by omega) h3 h4 (fun q=>by have:=hDs r q;omega)⟩
  case yF=>intro A r o o' h h1 h2 h3 h4;exact h.put (by omega) h3 h4 (fun q=>by have:=hDs r q;omega)
  case hassign=>
   intro r q A K hK
   gi_wp2
   exact hK _ _ (Below.refl _ _) ⟨rfl,rfl⟩
  case hbody=>
   rintro r j A a' A1 o hj hr1 hr2 ⟨p,hib⟩ hbk hb1 ⟨rfl,rfl⟩;obtain⟨o',ho',hoc⟩:=hbk r hr1 hr2;have OO:=hib.put (o:=o) (by omega) ho' hoc (fun q=>by have:=hDs r q;omega);obtain⟨U,hU⟩:∃U,U=A1.putObj r o:=⟨_,rfl⟩;rw[<- hU]at OO ⊢;have HU:Hid (IB w xs i l gb cb Ds (W.heap.size+1) (W.heap.size+1+1) ⟨va,vl,vc⟩ j p U):=OO;have t6:U.cell? ⟨W.heap.size+1,0,none⟩=some (.int .i64 (p:Int)):=cell_of_row U _ 0 _ 3 (0,0) OO.Tj;have f6:U.frozen? ⟨W.heap.size+1,0,none⟩=false:=frozen_of_row U _ 0 _ 3 OO.Tj;have t3:U.cell? ⟨w.heap.size+1+1,0,none⟩=some (.slice (some ⟨gb,0,none⟩) i cb):=cell_of_row U _ 0 _ 43 (0,0) OO.io.box;have t2:U.cell? ⟨w.heap.size,0,none⟩=some (.bool false):=cell_of_row U _ 0 _ 4 (0,0) OO.io.res;have f2:U.frozen? ⟨w.heap.size,0,none⟩=false:=frozen_of_row U _ 0 _ 4 OO.io.res;have hp0:p<=i:=(by have:=Pl.uA (Pl.yS xI.o.bg).le OO.wk;omega);obtain⟨q,hq⟩:∃q,q=vl-1-j:=⟨_,rfl⟩;have HQE:Hid ((Pl.nd xs i).kids.length-1-j=q):=(by show (Pl.nd xs i).kids.length-1-j=q;rw[<- HX.o,xJ.o,hq]);rw[<- hq];obtain⟨z,hz⟩:∃z,z=x.kids.getD q 0:=⟨_,rfl⟩;have HZ:Hid (z=x.kids.getD q 0):=hz;rw[<- hz];have HBL:Hid (∀(c:Nat) (v:Value),c<V.heap.size->∀bb,V.heap.size<=bb->bb<V.heap.size+2->(U.setCell ⟨c,0,none⟩ v).heap[bb]?=U.heap[bb]?):=fun c v hc bb h1 h2=>heap_setCell_other U ⟨c,0,none⟩ bb v (by show bb≠c;omega);have hp4:(p:Int)<=4000:=(by omega);have Cb:Hid (V.heap.size=W.heap.size+3):=hVz;clear hib OO hU hbk hb1 ho' hz hq hVz;by_cases hok:1<=p/\z=(p:Int)-1
   rotate_left
   ·have HN:Hid (Ri xs len):=by
     show Pl.vP xs len=none;have hw:Pl.tK l (Pl.nd xs i).kids i (j+1)=none:=(by rw[Pl.xM HU.o.wk,if_neg (by rw[HQE.o,<- HX.o,<- HZ.o];exact hok)]);exact Pl.DI (Pl.KT xI.o.bg (Pl.CZ hw _ (by rw[<- HX.o,xJ.o];omega))) len (by omega)
    have Cq:Hid (IX w xs len Ds (U.setCell ⟨w.heap.size,0,none⟩ (.bool false))):=by
     refine⟨HU.o.io.jR.setCell (Nat.le_refl _) _,?_,HU.o.io.dn,fun D hD=>⟨(HU.o.io.dd D hD).1,?_⟩,HN.o⟩
     ·rw[heap_setCell_same U w.heap.size 0 _ 4 _ HU.o.io.res];rfl
     ·have h1:=(HU.o.io.dd D hD).2;rw[heap_setCell_other U ⟨w.heap.size,0,none⟩ D _ (by intro e;rw[e]at h1;change U.heap[w.heap.size]?=_ at h1;rw[HU.o.io.res]at h1;cases h1)];exact h1
    by_cases hz0:z<0
    ·have hzb:decide (z<0)=true:=decide_eq_true hz0
     gi_wp2
     exact⟨HBL.o _ _ (by have:=Cb.o;omega),Cq.o⟩
    ·have hzb:decide (z<0)=false:=decide_eq_false hz0;have hne:¬z=(p:Int)-1:=fun e=>hok ⟨by omega,e⟩;have aHo:(z != (p:Int)-1)=true:=(by simpa using hne);clear hok
     gi_wp2
     exact⟨HBL.o _ _ (by have:=Cb.o;omega),Cq.o⟩
   obtain⟨hp1,hzp⟩:=hok;obtain⟨c,rfl⟩:∃c,p=c+1:=⟨p-1,by omega⟩;obtain rfl:z=(c:Int):=by omega
   have hci:c<i:=(by omega);have Zu:(c:Int)<(i:Int):=(by omega);have cbg:=VD HU.o.io.own hci;have hc0:decide ((c:Int)<0)=false:=decide_eq_false (by omega);have hne:((c:Int) != ((c+1:Nat):Int)-1)=false:=(by simp);have HIB:Hid (IB w xs i l gb cb Ds (W.heap.size+1) (W.heap.size+1+1) ⟨va,vl,vc⟩ (j+1) (l.getD c 0) (U.setCell ⟨W.heap.size+1,0,none⟩ (.int .i64 ((l.getD c 0:Nat):Int)))):=HU.o.step (by omega) (by rw[HQE.o,<- HX.o,<- HZ.o]);clear hp1 hzp;generalize l.getD c 0=bgc at *
   gi_wp2
   exact⟨HBL.o _ _ (by have:=Cb.o;omega),_,HIB.o⟩
  case hdone=>
   rintro A ⟨p,hib⟩ hD;have HU:Hid (IB w xs i l gb cb Ds (W.heap.size+1) (W.heap.size+1+1) ⟨va,vl,vc⟩ vl p A):=hib;have HD:Hid (A.heap[V.heap.size]?=some (.deferred (some []))):=hD;have t6:A.cell? ⟨W.heap.size+1,0,none⟩=some (.int .i64 (p:Int)):=cell_of_row A _ 0 _ 3 (0,0) hib.Tj;have t3:A.cell? ⟨w.heap.size+1+1,0,none⟩=some (.slice (some ⟨gb,0,none⟩) i cb):=cell_of_row A _ 0 _ 43 (0,0) hib.io.box;have hb3:w.heap.size+1+1<A.heap.size:=(Array.getElem?_eq_some_iff.1 hib.io.box).1;have Cb:Hid (V.heap.size=W.heap.size+3):=hVz;have hwA:w.heap.size<=A.heap.size:=hib.io.jR.size;obtain⟨i0,hi0,hz0,hz1,hz2⟩:=info_parts Tryz.infoi64;have HI:Hid (Tryz.prog.info? 3=some i0/\i0.zero=some (.int .i64 0)/\i0.size=1/\i0.bytes=8):=⟨hi0,hz0,hz1,hz2⟩;clear hib hD hVz hi0 hz0 hz1 hz2
   gi_wp2_with (gi_at_builtin;refine wpListIn_append_own _ rfl (.tmp 35) (.tmp 37) 43 rfl w.heap.size 3 i0 (.int .i64 0) 1 8 Tryz.underlying43 HI.o.1 HI.o.2.1 HI.o.2.2.1 HI.o.2.2.2 rfl (by decide) (.slice (some ⟨gb,0,none⟩) i cb) i (l.map fun n:Nat=>Value.int .i64 (n:Int)) rfl (World.ownsRow.alloc HU.o.io.own _) ⟨A.heap.size,0,none⟩ 1 1 [.int .i64 (p:Int)] rfl rfl (Io A _ _) (by intro u hu;simp at hu;subst hu;rfl) (by unfold maxLen;omega) (by omega) (by simp;omega) ?_;intro v' y2 hown hgr _;obtain⟨g2,c2,hv2,hg2,hg3⟩:=hown.form (by omega);subst hv2;have HOW:Hid _:=hown;have HGR:Hid _:=hgr;have t3':y2.cell? ⟨w.heap.size+1+1,0,none⟩=some (.slice (some ⟨gb,0,none⟩) i cb):=(HU.o.boxed hgr).1;have f3':y2.frozen? ⟨w.heap.size+1+1,0,none⟩=false:=(HU.o.boxed hgr).2;clear hown hgr)
   refine⟨⟨i+1,l++[p],g2,c2,V.heap.size :: Ds,_,_,_,_,_,_,_,_,_,_,_,_,_,_,_,_,by omega,rfl,HU.o.grow HGR.o HOW.o HD.o (by have:=Cb.o;omega) (fun q=>by have:=hDs _ q;have:=Cb.o;omega) (by rw[<- HX.o];exact xJ.o)⟩,?_⟩;simp[intOf];omega
  case hstop=>
   intro A hix hD;have hVA:V.heap.size<A.heap.size:=(Array.getElem?_eq_some_iff.1 hD).1;have Cq:Hid (IX w xs len Ds A):=hix;have HD:Hid (A.heap[V.heap.size]?=some (.deferred (some []))):=hD;have Cb:Hid (V.heap.size=W.heap.size+3):=hVz;have HF:Hid (R=false):=ZJ.o hix.no;clear hix hD hVz
   gi_wp2
   refine oU (lo:=w.heap.size) (V.heap.size :: Ds) A (List.nodup_cons.2 ⟨fun q=>by have:=hDs _ q;have:=Cb.o;omega,Cq.o.dn⟩) (fun D hD=>?_) fun w' hs=>?_
   ·rcases List.mem_cons.1 hD with e|e
    ·subst e;exact⟨by have:=Cb.o;omega,HD.o⟩
    ·exact Cq.o.dd D e
   ·exact⟨.bool false,(uR (p:=2) rfl rfl Cq.o.jR Cq.o.res hs).1,aC HF.o.symm,yN Cq.o.jR hs⟩
end W
end Go.Proofs.YtjcdiegfnoaedaaGreatDoor
