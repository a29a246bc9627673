import Derived.Test.YtlbomnnldkeocaaGreatI21
import Derived.Test.YtlbomnnldkeocaaGreatI03
import Derived.Test.YtlbomnnldkeocaaGreatI20
import Derived.ChangeKeysEq
import Derived.Laws.StructEq
import Derived.Deep.RegionWith
set_option linter.unusedVariables false
set_option maxHeartbeats 16000000
namespace Go.Proofs.YtlbomnnldkeocaaGreat.Pl
def PZ (f:Nat) (n:Int):Int:=if us f 0 then n / pw 7 % pw 5 else 0
def QA (f:Nat) (n:Int):Int:=if us f 1 then n / pw 15 % pw 5 else 0
def QB (f:Nat) (n:Int):Int:=if us f 2 then n / pw 20 % pw 5 else 0
end Go.Proofs.YtlbomnnldkeocaaGreat.Pl
namespace Go.Proofs.YtlbomnnldkeocaaGreat.W
open Go.RowKit
theorem FB (n:Int) (f:Nat) (h1:1<=f) (h2:f<=8) (w:World) :
  Calls Tryz.prog 89 #[.int .i64 n,.agg (Pl.bJ f)] w fun e w'=>e=.returned (.int .i64 (Pl.tL f n))/\Below w.heap.size w w':=by
 rcases Pl.jH f h1 h2 with rfl | rfl | rfl | rfl | rfl | rfl | rfl | rfl
 ·exact OA n w
 ·exact OB n w
 ·exact OC n w
 ·exact OD n w
 ·exact OE n w
 ·exact OG n w
 ·exact OH n w
 ·exact OI n w
theorem vW {P:Program} {f:Nat} {args:Array Value} {W:World} {Q:Ending->World->Prop} (h:∀ U,U=W->Calls P f args U Q):Calls P f args W Q:=h W rfl
theorem dE {B:Nat} {a b:World} (h:Below B a b) {g:Nat} (hp:B<=g) (cs:Array Value):Below B a (b.setRow g cs):=
 ⟨h.os,h.tape,h.output,by simpa using h.size,fun k hk=>(setRow_other b g k cs (by omega)).trans (h.block k hk)⟩
theorem jP {u:World} {g:Nat} {cs cs':Array Value} {t:TypeId} (q:u.heap[g]?=some (.cells cs t)) (j:Nat) (x:Value) (e:cs.setIfInBounds j x=cs'):(u.setCell ⟨g,j,none⟩ x).heap[g]?=some (.cells cs' t):=by
 rw[<- e];exact heap_setCell_same u g j cs t x q
theorem yD (n:Int) (f:Nat) (h1:1<=f) (h2:f<=8) (w:World) :
  Calls Tryz.prog 41 #[.int .i64 n,.agg (Pl.bJ f)] w fun e w'=>e=.returned (.agg #[.int .i64 0,.int .i64 (Pl.PZ f n),.int .i64 (Pl.QA f n),.int .i64 (Pl.QB f n),.int .i64 (Pl.tL f n)])/\Below w.heap.size w w':=by
 have Qm:=fun W=>FB n f h1 h2 W
 unfold Pl.bJ at Qm ⊢
 unfold Pl.PZ Pl.QA Pl.QB
 obtain⟨q0,e0⟩:∃ q,q=Pl.us f 0:=⟨_,rfl⟩
 obtain⟨q1,e1⟩:∃ q,q=Pl.us f 1:=⟨_,rfl⟩
 obtain⟨q2,e2⟩:∃ q,q=Pl.us f 2:=⟨_,rfl⟩
 rw[<- e0,<- e1,<- e2]at Qm ⊢
 have F7:Hid _:=Qm
 obtain⟨gi,hgi⟩:∃ gi,gi=Pl.tL f n:=⟨_,rfl⟩
 clear Qm e0 e1 e2
 have P0:Hid (((w.alloc (.cells #[.bool q0,.bool q1,.bool q2,.int .i64 (Pl.lo f),.int .i64 (Pl.hi f),.int .i64 (Pl.st f),.int .i64 (Pl.pa f 0),.int .i64 (Pl.pa f 1),.int .i64 (Pl.pa f 2),.int .i64 (Pl.pa f 3),.int .i64 (Pl.pa f 4),.int .i64 (Pl.pa f 5),.int .i64 (Pl.pa f 6),.int .i64 (Pl.pa f 7),.int .i64 (Pl.pa f 8),.int .i64 (Pl.pa f 9),.int .i64 (Pl.pa f 10),.int .i64 (Pl.pa f 11)] 86)).alloc (.cells #[.int .i64 0,.int .i64 0,.int .i64 0,.int .i64 0,.int .i64 0] 32)).heap[w.heap.size]?=some (.cells #[.bool q0,.bool q1,.bool q2,.int .i64 (Pl.lo f),.int .i64 (Pl.hi f),.int .i64 (Pl.st f),.int .i64 (Pl.pa f 0),.int .i64 (Pl.pa f 1),.int .i64 (Pl.pa f 2),.int .i64 (Pl.pa f 3),.int .i64 (Pl.pa f 4),.int .i64 (Pl.pa f 5),.int .i64 (Pl.pa f 6),.int .i64 (Pl.pa f 7),.int .i64 (Pl.pa f 8),.int .i64 (Pl.pa f 9),.int .i64 (Pl.pa f 10),.int .i64 (Pl.pa f 11)] 86)):=(Below.heap_alloc _ _ _ (by simp)).trans (heap_alloc_new w _)
 go_enter Tryz.func41,Tryz.ntmps41
 go_wp2_with (refine wpList_load_row rfl 86 _ rfl (w.heap.size) ?hx 86 #[.bool q0,.bool q1,.bool q2,.int .i64 (Pl.lo f),.int .i64 (Pl.hi f),.int .i64 (Pl.st f),.int .i64 (Pl.pa f 0),.int .i64 (Pl.pa f 1),.int .i64 (Pl.pa f 2),.int .i64 (Pl.pa f 3),.int .i64 (Pl.pa f 4),.int .i64 (Pl.pa f 5),.int .i64 (Pl.pa f 6),.int .i64 (Pl.pa f 7),.int .i64 (Pl.pa f 8),.int .i64 (Pl.pa f 9),.int .i64 (Pl.pa f 10),.int .i64 (Pl.pa f 11)] (0,0) _ ?hg Tryz.underlying86 ?hd ?hi ?_; (case hx=>rfl); (case hg=>exact P0.out); (case hd=>rfl); (case hi=>kernel_rfl))
 refine vW fun u0 hu0=>?_
 have X0:Hid (u0.heap[w.heap.size+1]?=some (.cells #[.int .i64 0,.int .i64 0,.int .i64 0,.int .i64 0,.int .i64 0] 32)):=by
  show u0.heap[w.heap.size+1]?=_
  rw[hu0]
  have:=heap_alloc_new (w.alloc (.cells #[.bool q0,.bool q1,.bool q2,.int .i64 (Pl.lo f),.int .i64 (Pl.hi f),.int .i64 (Pl.st f),.int .i64 (Pl.pa f 0),.int .i64 (Pl.pa f 1),.int .i64 (Pl.pa f 2),.int .i64 (Pl.pa f 3),.int .i64 (Pl.pa f 4),.int .i64 (Pl.pa f 5),.int .i64 (Pl.pa f 6),.int .i64 (Pl.pa f 7),.int .i64 (Pl.pa f 8),.int .i64 (Pl.pa f 9),.int .i64 (Pl.pa f 10),.int .i64 (Pl.pa f 11)] 86)) (.cells #[.int .i64 0,.int .i64 0,.int .i64 0,.int .i64 0,.int .i64 0] 32)
  simpa using this
 have B0:Hid (Below w.heap.size w u0):=by
  show Below w.heap.size w u0
  rw[hu0]
  exact ((Below.refl _ _).alloc (Nat.le_refl _) _).alloc (by simp) _
 have Z0:Hid (w.heap.size+1<u0.heap.size):=by show w.heap.size+1<u0.heap.size;rw[hu0];simp
 rw[<- hu0]at P0
 clear hu0
 refine (F7.out u0).mono ?_
 rintro e u1 ⟨rfl,d1⟩
 rw[<- hgi]
 have Be:Hid (gi=Pl.tL f n):=hgi
 clear hgi
 have P1:Hid (u1.heap[w.heap.size]?=some (.cells #[.bool q0,.bool q1,.bool q2,.int .i64 (Pl.lo f),.int .i64 (Pl.hi f),.int .i64 (Pl.st f),.int .i64 (Pl.pa f 0),.int .i64 (Pl.pa f 1),.int .i64 (Pl.pa f 2),.int .i64 (Pl.pa f 3),.int .i64 (Pl.pa f 4),.int .i64 (Pl.pa f 5),.int .i64 (Pl.pa f 6),.int .i64 (Pl.pa f 7),.int .i64 (Pl.pa f 8),.int .i64 (Pl.pa f 9),.int .i64 (Pl.pa f 10),.int .i64 (Pl.pa f 11)] 86)):=(d1.block _ (by have:=Z0.out;omega)).trans P0.out
 have X1:Hid (u1.heap[w.heap.size+1]?=some (.cells #[.int .i64 0,.int .i64 0,.int .i64 0,.int .i64 0,.int .i64 0] 32)):=(d1.block _ (by have:=Z0.out;omega)).trans X0.out
 have B1:Hid (Below w.heap.size w u1):=B0.out.trans (d1.mono (by have:=Z0.out;omega))
 have Z1:Hid (w.heap.size+1<u1.heap.size):=Nat.lt_of_lt_of_le Z0.out d1.size
 clear d1 P0 X0 B0 Z0 F7
 go_wp2_with (refine wpList_store_row rfl 32 _ _ rfl u1.heap.size #[.int .i64 0,.int .i64 0,.int .i64 0,.int .i64 0,.int .i64 gi] ?hx ?hy 32 #[.int .i64 0,.int .i64 0,.int .i64 0,.int .i64 0,.int .i64 0] ?hg ?hi ?ho ?h1 ?_; (case hx=>rfl); (case hy=>rfl); (case hg=>exact heap_alloc_new u1 _); (case hi=>kernel_rfl); (case ho=>kernel_rfl); (case h1=>kernel_rfl);refine Hid.out ?_)
 unfold Hid
 rw[World.setRow_alloc_new]
 refine oV fun u2 hu2=>?_
 have d2:Below u1.heap.size u1 u2:=by rw[hu2];exact aB u1 _
 have Y2:Hid (u2.heap[u1.heap.size]?=some (.cells #[.int .i64 0,.int .i64 0,.int .i64 0,.int .i64 0,.int .i64 gi] 32)):=by show u2.heap[u1.heap.size]?=_;rw[hu2];exact heap_alloc_new u1 _
 have P2:Hid (u2.heap[w.heap.size]?=some (.cells #[.bool q0,.bool q1,.bool q2,.int .i64 (Pl.lo f),.int .i64 (Pl.hi f),.int .i64 (Pl.st f),.int .i64 (Pl.pa f 0),.int .i64 (Pl.pa f 1),.int .i64 (Pl.pa f 2),.int .i64 (Pl.pa f 3),.int .i64 (Pl.pa f 4),.int .i64 (Pl.pa f 5),.int .i64 (Pl.pa f 6),.int .i64 (Pl.pa f 7),.int .i64 (Pl.pa f 8),.int .i64 (Pl.pa f 9),.int .i64 (Pl.pa f 10),.int .i64 (Pl.pa f 11)] 86)):=(d2.block _ (by have:=Z1.out;omega)).trans P1.out
 have X2:Hid (u2.heap[w.heap.size+1]?=some (.cells #[.int .i64 0,.int .i64 0,.int .i64 0,.int .i64 0,.int .i64 0] 32)):=(d2.block _ Z1.out).trans X1.out
 have B2:Hid (Below w.heap.size w u2):=B1.out.trans (d2.mono (by have:=Z1.out;omega))
 clear d2 hu2 P1 X1 B1
 obtain⟨g,hg⟩:∃ g,g=u1.heap.size:=⟨_,rfl⟩
 rw[<- hg]at Z1 Y2 ⊢
 have Z2:w.heap.size+1<g:=Z1.out
 clear hg Z1
 have kp:∀ j,u2.cell? ⟨w.heap.size,j,none⟩=(#[.bool q0,.bool q1,.bool q2,.int .i64 (Pl.lo f),.int .i64 (Pl.hi f),.int .i64 (Pl.st f),.int .i64 (Pl.pa f 0),.int .i64 (Pl.pa f 1),.int .i64 (Pl.pa f 2),.int .i64 (Pl.pa f 3),.int .i64 (Pl.pa f 4),.int .i64 (Pl.pa f 5),.int .i64 (Pl.pa f 6),.int .i64 (Pl.pa f 7),.int .i64 (Pl.pa f 8),.int .i64 (Pl.pa f 9),.int .i64 (Pl.pa f 10),.int .i64 (Pl.pa f 11)]:Array Value)[j]?:=fun j=>cell_of_row u2 w.heap.size j _ 86 (0,0) P2.out
 have ky:∀ j,u2.cell? ⟨g,j,none⟩=(#[.int .i64 0,.int .i64 0,.int .i64 0,.int .i64 0,.int .i64 gi]:Array Value)[j]?:=fun j=>cell_of_row u2 g j _ 32 (0,0) Y2.out
 have kf:∀ j,u2.frozen? ⟨g,j,none⟩=false:=fun j=>frozen_of_row u2 g j _ 32 Y2.out
 have ne1:¬ w.heap.size=g:=by omega
 have ne2:¬ g=w.heap.size:=by omega
 cases q0 <;> cases q1 <;> cases q2
 ·go_wp2_with (first | (go_at_call 90;refine (eH _ _ _ (by decide) (by decide) _).mono ?_;rintro e u3 ⟨rfl,mm,rfl⟩) | (refine wpList_load_row rfl 32 _ rfl g ?hx 32 #[.int .i64 0,.int .i64 0,.int .i64 0,.int .i64 0,.int .i64 gi] (0,0) _ ?hg Tryz.underlying32 ?hd ?hi ?_; (case hx=>rfl); (case hg=>exact Y2.out); (case hd=>rfl); (case hi=>kernel_rfl)) | (refine wpList_store_row rfl 32 _ _ rfl (w.heap.size+1) #[.int .i64 0,.int .i64 0,.int .i64 0,.int .i64 0,.int .i64 gi] ?hx ?hy 32 #[.int .i64 0,.int .i64 0,.int .i64 0,.int .i64 0,.int .i64 0] ?hg ?hi ?ho ?h1 ?_; (case hx=>rfl); (case hy=>rfl); (case hg=>exact X2.out); (case hi=>kernel_rfl); (case ho=>kernel_rfl); (case h1=>kernel_rfl);refine Hid.out ?_))
  unfold Hid
  go_wp2_with fail
  refine bodyPost_ret (v:=.agg #[.int .i64 0,.int .i64 0,.int .i64 0,.int .i64 0,.int .i64 gi]) ?hres rfl ⟨by rw[Be.out],?_⟩
  case hres=>
   refine results_cell_row Tryz.results41 _ _ (w.heap.size+1) 32 #[.int .i64 0,.int .i64 0,.int .i64 0,.int .i64 0,.int .i64 gi] (0,0) _ ?hp ?hg Tryz.underlying32 ?hd ?hi
   case hp=>rfl
   case hg=>exact setRow_heap _ _ _ _ _ _ (X2.out)
   case hd=>rfl
   case hi=>kernel_rfl
  exact dE (B2.out) (show w.heap.size<=w.heap.size+1 by omega) _
 ·go_wp2_with (first | (go_at_call 90;refine (eH _ _ _ (by decide) (by decide) _).mono ?_;rintro e u3 ⟨rfl,mm,rfl⟩) | (refine wpList_load_row rfl 32 _ rfl g ?hx 32 #[.int .i64 0,.int .i64 0,.int .i64 0,.int .i64 (n / Pl.pw 20 % Pl.pw 5),.int .i64 gi] (0,0) _ ?hg Tryz.underlying32 ?hd ?hi ?_; (case hx=>rfl); (case hg=>exact jP (aS (Y2.out)) _ _ rfl); (case hd=>rfl); (case hi=>kernel_rfl)) | (refine wpList_store_row rfl 32 _ _ rfl (w.heap.size+1) #[.int .i64 0,.int .i64 0,.int .i64 0,.int .i64 (n / Pl.pw 20 % Pl.pw 5),.int .i64 gi] ?hx ?hy 32 #[.int .i64 0,.int .i64 0,.int .i64 0,.int .i64 0,.int .i64 0] ?hg ?hi ?ho ?h1 ?_; (case hx=>rfl); (case hy=>rfl); (case hg=>exact keep_other (aS (X2.out)) (Nat.ne_of_lt Z2)); (case hi=>kernel_rfl); (case ho=>kernel_rfl); (case h1=>kernel_rfl);refine Hid.out ?_))
  unfold Hid
  go_wp2_with fail
  refine bodyPost_ret (v:=.agg #[.int .i64 0,.int .i64 0,.int .i64 0,.int .i64 (n / Pl.pw 20 % Pl.pw 5),.int .i64 gi]) ?hres rfl ⟨by rw[Be.out],?_⟩
  case hres=>
   refine results_cell_row Tryz.results41 _ _ (w.heap.size+1) 32 #[.int .i64 0,.int .i64 0,.int .i64 0,.int .i64 (n / Pl.pw 20 % Pl.pw 5),.int .i64 gi] (0,0) _ ?hp ?hg Tryz.underlying32 ?hd ?hi
   case hp=>rfl
   case hg=>exact setRow_heap _ _ _ _ _ _ (keep_other (aS (X2.out)) (Nat.ne_of_lt Z2))
   case hd=>rfl
   case hi=>kernel_rfl
  exact dE (((below_drewN (B2.out) _).setCell (show w.heap.size<=g by omega) _)) (show w.heap.size<=w.heap.size+1 by omega) _
 ·go_wp2_with (first | (go_at_call 90;refine (eH _ _ _ (by decide) (by decide) _).mono ?_;rintro e u3 ⟨rfl,mm,rfl⟩) | (refine wpList_load_row rfl 32 _ rfl g ?hx 32 #[.int .i64 0,.int .i64 0,.int .i64 (n / Pl.pw 15 % Pl.pw 5),.int .i64 0,.int .i64 gi] (0,0) _ ?hg Tryz.underlying32 ?hd ?hi ?_; (case hx=>rfl); (case hg=>exact jP (aS (Y2.out)) _ _ rfl); (case hd=>rfl); (case hi=>kernel_rfl)) | (refine wpList_store_row rfl 32 _ _ rfl (w.heap.size+1) #[.int .i64 0,.int .i64 0,.int .i64 (n / Pl.pw 15 % Pl.pw 5),.int .i64 0,.int .i64 gi] ?hx ?hy 32 #[.int .i64 0,.int .i64 0,.int .i64 0,.int .i64 0,.int .i64 0] ?hg ?hi ?ho ?h1 ?_; (case hx=>rfl); (case hy=>rfl); (case hg=>exact keep_other (aS (X2.out)) (Nat.ne_of_lt Z2)); (case hi=>kernel_rfl); (case ho=>kernel_rfl); (case h1=>kernel_rfl);refine Hid.out ?_))
  unfold Hid
  go_wp2_with fail
  refine bodyPost_ret (v:=.agg #[.int .i64 0,.int .i64 0,.int .i64 (n / Pl.pw 15 % Pl.pw 5),.int .i64 0,.int .i64 gi]) ?hres rfl ⟨by rw[Be.out],?_⟩
  case hres=>
   refine results_cell_row Tryz.results41 _ _ (w.heap.size+1) 32 #[.int .i64 0,.int .i64 0,.int .i64 (n / Pl.pw 15 % Pl.pw 5),.int .i64 0,.int .i64 gi] (0,0) _ ?hp ?hg Tryz.underlying32 ?hd ?hi
   case hp=>rfl
   case hg=>exact setRow_heap _ _ _ _ _ _ (keep_other (aS (X2.out)) (Nat.ne_of_lt Z2))
   case hd=>rfl
   case hi=>kernel_rfl
  exact dE (((below_drewN (B2.out) _).setCell (show w.heap.size<=g by omega) _)) (show w.heap.size<=w.heap.size+1 by omega) _
 ·go_wp2_with (first | (go_at_call 90;refine (eH _ _ _ (by decide) (by decide) _).mono ?_;rintro e u3 ⟨rfl,mm,rfl⟩) | (refine wpList_load_row rfl 32 _ rfl g ?hx 32 #[.int .i64 0,.int .i64 0,.int .i64 (n / Pl.pw 15 % Pl.pw 5),.int .i64 (n / Pl.pw 20 % Pl.pw 5),.int .i64 gi] (0,0) _ ?hg Tryz.underlying32 ?hd ?hi ?_; (case hx=>rfl); (case hg=>exact jP (aS (jP (aS (Y2.out)) _ _ rfl)) _ _ rfl); (case hd=>rfl); (case hi=>kernel_rfl)) | (refine wpList_store_row rfl 32 _ _ rfl (w.heap.size+1) #[.int .i64 0,.int .i64 0,.int .i64 (n / Pl.pw 15 % Pl.pw 5),.int .i64 (n / Pl.pw 20 % Pl.pw 5),.int .i64 gi] ?hx ?hy 32 #[.int .i64 0,.int .i64 0,.int .i64 0,.int .i64 0,.int .i64 0] ?hg ?hi ?ho ?h1 ?_; (case hx=>rfl); (case hy=>rfl); (case hg=>exact keep_other (aS (keep_other (aS (X2.out)) (Nat.ne_of_lt Z2))) (Nat.ne_of_lt Z2)); (case hi=>kernel_rfl); (case ho=>kernel_rfl); (case h1=>kernel_rfl);refine Hid.out ?_))
  unfold Hid
  go_wp2_with fail
  refine bodyPost_ret (v:=.agg #[.int .i64 0,.int .i64 0,.int .i64 (n / Pl.pw 15 % Pl.pw 5),.int .i64 (n / Pl.pw 20 % Pl.pw 5),.int .i64 gi]) ?hres rfl ⟨by rw[Be.out],?_⟩
  case hres=>
   refine results_cell_row Tryz.results41 _ _ (w.heap.size+1) 32 #[.int .i64 0,.int .i64 0,.int .i64 (n / Pl.pw 15 % Pl.pw 5),.int .i64 (n / Pl.pw 20 % Pl.pw 5),.int .i64 gi] (0,0) _ ?hp ?hg Tryz.underlying32 ?hd ?hi
   case hp=>rfl
   case hg=>exact setRow_heap _ _ _ _ _ _ (keep_other (aS (keep_other (aS (X2.out)) (Nat.ne_of_lt Z2))) (Nat.ne_of_lt Z2))
   case hd=>rfl
   case hi=>kernel_rfl
  exact dE (((below_drewN (((below_drewN (B2.out) _).setCell (show w.heap.size<=g by omega) _)) _).setCell (show w.heap.size<=g by omega) _)) (show w.heap.size<=w.heap.size+1 by omega) _
 ·go_wp2_with (first | (go_at_call 90;refine (eH _ _ _ (by decide) (by decide) _).mono ?_;rintro e u3 ⟨rfl,mm,rfl⟩) | (refine wpList_load_row rfl 32 _ rfl g ?hx 32 #[.int .i64 0,.int .i64 (n / Pl.pw 7 % Pl.pw 5),.int .i64 0,.int .i64 0,.int .i64 gi] (0,0) _ ?hg Tryz.underlying32 ?hd ?hi ?_; (case hx=>rfl); (case hg=>exact jP (aS (Y2.out)) _ _ rfl); (case hd=>rfl); (case hi=>kernel_rfl)) | (refine wpList_store_row rfl 32 _ _ rfl (w.heap.size+1) #[.int .i64 0,.int .i64 (n / Pl.pw 7 % Pl.pw 5),.int .i64 0,.int .i64 0,.int .i64 gi] ?hx ?hy 32 #[.int .i64 0,.int .i64 0,.int .i64 0,.int .i64 0,.int .i64 0] ?hg ?hi ?ho ?h1 ?_; (case hx=>rfl); (case hy=>rfl); (case hg=>exact keep_other (aS (X2.out)) (Nat.ne_of_lt Z2)); (case hi=>kernel_rfl); (case ho=>kernel_rfl); (case h1=>kernel_rfl);refine Hid.out ?_))
  unfold Hid
  go_wp2_with fail
  refine bodyPost_ret (v:=.agg #[.int .i64 0,.int .i64 (n / Pl.pw 7 % Pl.pw 5),.int .i64 0,.int .i64 0,.int .i64 gi]) ?hres rfl ⟨by rw[Be.out],?_⟩
  case hres=>
   refine results_cell_row Tryz.results41 _ _ (w.heap.size+1) 32 #[.int .i64 0,.int .i64 (n / Pl.pw 7 % Pl.pw 5),.int .i64 0,.int .i64 0,.int .i64 gi] (0,0) _ ?hp ?hg Tryz.underlying32 ?hd ?hi
   case hp=>rfl
   case hg=>exact setRow_heap _ _ _ _ _ _ (keep_other (aS (X2.out)) (Nat.ne_of_lt Z2))
   case hd=>rfl
   case hi=>kernel_rfl
  exact dE (((below_drewN (B2.out) _).setCell (show w.heap.size<=g by omega) _)) (show w.heap.size<=w.heap.size+1 by omega) _
 ·go_wp2_with (first | (go_at_call 90;refine (eH _ _ _ (by decide) (by decide) _).mono ?_;rintro e u3 ⟨rfl,mm,rfl⟩) | (refine wpList_load_row rfl 32 _ rfl g ?hx 32 #[.int .i64 0,.int .i64 (n / Pl.pw 7 % Pl.pw 5),.int .i64 0,.int .i64 (n / Pl.pw 20 % Pl.pw 5),.int .i64 gi] (0,0) _ ?hg Tryz.underlying32 ?hd ?hi ?_; (case hx=>rfl); (case hg=>exact jP (aS (jP (aS (Y2.out)) _ _ rfl)) _ _ rfl); (case hd=>rfl); (case hi=>kernel_rfl)) | (refine wpList_store_row rfl 32 _ _ rfl (w.heap.size+1) #[.int .i64 0,.int .i64 (n / Pl.pw 7 % Pl.pw 5),.int .i64 0,.int .i64 (n / Pl.pw 20 % Pl.pw 5),.int .i64 gi] ?hx ?hy 32 #[.int .i64 0,.int .i64 0,.int .i64 0,.int .i64 0,.int .i64 0] ?hg ?hi ?ho ?h1 ?_; (case hx=>rfl); (case hy=>rfl); (case hg=>exact keep_other (aS (keep_other (aS (X2.out)) (Nat.ne_of_lt Z2))) (Nat.ne_of_lt Z2)); (case hi=>kernel_rfl); (case ho=>kernel_rfl); (case h1=>kernel_rfl);refine Hid.out ?_))
  unfold Hid
  go_wp2_with fail
  refine bodyPost_ret (v:=.agg #[.int .i64 0,.int .i64 (n / Pl.pw 7 % Pl.pw 5),.int .i64 0,.int .i64 (n / Pl.pw 20 % Pl.pw 5),.int .i64 gi]) ?hres rfl ⟨by rw[Be.out],?_⟩
  case hres=>
   refine results_cell_row Tryz.results41 _ _ (w.heap.size+1) 32 #[.int .i64 0,.int .i64 (n / Pl.pw 7 % Pl.pw 5),.int .i64 0,.int .i64 (n / Pl.pw 20 % Pl.pw 5),.int .i64 gi] (0,0) _ ?hp ?hg Tryz.underlying32 ?hd ?hi
   case hp=>rfl
   case hg=>exact setRow_heap _ _ _ _ _ _ (keep_other (aS (keep_other (aS (X2.out)) (Nat.ne_of_lt Z2))) (Nat.ne_of_lt Z2))
   case hd=>rfl
   case hi=>kernel_rfl
  exact dE (((below_drewN (((below_drewN (B2.out) _).setCell (show w.heap.size<=g by omega) _)) _).setCell (show w.heap.size<=g by omega) _)) (show w.heap.size<=w.heap.size+1 by omega) _
 ·go_wp2_with (first | (go_at_call 90;refine (eH _ _ _ (by decide) (by decide) _).mono ?_;rintro e u3 ⟨rfl,mm,rfl⟩) | (refine wpList_load_row rfl 32 _ rfl g ?hx 32 #[.int .i64 0,.int .i64 (n / Pl.pw 7 % Pl.pw 5),.int .i64 (n / Pl.pw 15 % Pl.pw 5),.int .i64 0,.int .i64 gi] (0,0) _ ?hg Tryz.underlying32 ?hd ?hi ?_; (case hx=>rfl); (case hg=>exact jP (aS (jP (aS (Y2.out)) _ _ rfl)) _ _ rfl); (case hd=>rfl); (case hi=>kernel_rfl)) | (refine wpList_store_row rfl 32 _ _ rfl (w.heap.size+1) #[.int .i64 0,.int .i64 (n / Pl.pw 7 % Pl.pw 5),.int .i64 (n / Pl.pw 15 % Pl.pw 5),.int .i64 0,.int .i64 gi] ?hx ?hy 32 #[.int .i64 0,.int .i64 0,.int .i64 0,.int .i64 0,.int .i64 0] ?hg ?hi ?ho ?h1 ?_; (case hx=>rfl); (case hy=>rfl); (case hg=>exact keep_other (aS (keep_other (aS (X2.out)) (Nat.ne_of_lt Z2))) (Nat.ne_of_lt Z2)); (case hi=>kernel_rfl); (case ho=>kernel_rfl); (case h1=>kernel_rfl);refine Hid.out ?_))
  unfold Hid
  go_wp2_with fail
  refine bodyPost_ret (v:=.agg #[.int .i64 0,.int .i64 (n / Pl.pw 7 % Pl.pw 5),.int .i64 (n / Pl.pw 15 % Pl.pw 5),.int .i64 0,.int .i64 gi]) ?hres rfl ⟨by rw[Be.out],?_⟩
  case hres=>
   refine results_cell_row Tryz.results41 _ _ (w.heap.size+1) 32 #[.int .i64 0,.int .i64 (n / Pl.pw 7 % Pl.pw 5),.int .i64 (n / Pl.pw 15 % Pl.pw 5),.int .i64 0,.int .i64 gi] (0,0) _ ?hp ?hg Tryz.underlying32 ?hd ?hi
   case hp=>rfl
   case hg=>exact setRow_heap _ _ _ _ _ _ (keep_other (aS (keep_other (aS (X2.out)) (Nat.ne_of_lt Z2))) (Nat.ne_of_lt Z2))
   case hd=>rfl
   case hi=>kernel_rfl
  exact dE (((below_drewN (((below_drewN (B2.out) _).setCell (show w.heap.size<=g by omega) _)) _).setCell (show w.heap.size<=g by omega) _)) (show w.heap.size<=w.heap.size+1 by omega) _
 ·go_wp2_with (first | (go_at_call 90;refine (eH _ _ _ (by decide) (by decide) _).mono ?_;rintro e u3 ⟨rfl,mm,rfl⟩) | (refine wpList_load_row rfl 32 _ rfl g ?hx 32 #[.int .i64 0,.int .i64 (n / Pl.pw 7 % Pl.pw 5),.int .i64 (n / Pl.pw 15 % Pl.pw 5),.int .i64 (n / Pl.pw 20 % Pl.pw 5),.int .i64 gi] (0,0) _ ?hg Tryz.underlying32 ?hd ?hi ?_; (case hx=>rfl); (case hg=>exact jP (aS (jP (aS (jP (aS (Y2.out)) _ _ rfl)) _ _ rfl)) _ _ rfl); (case hd=>rfl); (case hi=>kernel_rfl)) | (refine wpList_store_row rfl 32 _ _ rfl (w.heap.size+1) #[.int .i64 0,.int .i64 (n / Pl.pw 7 % Pl.pw 5),.int .i64 (n / Pl.pw 15 % Pl.pw 5),.int .i64 (n / Pl.pw 20 % Pl.pw 5),.int .i64 gi] ?hx ?hy 32 #[.int .i64 0,.int .i64 0,.int .i64 0,.int .i64 0,.int .i64 0] ?hg ?hi ?ho ?h1 ?_; (case hx=>rfl); (case hy=>rfl); (case hg=>exact keep_other (aS (keep_other (aS (keep_other (aS (X2.out)) (Nat.ne_of_lt Z2))) (Nat.ne_of_lt Z2))) (Nat.ne_of_lt Z2)); (case hi=>kernel_rfl); (case ho=>kernel_rfl); (case h1=>kernel_rfl);refine Hid.out ?_))
  unfold Hid
  go_wp2_with fail
  refine bodyPost_ret (v:=.agg #[.int .i64 0,.int .i64 (n / Pl.pw 7 % Pl.pw 5),.int .i64 (n / Pl.pw 15 % Pl.pw 5),.int .i64 (n / Pl.pw 20 % Pl.pw 5),.int .i64 gi]) ?hres rfl ⟨by rw[Be.out],?_⟩
  case hres=>
   refine results_cell_row Tryz.results41 _ _ (w.heap.size+1) 32 #[.int .i64 0,.int .i64 (n / Pl.pw 7 % Pl.pw 5),.int .i64 (n / Pl.pw 15 % Pl.pw 5),.int .i64 (n / Pl.pw 20 % Pl.pw 5),.int .i64 gi] (0,0) _ ?hp ?hg Tryz.underlying32 ?hd ?hi
   case hp=>rfl
   case hg=>exact setRow_heap _ _ _ _ _ _ (keep_other (aS (keep_other (aS (keep_other (aS (X2.out)) (Nat.ne_of_lt Z2))) (Nat.ne_of_lt Z2))) (Nat.ne_of_lt Z2))
   case hd=>rfl
   case hi=>kernel_rfl
  exact dE (((below_drewN (((below_drewN (((below_drewN (B2.out) _).setCell (show w.heap.size<=g by omega) _)) _).setCell (show w.heap.size<=g by omega) _)) _).setCell (show w.heap.size<=g by omega) _)) (show w.heap.size<=w.heap.size+1 by omega) _
end Go.Proofs.YtlbomnnldkeocaaGreat.W
namespace Go.Proofs.YtlbomnnldkeocaaGreat.Pl
def hit (k:Nat) (n:Int):Bool:=
 okF (dC k) (PZ (dC k) n) (QA (dC k) n) (QB (dC k) n) (tL (dC k) n) && decide (enc k (PZ (dC k) n) (QA (dC k) n) (QB (dC k) n) (tL (dC k) n)=n)
theorem vB (k:Nat) (n:Int):hit k n=true↔okF (dC k) (PZ (dC k) n) (QA (dC k) n) (QB (dC k) n) (tL (dC k) n)=true/\enc k (PZ (dC k) n) (QA (dC k) n) (QB (dC k) n) (tL (dC k) n)=n:=by
 unfold hit
 rw[Bool.and_eq_true,decide_eq_true_eq]
theorem sS {k:Nat} (h1:1<=k) (h2:k<=47) {n:Int} (h:hit k n=true):fits k n=true/\0<=n/\n<=4294967295:=by
 obtain⟨a,b⟩:=(vB k n).1 h
 have:=RJ k h1 h2 _ _ _ _ a
 rw[b]at this
 exact this
def dec (n:Int):Nat:=((List.range 48).find? fun k=>decide (1<=k) && hit k n).getD 0
theorem FC {n:Int} (h:∀ k,1<=k->k<=47->hit k n=false):dec n=0:=by
 unfold dec
 rw[List.find?_eq_none.2]
 ·rfl
 ·intro k hk
  have hk':k<48:=List.mem_range.1 hk
  by_cases h1:1<=k
  ·rw[h k h1 (by omega)];simp
  ·simp;omega
theorem MH {k:Nat} {n:Int} (h1:1<=k) (h2:k<=47) (h:hit k n=true):dec n=k:=by
 unfold dec
 cases hf:(List.range 48).find? fun k=>decide (1<=k) && hit k n with
 | none=>
  have:=List.find?_eq_none.1 hf k (List.mem_range.2 (by omega))
  simp[h,h1]at this
 | some j=>
  have hp:=List.find?_some hf
  have hm:=List.mem_range.1 (List.mem_of_find?_eq_some hf)
  simp only[Bool.and_eq_true,decide_eq_true_eq]at hp
  show j=k
  exact EN hp.1 (by omega) h1 h2 (sS hp.1 (by omega) hp.2).1 (sS h1 h2 h).1
def Ua (n:Int):Int:=if dec n=0 then 0 else PZ (dC (dec n)) n
def Ub (n:Int):Int:=if dec n=0 then 0 else QA (dC (dec n)) n
def Uc (n:Int):Int:=if dec n=0 then 0 else QB (dC (dec n)) n
def Ud (n:Int):Int:=if dec n=0 then 0 else tL (dC (dec n)) n
def yE (n:Int):Array Value:=#[.int .i64 (dec n:Int),.int .i64 (Ua n),.int .i64 (Ub n),.int .i64 (Uc n),.int .i64 (Ud n)]
theorem vX {n:Int} (h:dec n=0):yE n=#[.int .i64 0,.int .i64 0,.int .i64 0,.int .i64 0,.int .i64 0]:=by
 unfold yE Ua Ub Uc Ud
 rw[h]
 rfl
theorem FD {k:Nat} {n:Int} (h1:1<=k) (h:dec n=k):yE n=#[.int .i64 (k:Int),.int .i64 (PZ (dC k) n),.int .i64 (QA (dC k) n),.int .i64 (QB (dC k) n),.int .i64 (tL (dC k) n)]:=by
 unfold yE Ua Ub Uc Ud
 rw[h,if_neg (by omega),if_neg (by omega),if_neg (by omega),if_neg (by omega)]
end Go.Proofs.YtlbomnnldkeocaaGreat.Pl
namespace Go.Proofs.YtlbomnnldkeocaaGreat.W
open Go.RowKit
theorem results_cell_tmp {P:Program} {fn:Func} {p q:Tmp} {ty:TypeId} (h:fn.results=#[.cell p ty,.tmp q]) (tmps:Array Value) (w:World) (g:Nat) (t:TypeId) (cs:Array Value) (fr:Nat × Nat) (d:TypeDesc) (v:Value)
  (hp:tmps.getD p undef=.pointer (some ⟨g,0,none⟩)) (hq:tmps.getD q undef=v) (hg:w.heap[g]?=some (.cells cs t fr))
  (hu:P.underlying ty=some d) (hd:(match d with | .struct _ | .array _ _=>true | _=>false)=true) (hi:(P.info? ty).map (·.size)=some cs.size) :
  (results fn tmps).run P w=.ok (.tuple #[.agg cs,v]) w:=by
 have hp':tmps[p]?.getD undef=.pointer (some ⟨g,0,none⟩):=by simpa using hp
 have hq':tmps[q]?.getD undef=v:=by simpa using hq
 simp[results,h,hp',hq',asAddr,run_loadVar_row w g t ty cs fr d hg hu hd hi]
theorem RN (k:Nat) (h1:1<=k) (h2:k<=47) (rd r1 r2 im:Int):lU (k:Int) rd r1 r2 im=Pl.okF (Pl.dC k) rd r1 r2 im:=by
 have e:decide (1<=(k:Int)/\(k:Int)<=47)=true:=decide_eq_true (by omega)
 unfold lU
 rw[e,Bool.true_and,Int.toNat_natCast]
end Go.Proofs.YtlbomnnldkeocaaGreat.W
namespace Go.Proofs.YtlbomnnldkeocaaGreat.Pl
def zS (v m:Int):Int:=if pw (m.toNat-1)<=v then v-pw m.toNat else v
end Go.Proofs.YtlbomnnldkeocaaGreat.Pl
namespace Go.Proofs.YtlbomnnldkeocaaGreat.W
open Go.RowKit
theorem qY (x:Int) (h:0<=x/\x<=32) (w:World):Calls Tryz.prog 98 #[.int .i64 x] w fun e w'=>e=.returned (.int .i64 (Pl.pw x.toNat))/\w'=w:=bK x x.toNat (by omega) (by omega) w
theorem OJ (v m:Int) (hm:m=12\/m=13\/m=21) (hv:0<=v/\v<=8589934592) (w:World):Calls Tryz.prog 124 #[.int .i64 v,.int .i64 m] w fun e w'=>e=.returned (.int .i64 (Pl.zS v m))/\w'=w:=by
 rcases hm with rfl | rfl | rfl
 ·have e1:Pl.pw 11=2048:=by decide
  have e2:Pl.pw 12=4096:=by decide
  by_cases h:2048<=v
  ·have HP:Hid (Pl.zS v 12=v-4096):=by show Pl.zS v 12=_;unfold Pl.zS;rw[show (Int.toNat 12-1)=11 from rfl,show Int.toNat 12=12 from rfl,e1,e2,if_pos h]
   go_enter Tryz.func124,Tryz.ntmps124
   go_wp2_with (first | (go_at_call 98;refine (qY _ (by decide) _).mono ?_;rintro e w' ⟨rfl,rfl⟩))
   go_ret
   exact⟨aO (HP.out.trans (by first | rfl | simp only[e2])).symm,rfl⟩
  ·have HP:Hid (Pl.zS v 12=v):=by show Pl.zS v 12=_;unfold Pl.zS;rw[show (Int.toNat 12-1)=11 from rfl,e1,if_neg h]
   go_enter Tryz.func124,Tryz.ntmps124
   go_wp2_with (first | (go_at_call 98;refine (qY _ (by decide) _).mono ?_;rintro e w' ⟨rfl,rfl⟩))
   go_ret
   exact⟨aO HP.out.symm,rfl⟩
 ·have e1:Pl.pw 12=4096:=by decide
  have e2:Pl.pw 13=8192:=by decide
  by_cases h:4096<=v
  ·have HP:Hid (Pl.zS v 13=v-8192):=by show Pl.zS v 13=_;unfold Pl.zS;rw[show (Int.toNat 13-1)=12 from rfl,show Int.toNat 13=13 from rfl,e1,e2,if_pos h]
   go_enter Tryz.func124,Tryz.ntmps124
   go_wp2_with (first | (go_at_call 98;refine (qY _ (by decide) _).mono ?_;rintro e w' ⟨rfl,rfl⟩))
   go_ret
   exact⟨aO (HP.out.trans (by first | rfl | simp only[e2])).symm,rfl⟩
  ·have HP:Hid (Pl.zS v 13=v):=by show Pl.zS v 13=_;unfold Pl.zS;rw[show (Int.toNat 13-1)=12 from rfl,e1,if_neg h]
   go_enter Tryz.func124,Tryz.ntmps124
   go_wp2_with (first | (go_at_call 98;refine (qY _ (by decide) _).mono ?_;rintro e w' ⟨rfl,rfl⟩))
   go_ret
   exact⟨aO HP.out.symm,rfl⟩
 ·have e1:Pl.pw 20=1048576:=by decide
  have e2:Pl.pw 21=2097152:=by decide
  by_cases h:1048576<=v
  ·have HP:Hid (Pl.zS v 21=v-2097152):=by show Pl.zS v 21=_;unfold Pl.zS;rw[show (Int.toNat 21-1)=20 from rfl,show Int.toNat 21=21 from rfl,e1,e2,if_pos h]
   go_enter Tryz.func124,Tryz.ntmps124
   go_wp2_with (first | (go_at_call 98;refine (qY _ (by decide) _).mono ?_;rintro e w' ⟨rfl,rfl⟩))
   go_ret
   exact⟨aO (HP.out.trans (by first | rfl | simp only[e2])).symm,rfl⟩
  ·have HP:Hid (Pl.zS v 21=v):=by show Pl.zS v 21=_;unfold Pl.zS;rw[show (Int.toNat 21-1)=20 from rfl,e1,if_neg h]
   go_enter Tryz.func124,Tryz.ntmps124
   go_wp2_with (first | (go_at_call 98;refine (qY _ (by decide) _).mono ?_;rintro e w' ⟨rfl,rfl⟩))
   go_ret
   exact⟨aO HP.out.symm,rfl⟩
theorem tN (xs:Array Value) (j:Nat) (v:Value) (h:xs[j]?=some v) (w:World):(part 5 xs j).run Tryz.prog w=.ok v w:=by
 obtain⟨i0,hi,hz0,hz1,hz2⟩:=info_parts Tryz.infou8
 simp[part,sizeOf,typeInfo,hi,hz1,h]
theorem eq4 (a0 a1 a2 a3 b0 b1 b2 b3:Int) (w:World):(binOp .eql 76 (.agg #[.int .u8 a0,.int .u8 a1,.int .u8 a2,.int .u8 a3]) (.agg #[.int .u8 b0,.int .u8 b1,.int .u8 b2,.int .u8 b3])).run Tryz.prog w=.ok (.bool (a0 == b0 && (a1 == b1 && (a2 == b2 && a3 == b3)))) w:=by
 obtain⟨i0,hi,hz0,hz1,hz2⟩:=info_parts Tryz.infou8
 have h5:Tryz.prog.cellsOf 5=1:=by kernel_rfl
 have p:∀ (x0 x1 x2 x3:Int) (w:World),(part 5 #[.int .u8 x0,.int .u8 x1,.int .u8 x2,.int .u8 x3] 0).run Tryz.prog w=.ok (.int .u8 x0) w/\(part 5 #[.int .u8 x0,.int .u8 x1,.int .u8 x2,.int .u8 x3] 1).run Tryz.prog w=.ok (.int .u8 x1) w/\(part 5 #[.int .u8 x0,.int .u8 x1,.int .u8 x2,.int .u8 x3] 2).run Tryz.prog w=.ok (.int .u8 x2) w/\(part 5 #[.int .u8 x0,.int .u8 x1,.int .u8 x2,.int .u8 x3] 3).run Tryz.prog w=.ok (.int .u8 x3) w:=
  fun x0 x1 x2 x3 w=>⟨tN _ 0 (.int .u8 x0) rfl w,tN _ 1 (.int .u8 x1) rfl w,tN _ 2 (.int .u8 x2) rfl w,tN _ 3 (.int .u8 x3) rfl w⟩
 rw[run_eql_struct,show (10000:Nat)=9998+1+1 from rfl,run_equalIn_array w (9998+1) _ _ Tryz.underlying76 hi,h5]
 rw[show List.range 4=[0,1,2,3] from rfl]
 simp only[Op.eqItems,Sem.run_bind,Nat.mul_one,(p _ _ _ _ _).1,Result.andThen_ok,run_equalIn_int _ _ _ _ _ _ _ Tryz.underlying5]
 cases a0 == b0 <;> simp only[Bool.not_false,Bool.not_true,if_true,Bool.false_eq_true,if_false,Sem.run_pure,Sem.run_bind,Result.andThen_ok,Bool.false_and,Bool.true_and,(p _ _ _ _ _).2.1,run_equalIn_int _ _ _ _ _ _ _ Tryz.underlying5]
 cases a1 == b1 <;> simp only[Bool.not_false,Bool.not_true,if_true,Bool.false_eq_true,if_false,Sem.run_pure,Sem.run_bind,Result.andThen_ok,Bool.false_and,Bool.true_and,(p _ _ _ _ _).2.2.1,run_equalIn_int _ _ _ _ _ _ _ Tryz.underlying5]
 cases a2 == b2 <;> simp only[Bool.not_false,Bool.not_true,if_true,Bool.false_eq_true,if_false,Sem.run_pure,Sem.run_bind,Result.andThen_ok,Bool.false_and,Bool.true_and,(p _ _ _ _ _).2.2.2,run_equalIn_int _ _ _ _ _ _ _ Tryz.underlying5]
 cases a3 == b3 <;> simp only[Bool.not_false,Bool.not_true,if_true,Bool.false_eq_true,if_false,Sem.run_pure,Result.andThen_ok]
theorem RO (a0 a1 a2 a3 b0 b1 b2 b3:Int) (w:World):(Op.equalIn 10000 76 (.agg #[.int .u8 a0,.int .u8 a1,.int .u8 a2,.int .u8 a3]) (.agg #[.int .u8 b0,.int .u8 b1,.int .u8 b2,.int .u8 b3])).run Tryz.prog w=.ok (a0 == b0 && (a1 == b1 && (a2 == b2 && a3 == b3))) w:=by
 have h:=eq4 a0 a1 a2 a3 b0 b1 b2 b3 w
 rw[run_eql_struct]at h
 generalize (Op.equalIn 10000 76 (.agg #[.int .u8 a0,.int .u8 a1,.int .u8 a2,.int .u8 a3]) (.agg #[.int .u8 b0,.int .u8 b1,.int .u8 b2,.int .u8 b3])).run Tryz.prog w=r at h
 cases r with
 | ok b w1=>simp only[Result.andThen_ok,Result.ok.injEq,Value.bool.injEq]at h;rw[h.1,h.2]
 | halt x w1=>simp[Result.andThen]at h
theorem MI (k:Nat) (n:Int):(Pl.cc k 0 == Pl.rf (Pl.dC k) n 0 && (Pl.cc k 1 == Pl.rf (Pl.dC k) n 1 && (Pl.cc k 2 == Pl.rf (Pl.dC k) n 2 && Pl.cc k 3 == Pl.rf (Pl.dC k) n 3)))=Pl.fits k n:=by
 unfold Pl.fits
 simp only[Bool.and_assoc]
 rfl
set_option maxRecDepth 100000 in
theorem BR (n:Int) (w:World) :
  Calls Tryz.prog 39 #[.int .i64 n] w fun e w'=>(∃ k:Nat,k<=47/\e=.returned (.int .i64 (k:Int))/\(k=0->∀ j,1<=j->j<=47->Pl.fits j n=false)/\(1<=k->Pl.fits k n=true))/\Below w.heap.size w w':=by
 go_enter Tryz.func39,Tryz.ntmps39
 go_wp2_with (go_at_call 87;refine (instTable_any _).mono ?_;rintro e w' ⟨rfl,rfl⟩)
 go_loopw [6] (fun i wr=>∃ k:Nat,k<=48/\i=.int .i64 k/\(∀ j,1<=j->j<k->Pl.fits j n=false)/\Below w.heap.size w wr) (fun i _=>48-(intOf i).toNat)
 case atStart=>exact⟨0,by decide,rfl,fun j h1 h2=>absurd h2 (Nat.not_lt_zero _),aB _ _⟩
 case round=>
  obtain⟨k,hk,rfl,hall,hb⟩:=hrel
  have HA:Hid (∀ j,1<=j->j<k->Pl.fits j n=false):=hall
  have HB:Hid (Below w.heap.size w wr):=hb
  have HZ:Hid (w.heap.size<=wr.heap.size):=hb.size
  clear hall hb
  by_cases hlt:k<48
  ·have hi:=fun w=>tab_index w k hlt
   unfold Pl.rowV at hi
   go_wp2_with (refine wpList_store_row rfl 78 _ _ rfl wr.heap.size #[.string (Pl.nm k),.int .i64 (Pl.fm k),.int .u8 (Pl.cc k 0),.int .u8 (Pl.cc k 1),.int .u8 (Pl.cc k 2),.int .u8 (Pl.cc k 3)] ?hx ?hy 78 #[.string ByteArray.empty,.int .i64 0,.int .u8 0,.int .u8 0,.int .u8 0,.int .u8 0] ?hg ?hi ?ho ?h1 ?_; (case hx=>rfl); (case hy=>rfl); (case hg=>exact heap_alloc_new wr _); (case hi=>kernel_rfl); (case ho=>kernel_rfl); (case h1=>kernel_rfl);refine Hid.out ?_)
   unfold Hid
   rw[World.setRow_alloc_new]
   refine oV fun u1 hu1=>?_
   have B1:Hid (Below w.heap.size w u1):=by show Below w.heap.size w u1;rw[hu1];exact HB.out.alloc HZ.out _
   have Y1:Hid (u1.heap[wr.heap.size]?=some (.cells #[.string (Pl.nm k),.int .i64 (Pl.fm k),.int .u8 (Pl.cc k 0),.int .u8 (Pl.cc k 1),.int .u8 (Pl.cc k 2),.int .u8 (Pl.cc k 3)] 78)):=by show u1.heap[wr.heap.size]?=_;rw[hu1];exact heap_alloc_new wr _
   have Z1:Hid (w.heap.size<=u1.heap.size):=by show w.heap.size<=u1.heap.size;rw[hu1];have:=HZ.out;simp;omega
   clear hu1 HB HZ hi
   obtain⟨g,hg⟩:∃ g,g=wr.heap.size:=⟨_,rfl⟩
   rw[<- hg]at Y1 ⊢
   clear hg
   have ky:∀ j,u1.cell? ⟨g,j,none⟩=(#[.string (Pl.nm k),.int .i64 (Pl.fm k),.int .u8 (Pl.cc k 0),.int .u8 (Pl.cc k 1),.int .u8 (Pl.cc k 2),.int .u8 (Pl.cc k 3)]:Array Value)[j]?:=fun j=>cell_of_row u1 g j _ 78 (0,0) Y1.out
   by_cases hk0:k=0
   ·subst hk0
    go_wp2_with fail
    go_quiet (fail)
    go_wp2
    go_roundw
    case rel=>
     refine⟨1,by decide,rfl,fun j h1 h2=>absurd h2 (by omega),?_⟩
     repeat (first | exact B1.out | refine Below.drew ?_ | refine below_drewN ?_ _)
    case measure=>simp[intOf]
   ·obtain⟨f1,f2,f3⟩:=xY k (by omega) (by omega)
    have HF:Hid (Pl.fm k=(Pl.dC k:Int)):=f3
    clear f3
    have hm:Tryz.prog.eqGuardType Tryz.prog.depth 76=false:=by kernel_rfl
    have hpos:0<k:=by omega
    have hpos':decide (0<k)=true:=decide_eq_true hpos
    cases hfit:Pl.fits k n
    ·have h4:∀ w,(Op.equalIn 10000 76 (.agg #[.int .u8 (Pl.cc k 0),.int .u8 (Pl.cc k 1),.int .u8 (Pl.cc k 2),.int .u8 (Pl.cc k 3)]) (.agg #[.int .u8 (Pl.rf (Pl.dC k) n 0),.int .u8 (Pl.rf (Pl.dC k) n 1),.int .u8 (Pl.rf (Pl.dC k) n 2),.int .u8 (Pl.rf (Pl.dC k) n 3)])).run Tryz.prog w=.ok (Pl.fits k n) w:=fun w=>by rw[RO,MI]
     rw[hfit]at h4
     go_wp2_with fail
     go_region_with (go_at_call 88;refine (uG (Pl.dC k) _ n HF.out f1 f2 _).mono ?_;rintro e u2 ⟨rfl,d2⟩; have D2:Hid _:=d2;have ky2:∀ j,u2.cell? ⟨g,j,none⟩=(#[.string (Pl.nm k),.int .i64 (Pl.fm k),.int .u8 (Pl.cc k 0),.int .u8 (Pl.cc k 1),.int .u8 (Pl.cc k 2),.int .u8 (Pl.cc k 3)]:Array Value)[j]?:=(fun j=>cell_of_row u2 g j _ 78 (0,0) ((d2.block _ (Array.getElem?_eq_some_iff.1 Y1.out).1).trans Y1.out));clear d2)
     all_goals
      go_wp2
      go_roundw
      case rel=>
       refine⟨k+1,by omega,by go_num,fun j h1 h2=>?_,Below.trans (by repeat (first | exact B1.out | refine Below.drew ?_ | refine below_drewN ?_ _)) (D2.out.mono Z1.out)⟩
       by_cases hj:j<k
       ·exact HA.out j h1 hj
       ·have:j=k:=by omega
        subst this;exact hfit
      case measure=>simp[intOf];omega
    ·have h4:∀ w,(Op.equalIn 10000 76 (.agg #[.int .u8 (Pl.cc k 0),.int .u8 (Pl.cc k 1),.int .u8 (Pl.cc k 2),.int .u8 (Pl.cc k 3)]) (.agg #[.int .u8 (Pl.rf (Pl.dC k) n 0),.int .u8 (Pl.rf (Pl.dC k) n 1),.int .u8 (Pl.rf (Pl.dC k) n 2),.int .u8 (Pl.rf (Pl.dC k) n 3)])).run Tryz.prog w=.ok (Pl.fits k n) w:=fun w=>by rw[RO,MI]
     rw[hfit]at h4
     go_wp2_with fail
     go_region_with (go_at_call 88;refine (uG (Pl.dC k) _ n HF.out f1 f2 _).mono ?_;rintro e u2 ⟨rfl,d2⟩; have D2:Hid _:=d2;have ky2:∀ j,u2.cell? ⟨g,j,none⟩=(#[.string (Pl.nm k),.int .i64 (Pl.fm k),.int .u8 (Pl.cc k 0),.int .u8 (Pl.cc k 1),.int .u8 (Pl.cc k 2),.int .u8 (Pl.cc k 3)]:Array Value)[j]?:=(fun j=>cell_of_row u2 g j _ 78 (0,0) ((d2.block _ (Array.getElem?_eq_some_iff.1 Y1.out).1).trans Y1.out));clear d2)
     all_goals
      go_wp2
      go_ret
      exact⟨⟨k,by omega,rfl,fun h=>absurd h hk0,fun _=>hfit⟩,Below.trans (by repeat (first | exact B1.out | refine Below.drew ?_ | refine below_drewN ?_ _)) (D2.out.mono Z1.out)⟩
  ·have hke:k=48:=by omega
   subst hke
   go_wp2
   go_ret
   exact⟨⟨0,by decide,rfl,fun _ j h1 h2=>HA.out j h1 (by omega),fun h=>absurd h (by decide)⟩,HB.out⟩
theorem WG (k:Nat) (h1:1<=k) (h2:k<=47) (w:World):Calls Tryz.prog 40 #[.int .i64 k] w fun e w'=>e=.returned (.tuple #[.agg #[.string (Pl.nm k),.int .i64 (Pl.fm k),.int .u8 (Pl.cc k 0),.int .u8 (Pl.cc k 1),.int .u8 (Pl.cc k 2),.int .u8 (Pl.cc k 3)],.bool true])/\Below w.heap.size w w':=by
 refine (pK k h1 h2 w).mono ?_
 rintro e w' ⟨rfl,rfl⟩
 exact⟨rfl,((Below.refl _ _).alloc (Nat.le_refl _) _).alloc (by simp) _⟩
theorem RP (n:Int) (f:Nat) (hn:n=f) (h1:1<=f) (h2:f<=8) (w:World):Calls Tryz.prog 42 #[.int .i64 n] w fun e w'=>e=.returned (.agg (Pl.bJ f))/\Below w.heap.size w w':=by
 refine (lZ n f hn h1 h2 w).mono ?_
 rintro e w' ⟨rfl,rfl⟩
 exact⟨rfl,aB _ _⟩
theorem xK {n:Int} {cs:Array Value} {b:Bool} (h:Pl.yE n=cs) (hb:(Pl.dec n != 0)=b):Ending.returned (.tuple #[.agg cs,.bool b])=Ending.returned (.tuple #[.agg (Pl.yE n),.bool (Pl.dec n != 0)]):=by rw[h,hb]
theorem qA (n:Int) (w:World) :
  Calls Tryz.prog 8 #[.int .i64 n] w fun e w'=>e=.returned (.tuple #[.agg (Pl.yE n),.bool (Pl.dec n != 0)])/\Below w.heap.size w w':=by
 go_enter Tryz.func8,Tryz.ntmps8
 go_wp2_with fail
 refine vW fun u0 hu0=>?_
 have X0:Hid (u0.heap[w.heap.size]?=some (.cells #[.int .i64 0,.int .i64 0,.int .i64 0,.int .i64 0,.int .i64 0] 32)):=by show u0.heap[w.heap.size]?=_;rw[hu0];exact heap_alloc_new w _
 have B0:Hid (Below w.heap.size w u0):=by show Below w.heap.size w u0;rw[hu0];exact aB w _
 have Z0:Hid (w.heap.size<u0.heap.size):=by show w.heap.size<u0.heap.size;rw[hu0];simp
 clear hu0
 refine (BR n u0).mono ?_
 rintro e u1 ⟨⟨k,hk,rfl,hz,hf⟩,d1⟩
 have X1:Hid (u1.heap[w.heap.size]?=some (.cells #[.int .i64 0,.int .i64 0,.int .i64 0,.int .i64 0,.int .i64 0] 32)):=(d1.block _ Z0.out).trans X0.out
 have B1:Hid (Below w.heap.size w u1):=B0.out.trans (d1.mono (Nat.le_of_lt Z0.out))
 have Z1:Hid (w.heap.size<u1.heap.size):=Nat.lt_of_lt_of_le Z0.out d1.size
 clear d1 X0 B0 Z0
 by_cases hk0:k=0
 ·have HD:Hid (Pl.dec n=0):=Pl.FC (fun j h1 h2=>by
   cases hh:Pl.hit j n
   ·rfl
   ·have:=(Pl.sS h1 h2 hh).1
    rw[hz hk0 j h1 h2]at this
    cases this)
  subst hk0
  clear hz hf
  go_wp2_with (refine wpList_store_row rfl 32 _ _ rfl (w.heap.size) #[.int .i64 0,.int .i64 0,.int .i64 0,.int .i64 0,.int .i64 0] ?hx ?hy 32 #[.int .i64 0,.int .i64 0,.int .i64 0,.int .i64 0,.int .i64 0] ?hg ?hi ?ho ?h1 ?_; (case hx=>rfl); (case hy=>rfl); (case hg=>exact X1.out); (case hi=>kernel_rfl); (case ho=>kernel_rfl); (case h1=>kernel_rfl);refine Hid.out ?_)
  unfold Hid
  go_wp2_with fail
  refine bodyPost_ret (v:=.tuple #[.agg #[.int .i64 0,.int .i64 0,.int .i64 0,.int .i64 0,.int .i64 0],.bool false]) ?_ rfl ⟨xK (Pl.vX HD.out) (by rw[HD.out];rfl),dE B1.out (Nat.le_refl _) _⟩
  refine results_cell_tmp Tryz.results8 _ _ (w.heap.size) 32 #[.int .i64 0,.int .i64 0,.int .i64 0,.int .i64 0,.int .i64 0] (0,0) _ (.bool false) ?hp ?hq ?hg Tryz.underlying32 ?hd ?hi
  case hp=>rfl
  case hq=>rfl
  case hg=>exact setRow_heap _ _ _ _ _ _ X1.out
  case hd=>rfl
  case hi=>kernel_rfl
 have h1:1<=k:=by omega
 have HF:Hid (Pl.fits k n=true):=hf h1
 obtain⟨f1,f2,f3⟩:=xY k h1 hk
 have HM:Hid (Pl.fm k=(Pl.dC k:Int)):=f3
 clear hz hf f3
 go_wp2_with fail
 refine (WG k h1 hk u1).mono ?_
 rintro e u2 ⟨rfl,d2⟩
 have X2:Hid (u2.heap[w.heap.size]?=some (.cells #[.int .i64 0,.int .i64 0,.int .i64 0,.int .i64 0,.int .i64 0] 32)):=(d2.block _ Z1.out).trans X1.out
 have B2:Hid (Below w.heap.size w u2):=B1.out.trans (d2.mono (Nat.le_of_lt Z1.out))
 have Z2:Hid (w.heap.size<u2.heap.size):=Nat.lt_of_lt_of_le Z1.out d2.size
 clear d2 X1 B1 Z1
 go_wp2_with (refine wpList_store_row rfl 78 _ _ rfl (u2.heap.size) #[.string (Pl.nm k),.int .i64 (Pl.fm k),.int .u8 (Pl.cc k 0),.int .u8 (Pl.cc k 1),.int .u8 (Pl.cc k 2),.int .u8 (Pl.cc k 3)] ?hx ?hy 78 #[.string ByteArray.empty,.int .i64 0,.int .u8 0,.int .u8 0,.int .u8 0,.int .u8 0] ?hg ?hi ?ho ?h1 ?_; (case hx=>rfl); (case hy=>rfl); (case hg=>exact heap_alloc_new u2 _); (case hi=>kernel_rfl); (case ho=>kernel_rfl); (case h1=>kernel_rfl);refine Hid.out ?_)
 unfold Hid
 rw[World.setRow_alloc_new]
 refine oV fun u3 hu3=>?_
 have d3:Below u2.heap.size u2 u3:=by rw[hu3];exact aB u2 _
 have Y3:Hid (u3.heap[u2.heap.size]?=some (.cells #[.string (Pl.nm k),.int .i64 (Pl.fm k),.int .u8 (Pl.cc k 0),.int .u8 (Pl.cc k 1),.int .u8 (Pl.cc k 2),.int .u8 (Pl.cc k 3)] 78)):=by show u3.heap[u2.heap.size]?=_;rw[hu3];exact heap_alloc_new u2 _
 have X3:Hid (u3.heap[w.heap.size]?=some (.cells #[.int .i64 0,.int .i64 0,.int .i64 0,.int .i64 0,.int .i64 0] 32)):=(d3.block _ Z2.out).trans X2.out
 have B3:Hid (Below w.heap.size w u3):=B2.out.trans (d3.mono (Nat.le_of_lt Z2.out))
 have Z3:Hid (w.heap.size<u3.heap.size):=Nat.lt_of_lt_of_le Z2.out d3.size
 clear d3 hu3 X2 B2 Z2
 have ky:∀ j,u3.cell? ⟨u2.heap.size,j,none⟩=(#[.string (Pl.nm k),.int .i64 (Pl.fm k),.int .u8 (Pl.cc k 0),.int .u8 (Pl.cc k 1),.int .u8 (Pl.cc k 2),.int .u8 (Pl.cc k 3)]:Array Value)[j]?:=fun j=>cell_of_row u3 u2.heap.size j _ 78 (0,0) Y3.out
 go_wp2_with fail
 refine (RP _ (Pl.dC k) HM.out f1 f2 u3).mono ?_
 rintro e u4 ⟨rfl,d4⟩
 have X4:Hid (u4.heap[w.heap.size]?=some (.cells #[.int .i64 0,.int .i64 0,.int .i64 0,.int .i64 0,.int .i64 0] 32)):=(d4.block _ Z3.out).trans X3.out
 have B4:Hid (Below w.heap.size w u4):=B3.out.trans (d4.mono (Nat.le_of_lt Z3.out))
 have Z4:Hid (w.heap.size<u4.heap.size):=Nat.lt_of_lt_of_le Z3.out d4.size
 clear d4 X3 B3 Z3 ky
 go_wp2_with fail
 refine (yD n (Pl.dC k) f1 f2 u4).mono ?_
 rintro e u5 ⟨rfl,d5⟩
 have X5:Hid (u5.heap[w.heap.size]?=some (.cells #[.int .i64 0,.int .i64 0,.int .i64 0,.int .i64 0,.int .i64 0] 32)):=(d5.block _ Z4.out).trans X4.out
 have B5:Hid (Below w.heap.size w u5):=B4.out.trans (d5.mono (Nat.le_of_lt Z4.out))
 have Z5:Hid (w.heap.size<u5.heap.size):=Nat.lt_of_lt_of_le Z4.out d5.size
 clear d5 X4 B4 Z4
 obtain⟨a,ha⟩:∃ a,a=Pl.PZ (Pl.dC k) n:=⟨_,rfl⟩
 obtain⟨b,hb⟩:∃ a,a=Pl.QA (Pl.dC k) n:=⟨_,rfl⟩
 obtain⟨c,hc⟩:∃ a,a=Pl.QB (Pl.dC k) n:=⟨_,rfl⟩
 obtain⟨d,hd⟩:∃ a,a=Pl.tL (Pl.dC k) n:=⟨_,rfl⟩
 rw[<- ha,<- hb,<- hc,<- hd]
 have HV:Hid (a=Pl.PZ (Pl.dC k) n/\b=Pl.QA (Pl.dC k) n/\c=Pl.QB (Pl.dC k) n/\d=Pl.tL (Pl.dC k) n):=⟨ha,hb,hc,hd⟩
 clear ha hb hc hd
 go_wp2_with (refine wpList_store_row rfl 32 _ _ rfl (u5.heap.size) #[.int .i64 0,.int .i64 a,.int .i64 b,.int .i64 c,.int .i64 d] ?hx ?hy 32 #[.int .i64 0,.int .i64 0,.int .i64 0,.int .i64 0,.int .i64 0] ?hg ?hi ?ho ?h1 ?_; (case hx=>rfl); (case hy=>rfl); (case hg=>exact heap_alloc_new u5 _); (case hi=>kernel_rfl); (case ho=>kernel_rfl); (case h1=>kernel_rfl);refine Hid.out ?_)
 unfold Hid
 rw[World.setRow_alloc_new]
 refine oV fun u6 Dc=>?_
 have d6:Below u5.heap.size u5 u6:=by rw[Dc];exact aB u5 _
 have Y6:Hid (u6.heap[u5.heap.size]?=some (.cells #[.int .i64 0,.int .i64 a,.int .i64 b,.int .i64 c,.int .i64 d] 32)):=by show u6.heap[u5.heap.size]?=_;rw[Dc];exact heap_alloc_new u5 _
 have G6:Hid (w.heap.size<u5.heap.size/\u5.heap.size<u6.heap.size):=⟨Z5.out,by rw[Dc];simp⟩
 have X6:Hid (u6.heap[w.heap.size]?=some (.cells #[.int .i64 0,.int .i64 0,.int .i64 0,.int .i64 0,.int .i64 0] 32)):=(d6.block _ Z5.out).trans X5.out
 have B6:Hid (Below w.heap.size w u6):=B5.out.trans (d6.mono (Nat.le_of_lt Z5.out))
 have Z6:Hid (w.heap.size<u6.heap.size):=Nat.lt_of_lt_of_le Z5.out d6.size
 clear d6 Dc X5 B5 Z5
 obtain⟨g,hg⟩:∃ g,g=u5.heap.size:=⟨_,rfl⟩
 rw[<- hg]at Y6 G6 ⊢
 clear hg
 have kf:∀ j,u6.frozen? ⟨g,j,none⟩=false:=fun j=>frozen_of_row u6 g j _ 32 Y6.out
 have ky:∀ j,u6.cell? ⟨g,j,none⟩=(#[.int .i64 0,.int .i64 a,.int .i64 b,.int .i64 c,.int .i64 d]:Array Value)[j]?:=fun j=>cell_of_row u6 g j _ 32 (0,0) Y6.out
 have Y7:Hid ((u6.setCell ⟨g,0,none⟩ (.int .i64 (k:Int))).heap[g]?=some (.cells #[.int .i64 (k:Int),.int .i64 a,.int .i64 b,.int .i64 c,.int .i64 d] 32)):=jP Y6.out 0 (.int .i64 (k:Int)) rfl
 go_wp2_with (refine wpList_load_row rfl 32 _ rfl (g) ?hx 32 #[.int .i64 (k:Int),.int .i64 a,.int .i64 b,.int .i64 c,.int .i64 d] (0,0) _ ?hg Tryz.underlying32 ?hd ?hi ?_; (case hx=>rfl); (case hg=>exact Y7.out); (case hd=>rfl); (case hi=>kernel_rfl))
 refine vW fun u7 Bc=>?_
 have X7:Hid (u7.heap[w.heap.size]?=some (.cells #[.int .i64 0,.int .i64 0,.int .i64 0,.int .i64 0,.int .i64 0] 32)):=by show u7.heap[w.heap.size]?=_;rw[Bc];exact keep_other X6.out (Nat.ne_of_lt G6.out.1)
 have B7:Hid (Below w.heap.size w u7):=by show Below w.heap.size w u7;rw[Bc];exact B6.out.setCell (Nat.le_of_lt G6.out.1) _
 have Z7:Hid (w.heap.size<u7.heap.size/\g<u7.heap.size):=by show w.heap.size<u7.heap.size/\g<u7.heap.size;rw[Bc];have:=G6.out;simp;omega
 rw[<- Bc]at Y7
 clear Bc X6 B6 Z6 Y6 G6 kf ky
 cases hit:Pl.hit k n
 ·have HD:Hid (Pl.dec n=0):=Pl.FC (fun j j1 j2=>by
   cases hh:Pl.hit j n
   ·rfl
   ·have:=(Pl.sS j1 j2 hh).1
    have e:=Pl.EN j1 j2 h1 hk this HF.out
    subst e
    rw[hit]at hh
    cases hh)
  cases hok:lU (k:Int) a b c d
  ·refine (yB _ _ _ _ _ hok u7).mono ?_
   rintro e u8 ⟨rfl,d8⟩
   have X8:Hid (u8.heap[w.heap.size]?=some (.cells #[.int .i64 0,.int .i64 0,.int .i64 0,.int .i64 0,.int .i64 0] 32)):=(d8.block _ Z7.out.1).trans X7.out
   have B8:Hid (Below w.heap.size w u8):=B7.out.trans (d8.mono (Nat.le_of_lt Z7.out.1))
   clear d8
   go_wp2_with (refine wpList_store_row rfl 32 _ _ rfl (w.heap.size) #[.int .i64 0,.int .i64 0,.int .i64 0,.int .i64 0,.int .i64 0] ?hx ?hy 32 #[.int .i64 0,.int .i64 0,.int .i64 0,.int .i64 0,.int .i64 0] ?hg ?hi ?ho ?h1 ?_; (case hx=>rfl); (case hy=>rfl); (case hg=>exact X8.out); (case hi=>kernel_rfl); (case ho=>kernel_rfl); (case h1=>kernel_rfl);refine Hid.out ?_)
   unfold Hid
   go_wp2_with fail
   refine bodyPost_ret (v:=.tuple #[.agg #[.int .i64 0,.int .i64 0,.int .i64 0,.int .i64 0,.int .i64 0],.bool false]) ?_ rfl ⟨xK (Pl.vX HD.out) (by rw[HD.out];rfl),dE B8.out (Nat.le_refl _) _⟩
   refine results_cell_tmp Tryz.results8 _ _ (w.heap.size) 32 #[.int .i64 0,.int .i64 0,.int .i64 0,.int .i64 0,.int .i64 0] (0,0) _ (.bool false) ?hp ?hq ?hg Tryz.underlying32 ?hd ?hi
   case hp=>rfl
   case hq=>rfl
   case hg=>exact setRow_heap _ _ _ _ _ _ X8.out
   case hd=>rfl
   case hi=>kernel_rfl
  ·have hne:Pl.enc k a b c d≠n:=by
    intro he
    obtain⟨ea,eb,ec,ed⟩:=HV.out
    rw[RN k h1 hk,ea,eb,ec,ed]at hok
    rw[ea,eb,ec,ed]at he
    rw[(Pl.vB k n).2 ⟨hok,he⟩]at hit
    cases hit
   refine (uO k h1 hk _ _ _ _ hok u7).mono ?_
   rintro e u8 ⟨rfl,d8⟩
   have X8:Hid (u8.heap[w.heap.size]?=some (.cells #[.int .i64 0,.int .i64 0,.int .i64 0,.int .i64 0,.int .i64 0] 32)):=(d8.block _ Z7.out.1).trans X7.out
   have B8:Hid (Below w.heap.size w u8):=B7.out.trans (d8.mono (Nat.le_of_lt Z7.out.1))
   clear d8
   obtain⟨m,hm⟩:∃ m,m=Pl.enc k a b c d:=⟨_,rfl⟩
   rw[<- hm]at hne ⊢
   have hne':(m != n)=true:=by simpa using hne
   clear hm
   go_wp2_with (refine wpList_store_row rfl 32 _ _ rfl (w.heap.size) #[.int .i64 0,.int .i64 0,.int .i64 0,.int .i64 0,.int .i64 0] ?hx ?hy 32 #[.int .i64 0,.int .i64 0,.int .i64 0,.int .i64 0,.int .i64 0] ?hg ?hi ?ho ?h1 ?_; (case hx=>rfl); (case hy=>rfl); (case hg=>exact X8.out); (case hi=>kernel_rfl); (case ho=>kernel_rfl); (case h1=>kernel_rfl);refine Hid.out ?_)
   unfold Hid
   go_wp2_with fail
   refine bodyPost_ret (v:=.tuple #[.agg #[.int .i64 0,.int .i64 0,.int .i64 0,.int .i64 0,.int .i64 0],.bool false]) ?_ rfl ⟨xK (Pl.vX HD.out) (by rw[HD.out];rfl),dE B8.out (Nat.le_refl _) _⟩
   refine results_cell_tmp Tryz.results8 _ _ (w.heap.size) 32 #[.int .i64 0,.int .i64 0,.int .i64 0,.int .i64 0,.int .i64 0] (0,0) _ (.bool false) ?hp ?hq ?hg Tryz.underlying32 ?hd ?hi
   case hp=>rfl
   case hq=>rfl
   case hg=>exact setRow_heap _ _ _ _ _ _ X8.out
   case hd=>rfl
   case hi=>kernel_rfl
 ·have HD:Hid (Pl.dec n=k):=Pl.MH h1 hk hit
  obtain⟨q1,q2⟩:=(Pl.vB k n).1 hit
  obtain⟨ea,eb,ec,ed⟩:=HV.out
  rw[<- ea,<- eb,<- ec,<- ed]at q1 q2
  have hok:lU (k:Int) a b c d=true:=by rw[RN k h1 hk];exact q1
  refine (uO k h1 hk _ _ _ _ hok u7).mono ?_
  rintro e u8 ⟨rfl,d8⟩
  have X8:Hid (u8.heap[w.heap.size]?=some (.cells #[.int .i64 0,.int .i64 0,.int .i64 0,.int .i64 0,.int .i64 0] 32)):=(d8.block _ Z7.out.1).trans X7.out
  have Y8:Hid (u8.heap[g]?=some (.cells #[.int .i64 (k:Int),.int .i64 a,.int .i64 b,.int .i64 c,.int .i64 d] 32)):=(d8.block _ Z7.out.2).trans Y7.out
  have B8:Hid (Below w.heap.size w u8):=B7.out.trans (d8.mono (Nat.le_of_lt Z7.out.1))
  have HE:Hid (Pl.yE n=#[.int .i64 (k:Int),.int .i64 a,.int .i64 b,.int .i64 c,.int .i64 d]):=by
   show Pl.yE n=#[.int .i64 (k:Int),.int .i64 a,.int .i64 b,.int .i64 c,.int .i64 d]
   rw[Pl.FD h1 HD.out,ea,eb,ec,ed]
  clear d8 q1 ea eb ec ed
  rw[q2]
  clear q2
  go_wp2_with (first | (refine wpList_load_row rfl 32 _ rfl (g) ?hx 32 #[.int .i64 (k:Int),.int .i64 a,.int .i64 b,.int .i64 c,.int .i64 d] (0,0) _ ?hg Tryz.underlying32 ?hd ?hi ?_; (case hx=>rfl); (case hg=>exact Y8.out); (case hd=>rfl); (case hi=>kernel_rfl)) | (refine wpList_store_row rfl 32 _ _ rfl (w.heap.size) #[.int .i64 (k:Int),.int .i64 a,.int .i64 b,.int .i64 c,.int .i64 d] ?hx ?hy 32 #[.int .i64 0,.int .i64 0,.int .i64 0,.int .i64 0,.int .i64 0] ?hg ?hi ?ho ?h1 ?_; (case hx=>rfl); (case hy=>rfl); (case hg=>exact X8.out); (case hi=>kernel_rfl); (case ho=>kernel_rfl); (case h1=>kernel_rfl);refine Hid.out ?_))
  unfold Hid
  go_wp2_with fail
  refine bodyPost_ret (v:=.tuple #[.agg #[.int .i64 (k:Int),.int .i64 a,.int .i64 b,.int .i64 c,.int .i64 d],.bool true]) ?_ rfl ⟨xK HE.out (by rw[HD.out];simp;omega),dE B8.out (Nat.le_refl _) _⟩
  refine results_cell_tmp Tryz.results8 _ _ (w.heap.size) 32 #[.int .i64 (k:Int),.int .i64 a,.int .i64 b,.int .i64 c,.int .i64 d] (0,0) _ (.bool true) ?hp ?hq ?hg Tryz.underlying32 ?hd ?hi
  case hp=>rfl
  case hq=>rfl
  case hg=>exact setRow_heap _ _ _ _ _ _ X8.out
  case hd=>rfl
  case hi=>kernel_rfl
end Go.Proofs.YtlbomnnldkeocaaGreat.W
