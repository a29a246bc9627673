import Derived.Test.YtlbomnnldkeocaaGreatI08
import Derived.Test.YtlbomnnldkeocaaGreatI36
import Derived.Test.YtlbomnnldkeocaaGreatI24
import Derived.Test.YtlbomnnldkeocaaGreatI19
import Derived.Lib.AppendZeros
import Derived.Test.YtlbomnnldkeocaaGreatI23
set_option linter.unusedVariables false
set_option linter.unusedSimpArgs false
set_option maxHeartbeats 16000000
namespace Go.Proofs.YtlbomnnldkeocaaGreat.W
open Go.RowKit
structure nA (x:Pl.Ln):Prop where
 b:Pl.sG x
 i:Pl.Qn x
 far:x.k=5\/(x.k=14/\¬ x.s.size=0)->-2147483648<=x.n/\x.n<=2147483647
 Kc:x.k=14->x.s.size=0->0<=x.n/\x.n<=4294967295
 n12:x.k=12->0<=x.n/\x.n<=255
 n13:x.k=13->0<=x.n/\x.n<=65535
 sym:x.k=1\/x.k=3\/x.k=5\/x.k=7\/x.k=8->¬ x.s.size=0
 XD:x.k≠1->x.k≠3->x.k≠5->x.k≠7->x.k≠8->x.k≠14->x.s.size=0
theorem lX {r:Int} {u:Bool} (h:Pl.rg r u=true):0<=r/\r<=31:=by
 unfold Pl.rg at h;simp at h;omega
theorem jW {op rd r1 r2 im:Int} {d s:Bool} (h:Pl.aG op rd r1 r2 im d s=true):(0<=rd/\rd<=31)/\0<=r1/\r1<=31:=by
 unfold Pl.aG at h
 simp only[Bool.and_eq_true]at h
 exact⟨lX h.1.2,lX h.2⟩
theorem OM {s:ByteArray} (h:Pl.sy s true=true):¬ s.size=0:=by
 unfold Pl.sy Pl.lab at h
 simp only[if_true,Bool.and_eq_true,decide_eq_true_eq]at h
 omega
theorem yL {s:ByteArray} (h:Pl.sy s false=true):s.size=0:=by
 unfold Pl.sy Pl.emp at h
 simp only[Bool.false_eq_true,if_false,List.isEmpty_iff]at h
 exact (Pl.oL s).1 h
theorem nA.mk' {x:Pl.Ln} (b:Pl.sG x) (i2:x.k=2->Pl.Ins.ok ⟨x.op,x.rd,x.r1,x.r2,x.im⟩=true) (rg:x.k=4\/x.k=5\/x.k=6->(0<=x.rd/\x.rd<=31)/\0<=x.r1/\x.r1<=31) (w4:x.k=4->0<=x.n/\x.n<=4294967295) (far:x.k=5\/(x.k=14/\¬ x.s.size=0)->-2147483648<=x.n/\x.n<=2147483647) (Kc:x.k=14->x.s.size=0->0<=x.n/\x.n<=4294967295) (n12:x.k=12->0<=x.n/\x.n<=255) (n13:x.k=13->0<=x.n/\x.n<=65535) (sym:x.k=1\/x.k=3\/x.k=5\/x.k=7\/x.k=8->¬ x.s.size=0) (XD:x.k≠1->x.k≠3->x.k≠5->x.k≠7->x.k≠8->x.k≠14->x.s.size=0):nA x:=
 ⟨b,⟨i2,fun q=>(rg q).1,fun q=>(rg (.inr (.inr q))).2,w4⟩,far,Kc,n12,n13,sym,XD⟩
theorem qE (x:Pl.Ln):∃ r:Bool,(∀ w:World,Calls Tryz.prog 20 #[.agg #[.int .i64 x.k,.int .i64 x.op,.int .i64 x.rd,.int .i64 x.r1,.int .i64 x.r2,.int .i64 x.im,.string x.s,.int .i64 x.n]] w fun e w'=>e=.returned (.bool r)/\Below w.heap.size w w')/\(∀ w:World,Calls Tryz.prog 73 #[.agg #[.int .i64 x.k,.int .i64 x.op,.int .i64 x.rd,.int .i64 x.r1,.int .i64 x.r2,.int .i64 x.im,.string x.s,.int .i64 x.n]] w fun e w'=>e=.returned (.bool r)/\Below w.heap.size w w')/\(r=true->nA x):=by
 obtain⟨k,op,rd,r1,r2,im,s,n⟩:=x
 dsimp only
 by_cases h:k<1\/16<k
 ·exact⟨false,FR k h op rd r1 r2 im n s,FQ k h op rd r1 r2 im n s,fun q=>by cases q⟩
 have hk:k=1\/k=2\/k=3\/k=4\/k=5\/k=6\/k=7\/k=8\/k=9\/k=10\/k=11\/k=12\/k=13\/k=14\/k=15\/k=16:=by omega
 clear h
 rcases hk with rfl | rfl | rfl | rfl | rfl | rfl | rfl | rfl | rfl | rfl | rfl | rfl | rfl | rfl | rfl | rfl
 ·refine⟨_,JY op rd r1 r2 im n s,JO op rd r1 r2 im n s,fun q=>by
  simp only[Bool.and_eq_true,decide_eq_true_eq]at q
  have hs:=OM q.1.1
  have hn:=q.1.2
  have hr:=jW (q.2)
  refine nA.mk' ⟨by dsimp only;omega,fun c=>by dsimp only at c ⊢; omega,fun c=>by dsimp only at c ⊢; omega⟩ (fun c=>by dsimp only at c;omega) (fun _=>hr) (fun c=>by dsimp only at c ⊢; omega) (fun c=>by dsimp only at c ⊢; omega) (fun c d=>by dsimp only at c d ⊢; omega) (fun c=>by dsimp only at c ⊢; omega) (fun c=>by dsimp only at c ⊢; omega) (fun c=>?_) (fun _ _ _ _ _ _=>?_)
  all_goals first | exact hs | (dsimp only at *; omega)⟩
 ·refine⟨_,yK op rd r1 r2 im n s,JP op rd r1 r2 im n s,fun q=>by
  simp only[Bool.and_eq_true,decide_eq_true_eq]at q
  have hs:=yL q.1.1
  have hn:=q.1.2
  refine nA.mk' ⟨by dsimp only;omega,fun c=>by dsimp only at c ⊢; omega,fun c=>by dsimp only at c ⊢; omega⟩ (fun _=>q.2.1) (fun c=>by dsimp only at c;omega) (fun c=>by dsimp only at c ⊢; omega) (fun c=>by dsimp only at c ⊢; omega) (fun c d=>by dsimp only at c d ⊢; omega) (fun c=>by dsimp only at c ⊢; omega) (fun c=>by dsimp only at c ⊢; omega) (fun c=>?_) (fun _ _ _ _ _ _=>?_)
  all_goals first | exact hs | (dsimp only at *; omega)⟩
 ·refine⟨_,KG op rd r1 r2 im n s,JQ op rd r1 r2 im n s,fun q=>by
  simp only[Bool.and_eq_true,decide_eq_true_eq]at q
  have hs:=OM q.1.1
  have hn:=q.1.2
  refine nA.mk' ⟨by dsimp only;omega,fun c=>by dsimp only at c ⊢; omega,fun c=>by dsimp only at c ⊢; omega⟩ (fun c=>by dsimp only at c;omega) (fun c=>by dsimp only at c;omega) (fun c=>by dsimp only at c ⊢; omega) (fun c=>by dsimp only at c ⊢; omega) (fun c d=>by dsimp only at c d ⊢; omega) (fun c=>by dsimp only at c ⊢; omega) (fun c=>by dsimp only at c ⊢; omega) (fun c=>?_) (fun _ _ _ _ _ _=>?_)
  all_goals first | exact hs | (dsimp only at *; omega)⟩
 ·refine⟨_,KC op rd r1 r2 im n s,JR op rd r1 r2 im n s,fun q=>by
  simp only[Bool.and_eq_true,decide_eq_true_eq]at q
  have hs:=yL q.1.1
  have hn:=q.1.2
  have hr:=jW (q.2)
  refine nA.mk' ⟨by dsimp only;omega,fun c=>by dsimp only at c ⊢; omega,fun c=>by dsimp only at c ⊢; omega⟩ (fun c=>by dsimp only at c;omega) (fun _=>hr) (fun c=>by dsimp only at c ⊢; omega) (fun c=>by dsimp only at c ⊢; omega) (fun c d=>by dsimp only at c d ⊢; omega) (fun c=>by dsimp only at c ⊢; omega) (fun c=>by dsimp only at c ⊢; omega) (fun c=>?_) (fun _ _ _ _ _ _=>?_)
  all_goals first | exact hs | (dsimp only at *; omega)⟩
 ·refine⟨_,KD op rd r1 r2 im n s,JS op rd r1 r2 im n s,fun q=>by
  simp only[Bool.and_eq_true,decide_eq_true_eq]at q
  have hs:=OM q.1.1
  have hn:=q.1.2
  have hr:=jW (q.2)
  refine nA.mk' ⟨by dsimp only;omega,fun c=>by dsimp only at c ⊢; omega,fun c=>by dsimp only at c ⊢; omega⟩ (fun c=>by dsimp only at c;omega) (fun _=>hr) (fun c=>by dsimp only at c ⊢; omega) (fun c=>by dsimp only at c ⊢; omega) (fun c d=>by dsimp only at c d ⊢; omega) (fun c=>by dsimp only at c ⊢; omega) (fun c=>by dsimp only at c ⊢; omega) (fun c=>?_) (fun _ _ _ _ _ _=>?_)
  all_goals first | exact hs | (dsimp only at *; omega)⟩
 ·refine⟨_,KE op rd r1 r2 im n s,JU op rd r1 r2 im n s,fun q=>by
  simp only[Bool.and_eq_true,decide_eq_true_eq]at q
  have hs:=yL q.1.1
  have hn:=q.1.2
  have hr:=jW (q.2)
  refine nA.mk' ⟨by dsimp only;omega,fun c=>by dsimp only at c ⊢; omega,fun c=>by dsimp only at c ⊢; omega⟩ (fun c=>by dsimp only at c;omega) (fun _=>hr) (fun c=>by dsimp only at c ⊢; omega) (fun c=>by dsimp only at c ⊢; omega) (fun c d=>by dsimp only at c d ⊢; omega) (fun c=>by dsimp only at c ⊢; omega) (fun c=>by dsimp only at c ⊢; omega) (fun c=>?_) (fun _ _ _ _ _ _=>?_)
  all_goals first | exact hs | (dsimp only at *; omega)⟩
 ·refine⟨_,JZ op rd r1 r2 im n s,JV op rd r1 r2 im n s,fun q=>by
  simp only[Bool.and_eq_true,decide_eq_true_eq]at q
  have hs:=OM q.1.1
  have hn:=q.1.2
  have hr:=jW (q.2)
  refine nA.mk' ⟨by dsimp only;omega,fun c=>by dsimp only at c ⊢; omega,fun c=>by dsimp only at c ⊢; omega⟩ (fun c=>by dsimp only at c;omega) (fun _=>hr) (fun c=>by dsimp only at c ⊢; omega) (fun c=>by dsimp only at c ⊢; omega) (fun c d=>by dsimp only at c d ⊢; omega) (fun c=>by dsimp only at c ⊢; omega) (fun c=>by dsimp only at c ⊢; omega) (fun c=>?_) (fun _ _ _ _ _ _=>?_)
  all_goals first | exact hs | (dsimp only at *; omega)⟩
 ·refine⟨_,KA op rd r1 r2 im n s,JW op rd r1 r2 im n s,fun q=>by
  simp only[Bool.and_eq_true,decide_eq_true_eq]at q
  have hs:=OM q.1.1
  have hn:=q.1.2
  have hr:=jW (q.2)
  refine nA.mk' ⟨by dsimp only;omega,fun c=>by dsimp only at c ⊢; omega,fun c=>by dsimp only at c ⊢; omega⟩ (fun c=>by dsimp only at c;omega) (fun _=>hr) (fun c=>by dsimp only at c ⊢; omega) (fun c=>by dsimp only at c ⊢; omega) (fun c d=>by dsimp only at c d ⊢; omega) (fun c=>by dsimp only at c ⊢; omega) (fun c=>by dsimp only at c ⊢; omega) (fun c=>?_) (fun _ _ _ _ _ _=>?_)
  all_goals first | exact hs | (dsimp only at *; omega)⟩
 ·refine⟨_,KF op rd r1 r2 im n s,JX op rd r1 r2 im n s,fun q=>by
  simp only[Bool.and_eq_true,decide_eq_true_eq]at q
  have hs:=yL q.1.1
  have hn:=q.1.2
  have hr:=jW (q.2)
  refine nA.mk' ⟨by dsimp only;omega,fun c=>by dsimp only at c ⊢; omega,fun c=>by dsimp only at c ⊢; omega⟩ (fun c=>by dsimp only at c;omega) (fun _=>hr) (fun c=>by dsimp only at c ⊢; omega) (fun c=>by dsimp only at c ⊢; omega) (fun c d=>by dsimp only at c d ⊢; omega) (fun c=>by dsimp only at c ⊢; omega) (fun c=>by dsimp only at c ⊢; omega) (fun c=>?_) (fun _ _ _ _ _ _=>?_)
  all_goals first | exact hs | (dsimp only at *; omega)⟩
 ·refine⟨_,FT op rd r1 r2 im n s,FK op rd r1 r2 im n s,fun q=>by
  simp only[Bool.and_eq_true,decide_eq_true_eq]at q
  have hs:=yL q.1.1
  have hn:=q.1.2
  have hr:=jW (q.2)
  refine nA.mk' ⟨by dsimp only;omega,fun c=>by dsimp only at c ⊢; omega,fun c=>by dsimp only at c ⊢; omega⟩ (fun c=>by dsimp only at c;omega) (fun _=>hr) (fun c=>by dsimp only at c ⊢; omega) (fun c=>by dsimp only at c ⊢; omega) (fun c d=>by dsimp only at c d ⊢; omega) (fun c=>by dsimp only at c ⊢; omega) (fun c=>by dsimp only at c ⊢; omega) (fun c=>?_) (fun _ _ _ _ _ _=>?_)
  all_goals first | exact hs | (dsimp only at *; omega)⟩
 ·refine⟨_,FU op rd r1 r2 im n s,FL op rd r1 r2 im n s,fun q=>by
  simp only[Bool.and_eq_true,decide_eq_true_eq]at q
  have hs:=yL q.1.1
  have hn:=q.1.2
  have hr:=jW (q.2)
  refine nA.mk' ⟨by dsimp only;omega,fun c=>by dsimp only at c ⊢; omega,fun c=>by dsimp only at c ⊢; omega⟩ (fun c=>by dsimp only at c;omega) (fun _=>hr) (fun c=>by dsimp only at c ⊢; omega) (fun c=>by dsimp only at c ⊢; omega) (fun c d=>by dsimp only at c d ⊢; omega) (fun c=>by dsimp only at c ⊢; omega) (fun c=>by dsimp only at c ⊢; omega) (fun c=>?_) (fun _ _ _ _ _ _=>?_)
  all_goals first | exact hs | (dsimp only at *; omega)⟩
 ·refine⟨_,FW op rd r1 r2 im n s,FM op rd r1 r2 im n s,fun q=>by
  simp only[Bool.and_eq_true,decide_eq_true_eq]at q
  have hs:=yL q.1.1
  have hn:=q.1.2
  have hr:=jW (q.2)
  refine nA.mk' ⟨by dsimp only;omega,fun c=>by dsimp only at c ⊢; omega,fun c=>by dsimp only at c ⊢; omega⟩ (fun c=>by dsimp only at c;omega) (fun _=>hr) (fun c=>by dsimp only at c ⊢; omega) (fun c=>by dsimp only at c ⊢; omega) (fun c d=>by dsimp only at c d ⊢; omega) (fun c=>by dsimp only at c ⊢; omega) (fun c=>by dsimp only at c ⊢; omega) (fun c=>?_) (fun _ _ _ _ _ _=>?_)
  all_goals first | exact hs | (dsimp only at *; omega)⟩
 ·refine⟨_,FX op rd r1 r2 im n s,FN op rd r1 r2 im n s,fun q=>by
  simp only[Bool.and_eq_true,decide_eq_true_eq]at q
  have hs:=yL q.1.1
  have hn:=q.1.2
  have hr:=jW (q.2)
  refine nA.mk' ⟨by dsimp only;omega,fun c=>by dsimp only at c ⊢; omega,fun c=>by dsimp only at c ⊢; omega⟩ (fun c=>by dsimp only at c;omega) (fun _=>hr) (fun c=>by dsimp only at c ⊢; omega) (fun c=>by dsimp only at c ⊢; omega) (fun c d=>by dsimp only at c d ⊢; omega) (fun c=>by dsimp only at c ⊢; omega) (fun c=>by dsimp only at c ⊢; omega) (fun c=>?_) (fun _ _ _ _ _ _=>?_)
  all_goals first | exact hs | (dsimp only at *; omega)⟩
 ·by_cases he:s.size=0
  ·refine⟨_,CJ op rd r1 r2 im n s he,CE op rd r1 r2 im n s he,fun q=>by
    simp only[Bool.and_eq_true,decide_eq_true_eq]at q
    have hs:=yL q.1.1
    have hn:=q.1.2
    have hr:=jW (q.2)
    refine nA.mk' ⟨by dsimp only;omega,fun c=>by dsimp only at c ⊢; omega,fun c=>by dsimp only at c ⊢; omega⟩ (fun c=>by dsimp only at c;omega) (fun _=>hr) (fun c=>by dsimp only at c ⊢; omega) (fun c=>by dsimp only at c ⊢; omega) (fun c d=>by dsimp only at c d ⊢; omega) (fun c=>by dsimp only at c ⊢; omega) (fun c=>by dsimp only at c ⊢; omega) (fun c=>?_) (fun _ _ _ _ _ _=>?_)
    all_goals first | exact hs | (dsimp only at *; omega)⟩
  ·refine⟨_,CG op rd r1 r2 im n s he,CF op rd r1 r2 im n s he,fun q=>by
    simp only[Bool.and_eq_true,decide_eq_true_eq]at q
    have hs:=OM q.1.1
    have hn:=q.1.2
    have hr:=jW (q.2)
    refine nA.mk' ⟨by dsimp only;omega,fun c=>by dsimp only at c ⊢; omega,fun c=>by dsimp only at c ⊢; omega⟩ (fun c=>by dsimp only at c;omega) (fun _=>hr) (fun c=>by dsimp only at c ⊢; omega) (fun c=>by dsimp only at c ⊢; omega) (fun c d=>by dsimp only at c d ⊢; omega) (fun c=>by dsimp only at c ⊢; omega) (fun c=>by dsimp only at c ⊢; omega) (fun c=>?_) (fun _ _ _ _ _ _=>?_)
    all_goals first | exact hs | (dsimp only at *; omega)⟩
 ·refine⟨_,FY op rd r1 r2 im n s,FO op rd r1 r2 im n s,fun q=>by
  simp only[Bool.and_eq_true,decide_eq_true_eq]at q
  have hs:=yL q.1.1
  have hn:=q.1.2
  have hr:=jW (q.2)
  refine nA.mk' ⟨by dsimp only;omega,fun c=>by dsimp only at c ⊢; omega,fun c=>by dsimp only at c ⊢; omega⟩ (fun c=>by dsimp only at c;omega) (fun _=>hr) (fun c=>by dsimp only at c ⊢; omega) (fun c=>by dsimp only at c ⊢; omega) (fun c d=>by dsimp only at c d ⊢; omega) (fun c=>by dsimp only at c ⊢; omega) (fun c=>by dsimp only at c ⊢; omega) (fun c=>?_) (fun _ _ _ _ _ _=>?_)
  all_goals first | exact hs | (dsimp only at *; omega)⟩
 ·refine⟨_,FV op rd r1 r2 im n s,FP op rd r1 r2 im n s,fun q=>by
  simp only[Bool.and_eq_true,decide_eq_true_eq]at q
  have hs:=yL q.1.1
  have hn:=q.1.2
  have hr:=jW (q.2.1)
  refine nA.mk' ⟨by dsimp only;omega,fun c=>by dsimp only at c ⊢; omega,fun c=>by dsimp only at c ⊢; omega⟩ (fun c=>by dsimp only at c;omega) (fun _=>hr) (fun c=>by dsimp only at c ⊢; omega) (fun c=>by dsimp only at c ⊢; omega) (fun c d=>by dsimp only at c d ⊢; omega) (fun c=>by dsimp only at c ⊢; omega) (fun c=>by dsimp only at c ⊢; omega) (fun c=>?_) (fun _ _ _ _ _ _=>?_)
  all_goals first | exact hs | (dsimp only at *; omega)⟩
noncomputable def lF (x:Pl.Ln):Bool:=Classical.choose (qE x)
theorem AX (x:Pl.Ln) (w:World):Calls Tryz.prog 20 #[.agg #[.int .i64 x.k,.int .i64 x.op,.int .i64 x.rd,.int .i64 x.r1,.int .i64 x.r2,.int .i64 x.im,.string x.s,.int .i64 x.n]] w fun e w'=>e=.returned (.bool (lF x))/\Below w.heap.size w w':=
 (Classical.choose_spec (qE x)).1 w
theorem OO (x:Pl.Ln) (w:World):Calls Tryz.prog 73 #[.agg #[.int .i64 x.k,.int .i64 x.op,.int .i64 x.rd,.int .i64 x.r1,.int .i64 x.r2,.int .i64 x.im,.string x.s,.int .i64 x.n]] w fun e w'=>e=.returned (.bool (lF x))/\Below w.heap.size w w':=
 (Classical.choose_spec (qE x)).2.1 w
theorem pF {x:Pl.Ln} (h:lF x=true):nA x:=(Classical.choose_spec (qE x)).2.2 h
theorem FZ (x:Pl.Ln) (w:World):Calls Tryz.prog 72 #[.agg #[.int .i64 x.k,.int .i64 x.op,.int .i64 x.rd,.int .i64 x.r1,.int .i64 x.r2,.int .i64 x.im,.string x.s,.int .i64 x.n]] w fun e w'=>e=.returned (.bool (!lF x))/\Below w.heap.size w w':=by
 have HL:Hid (∀ u:World,Calls Tryz.prog 73 #[.agg #[.int .i64 x.k,.int .i64 x.op,.int .i64 x.rd,.int .i64 x.r1,.int .i64 x.r2,.int .i64 x.im,.string x.s,.int .i64 x.n]] u fun e w'=>e=.returned (.bool (lF x))/\Below u.heap.size u w'):=fun u=>OO x u
 generalize lF x=r at *
 go_enter Tryz.func72,Tryz.ntmps72
 go_wp2_with (go_at_call 73;refine (HL.out _).mono ?_;rintro e u1 ⟨rfl,d1⟩)
 go_ret
 refine⟨rfl,?_⟩
 first | exact d1 | exact Below.trans (aB w _) (d1.mono (by simp))
theorem OP (g:Nat) (c:Pl.kV) (x:Pl.Ln) (w:World) (h:bF w g c) (hx:Pl.sG x) (ht:0<=c.t/\c.t<=1099511627776) (hb:0<=c.b/\c.b<=1099511627776):Calls Tryz.prog 74 #[.agg #[.int .i64 x.k,.int .i64 x.op,.int .i64 x.rd,.int .i64 x.r1,.int .i64 x.r2,.int .i64 x.im,.string x.s,.int .i64 x.n],.pointer (some ⟨g,0,none⟩)] w fun e w'=>e=.returned (.bool ((c.pass x).d && Pl.wN x.k || !(c.pass x).d && Pl.vR x.k))/\bF w' g (c.pass x)/\OnlyC g w w':=by
 have G9:Hid (∀ o,qQ g c x (w.alloc o)):=fun o=>MO g c x _ (h.keep (aB w o)) hx ht hb
 have Uk:Hid (∀ o,Calls Tryz.prog 75 #[.pointer (some ⟨g,0,none⟩),.agg #[.int .i64 x.k,.int .i64 x.op,.int .i64 x.rd,.int .i64 x.r1,.int .i64 x.r2,.int .i64 x.im,.string x.s,.int .i64 x.n]] (w.alloc o) fun e w'=>e=.returned (.tuple #[])/\bF w' g (c.pass x)/\OnlyC g (w.alloc o) w'):=G9.out
 have hne:w.heap.size≠g:=Nat.ne_of_gt h.lt
 have HT:Hid (∀ u:World,Calls Tryz.prog 76 #[.int .i64 x.k] u fun e w'=>e=.returned (.bool (Pl.wN x.k))/\w'=u):=fun u=>tO x.k u
 have HD:Hid (∀ u:World,Calls Tryz.prog 77 #[.int .i64 x.k] u fun e w'=>e=.returned (.bool (Pl.vR x.k))/\w'=u):=fun u=>vZ x.k u
 clear h G9 hx ht hb
 generalize Pl.wN x.k=rt at *
 generalize Pl.vR x.k=rd at *
 generalize c.pass x=c' at *
 cases hd:c'.d
 all_goals
  go_enter Tryz.func74,Tryz.ntmps74
  go_wp2_with (first | (go_at_call 75;refine (Uk.out _).mono ?_;rintro e u1 ⟨rfl,hc,ho⟩; have k0:u1.cell? ⟨w.heap.size,0,none⟩=some (.int .i64 x.k):=(World.cell?_of_block (ho.block w.heap.size (by simp) hne)).trans (cell_of_row _ _ 0 _ 51 (0,0) (heap_alloc_new w _));have kd:=hc.d;rw[hd]at kd;have HC:Hid (bF u1 g c'):=hc;have HO:Hid (OnlyC g (w.alloc _) u1):=ho;clear hc ho) | (go_at_call 76;refine (HT.out _).mono ?_;rintro e u2 ⟨rfl,rfl⟩) | (go_at_call 77;refine (HD.out _).mono ?_;rintro e u2 ⟨rfl,rfl⟩))
 all_goals
  go_ret
  refine⟨aI ?_,HC.out,(OnlyC.of (aB w _)).trans HO.out⟩
  first | rfl | (simp;done) | (simp;assumption) | simp_all
theorem OnlyC.below {w u:World} {o:Obj} (h:OnlyC w.heap.size (w.alloc o) u):Below w.heap.size w u:=by
 have hb:=aB w o
 refine⟨h.os.trans hb.os,h.tape.trans hb.tape,h.output.trans hb.output,Nat.le_trans hb.size h.size,fun k hk=>?_⟩
 exact (h.block k (Nat.lt_of_lt_of_le hk hb.size) (Nat.ne_of_lt hk)).trans (hb.block k hk)
theorem CK {lo:Nat} (ga:Nat) (a:Option Addr) (len cap:Nat) (xs:List Pl.Ln) (w:World) (h:jE lo w a len cap xs) (hc:w.cell? ⟨ga,0,none⟩=some (.slice a len cap)) (hB:∀ i,i<xs.length->Pl.sG (Pl.gl xs i)) (hn:len<=20000):Calls Tryz.prog 30 #[.pointer (some ⟨ga,0,none⟩)] w fun e w'=>e=.returned (.int .i64 (Pl.aV (Pl.dU xs) len))/\Below w.heap.size w w':=by
 obtain⟨hL,_⟩:=h.len
 have HX:Hid (∀ o,o=.cells #[.bool false,.int .i64 0,.int .i64 0] 69->Calls Tryz.prog 71 #[.slice a len cap,.func (.func 74) #[] #[.pointer (some ⟨w.heap.size,0,none⟩)]] (w.alloc o) fun e w'=>e=.returned (.int .i64 (Pl.aV (Pl.dU xs) len))/\Below w.heap.size w w'):=fun o ho=>by
  have c0:∀ j,(w.alloc o).cell? ⟨w.heap.size,j,none⟩=(#[.bool false,.int .i64 0,.int .i64 0]:Array Value)[j]?:=fun j=>by rw[ho];exact cell_of_row _ _ j _ _ (0,0) (heap_alloc_new w _)
  refine (xD a len cap xs _ (w.alloc o) (Pl.dU xs) (fun k u=>bF u w.heap.size (Pl.cu xs k)/\OnlyC w.heap.size (w.alloc o) u) (fun k u hu=>h.keep hu.2.below) ⟨⟨c0 0,c0 1,c0 2,fun j=>?_,by simp,by rw[ho];exact⟨_,heap_alloc_new w _⟩⟩,OnlyC.of (Below.refl _ _)⟩ (fun k u hk _ hu=>?_)).mono ?_
  ·rw[ho];exact frozen_of_row _ _ j _ _ (heap_alloc_new w _)
  ·have hb:=Pl.jO xs hB k (by omega)
   refine (OP w.heap.size (Pl.cu xs k) (Pl.gl xs k) u hu.1 (hB k (by omega)) (by omega) (by omega)).mono ?_
   rintro e u' ⟨rfl,h1,h2⟩
   rw[<- Pl.oK xs k (by omega)]at h1 ⊢
   exact⟨rfl,h1,hu.2.trans h2⟩
  ·rintro e w' ⟨rfl,k,_,hI,_⟩
   exact⟨rfl,hI.2.below⟩
 have hc':∀ o,(w.alloc o).cell? ⟨ga,0,none⟩=some (.slice a len cap):=fun o=>aF (aB w o) hc
 clear h hB hc
 go_enter Tryz.func30,Tryz.ntmps30
 go_wp2_with (go_at_call 71;refine (HX.out _ rfl).mono ?_;rintro e u1 ⟨rfl,d1⟩)
 go_ret
 exact⟨rfl,d1⟩
theorem KH {lo:Nat} (ga:Nat) (a:Option Addr) (len cap:Nat) (xs:List Pl.Ln) (w:World) (h:jE lo w a len cap xs) (hc:w.cell? ⟨ga,0,none⟩=some (.slice a len cap)):Calls Tryz.prog 29 #[.pointer (some ⟨ga,0,none⟩)] w fun e w'=>e=.returned (.int .i64 (if 20000<len then 20000 else Pl.aV (fun i=>!lF (Pl.gl xs i)) len))/\Below w.heap.size w w':=by
 obtain⟨hL,hm⟩:=h.len
 have HX:Hid (Calls Tryz.prog 71 #[.slice a len cap,.func (.func 72) #[] #[]] w fun e w'=>e=.returned (.int .i64 (Pl.aV (fun i=>!lF (Pl.gl xs i)) len))/\Below w.heap.size w w'):=by
  refine (zV a len cap xs w (fun i=>!lF (Pl.gl xs i)) (fun k u=>Below w.heap.size w u) (fun k u hu=>h.keep hu) (Below.refl _ _) (fun k u hk _ hu=>?_)).mono ?_
  ·refine (FZ (Pl.gl xs k) u).mono ?_
   rintro e u' ⟨rfl,h1⟩
   exact⟨rfl,hu.trans (h1.mono hu.size)⟩
  ·rintro e w' ⟨rfl,k,_,hI,_⟩
   exact⟨rfl,hI⟩
 clear h
 generalize Pl.aV (fun i=>!lF (Pl.gl xs i)) len=z at *
 by_cases hn:20000<len
 ·have hi:(20000:Int)<(len:Int):=by omega
  rw[if_pos hn]
  go_enter Tryz.func29,Tryz.ntmps29
  go_wp2
  go_ret
  exact⟨rfl,Below.refl _ _⟩
 ·have hi:¬ (20000:Int)<(len:Int):=by omega
  rw[if_neg hn]
  go_enter Tryz.func29,Tryz.ntmps29
  go_wp2_with (go_at_call 71;refine HX.out.mono ?_;rintro e u1 ⟨rfl,d1⟩)
  go_ret
  exact⟨rfl,d1⟩
theorem GA (ga:Nat) (n:Int) (w:World) (hc:w.cell? ⟨ga,1,none⟩=some (.int .i64 n)):Calls Tryz.prog 37 #[.pointer (some ⟨ga,0,none⟩)] w fun e w'=>e=.returned (.int .i64 (if 0<=n/\n<=65536/\n % 16=0 then -1 else 0))/\w'=w:=by
 have HS:Hid (∀ u:World,Calls Tryz.prog 46 #[.int .i64 n] u fun e w'=>e=.returned (.bool (decide (0<=n/\n<=65536/\n % 16=0)))/\w'=u):=fun u=>JN n u
 have HZ:Hid (∀ (b:Bool) (u:World),Calls Tryz.prog 80 #[.bool b] u fun e w'=>e=.returned (.int .i64 (if b then 0 else -1))/\w'=u):=pE
 by_cases q:0<=n/\n<=65536/\n % 16=0
 ·rw[if_pos q]
  rw[show decide (0<=n/\n<=65536/\n % 16=0)=true from decide_eq_true q]at HS
  go_enter Tryz.func37,Tryz.ntmps37
  go_wp2_with (first | (go_at_call 46;refine (HS.out _).mono ?_;rintro e u1 ⟨rfl,rfl⟩) | (go_at_call 80;refine (HZ.out _ _).mono ?_;rintro e u1 ⟨rfl,rfl⟩))
  go_ret
  exact⟨rfl,rfl⟩
 ·rw[if_neg q]
  rw[show decide (0<=n/\n<=65536/\n % 16=0)=false from decide_eq_false q]at HS
  go_enter Tryz.func37,Tryz.ntmps37
  go_wp2_with (first | (go_at_call 46;refine (HS.out _).mono ?_;rintro e u1 ⟨rfl,rfl⟩) | (go_at_call 80;refine (HZ.out _ _).mono ?_;rintro e u1 ⟨rfl,rfl⟩))
  go_ret
  exact⟨rfl,rfl⟩
theorem KI (ga:Nat) (n:Int) (w:World) (hc:w.cell? ⟨ga,5,none⟩=some (.int .i64 n)):Calls Tryz.prog 34 #[.pointer (some ⟨ga,0,none⟩)] w fun e w'=>e=.returned (.int .i64 (if 65536<n then 0 else -1))/\w'=w:=by
 have HZ:Hid (∀ (b:Bool) (u:World),Calls Tryz.prog 80 #[.bool b] u fun e w'=>e=.returned (.int .i64 (if b then 0 else -1))/\w'=u):=pE
 by_cases q:65536<n
 ·have hd:decide (65536<n)=true:=by simpa using q
  rw[if_pos q]
  go_enter Tryz.func34,Tryz.ntmps34
  go_wp2_with (go_at_call 80;refine (HZ.out _ _).mono ?_;rintro e u1 ⟨rfl,rfl⟩)
  go_ret
  refine⟨aO ?_,rfl⟩
  simp[q]
 ·have hd:decide (65536<n)=false:=by simpa using q
  rw[if_neg q]
  go_enter Tryz.func34,Tryz.ntmps34
  go_wp2_with (go_at_call 80;refine (HZ.out _ _).mono ?_;rintro e u1 ⟨rfl,rfl⟩)
  go_ret
  refine⟨aO ?_,rfl⟩
  simp[q]
end Go.Proofs.YtlbomnnldkeocaaGreat.W
namespace Go.Proofs.YtlbomnnldkeocaaGreat.Pl
def MQ (xs:List Ln) (m:Nat):List Value:=(List.range m).map fun i=>Value.int .i64 (cu xs i).at
theorem SG (xs:List Ln) (m:Nat):MQ xs (m+1)=MQ xs m ++ [.int .i64 (cu xs m).at]:=by
 unfold MQ;rw[List.range_succ,List.map_append];rfl
def pO (xs:List Ln) (i:Nat):List Value:=[.string (gl xs i).s,.int .i64 (i:Nat),.int .i64 (cu xs i).at,.bool (!(cu xs i).d)]
def lcs (xs:List Ln) (ls:List Nat):List Value:=ls.flatMap (pO xs)
theorem Ea (xs:List Ln):∀ (ls:List Nat) (p j:Nat),p<ls.length->j<4->(lcs xs ls)[p*4+j]?=(pO xs (ls.getD p 0))[j]?:=by
 intro ls
 induction ls with
 | nil=>intro p j hp;simp at hp
 | cons a l ih=>
  intro p j hp hj
  unfold lcs at ih ⊢
  rw[List.flatMap_cons]
  rcases p with _ | p
  ·rw[Nat.zero_mul,Nat.zero_add,List.getElem?_append_left (by show j<4;exact hj)];rfl
  ·rw[List.getElem?_append_right (by show 4<=_;omega)]
   have:(p+1)*4+j-(pO xs a).length=p*4+j:=by show (p+1)*4+j-4=_;omega
   rw[this,ih p j (by simpa using hp) hj]
   rfl
theorem XE (xs:List Ln) (ls:List Nat) (i:Nat):lcs xs (ls ++ [i])=lcs xs ls ++ pO xs i:=by
 unfold lcs;rw[List.flatMap_append];simp
end Go.Proofs.YtlbomnnldkeocaaGreat.Pl
namespace Go.Proofs.YtlbomnnldkeocaaGreat.W
open Go.RowKit
theorem OnlyC.grown {g:Nat} {w w':World} (h:OnlyC g w w'):w.grownBy w' (some g):=⟨h.os,h.tape,h.output,h.size,fun k hk hn=>h.block k hk (fun e=>hn (by rw[e]))⟩
theorem nH {w w':World} (h:Below w.heap.size w w'):w.grownBy w' none:=⟨h.os,h.tape,h.output,h.size,fun k hk _=>h.block k hk⟩
theorem pG {w w':World} {B:Nat} {e:TypeId} {s:Nat} {v:Value} {n:Nat} {ys:List Value} (h:w.ownsRow B e s v n ys) (hb:Below w.heap.size w w'):w'.ownsRow B e s v n ys:=
 h.kept (nH hb) (by cases hv:v.ownBlock <;> simp)
theorem fG {w:World} {B:Nat} {e:TypeId} {s:Nat} {v:Value} {n:Nat} {ys:List Value} {g j:Nat} {x:Value} (h:w.ownsRow B e s v n ys) (hg:g<B):(w.setCell ⟨g,j,none⟩ x).ownsRow B e s v n ys:=
 h.kept (OnlyC.set g j w x).grown (by
  cases hv:v.ownBlock with
  | none=>exact .inl rfl
  | some k=>right;intro c;cases c;have:=(h.lt _ hv).1;omega)
theorem yM {w:World} {B B':Nat} {e e':TypeId} {s s':Nat} {v v':Value} {n n':Nat} {ys ys':List Value} (h:w.ownsRow B e s v n ys) (h':w.ownsRow B' e' s' v' n' ys') (he:e≠e'):v.ownBlock=none\/v.ownBlock≠v'.ownBlock:=by
 rcases h.2 with ⟨rfl,_⟩ | ⟨g,cap,cur,rfl,_,hg,_⟩
 ·exact .inl rfl
 ·right
  rcases h'.2 with ⟨rfl,_⟩ | ⟨g',cap',cur',rfl,_,hg',_⟩
  ·simp[Value.ownBlock]
  ·intro c
   have:g=g':=by simpa [Value.ownBlock] using c
   subst this
   rw[hg]at hg'
   injection hg' with q
   injection q with _ q2 _
   exact he q2
structure dI (xs:List Pl.Ln) (w u:World) (g n m:Nat) (vl va:Value) (q b:Int):Prop where
 c0:u.cell? ⟨g,0,none⟩=some vl
 c1:u.cell? ⟨g,1,none⟩=some va
 c2:u.cell? ⟨g,2,none⟩=some (.int .i64 q)
 c3:u.cell? ⟨g,3,none⟩=some (.int .i64 b)
 fz:∀ j,u.frozen? ⟨g,j,none⟩=false
 lt:g<u.heap.size
 ol:u.ownsRow (g+1) 63 4 vl (Pl.cZ xs n).length (Pl.lcs xs (Pl.cZ xs n))
 oa:u.ownsRow (g+1) 3 1 va m (Pl.MQ xs m)
 gP:Below w.heap.size w u
 hg:w.heap.size<=g
variable {xs:List Pl.Ln} {w u u':World} {g n m:Nat} {vl va:Value} {q b:Int}
theorem dI.keep (h:dI xs w u g n m vl va q b) (hb:Below u.heap.size u u'):dI xs w u' g n m vl va q b:=
 ⟨(hb.cell (p:=⟨g,0,none⟩) h.lt).trans h.c0,(hb.cell (p:=⟨g,1,none⟩) h.lt).trans h.c1,(hb.cell (p:=⟨g,2,none⟩) h.lt).trans h.c2,(hb.cell (p:=⟨g,3,none⟩) h.lt).trans h.c3,fun j=>(hb.frozen (p:=⟨g,j,none⟩) h.lt).trans (h.fz j),Nat.lt_of_lt_of_le h.lt hb.size,pG h.ol hb,pG h.oa hb,h.gP.trans (hb.mono h.gP.size),h.hg⟩
theorem dI.size (h:dI xs w u g n m vl va q b):w.heap.size<=u.heap.size:=h.gP.size
theorem dA {r:Option Nat} {k j:Nat} {v:Value} (hg:u.grownBy u' r) (h:u.cell? ⟨k,j,none⟩=some v) (hn:r≠some k):u'.cell? ⟨k,j,none⟩=some v:=hg.cell h (fun c=>hn c.symm)
theorem kF {r:Option Nat} {k j:Nat} {v:Bool} (hg:u.grownBy u' r) (hk:k<u.heap.size) (h:u.frozen? ⟨k,j,none⟩=v) (hn:r≠some k):u'.frozen? ⟨k,j,none⟩=v:=
 (World.frozen?_of_block (hg.block k hk (fun c=>hn c.symm))).trans h
theorem aT {B:Nat} {e:TypeId} {s:Nat} {v:Value} {ys:List Value} (h:u.ownsRow B e s v n ys):∃ a c,v=.slice a n c:=by
 rcases h.2 with ⟨rfl,h0⟩ | ⟨g,cap,cur,rfl,_⟩
 ·exact⟨none,0,by rw[h0]⟩
 ·exact⟨_,_,rfl⟩
theorem own_ne {B:Nat} {e:TypeId} {s:Nat} {v:Value} {k:Nat} {ys:List Value} (h:u.ownsRow B e s v n ys) (hk:k<B\/u.heap.size<=k):v.ownBlock≠some k:=fun c=>by have:=h.lt k c;omega
theorem dI.wU (h:dI xs w u g n m vl va q b) {v':Value} (ho:u'.ownsRow (g+1) 3 1 v' (m+1) (Pl.MQ xs m ++ [.int .i64 (Pl.cu xs m).at])) (hg:u.grownBy u' va.ownBlock):dI xs w (u'.setCell ⟨g,1,none⟩ v') g n (m+1) vl v' q b:=by
 have hn:va.ownBlock≠some g:=own_ne h.oa (.inl (by omega))
 have hb:Below w.heap.size w u':=h.gP.grown hg h.gP.size (fun k hk=>by have:=(h.oa.lt k hk).1;have:=h.hg;omega)
 refine⟨?_,World.cell?_setCell_same' _ _ _ (by rw[dA hg h.c1 hn];rfl),?_,?_,fun j=>(World.frozen?_setCell _ _ _ _).trans (kF hg h.lt (h.fz j) hn),?_,fG (h.ol.kept hg (yM h.ol h.oa (by decide))) (by omega),?_,hb.setCell (p:=⟨g,1,none⟩) h.hg _,h.hg⟩
 ·exact (World.cell?_setCell_other _ _ _ _ (fun e=>by injection e;omega)).trans (dA hg h.c0 hn)
 ·exact (World.cell?_setCell_other _ _ _ _ (fun e=>by injection e;omega)).trans (dA hg h.c2 hn)
 ·exact (World.cell?_setCell_other _ _ _ _ (fun e=>by injection e;omega)).trans (dA hg h.c3 hn)
 ·exact Nat.lt_of_lt_of_le (Nat.lt_of_lt_of_le h.lt hg.size) (OnlyC.set g 1 u' _).size
 ·rw[Pl.SG];exact fG ho (by omega)
theorem dI.Bi (h:dI xs w u g n m vl va q b) (hk:(Pl.gl xs n).k=1) {v':Value} (ho:u'.ownsRow (g+1) 63 4 v' ((Pl.cZ xs n).length+1) (Pl.lcs xs (Pl.cZ xs n) ++ Pl.pO xs n)) (hg:u.grownBy u' vl.ownBlock):dI xs w (u'.setCell ⟨g,0,none⟩ v') g (n+1) m v' va q b:=by
 have hn:vl.ownBlock≠some g:=own_ne h.ol (.inl (by omega))
 have hb:Below w.heap.size w u':=h.gP.grown hg h.gP.size (fun k hk=>by have:=(h.ol.lt k hk).1;have:=h.hg;omega)
 refine⟨World.cell?_setCell_same' _ _ _ (by rw[dA hg h.c0 hn];rfl),?_,?_,?_,fun j=>(World.frozen?_setCell _ _ _ _).trans (kF hg h.lt (h.fz j) hn),?_,?_,fG (h.oa.kept hg (yM h.oa h.ol (by decide))) (by omega),hb.setCell (p:=⟨g,0,none⟩) h.hg _,h.hg⟩
 ·exact (World.cell?_setCell_other _ _ _ _ (fun e=>by injection e;omega)).trans (dA hg h.c1 hn)
 ·exact (World.cell?_setCell_other _ _ _ _ (fun e=>by injection e;omega)).trans (dA hg h.c2 hn)
 ·exact (World.cell?_setCell_other _ _ _ _ (fun e=>by injection e;omega)).trans (dA hg h.c3 hn)
 ·exact Nat.lt_of_lt_of_le (Nat.lt_of_lt_of_le h.lt hg.size) (OnlyC.set g 0 u' _).size
 ·rw[Pl.EB,if_pos hk,Pl.XE,List.length_append];exact fG ho (by omega)
theorem dI.next (h:dI xs w u g n m vl va q b) (hk:(Pl.gl xs n).k≠1):dI xs w u g (n+1) m vl va q b:=
 ⟨h.c0,h.c1,h.c2,h.c3,h.fz,h.lt,by rw[Pl.EB,if_neg hk];exact h.ol,h.oa,h.gP,h.hg⟩
theorem dI.set2 (h:dI xs w u g n m vl va q b) (q':Int):dI xs w (u.setCell ⟨g,2,none⟩ (.int .i64 q')) g n m vl va q' b:=by
 refine⟨?_,?_,World.cell?_setCell_same' _ _ _ (by rw[h.c2];rfl),?_,fun j=>(World.frozen?_setCell _ _ _ _).trans (h.fz j),Nat.lt_of_lt_of_le h.lt (OnlyC.set g 2 u _).size,fG h.ol (by omega),fG h.oa (by omega),h.gP.setCell (p:=⟨g,2,none⟩) h.hg _,h.hg⟩
 ·exact (World.cell?_setCell_other _ _ _ _ (fun e=>by injection e;omega)).trans h.c0
 ·exact (World.cell?_setCell_other _ _ _ _ (fun e=>by injection e;omega)).trans h.c1
 ·exact (World.cell?_setCell_other _ _ _ _ (fun e=>by injection e;omega)).trans h.c3
theorem dI.Ul (h:dI xs w u g n m vl va q b) (b':Int):dI xs w (u.setCell ⟨g,3,none⟩ (.int .i64 b')) g n m vl va q b':=by
 refine⟨?_,?_,?_,World.cell?_setCell_same' _ _ _ (by rw[h.c3];rfl),fun j=>(World.frozen?_setCell _ _ _ _).trans (h.fz j),Nat.lt_of_lt_of_le h.lt (OnlyC.set g 3 u _).size,fG h.ol (by omega),fG h.oa (by omega),h.gP.setCell (p:=⟨g,3,none⟩) h.hg _,h.hg⟩
 ·exact (World.cell?_setCell_other _ _ _ _ (fun e=>by injection e;omega)).trans h.c0
 ·exact (World.cell?_setCell_other _ _ _ _ (fun e=>by injection e;omega)).trans h.c1
 ·exact (World.cell?_setCell_other _ _ _ _ (fun e=>by injection e;omega)).trans h.c2
theorem AY {U:World} {b:Nat} {t:TypeId} {a1 a2 a3 a4 x0 x1 x2 x3:Value} (h:U.heap[b]?=some (.cells #[a1,a2,a3,a4] t (0,0))):((((U.setCell ⟨b,0,none⟩ x0).setCell ⟨b,1,none⟩ x1).setCell ⟨b,2,none⟩ x2).setCell ⟨b,3,none⟩ x3).heap[b]?=some (.cells #[x0,x1,x2,x3] t (0,0)):=
 heap_setCell_same _ _ _ _ _ _ (heap_setCell_same _ _ _ _ _ _ (heap_setCell_same _ _ _ _ _ _ (heap_setCell_same _ _ _ _ _ _ h)))
theorem dI.res {W0:World} (h:dI xs W0 u g n m vl va q b) (hw:Below w.heap.size w u) {r j:Nat} (v:Value) (h1:w.heap.size<=r) (h2:r<g):dI xs w (u.setCell ⟨r,j,none⟩ v) g n m vl va q b:=by
 have ne:∀ i,(⟨r,j,none⟩:Addr)≠⟨g,i,none⟩:=fun i e=>by injection e;omega
 exact⟨(World.cell?_setCell_other _ _ _ _ (ne 0)).trans h.c0,(World.cell?_setCell_other _ _ _ _ (ne 1)).trans h.c1,(World.cell?_setCell_other _ _ _ _ (ne 2)).trans h.c2,(World.cell?_setCell_other _ _ _ _ (ne 3)).trans h.c3,fun i=>(World.frozen?_setCell _ _ _ _).trans (h.fz i),Nat.lt_of_lt_of_le h.lt (OnlyC.set r j u v).size,fG h.ol (by omega),fG h.oa (by omega),hw.setCell (p:=⟨r,j,none⟩) h1 _,by omega⟩
theorem dI.labels (h:dI xs w u g n m vl va q b):∃ la lc,vl=.slice la (Pl.cZ xs n).length lc/\nE u la (Pl.cZ xs n).length lc xs (Pl.cZ xs n):=by
 rcases h.ol.2 with ⟨rfl,h0⟩ | ⟨k,cap,cur,rfl,hb,hk,h1,h2,h3,h4⟩
 ·exact⟨none,0,by rw[h0],rfl,by omega,Nat.zero_le _,.inl h0⟩
 ·refine⟨_,cap,rfl,rfl,h1,h2,.inr ⟨k,0,rfl,(Array.getElem?_eq_some_iff.1 hk).1,fun p hp=>?_⟩⟩
  have hc:=h.ol.cells (g:=k) rfl
  have key:∀ j v,j<4->(Pl.pO xs ((Pl.cZ xs n).getD p 0))[j]?=some v->u.cell? ⟨k,0+p*4+j,none⟩=some v:=fun j v hj hv=>by
   have:=hc (p*4+j) v (by rw[Pl.Ea xs _ p j hp hj];exact hv)
   rw[Nat.zero_add]
   rw[Addr.add_lit]at this
   simpa using this
  exact⟨key 0 _ (by omega) rfl,key 1 _ (by omega) rfl,key 2 _ (by omega) rfl,key 3 _ (by omega) rfl⟩
def wV (w:World) (a:Option Addr) (len cap:Nat) (xs:List Pl.Ln):Prop:=
 len<=cap/\cap<=maxLen/\(len=0\/∃ b off,a=some ⟨b,off,none⟩/\b<w.heap.size/\∀ p,p<len->w.cell? ⟨b,off+p,none⟩=some (.int .i64 (Pl.cu xs p).at))
theorem wV.keep {a:Option Addr} {len cap:Nat} (h:wV w a len cap xs) (hb:Below w.heap.size w u):wV u a len cap xs:=by
 obtain⟨h1,h2,h3⟩:=h
 refine⟨h1,h2,?_⟩
 rcases h3 with h3 | ⟨b,off,ha,hlt,hc⟩
 ·exact .inl h3
 ·exact .inr ⟨b,off,ha,Nat.lt_of_lt_of_le hlt hb.size,fun p hp=>(hb.cell (p:=⟨b,off+p,none⟩) hlt).trans (hc p hp)⟩
theorem dI.ats (h:dI xs w u g n m vl va q b):∃ aa ac,va=.slice aa m ac/\wV u aa m ac xs:=by
 rcases h.oa.2 with ⟨rfl,h0⟩ | ⟨k,cap,cur,rfl,hb,hk,h1,h2,h3,h4⟩
 ·exact⟨none,0,by rw[h0],by omega,Nat.zero_le _,.inl h0⟩
 ·refine⟨_,cap,rfl,h1,h2,.inr ⟨k,0,rfl,(Array.getElem?_eq_some_iff.1 hk).1,fun p hp=>?_⟩⟩
  have hc:=h.oa.cells (g:=k) rfl p (.int .i64 (Pl.cu xs p).at) (by unfold Pl.MQ;rw[List.getElem?_map,List.getElem?_range hp];rfl)
  rw[Addr.add_lit]at hc
  simpa using hc
def lG (n:Nat):Code->Option Code
 | .region m ops d=>if m == n then some (.region m ops d) else none
 | .seq a b=>match lG n a with
  | some c=>some c
  | none=>lG n b
 | .cond _ a b=>match lG n a with
  | some c=>some c
  | none=>lG n b
 | .rangeFunc _ _ a b=>match lG n a with
  | some c=>some c
  | none=>lG n b
 | .block _ c=>lG n c
 | .loop c=>lG n c
 | .scope c=>lG n c
 | _=>none
theorem CL:(Tryz.prog.info? 3).map (fun i=>(i.zero,i.size,i.bytes))=some (some (.int .i64 0),1,8):=by kernel_rfl
theorem Eb:(Tryz.prog.info? 63).map (fun i=>(i.zero,i.size,i.bytes))=some (some (.agg #[.string ⟨#[]⟩,.int .i64 0,.int .i64 0,.bool false]),4,40):=by kernel_rfl
def bI (x:Pl.Ins):Int:=if x.ok then Pl.enc x.op.toNat x.rd x.r1 x.r2 x.im else 0
theorem xL {x:Pl.Ins} (h:x.ok=true):∃ k:Nat,x.op=k/\1<=k/\k<=47:=by
 unfold Pl.Ins.ok at h
 rw[Bool.and_eq_true,decide_eq_true_eq]at h
 exact⟨x.op.toNat,by omega,by omega,by omega⟩
theorem SH (x:Pl.Ins) (w:World):Calls Tryz.prog 68 #[.agg #[.int .i64 x.op,.int .i64 x.rd,.int .i64 x.r1,.int .i64 x.r2,.int .i64 x.im]] w fun e w'=>e=.returned (.tuple #[.int .i64 (bI x),.bool x.ok])/\Below w.heap.size w w':=by
 cases h:x.ok
 ·have e:bI x=0:=by unfold bI;rw[h];rfl
  rw[e]
  exact JB _ _ _ _ _ h w
 ·have e:bI x=Pl.enc x.op.toNat x.rd x.r1 x.r2 x.im:=by unfold bI;rw[h];rfl
  rw[e]
  obtain⟨k,hk,k1,k2⟩:=xL h
  have h':lU (k:Int) x.rd x.r1 x.r2 x.im=true:=by rw[<- hk];exact h
  rw[hk]
  exact EL k k1 k2 _ _ _ _ h' w
theorem SI (x:Pl.Ins) (w:World):Calls Tryz.prog 43 #[.agg #[.int .i64 x.op,.int .i64 x.rd,.int .i64 x.r1,.int .i64 x.r2,.int .i64 x.im]] w fun e w'=>e=.returned (.tuple #[.int .i64 (bI x),.bool x.ok])/\Below w.heap.size w w':=by
 cases h:x.ok
 ·have e:bI x=0:=by unfold bI;rw[h];rfl
  rw[e]
  exact yB _ _ _ _ _ h w
 ·have e:bI x=Pl.enc x.op.toNat x.rd x.r1 x.r2 x.im:=by unfold bI;rw[h];rfl
  rw[e]
  obtain⟨k,hk,k1,k2⟩:=xL h
  have h':lU (k:Int) x.rd x.r1 x.r2 x.im=true:=by rw[<- hk];exact h
  rw[hk]
  exact uO k k1 k2 _ _ _ _ h' w
theorem oM (m:Nat):(Builtin.zeroCells (Value.int .u8 0).cells m).toList=Pl.rY (List.replicate m 0):=by
 unfold Builtin.zeroCells Pl.rY
 simp[Value.cells,Nat.mod_one,List.map_const']
theorem wC {P:Program} (w:World) (base:Nat) (t tn ty e:TypeId) (i:TypeInfo) (k kn:IntKind) (ht:P.underlying t=some (.slice e)) (htn:P.underlying tn=some (.int kn)) (hi:P.info? e=some i) (hz:i.zero=some (.int .u8 0)) (hsize:i.size=1) (hby:i.bytes=1)
  (v:Value) (l:List Int) (hown:w.ownsRow base e 1 v l.length (Pl.rY l)) (m:Nat) (hm:l.length+m<=70368744177664) (hbase:base<=w.heap.size) :
  ∃ v' w',(Builtin.append_ #[t,tn] ty #[v,.int k m]).run P w=.ok v' w'/\w'.ownsRow base e 1 v' (l ++ List.replicate m 0).length (Pl.rY (l ++ List.replicate m 0))/\w.grownBy w' v.ownBlock:=by
 have hw:IntKind.i64.wrap (m:Int)=m:=by rw[IntKind.wrap_i64];omega
 have hneg:¬ ((m:Int)<0):=by omega
 have h48i:¬ (281474976710656<(m:Int)):=by omega
 have hcl:(Value.int IntKind.u8 0).cells.size=1:=rfl
 have hlen:(l ++ List.replicate m 0).length=l.length+m:=by simp
 have hbl:(Pl.rY l).length=l.length:=Pl.BV l
 rw[hlen,Pl.BX,<- oM]
 have hzl:(Builtin.zeroCells (Value.int .u8 0).cells m).toList.length=m:=by rw[oM,Pl.BV];simp
 rcases hown.2 with ⟨rfl,h0⟩ | ⟨g,cap,cur,rfl,hbg,hg,hnc,hcm,hcs,htake⟩
 ·have hl:l=[]:=List.eq_nil_of_length_eq_zero h0
  subst hl
  by_cases hm0:m=0
  ·subst hm0
   refine⟨.slice none 0 0,w,?_,by rw[oM];exact World.ownsRow_nil w base e 1,⟨rfl,rfl,rfl,Nat.le_refl _,fun _ _ _=>rfl⟩⟩
   simp[Builtin.append_,run_underlying ht,run_underlying htn,sizeOf,typeInfo,zeroValue,hi,hz,asInt,asIntOf,IntKind.wrap_i64]
  ·have hr:=Lib.run_append_nil_zeros (P:=P) w t tn ty e i (.int .u8 0) k kn ht htn hi hz m (by omega) (by rw[hsize];decide) (by omega) (by rw[hby];simp at hm;omega)
   refine⟨_,_,hr,⟨by simp[Pl.rY,hzl],.inr ⟨w.heap.size,grownCap w m 0 e,_,by simp,hbase,heap_alloc_new w.drew _,?_,grownCap_le_maxLen w m 0 e (by unfold maxLen;simp at hm;omega),?_,?_⟩⟩,⟨rfl,rfl,rfl,by simp,fun k hk _=>Below.heap_alloc w.drew _ k hk⟩⟩
   ·have:=grownCap_ge w m 0 e;simpa using this
   ·have:=grownCap_ge w m 0 e
    simp only[Array.size_append,size_zeroCells,hcl];omega
   ·simp only[Array.toList_append]
    have:(0+m)*1=(Builtin.zeroCells (Value.int .u8 0).cells m).toList.length:=by rw[hzl];omega
    simp only[List.length_nil] at *
    rw[this,List.take_left]
    rfl
 ·by_cases hroom:l.length+m<=cap
  ·by_cases hm0:m=0
   ·subst hm0
    refine⟨_,w,?_,⟨by simp[hzl,hbl],.inr ⟨g,cap,cur,rfl,hbg,hg,hnc,hcm,hcs,?_⟩⟩,⟨rfl,rfl,rfl,Nat.le_refl _,fun _ _ _=>rfl⟩⟩
    ·have hst:(storeCells (⟨g,l.length,none⟩:Addr) []).run P w=.ok () w:=by simp[storeCells]
     simp[Builtin.append_,run_underlying ht,run_underlying htn,sizeOf,typeInfo,zeroValue,hi,hz,hsize,asInt,asIntOf,IntKind.wrap_i64,hnc,Addr.add_lit,hst]
    ·rw[Nat.add_zero,htake]
     have:(Builtin.zeroCells (Value.int .u8 0).cells 0).toList=[]:=List.eq_nil_of_length_eq_zero hzl
     rw[this,List.append_nil]
   ·have hst:=run_storeCells_at P g (l.length*1) e (Builtin.zeroCells (Value.int .u8 0).cells m).toList 0 cur w hg (by rw[hzl];omega) (by intro u hu;rw[oM]at hu;unfold Pl.rY at hu;obtain⟨y,_,rfl⟩:=List.mem_map.1 hu;rfl)
    simp only[Nat.add_zero,Nat.mul_one]at hst
    refine⟨.slice (some ⟨g,0,none⟩) (l.length+m) cap,_,?_,⟨by rw[List.length_append,hzl,hbl,Nat.mul_one],.inr ⟨g,cap,_,rfl,hbg,setRow_heap w g cur (cur.toList.take l.length ++ (Builtin.zeroCells (Value.int .u8 0).cells m).toList ++ cur.toList.drop (l.length+(Builtin.zeroCells (Value.int .u8 0).cells m).toList.length)).toArray e _ hg,hroom,hcm,?_,?_⟩⟩,⟨rfl,rfl,rfl,by simp,fun k _ hk=>setRow_other w g k _ (fun e=>hk (by simp[Value.ownBlock,e]))⟩⟩
    ·simp[Builtin.append_,run_underlying ht,run_underlying htn,sizeOf,typeInfo,zeroValue,hi,hz,hsize,hby,asInt,asIntOf,hw,hneg,h48i,hm0,hroom,Addr.add_lit]
     simp only[List.append_assoc,Array.length_toList]at hst
     rw[hst]
     rfl
    ·simp only[List.size_toArray,List.length_append,List.length_take,List.length_drop,Array.length_toList,hzl]
     omega
    ·rw[Nat.mul_one]at htake hcs
     rw[htake]
     have:(l.length+m)*1=(Pl.rY l ++ (Builtin.zeroCells (Value.int .u8 0).cells m).toList).length:=by rw[List.length_append,hzl,hbl,Nat.mul_one]
     rw[this,List.take_left]
  ·have holds:∀ j u,(Pl.rY l)[j]?=some u->w.cell? ((⟨g,0,none⟩:Addr).add j)=some u:=hown.cells (g:=g) rfl
   have hf:=run_firstCells_some (P:=P) w 1 l.length ⟨g,0,none⟩ l.length cap (Pl.rY l) (by rw[hbl,Nat.mul_one]) holds
   have hm0:¬ m=0:=by omega
   have h63':¬ (9223372036854775807<((l.length+m:Nat):Int)):=by omega
   have hnx:¬ (281474976710656<Builtin.nextslicecap (l.length+m) cap*1):=Nat.not_lt.2 <| growslice_fits (show cap<l.length+m by omega) (show (l.length+m)*1<=140737488355328 by omega)
   have hge:=grownCap_ge w (l.length+m) cap e
   refine⟨.slice (some ⟨w.heap.size,0,none⟩) (l.length+m) (grownCap w (l.length+m) cap e),w.drew.alloc (.cells ((Pl.rY l).toArray ++ Builtin.zeroCells (Value.int .u8 0).cells m ++ Builtin.zeroCells (Value.int .u8 0).cells (grownCap w (l.length+m) cap e-(l.length+m))) e),?_,⟨by rw[List.length_append,hzl,hbl,Nat.mul_one],.inr ⟨w.heap.size,_,_,rfl,hbase,heap_alloc_new w.drew _,hge,grownCap_le_maxLen w _ cap e (by unfold maxLen;omega),?_,?_⟩⟩,⟨rfl,rfl,rfl,by simp,fun k hk _=>Below.heap_alloc w.drew _ k hk⟩⟩
   ·simp[Builtin.append_,run_underlying ht,run_underlying htn,sizeOf,typeInfo,zeroValue,hi,hz,hsize,hby,asInt,asIntOf,hw,hneg,h48i,hm0,hroom,h63',Question.forced,newRow,grownCap,hf]
    rw[if_neg (by omega),if_neg (by simpa using hnx)]
    rw[run_firstCells_some (P:=P) w.drew 1 l.length ⟨g,0,none⟩ l.length cap (Pl.rY l) (by rw[hbl,Nat.mul_one]) holds]
    rfl
   ·simp only[Array.size_append,size_zeroCells,hcl,List.size_toArray,hbl]
    omega
   ·simp only[Array.toList_append]
    have:(l.length+m)*1=(Pl.rY l ++ (Builtin.zeroCells (Value.int .u8 0).cells m).toList).length:=by rw[List.length_append,hzl,hbl,Nat.mul_one]
    rw[this,List.take_left]
noncomputable def Lt (n:Nat):Code:=((Tryz.f22.body.bind (lG n)).getD .skip)
def jF (g h:Nat) (x:Pl.Ln) (q z:Int)  (c0 c1 c2 c4 c5 c7 c8 c9 c10 c11 c12 c13 c14 c15 c16 c17 c18 c19 c20 c21 dW c23 c24 dP eP fO c28 eQ eT c31 c32 eU c34 eX eY c37 fP fQ c40 gQ iP iQ iF iG c46 iY iH c49 iI c51 iJ c53 iZ iK iL iM fH jC jX jY jZ kC c70 kI c72 jJ Qo Qp Qq Qr XF XG:Value)  (L:Array Bool):Act:={ tmps:=#[c0,c1,c2,.pointer (some ⟨g,0,none⟩),c4,c5,.pointer (some ⟨h,0,none⟩),c7,c8,c9,c10,c11,c12,c13,c14,c15,c16,c17,c18,c19,c20,c21,dW,c23,c24,dP,eP,fO,c28,eQ,eT,c31,c32,eU,c34,eX,eY,c37,fP,fQ,c40,gQ,iP,iQ,iF,iG,c46,iY,iH,c49,iI,c51,iJ,c53,iZ,iK,iL,iM,fH,aR Qo L 0 (.pointer (some ⟨g,2,none⟩)),aR Qp L 1 (.int .i64 q),aR Qq L 2 (.agg #[.int .i64 x.k,.int .i64 x.op,.int .i64 x.rd,.int .i64 x.r1,.int .i64 x.r2,.int .i64 x.im,.string x.s,.int .i64 x.n]),aR Qr L 3 (.int .i64 z),aR XF L 4 (.int .i64 (q+z)),aR XG L 5 (.pointer (some ⟨g,2,none⟩)),jC,jX,jY,jZ,kC,c70,kI,c72,jJ],defers:=[] }
set_option maxRecDepth 100000 in
theorem Lu (g h:Nat) (x:Pl.Ln) (q z:Int) {c0 c1 c2 c4 c5 c7 c8 c9 c10 c11 c12 c13 c14 c15 c16 c17 c18 c19 c20 c21 dW c23 c24 dP eP fO c28 eQ eT c31 c32 eU c34 eX eY c37 fP fQ c40 gQ iP iQ iF iG c46 iY iH c49 iI c51 iJ c53 iZ iK iL iM fH jC jX jY jZ kC c70 kI c72 jJ Qo Qp Qq Qr XF XG:Value} (Y:World) (ho:Y.cell? ⟨g,2,none⟩=some (.int .i64 q)) (hf:Y.frozen? ⟨g,2,none⟩=false) (b0:Y.cell? ⟨h,0,none⟩=some (.int .i64 x.k)) (b1:Y.cell? ⟨h,1,none⟩=some (.int .i64 x.op)) (b2:Y.cell? ⟨h,2,none⟩=some (.int .i64 x.rd)) (b3:Y.cell? ⟨h,3,none⟩=some (.int .i64 x.r1)) (b4:Y.cell? ⟨h,4,none⟩=some (.int .i64 x.r2)) (b5:Y.cell? ⟨h,5,none⟩=some (.int .i64 x.im)) (b6:Y.cell? ⟨h,6,none⟩=some (.string x.s)) (b7:Y.cell? ⟨h,7,none⟩=some (.int .i64 x.n)) (hT:∀ u:World,Calls Tryz.prog 65 #[.agg #[.int .i64 x.k,.int .i64 x.op,.int .i64 x.rd,.int .i64 x.r1,.int .i64 x.r2,.int .i64 x.im,.string x.s,.int .i64 x.n]] u fun e w'=>e=.returned (.int .i64 z)/\Below u.heap.size u w') (hb:0<=q/\q<=1310720000/\0<=z/\z<=1310720000) {Q:Exit->Act->World->Prop}
  (hK:∀ w1,Below Y.heap.size Y w1->Q .normal { tmps:=#[c0,c1,c2,.pointer (some ⟨g,0,none⟩),c4,c5,.pointer (some ⟨h,0,none⟩),c7,c8,c9,c10,c11,c12,c13,c14,c15,c16,c17,c18,c19,c20,c21,dW,c23,c24,dP,eP,fO,c28,eQ,eT,c31,c32,eU,c34,eX,eY,c37,fP,fQ,c40,gQ,iP,iQ,iF,iG,c46,iY,iH,c49,iI,c51,iJ,c53,iZ,iK,iL,iM,fH,.pointer (some ⟨g,2,none⟩),.int .i64 q,.agg #[.int .i64 x.k,.int .i64 x.op,.int .i64 x.rd,.int .i64 x.r1,.int .i64 x.r2,.int .i64 x.im,.string x.s,.int .i64 x.n],.int .i64 z,.int .i64 (q+z),.pointer (some ⟨g,2,none⟩),jC,jX,jY,jZ,kC,c70,kI,c72,jJ],defers:=[] } (w1.setCell ⟨g,2,none⟩ (.int .i64 (q+z)))) :
  (Lt 16).wp Tryz.prog Q { tmps:=#[c0,c1,c2,.pointer (some ⟨g,0,none⟩),c4,c5,.pointer (some ⟨h,0,none⟩),c7,c8,c9,c10,c11,c12,c13,c14,c15,c16,c17,c18,c19,c20,c21,dW,c23,c24,dP,eP,fO,c28,eQ,eT,c31,c32,eU,c34,eX,eY,c37,fP,fQ,c40,gQ,iP,iQ,iF,iG,c46,iY,iH,c49,iI,c51,iJ,c53,iZ,iK,iL,iM,fH,Qo,Qp,Qq,Qr,XF,XG,jC,jX,jY,jZ,kC,c70,kI,c72,jJ],defers:=[] } Y:=by
 have nI:Hid _:=hK
 clear hK
 have jo:Y.drew.cell? ⟨g,2,none⟩=some (.int .i64 q):=ho
 have jf:Y.drew.frozen? ⟨g,2,none⟩=false:=hf
 have k0:Y.drew.cell? ⟨h,0,none⟩=some (.int .i64 x.k):=b0
 have k1:Y.drew.cell? ⟨h,1,none⟩=some (.int .i64 x.op):=b1
 have k2:Y.drew.cell? ⟨h,2,none⟩=some (.int .i64 x.rd):=b2
 have k3:Y.drew.cell? ⟨h,3,none⟩=some (.int .i64 x.r1):=b3
 have k4:Y.drew.cell? ⟨h,4,none⟩=some (.int .i64 x.r2):=b4
 have k5:Y.drew.cell? ⟨h,5,none⟩=some (.int .i64 x.im):=b5
 have k6:Y.drew.cell? ⟨h,6,none⟩=some (.string x.s):=b6
 have k7:Y.drew.cell? ⟨h,7,none⟩=some (.int .i64 x.n):=b7
 have HT:Hid _:=hT
 clear hT ho hf b0 b1 b2 b3 b4 b5 b6 b7
 have hw1:IntKind.i64.wrap (q+z)=q+z:=by rw[IntKind.wrap_i64];omega
 have hw2:wrap64 (q+z)=q+z:=by unfold wrap64;omega
 conv=>arg 2;whnf
 dsimp only
 refine wp_region_any (by kernel_rfl) ?_
 change wpAny _ _ _ _ _ _ _ (World.drew _)
 refine bQ (fun L jD u=>∃ w1,jD=jF g h x q z  c0 c1 c2 c4 c5 c7 c8 c9 c10 c11 c12 c13 c14 c15 c16 c17 c18 c19 c20 c21 dW c23 c24 dP eP fO c28 eQ eT c31 c32 eU c34 eX eY c37 fP fQ c40 gQ iP iQ iF iG c46 iY iH c49 iI c51 iJ c53 iZ iK iL iM fH jC jX jY jZ kC c70 kI c72 jJ Qo Qp Qq Qr XF XG  L/\iO Y.drew (fun u=>Below Y.drew.heap.size Y.drew u) (fun u=>u=w1.setCell ⟨g,2,none⟩ (.int .i64 (q+z))) 3 6 w1 L u) ?done (by kernel_rfl) ?step _ 7 _ _ (by kernel_rfl) ?init (by decide)
 case init=>exact⟨Y,by simp only[jF,dG (bR _ _)],iO.init⟩
 case step=>
  intro L act w i o hI hlt hs nl hC hd ho K hK
  obtain⟨w1,rfl,hW⟩:=hI
  have jB:i<7:=(Array.getElem?_eq_some_iff.1 ho).1
  have hD:=fun k m=>hd {on:=k,ground:=.data} m rfl
  rcases (show i=0\/i=1\/i=2\/i=3\/i=4\/i=5\/i=6 by omega) with rfl|rfl|rfl|rfl|rfl|rfl|rfl<;>(change some _=some o at ho;cases ho)
  ·simp only[jF]
   go_simp
   exact hK _ _ ⟨w1,by simp only[jF,aD hlt,reduceIte,Nat.reduceEqDiff];try rfl,(hW.keep hlt (by decide) (by decide))⟩
  ·have q0:up L 0=true:=hD 0 (by simp)
   have n4:up L 4=false:=hC.no nl 4 rfl (by kernel_rfl)
   have n6:up L 6=false:=hC.no n4 6 rfl (by kernel_rfl)
   have xo:=hW.cell n6 jo (fun q=>aF q jo)
   simp only[jF,aA q0]
   go_simp
   exact hK _ _ ⟨w1,by simp only[jF,aD hlt,aA q0,reduceIte,Nat.reduceEqDiff];try rfl,(hW.keep hlt (by decide) (by decide))⟩
  ·have n3:up L 3=false:=hC.no nl 3 rfl (by kernel_rfl)
   obtain rfl:=hW.1 n3
   simp only[jF]
   go_simp
   exact hK _ _ ⟨w1,by simp only[jF,aD hlt,reduceIte,Nat.reduceEqDiff];try rfl,(hW.keep hlt (by decide) (by decide))⟩
  ·have q2:up L 2=true:=hD 2 (by simp)
   have n4:up L 4=false:=hC.no nl 4 rfl (by kernel_rfl)
   have n6:up L 6=false:=hC.no n4 6 rfl (by kernel_rfl)
   obtain rfl:=hW.1 nl
   simp only[jF,aA q2]
   go_simp
   refine (HT.out _).mono ?_
   rintro e w2 ⟨rfl,d1⟩
   go_simp
   exact hK _ _ ⟨w2,by simp only[jF,aD hlt,aA q2,reduceIte,Nat.reduceEqDiff];try rfl,iO.first hlt (by decide) n6 d1⟩
  ·have q1:up L 1=true:=hD 1 (by simp)
   have q3:up L 3=true:=hD 3 (by simp)
   simp only[jF,aA q1,aA q3]
   go_simp
   exact hK _ _ ⟨w1,by simp only[jF,aD hlt,aA q1,aA q3,reduceIte,Nat.reduceEqDiff];try rfl,(hW.keep hlt (by decide) (by decide))⟩
  ·simp only[jF]
   go_simp
   exact hK _ _ ⟨w1,by simp only[jF,aD hlt,reduceIte,Nat.reduceEqDiff];try rfl,(hW.keep hlt (by decide) (by decide))⟩
  ·have q4:up L 4=true:=hD 4 (by simp)
   have q5:up L 5=true:=hD 5 (by simp)
   have q3:up L 3=true:=hC 4 _ rfl q4 { on:=3,ground:=.data } (by simp) rfl
   obtain⟨d1,y4,_⟩:=hW.2 q3
   obtain rfl:=y4 nl
   have c1:=aF d1 jo
   have f1:=(Below.frozen d1 (p:=⟨g,2,none⟩) (block_lt_of_cell jo)).trans jf
   simp only[jF,aA q4,aA q5]
   go_simp
   exact hK _ _ ⟨w,by simp only[jF,aD hlt,aA q4,aA q5,reduceIte,Nat.reduceEqDiff];try rfl,hW.second hlt q3 rfl⟩
 case done=>
  rintro L a u ⟨w1,rfl,hW⟩ hall
  simp only[jF,aA (hall 0 (by decide)),aA (hall 1 (by decide)),aA (hall 2 (by decide)),aA (hall 3 (by decide)),aA (hall 4 (by decide)),aA (hall 5 (by decide)),aA (hall 6 (by decide))]
  obtain⟨d1,_,hB⟩:=hW.2 (hall 3 (by decide))
  obtain rfl:=hB (hall 6 (by decide))
  exact nI.out w1 (Below.trans (Below.drew (Below.refl _ _)) d1)
def fT (g h:Nat) (x:Pl.Ln) (q z:Int)  (c0 c1 c2 c4 c5 c7 c8 c9 c10 c11 c12 c13 c14 c15 c16 c17 c18 c19 c20 c21 dW c23 c24 dP eP fO c28 eQ eT c31 c32 eU c34 eX eY c37 fP fQ c40 gQ iP iQ iF iG c46 iY iH c49 iI c51 iJ c53 iZ iK iL iM fH c59 fU fV fZ gU c64 jJ XH XI XJ XK XL XM XN Qs:Value)  (L:Array Bool):Act:={ tmps:=#[c0,c1,c2,.pointer (some ⟨g,0,none⟩),c4,c5,.pointer (some ⟨h,0,none⟩),c7,c8,c9,c10,c11,c12,c13,c14,c15,c16,c17,c18,c19,c20,c21,dW,c23,c24,dP,eP,fO,c28,eQ,eT,c31,c32,eU,c34,eX,eY,c37,fP,fQ,c40,gQ,iP,iQ,iF,iG,c46,iY,iH,c49,iI,c51,iJ,c53,iZ,iK,iL,iM,fH,c59,fU,fV,fZ,gU,c64,aR XH L 0 (.pointer (some ⟨g,3,none⟩)),aR XI L 1 (.int .i64 q),aR XJ L 2 (.agg #[.int .i64 x.k,.int .i64 x.op,.int .i64 x.rd,.int .i64 x.r1,.int .i64 x.r2,.int .i64 x.im,.string x.s,.int .i64 x.n]),aR XK L 3 (.pointer (some ⟨g,3,none⟩)),aR XL L 4 (.int .i64 q),aR XM L 5 (.int .i64 z),aR XN L 6 (.int .i64 (q+z)),aR Qs L 7 (.pointer (some ⟨g,3,none⟩)),jJ],defers:=[] }
set_option maxRecDepth 100000 in
theorem Lv (g h:Nat) (x:Pl.Ln) (q z:Int) {c0 c1 c2 c4 c5 c7 c8 c9 c10 c11 c12 c13 c14 c15 c16 c17 c18 c19 c20 c21 dW c23 c24 dP eP fO c28 eQ eT c31 c32 eU c34 eX eY c37 fP fQ c40 gQ iP iQ iF iG c46 iY iH c49 iI c51 iJ c53 iZ iK iL iM fH c59 fU fV fZ gU c64 jJ XH XI XJ XK XL XM XN Qs:Value} (Y:World) (ho:Y.cell? ⟨g,3,none⟩=some (.int .i64 q)) (hf:Y.frozen? ⟨g,3,none⟩=false) (b0:Y.cell? ⟨h,0,none⟩=some (.int .i64 x.k)) (b1:Y.cell? ⟨h,1,none⟩=some (.int .i64 x.op)) (b2:Y.cell? ⟨h,2,none⟩=some (.int .i64 x.rd)) (b3:Y.cell? ⟨h,3,none⟩=some (.int .i64 x.r1)) (b4:Y.cell? ⟨h,4,none⟩=some (.int .i64 x.r2)) (b5:Y.cell? ⟨h,5,none⟩=some (.int .i64 x.im)) (b6:Y.cell? ⟨h,6,none⟩=some (.string x.s)) (b7:Y.cell? ⟨h,7,none⟩=some (.int .i64 x.n)) (hT:∀ u:World,Calls Tryz.prog 66 #[.agg #[.int .i64 x.k,.int .i64 x.op,.int .i64 x.rd,.int .i64 x.r1,.int .i64 x.r2,.int .i64 x.im,.string x.s,.int .i64 x.n],.int .i64 q] u fun e w'=>e=.returned (.int .i64 z)/\Below u.heap.size u w') (hb:0<=q/\q<=1310720000/\0<=z/\z<=1310720000) {Q:Exit->Act->World->Prop}
  (hK:∀ w1,Below Y.heap.size Y w1->Q .normal { tmps:=#[c0,c1,c2,.pointer (some ⟨g,0,none⟩),c4,c5,.pointer (some ⟨h,0,none⟩),c7,c8,c9,c10,c11,c12,c13,c14,c15,c16,c17,c18,c19,c20,c21,dW,c23,c24,dP,eP,fO,c28,eQ,eT,c31,c32,eU,c34,eX,eY,c37,fP,fQ,c40,gQ,iP,iQ,iF,iG,c46,iY,iH,c49,iI,c51,iJ,c53,iZ,iK,iL,iM,fH,c59,fU,fV,fZ,gU,c64,.pointer (some ⟨g,3,none⟩),.int .i64 q,.agg #[.int .i64 x.k,.int .i64 x.op,.int .i64 x.rd,.int .i64 x.r1,.int .i64 x.r2,.int .i64 x.im,.string x.s,.int .i64 x.n],.pointer (some ⟨g,3,none⟩),.int .i64 q,.int .i64 z,.int .i64 (q+z),.pointer (some ⟨g,3,none⟩),jJ],defers:=[] } (w1.setCell ⟨g,3,none⟩ (.int .i64 (q+z)))) :
  (Lt 17).wp Tryz.prog Q { tmps:=#[c0,c1,c2,.pointer (some ⟨g,0,none⟩),c4,c5,.pointer (some ⟨h,0,none⟩),c7,c8,c9,c10,c11,c12,c13,c14,c15,c16,c17,c18,c19,c20,c21,dW,c23,c24,dP,eP,fO,c28,eQ,eT,c31,c32,eU,c34,eX,eY,c37,fP,fQ,c40,gQ,iP,iQ,iF,iG,c46,iY,iH,c49,iI,c51,iJ,c53,iZ,iK,iL,iM,fH,c59,fU,fV,fZ,gU,c64,XH,XI,XJ,XK,XL,XM,XN,Qs,jJ],defers:=[] } Y:=by
 have nI:Hid _:=hK
 clear hK
 have jo:Y.drew.cell? ⟨g,3,none⟩=some (.int .i64 q):=ho
 have jf:Y.drew.frozen? ⟨g,3,none⟩=false:=hf
 have k0:Y.drew.cell? ⟨h,0,none⟩=some (.int .i64 x.k):=b0
 have k1:Y.drew.cell? ⟨h,1,none⟩=some (.int .i64 x.op):=b1
 have k2:Y.drew.cell? ⟨h,2,none⟩=some (.int .i64 x.rd):=b2
 have k3:Y.drew.cell? ⟨h,3,none⟩=some (.int .i64 x.r1):=b3
 have k4:Y.drew.cell? ⟨h,4,none⟩=some (.int .i64 x.r2):=b4
 have k5:Y.drew.cell? ⟨h,5,none⟩=some (.int .i64 x.im):=b5
 have k6:Y.drew.cell? ⟨h,6,none⟩=some (.string x.s):=b6
 have k7:Y.drew.cell? ⟨h,7,none⟩=some (.int .i64 x.n):=b7
 have HT:Hid _:=hT
 clear hT ho hf b0 b1 b2 b3 b4 b5 b6 b7
 have hw1:IntKind.i64.wrap (q+z)=q+z:=by rw[IntKind.wrap_i64];omega
 have hw2:wrap64 (q+z)=q+z:=by unfold wrap64;omega
 conv=>arg 2;whnf
 dsimp only
 refine wp_region_any (by kernel_rfl) ?_
 change wpAny _ _ _ _ _ _ _ (World.drew _)
 refine bQ (fun L jD u=>∃ w1,jD=fT g h x q z  c0 c1 c2 c4 c5 c7 c8 c9 c10 c11 c12 c13 c14 c15 c16 c17 c18 c19 c20 c21 dW c23 c24 dP eP fO c28 eQ eT c31 c32 eU c34 eX eY c37 fP fQ c40 gQ iP iQ iF iG c46 iY iH c49 iI c51 iJ c53 iZ iK iL iM fH c59 fU fV fZ gU c64 jJ XH XI XJ XK XL XM XN Qs  L/\iO Y.drew (fun u=>Below Y.drew.heap.size Y.drew u) (fun u=>u=w1.setCell ⟨g,3,none⟩ (.int .i64 (q+z))) 5 8 w1 L u) ?done (by kernel_rfl) ?step _ 9 _ _ (by kernel_rfl) ?init (by decide)
 case init=>exact⟨Y,by simp only[fT,dG (bR _ _)],iO.init⟩
 case step=>
  intro L act w i o hI hlt hs nl hC hd ho K hK
  obtain⟨w1,rfl,hW⟩:=hI
  have jB:i<9:=(Array.getElem?_eq_some_iff.1 ho).1
  have hD:=fun k m=>hd {on:=k,ground:=.data} m rfl
  rcases (show i=0\/i=1\/i=2\/i=3\/i=4\/i=5\/i=6\/i=7\/i=8 by omega) with rfl|rfl|rfl|rfl|rfl|rfl|rfl|rfl|rfl<;>(change some _=some o at ho;cases ho)
  ·simp only[fT]
   go_simp
   exact hK _ _ ⟨w1,by simp only[fT,aD hlt,reduceIte,Nat.reduceEqDiff];try rfl,(hW.keep hlt (by decide) (by decide))⟩
  ·have q0:up L 0=true:=hD 0 (by simp)
   have n6:up L 6=false:=hC.no nl 6 rfl (by kernel_rfl)
   have n8:up L 8=false:=hC.no n6 8 rfl (by kernel_rfl)
   have xo:=hW.cell n8 jo (fun q=>aF q jo)
   simp only[fT,aA q0]
   go_simp
   exact hK _ _ ⟨w1,by simp only[fT,aD hlt,aA q0,reduceIte,Nat.reduceEqDiff];try rfl,(hW.keep hlt (by decide) (by decide))⟩
  ·have n5:up L 5=false:=hC.no nl 5 rfl (by kernel_rfl)
   obtain rfl:=hW.1 n5
   simp only[fT]
   go_simp
   exact hK _ _ ⟨w1,by simp only[fT,aD hlt,reduceIte,Nat.reduceEqDiff];try rfl,(hW.keep hlt (by decide) (by decide))⟩
  ·simp only[fT]
   go_simp
   exact hK _ _ ⟨w1,by simp only[fT,aD hlt,reduceIte,Nat.reduceEqDiff];try rfl,(hW.keep hlt (by decide) (by decide))⟩
  ·have q3:up L 3=true:=hD 3 (by simp)
   have n5:up L 5=false:=hC.no nl 5 rfl (by kernel_rfl)
   obtain rfl:=hW.1 n5
   simp only[fT,aA q3]
   go_simp
   exact hK _ _ ⟨w1,by simp only[fT,aD hlt,aA q3,reduceIte,Nat.reduceEqDiff];try rfl,(hW.keep hlt (by decide) (by decide))⟩
  ·have q2:up L 2=true:=hD 2 (by simp)
   have q4:up L 4=true:=hD 4 (by simp)
   have n6:up L 6=false:=hC.no nl 6 rfl (by kernel_rfl)
   have n8:up L 8=false:=hC.no n6 8 rfl (by kernel_rfl)
   obtain rfl:=hW.1 nl
   simp only[fT,aA q2,aA q4]
   go_simp
   refine (HT.out _).mono ?_
   rintro e w2 ⟨rfl,d1⟩
   go_simp
   exact hK _ _ ⟨w2,by simp only[fT,aD hlt,aA q2,aA q4,reduceIte,Nat.reduceEqDiff];try rfl,iO.first hlt (by decide) n8 d1⟩
  ·have q1:up L 1=true:=hD 1 (by simp)
   have q5:up L 5=true:=hD 5 (by simp)
   simp only[fT,aA q1,aA q5]
   go_simp
   exact hK _ _ ⟨w1,by simp only[fT,aD hlt,aA q1,aA q5,reduceIte,Nat.reduceEqDiff];try rfl,(hW.keep hlt (by decide) (by decide))⟩
  ·simp only[fT]
   go_simp
   exact hK _ _ ⟨w1,by simp only[fT,aD hlt,reduceIte,Nat.reduceEqDiff];try rfl,(hW.keep hlt (by decide) (by decide))⟩
  ·have q6:up L 6=true:=hD 6 (by simp)
   have q7:up L 7=true:=hD 7 (by simp)
   have q5:up L 5=true:=hC 6 _ rfl q6 { on:=5,ground:=.data } (by simp) rfl
   obtain⟨d1,y4,_⟩:=hW.2 q5
   obtain rfl:=y4 nl
   have c1:=aF d1 jo
   have f1:=(Below.frozen d1 (p:=⟨g,3,none⟩) (block_lt_of_cell jo)).trans jf
   simp only[fT,aA q6,aA q7]
   go_simp
   exact hK _ _ ⟨w,by simp only[fT,aD hlt,aA q6,aA q7,reduceIte,Nat.reduceEqDiff];try rfl,hW.second hlt q5 rfl⟩
 case done=>
  rintro L a u ⟨w1,rfl,hW⟩ hall
  simp only[fT,aA (hall 0 (by decide)),aA (hall 1 (by decide)),aA (hall 2 (by decide)),aA (hall 3 (by decide)),aA (hall 4 (by decide)),aA (hall 5 (by decide)),aA (hall 6 (by decide)),aA (hall 7 (by decide)),aA (hall 8 (by decide))]
  obtain⟨d1,_,hB⟩:=hW.2 (hall 5 (by decide))
  obtain rfl:=hB (hall 8 (by decide))
  exact nI.out w1 (Below.trans (Below.drew (Below.refl _ _)) d1)
end Go.Proofs.YtlbomnnldkeocaaGreat.W
