import Derived.Test.YtlbomnnldkeocaaGreatA02
import Derived.Test.YtlbomnnldkeocaaGreatA30
import Derived.Test.YtlbomnnldkeocaaGreatA18
import Derived.Test.YtlbomnnldkeocaaGreatA13
import Derived.Lib.AppendZeros
import Derived.Test.YtlbomnnldkeocaaGreatA17
set_option linter.unusedVariables false
set_option linter.unusedSimpArgs false
set_option maxHeartbeats 16000000
namespace Go.Proofs.YtlbomnnldkeocaaGreat.W
open Go.RowKit
structure LnK (x:Pl.Ln):Prop where
 b:Pl.LnB x
 i:Pl.LnI x
 far:x.k=5\/(x.k=14/\¬ x.s.size=0)->-2147483648<=x.n/\x.n<=2147483647
 w14:x.k=14->x.s.size=0->0<=x.n/\x.n<=4294967295
 n12:x.k=12->0<=x.n/\x.n<=255
 n13:x.k=13->0<=x.n/\x.n<=65535
 sym:x.k=1\/x.k=3\/x.k=5\/x.k=7\/x.k=8->¬ x.s.size=0
 nos:x.k≠1->x.k≠3->x.k≠5->x.k≠7->x.k≠8->x.k≠14->x.s.size=0
theorem rg_bd {r:Int} {u:Bool} (h:Pl.rg r u=true):0<=r/\r<=31:=by
 unfold Pl.rg at h;simp at h;omega
theorem regs_bd {op rd r1 r2 im:Int} {d s:Bool} (h:Pl.onlyRegs op rd r1 r2 im d s=true):(0<=rd/\rd<=31)/\0<=r1/\r1<=31:=by
 unfold Pl.onlyRegs at h
 simp only[Bool.and_eq_true]at h
 exact⟨rg_bd h.1.2,rg_bd h.2⟩
theorem sy_t {s:ByteArray} (h:Pl.sy s true=true):¬ s.size=0:=by
 unfold Pl.sy Pl.lab at h
 simp only[if_true,Bool.and_eq_true,decide_eq_true_eq]at h
 omega
theorem sy_f {s:ByteArray} (h:Pl.sy s false=true):s.size=0:=by
 unfold Pl.sy Pl.emp at h
 simp only[Bool.false_eq_true,if_false,List.isEmpty_iff]at h
 exact (Pl.nil_iff s).1 h
theorem LnK.mk' {x:Pl.Ln} (b:Pl.LnB x) (i2:x.k=2->Pl.Ins.ok ⟨x.op,x.rd,x.r1,x.r2,x.im⟩=true) (rg:x.k=4\/x.k=5\/x.k=6->(0<=x.rd/\x.rd<=31)/\0<=x.r1/\x.r1<=31) (w4:x.k=4->0<=x.n/\x.n<=4294967295) (far:x.k=5\/(x.k=14/\¬ x.s.size=0)->-2147483648<=x.n/\x.n<=2147483647) (w14:x.k=14->x.s.size=0->0<=x.n/\x.n<=4294967295) (n12:x.k=12->0<=x.n/\x.n<=255) (n13:x.k=13->0<=x.n/\x.n<=65535) (sym:x.k=1\/x.k=3\/x.k=5\/x.k=7\/x.k=8->¬ x.s.size=0) (nos:x.k≠1->x.k≠3->x.k≠5->x.k≠7->x.k≠8->x.k≠14->x.s.size=0):LnK x:=
 ⟨b,⟨i2,fun q=>(rg q).1,fun q=>(rg (.inr (.inr q))).2,w4⟩,far,w14,n12,n13,sym,nos⟩
theorem lines_known (x:Pl.Ln):∃ r:Bool,(∀ w:World,Calls Tryz.prog 20 #[.agg #[.int .i64 x.k,.int .i64 x.op,.int .i64 x.rd,.int .i64 x.r1,.int .i64 x.r2,.int .i64 x.im,.string x.s,.int .i64 x.n]] w fun e w'=>e=.returned (.bool r)/\Below w.heap.size w w')/\(∀ w:World,Calls Tryz.prog 73 #[.agg #[.int .i64 x.k,.int .i64 x.op,.int .i64 x.rd,.int .i64 x.r1,.int .i64 x.r2,.int .i64 x.im,.string x.s,.int .i64 x.n]] w fun e w'=>e=.returned (.bool r)/\Below w.heap.size w w')/\(r=true->LnK x):=by
 obtain⟨k,op,rd,r1,r2,im,s,n⟩:=x
 dsimp only
 by_cases h:k<1\/16<k
 ·exact⟨false,specLine_no k h op rd r1 r2 im n s,implLine_no k h op rd r1 r2 im n s,fun q=>by cases q⟩
 have hk:k=1\/k=2\/k=3\/k=4\/k=5\/k=6\/k=7\/k=8\/k=9\/k=10\/k=11\/k=12\/k=13\/k=14\/k=15\/k=16:=by omega
 clear h
 rcases hk with rfl | rfl | rfl | rfl | rfl | rfl | rfl | rfl | rfl | rfl | rfl | rfl | rfl | rfl | rfl | rfl
 ·refine⟨_,specLine_1 op rd r1 r2 im n s,implLine_1 op rd r1 r2 im n s,fun q=>by
  simp only[Bool.and_eq_true,decide_eq_true_eq]at q
  have hs:=sy_t q.1.1
  have hn:=q.1.2
  have hr:=regs_bd (q.2)
  refine LnK.mk' ⟨by dsimp only;omega,fun c=>by dsimp only at c ⊢; omega,fun c=>by dsimp only at c ⊢; omega⟩ (fun c=>by dsimp only at c;omega) (fun _=>hr) (fun c=>by dsimp only at c ⊢; omega) (fun c=>by dsimp only at c ⊢; omega) (fun c d=>by dsimp only at c d ⊢; omega) (fun c=>by dsimp only at c ⊢; omega) (fun c=>by dsimp only at c ⊢; omega) (fun c=>?_) (fun _ _ _ _ _ _=>?_)
  all_goals first | exact hs | (dsimp only at *; omega)⟩
 ·refine⟨_,specLine_2 op rd r1 r2 im n s,implLine_2 op rd r1 r2 im n s,fun q=>by
  simp only[Bool.and_eq_true,decide_eq_true_eq]at q
  have hs:=sy_f q.1.1
  have hn:=q.1.2
  refine LnK.mk' ⟨by dsimp only;omega,fun c=>by dsimp only at c ⊢; omega,fun c=>by dsimp only at c ⊢; omega⟩ (fun _=>q.2.1) (fun c=>by dsimp only at c;omega) (fun c=>by dsimp only at c ⊢; omega) (fun c=>by dsimp only at c ⊢; omega) (fun c d=>by dsimp only at c d ⊢; omega) (fun c=>by dsimp only at c ⊢; omega) (fun c=>by dsimp only at c ⊢; omega) (fun c=>?_) (fun _ _ _ _ _ _=>?_)
  all_goals first | exact hs | (dsimp only at *; omega)⟩
 ·refine⟨_,specLine_3 op rd r1 r2 im n s,implLine_3 op rd r1 r2 im n s,fun q=>by
  simp only[Bool.and_eq_true,decide_eq_true_eq]at q
  have hs:=sy_t q.1.1
  have hn:=q.1.2
  refine LnK.mk' ⟨by dsimp only;omega,fun c=>by dsimp only at c ⊢; omega,fun c=>by dsimp only at c ⊢; omega⟩ (fun c=>by dsimp only at c;omega) (fun c=>by dsimp only at c;omega) (fun c=>by dsimp only at c ⊢; omega) (fun c=>by dsimp only at c ⊢; omega) (fun c d=>by dsimp only at c d ⊢; omega) (fun c=>by dsimp only at c ⊢; omega) (fun c=>by dsimp only at c ⊢; omega) (fun c=>?_) (fun _ _ _ _ _ _=>?_)
  all_goals first | exact hs | (dsimp only at *; omega)⟩
 ·refine⟨_,specLine_4 op rd r1 r2 im n s,implLine_4 op rd r1 r2 im n s,fun q=>by
  simp only[Bool.and_eq_true,decide_eq_true_eq]at q
  have hs:=sy_f q.1.1
  have hn:=q.1.2
  have hr:=regs_bd (q.2)
  refine LnK.mk' ⟨by dsimp only;omega,fun c=>by dsimp only at c ⊢; omega,fun c=>by dsimp only at c ⊢; omega⟩ (fun c=>by dsimp only at c;omega) (fun _=>hr) (fun c=>by dsimp only at c ⊢; omega) (fun c=>by dsimp only at c ⊢; omega) (fun c d=>by dsimp only at c d ⊢; omega) (fun c=>by dsimp only at c ⊢; omega) (fun c=>by dsimp only at c ⊢; omega) (fun c=>?_) (fun _ _ _ _ _ _=>?_)
  all_goals first | exact hs | (dsimp only at *; omega)⟩
 ·refine⟨_,specLine_5 op rd r1 r2 im n s,implLine_5 op rd r1 r2 im n s,fun q=>by
  simp only[Bool.and_eq_true,decide_eq_true_eq]at q
  have hs:=sy_t q.1.1
  have hn:=q.1.2
  have hr:=regs_bd (q.2)
  refine LnK.mk' ⟨by dsimp only;omega,fun c=>by dsimp only at c ⊢; omega,fun c=>by dsimp only at c ⊢; omega⟩ (fun c=>by dsimp only at c;omega) (fun _=>hr) (fun c=>by dsimp only at c ⊢; omega) (fun c=>by dsimp only at c ⊢; omega) (fun c d=>by dsimp only at c d ⊢; omega) (fun c=>by dsimp only at c ⊢; omega) (fun c=>by dsimp only at c ⊢; omega) (fun c=>?_) (fun _ _ _ _ _ _=>?_)
  all_goals first | exact hs | (dsimp only at *; omega)⟩
 ·refine⟨_,specLine_6 op rd r1 r2 im n s,implLine_6 op rd r1 r2 im n s,fun q=>by
  simp only[Bool.and_eq_true,decide_eq_true_eq]at q
  have hs:=sy_f q.1.1
  have hn:=q.1.2
  have hr:=regs_bd (q.2)
  refine LnK.mk' ⟨by dsimp only;omega,fun c=>by dsimp only at c ⊢; omega,fun c=>by dsimp only at c ⊢; omega⟩ (fun c=>by dsimp only at c;omega) (fun _=>hr) (fun c=>by dsimp only at c ⊢; omega) (fun c=>by dsimp only at c ⊢; omega) (fun c d=>by dsimp only at c d ⊢; omega) (fun c=>by dsimp only at c ⊢; omega) (fun c=>by dsimp only at c ⊢; omega) (fun c=>?_) (fun _ _ _ _ _ _=>?_)
  all_goals first | exact hs | (dsimp only at *; omega)⟩
 ·refine⟨_,specLine_7 op rd r1 r2 im n s,implLine_7 op rd r1 r2 im n s,fun q=>by
  simp only[Bool.and_eq_true,decide_eq_true_eq]at q
  have hs:=sy_t q.1.1
  have hn:=q.1.2
  have hr:=regs_bd (q.2)
  refine LnK.mk' ⟨by dsimp only;omega,fun c=>by dsimp only at c ⊢; omega,fun c=>by dsimp only at c ⊢; omega⟩ (fun c=>by dsimp only at c;omega) (fun _=>hr) (fun c=>by dsimp only at c ⊢; omega) (fun c=>by dsimp only at c ⊢; omega) (fun c d=>by dsimp only at c d ⊢; omega) (fun c=>by dsimp only at c ⊢; omega) (fun c=>by dsimp only at c ⊢; omega) (fun c=>?_) (fun _ _ _ _ _ _=>?_)
  all_goals first | exact hs | (dsimp only at *; omega)⟩
 ·refine⟨_,specLine_8 op rd r1 r2 im n s,implLine_8 op rd r1 r2 im n s,fun q=>by
  simp only[Bool.and_eq_true,decide_eq_true_eq]at q
  have hs:=sy_t q.1.1
  have hn:=q.1.2
  have hr:=regs_bd (q.2)
  refine LnK.mk' ⟨by dsimp only;omega,fun c=>by dsimp only at c ⊢; omega,fun c=>by dsimp only at c ⊢; omega⟩ (fun c=>by dsimp only at c;omega) (fun _=>hr) (fun c=>by dsimp only at c ⊢; omega) (fun c=>by dsimp only at c ⊢; omega) (fun c d=>by dsimp only at c d ⊢; omega) (fun c=>by dsimp only at c ⊢; omega) (fun c=>by dsimp only at c ⊢; omega) (fun c=>?_) (fun _ _ _ _ _ _=>?_)
  all_goals first | exact hs | (dsimp only at *; omega)⟩
 ·refine⟨_,specLine_9 op rd r1 r2 im n s,implLine_9 op rd r1 r2 im n s,fun q=>by
  simp only[Bool.and_eq_true,decide_eq_true_eq]at q
  have hs:=sy_f q.1.1
  have hn:=q.1.2
  have hr:=regs_bd (q.2)
  refine LnK.mk' ⟨by dsimp only;omega,fun c=>by dsimp only at c ⊢; omega,fun c=>by dsimp only at c ⊢; omega⟩ (fun c=>by dsimp only at c;omega) (fun _=>hr) (fun c=>by dsimp only at c ⊢; omega) (fun c=>by dsimp only at c ⊢; omega) (fun c d=>by dsimp only at c d ⊢; omega) (fun c=>by dsimp only at c ⊢; omega) (fun c=>by dsimp only at c ⊢; omega) (fun c=>?_) (fun _ _ _ _ _ _=>?_)
  all_goals first | exact hs | (dsimp only at *; omega)⟩
 ·refine⟨_,specLine_10 op rd r1 r2 im n s,implLine_10 op rd r1 r2 im n s,fun q=>by
  simp only[Bool.and_eq_true,decide_eq_true_eq]at q
  have hs:=sy_f q.1.1
  have hn:=q.1.2
  have hr:=regs_bd (q.2)
  refine LnK.mk' ⟨by dsimp only;omega,fun c=>by dsimp only at c ⊢; omega,fun c=>by dsimp only at c ⊢; omega⟩ (fun c=>by dsimp only at c;omega) (fun _=>hr) (fun c=>by dsimp only at c ⊢; omega) (fun c=>by dsimp only at c ⊢; omega) (fun c d=>by dsimp only at c d ⊢; omega) (fun c=>by dsimp only at c ⊢; omega) (fun c=>by dsimp only at c ⊢; omega) (fun c=>?_) (fun _ _ _ _ _ _=>?_)
  all_goals first | exact hs | (dsimp only at *; omega)⟩
 ·refine⟨_,specLine_11 op rd r1 r2 im n s,implLine_11 op rd r1 r2 im n s,fun q=>by
  simp only[Bool.and_eq_true,decide_eq_true_eq]at q
  have hs:=sy_f q.1.1
  have hn:=q.1.2
  have hr:=regs_bd (q.2)
  refine LnK.mk' ⟨by dsimp only;omega,fun c=>by dsimp only at c ⊢; omega,fun c=>by dsimp only at c ⊢; omega⟩ (fun c=>by dsimp only at c;omega) (fun _=>hr) (fun c=>by dsimp only at c ⊢; omega) (fun c=>by dsimp only at c ⊢; omega) (fun c d=>by dsimp only at c d ⊢; omega) (fun c=>by dsimp only at c ⊢; omega) (fun c=>by dsimp only at c ⊢; omega) (fun c=>?_) (fun _ _ _ _ _ _=>?_)
  all_goals first | exact hs | (dsimp only at *; omega)⟩
 ·refine⟨_,specLine_12 op rd r1 r2 im n s,implLine_12 op rd r1 r2 im n s,fun q=>by
  simp only[Bool.and_eq_true,decide_eq_true_eq]at q
  have hs:=sy_f q.1.1
  have hn:=q.1.2
  have hr:=regs_bd (q.2)
  refine LnK.mk' ⟨by dsimp only;omega,fun c=>by dsimp only at c ⊢; omega,fun c=>by dsimp only at c ⊢; omega⟩ (fun c=>by dsimp only at c;omega) (fun _=>hr) (fun c=>by dsimp only at c ⊢; omega) (fun c=>by dsimp only at c ⊢; omega) (fun c d=>by dsimp only at c d ⊢; omega) (fun c=>by dsimp only at c ⊢; omega) (fun c=>by dsimp only at c ⊢; omega) (fun c=>?_) (fun _ _ _ _ _ _=>?_)
  all_goals first | exact hs | (dsimp only at *; omega)⟩
 ·refine⟨_,specLine_13 op rd r1 r2 im n s,implLine_13 op rd r1 r2 im n s,fun q=>by
  simp only[Bool.and_eq_true,decide_eq_true_eq]at q
  have hs:=sy_f q.1.1
  have hn:=q.1.2
  have hr:=regs_bd (q.2)
  refine LnK.mk' ⟨by dsimp only;omega,fun c=>by dsimp only at c ⊢; omega,fun c=>by dsimp only at c ⊢; omega⟩ (fun c=>by dsimp only at c;omega) (fun _=>hr) (fun c=>by dsimp only at c ⊢; omega) (fun c=>by dsimp only at c ⊢; omega) (fun c d=>by dsimp only at c d ⊢; omega) (fun c=>by dsimp only at c ⊢; omega) (fun c=>by dsimp only at c ⊢; omega) (fun c=>?_) (fun _ _ _ _ _ _=>?_)
  all_goals first | exact hs | (dsimp only at *; omega)⟩
 ·by_cases he:s.size=0
  ·refine⟨_,specLine_14e op rd r1 r2 im n s he,implLine_14e op rd r1 r2 im n s he,fun q=>by
    simp only[Bool.and_eq_true,decide_eq_true_eq]at q
    have hs:=sy_f q.1.1
    have hn:=q.1.2
    have hr:=regs_bd (q.2)
    refine LnK.mk' ⟨by dsimp only;omega,fun c=>by dsimp only at c ⊢; omega,fun c=>by dsimp only at c ⊢; omega⟩ (fun c=>by dsimp only at c;omega) (fun _=>hr) (fun c=>by dsimp only at c ⊢; omega) (fun c=>by dsimp only at c ⊢; omega) (fun c d=>by dsimp only at c d ⊢; omega) (fun c=>by dsimp only at c ⊢; omega) (fun c=>by dsimp only at c ⊢; omega) (fun c=>?_) (fun _ _ _ _ _ _=>?_)
    all_goals first | exact hs | (dsimp only at *; omega)⟩
  ·refine⟨_,specLine_14n op rd r1 r2 im n s he,implLine_14n op rd r1 r2 im n s he,fun q=>by
    simp only[Bool.and_eq_true,decide_eq_true_eq]at q
    have hs:=sy_t q.1.1
    have hn:=q.1.2
    have hr:=regs_bd (q.2)
    refine LnK.mk' ⟨by dsimp only;omega,fun c=>by dsimp only at c ⊢; omega,fun c=>by dsimp only at c ⊢; omega⟩ (fun c=>by dsimp only at c;omega) (fun _=>hr) (fun c=>by dsimp only at c ⊢; omega) (fun c=>by dsimp only at c ⊢; omega) (fun c d=>by dsimp only at c d ⊢; omega) (fun c=>by dsimp only at c ⊢; omega) (fun c=>by dsimp only at c ⊢; omega) (fun c=>?_) (fun _ _ _ _ _ _=>?_)
    all_goals first | exact hs | (dsimp only at *; omega)⟩
 ·refine⟨_,specLine_15 op rd r1 r2 im n s,implLine_15 op rd r1 r2 im n s,fun q=>by
  simp only[Bool.and_eq_true,decide_eq_true_eq]at q
  have hs:=sy_f q.1.1
  have hn:=q.1.2
  have hr:=regs_bd (q.2)
  refine LnK.mk' ⟨by dsimp only;omega,fun c=>by dsimp only at c ⊢; omega,fun c=>by dsimp only at c ⊢; omega⟩ (fun c=>by dsimp only at c;omega) (fun _=>hr) (fun c=>by dsimp only at c ⊢; omega) (fun c=>by dsimp only at c ⊢; omega) (fun c d=>by dsimp only at c d ⊢; omega) (fun c=>by dsimp only at c ⊢; omega) (fun c=>by dsimp only at c ⊢; omega) (fun c=>?_) (fun _ _ _ _ _ _=>?_)
  all_goals first | exact hs | (dsimp only at *; omega)⟩
 ·refine⟨_,specLine_16 op rd r1 r2 im n s,implLine_16 op rd r1 r2 im n s,fun q=>by
  simp only[Bool.and_eq_true,decide_eq_true_eq]at q
  have hs:=sy_f q.1.1
  have hn:=q.1.2
  have hr:=regs_bd (q.2.1)
  refine LnK.mk' ⟨by dsimp only;omega,fun c=>by dsimp only at c ⊢; omega,fun c=>by dsimp only at c ⊢; omega⟩ (fun c=>by dsimp only at c;omega) (fun _=>hr) (fun c=>by dsimp only at c ⊢; omega) (fun c=>by dsimp only at c ⊢; omega) (fun c d=>by dsimp only at c d ⊢; omega) (fun c=>by dsimp only at c ⊢; omega) (fun c=>by dsimp only at c ⊢; omega) (fun c=>?_) (fun _ _ _ _ _ _=>?_)
  all_goals first | exact hs | (dsimp only at *; omega)⟩
noncomputable def okL (x:Pl.Ln):Bool:=Classical.choose (lines_known x)
theorem specOk_is (x:Pl.Ln) (w:World):Calls Tryz.prog 20 #[.agg #[.int .i64 x.k,.int .i64 x.op,.int .i64 x.rd,.int .i64 x.r1,.int .i64 x.r2,.int .i64 x.im,.string x.s,.int .i64 x.n]] w fun e w'=>e=.returned (.bool (okL x))/\Below w.heap.size w w':=
 (Classical.choose_spec (lines_known x)).1 w
theorem implOk_is (x:Pl.Ln) (w:World):Calls Tryz.prog 73 #[.agg #[.int .i64 x.k,.int .i64 x.op,.int .i64 x.rd,.int .i64 x.r1,.int .i64 x.r2,.int .i64 x.im,.string x.s,.int .i64 x.n]] w fun e w'=>e=.returned (.bool (okL x))/\Below w.heap.size w w':=
 (Classical.choose_spec (lines_known x)).2.1 w
theorem okL_known {x:Pl.Ln} (h:okL x=true):LnK x:=(Classical.choose_spec (lines_known x)).2.2 h
theorem badLine1_is (x:Pl.Ln) (w:World):Calls Tryz.prog 72 #[.agg #[.int .i64 x.k,.int .i64 x.op,.int .i64 x.rd,.int .i64 x.r1,.int .i64 x.r2,.int .i64 x.im,.string x.s,.int .i64 x.n]] w fun e w'=>e=.returned (.bool (!okL x))/\Below w.heap.size w w':=by
 have HL:Hid (∀ u:World,Calls Tryz.prog 73 #[.agg #[.int .i64 x.k,.int .i64 x.op,.int .i64 x.rd,.int .i64 x.r1,.int .i64 x.r2,.int .i64 x.im,.string x.s,.int .i64 x.n]] u fun e w'=>e=.returned (.bool (okL x))/\Below u.heap.size u w'):=fun u=>implOk_is x u
 generalize okL x=r at *
 go_enter Tryz.func72,Tryz.ntmps72
 go_wp2_with (go_at_call 73;refine (HL.out _).mono ?_;rintro e u1 ⟨rfl,d1⟩)
 go_ret
 refine⟨rfl,?_⟩
 first | exact d1 | exact Below.trans (below_alloc w _) (d1.mono (by simp))
theorem stray1_is (g:Nat) (c:Pl.Cur) (x:Pl.Ln) (w:World) (h:CurAt w g c) (hx:Pl.LnB x) (ht:0<=c.t/\c.t<=1099511627776) (hb:0<=c.b/\c.b<=1099511627776):Calls Tryz.prog 74 #[.agg #[.int .i64 x.k,.int .i64 x.op,.int .i64 x.rd,.int .i64 x.r1,.int .i64 x.r2,.int .i64 x.im,.string x.s,.int .i64 x.n],.pointer (some ⟨g,0,none⟩)] w fun e w'=>e=.returned (.bool ((c.pass x).d && Pl.isT x.k || !(c.pass x).d && Pl.isD x.k))/\CurAt w' g (c.pass x)/\OnlyC g w w':=by
 have HPs:Hid (∀ o,PassIs g c x (w.alloc o)):=fun o=>pass_is g c x _ (h.keep (below_alloc w o)) hx ht hb
 have HPs':Hid (∀ o,Calls Tryz.prog 75 #[.pointer (some ⟨g,0,none⟩),.agg #[.int .i64 x.k,.int .i64 x.op,.int .i64 x.rd,.int .i64 x.r1,.int .i64 x.r2,.int .i64 x.im,.string x.s,.int .i64 x.n]] (w.alloc o) fun e w'=>e=.returned (.tuple #[])/\CurAt w' g (c.pass x)/\OnlyC g (w.alloc o) w'):=HPs.out
 have hne:w.heap.size≠g:=Nat.ne_of_gt h.lt
 have HT:Hid (∀ u:World,Calls Tryz.prog 76 #[.int .i64 x.k] u fun e w'=>e=.returned (.bool (Pl.isT x.k))/\w'=u):=fun u=>ofText_is x.k u
 have HD:Hid (∀ u:World,Calls Tryz.prog 77 #[.int .i64 x.k] u fun e w'=>e=.returned (.bool (Pl.isD x.k))/\w'=u):=fun u=>ofData_is x.k u
 clear h HPs hx ht hb
 generalize Pl.isT x.k=rt at *
 generalize Pl.isD x.k=rd at *
 generalize c.pass x=c' at *
 cases hd:c'.d
 all_goals
  go_enter Tryz.func74,Tryz.ntmps74
  go_wp2_with (first | (go_at_call 75;refine (HPs'.out _).mono ?_;rintro e u1 ⟨rfl,hc,ho⟩; have k0:u1.cell? ⟨w.heap.size,0,none⟩=some (.int .i64 x.k):=(World.cell?_of_block (ho.block w.heap.size (by simp) hne)).trans (cell_of_row _ _ 0 _ 51 (0,0) (heap_alloc_new w _));have kd:=hc.d;rw[hd]at kd;have HC:Hid (CurAt u1 g c'):=hc;have HO:Hid (OnlyC g (w.alloc _) u1):=ho;clear hc ho) | (go_at_call 76;refine (HT.out _).mono ?_;rintro e u2 ⟨rfl,rfl⟩) | (go_at_call 77;refine (HD.out _).mono ?_;rintro e u2 ⟨rfl,rfl⟩))
 all_goals
  go_ret
  refine⟨ret_bool ?_,HC.out,(OnlyC.of (below_alloc w _)).trans HO.out⟩
  first | rfl | (simp;done) | (simp;assumption) | simp_all
theorem OnlyC.below {w u:World} {o:Obj} (h:OnlyC w.heap.size (w.alloc o) u):Below w.heap.size w u:=by
 have hb:=below_alloc w o
 refine⟨h.os.trans hb.os,h.tape.trans hb.tape,h.output.trans hb.output,Nat.le_trans hb.size h.size,fun k hk=>?_⟩
 exact (h.block k (Nat.lt_of_lt_of_le hk hb.size) (Nat.ne_of_lt hk)).trans (hb.block k hk)
theorem strayLine_is {lo:Nat} (ga:Nat) (a:Option Addr) (len cap:Nat) (xs:List Pl.Ln) (w:World) (h:LRow lo w a len cap xs) (hc:w.cell? ⟨ga,0,none⟩=some (.slice a len cap)) (hB:∀ i,i<xs.length->Pl.LnB (Pl.gl xs i)) (hn:len<=20000):Calls Tryz.prog 30 #[.pointer (some ⟨ga,0,none⟩)] w fun e w'=>e=.returned (.int .i64 (Pl.fst1 (Pl.stray xs) len))/\Below w.heap.size w w':=by
 obtain⟨hL,_⟩:=h.len
 have HX:Hid (∀ o,o=.cells #[.bool false,.int .i64 0,.int .i64 0] 69->Calls Tryz.prog 71 #[.slice a len cap,.func (.func 74) #[] #[.pointer (some ⟨w.heap.size,0,none⟩)]] (w.alloc o) fun e w'=>e=.returned (.int .i64 (Pl.fst1 (Pl.stray xs) len))/\Below w.heap.size w w'):=fun o ho=>by
  have c0:∀ j,(w.alloc o).cell? ⟨w.heap.size,j,none⟩=(#[.bool false,.int .i64 0,.int .i64 0]:Array Value)[j]?:=fun j=>by rw[ho];exact cell_of_row _ _ j _ _ (0,0) (heap_alloc_new w _)
  refine (index_strayLine a len cap xs _ (w.alloc o) (Pl.stray xs) (fun k u=>CurAt u w.heap.size (Pl.cu xs k)/\OnlyC w.heap.size (w.alloc o) u) (fun k u hu=>h.keep hu.2.below) ⟨⟨c0 0,c0 1,c0 2,fun j=>?_,by simp,by rw[ho];exact⟨_,heap_alloc_new w _⟩⟩,OnlyC.of (Below.refl _ _)⟩ (fun k u hk _ hu=>?_)).mono ?_
  ·rw[ho];exact frozen_of_row _ _ j _ _ (heap_alloc_new w _)
  ·have hb:=Pl.cu_bd xs hB k (by omega)
   refine (stray1_is w.heap.size (Pl.cu xs k) (Pl.gl xs k) u hu.1 (hB k (by omega)) (by omega) (by omega)).mono ?_
   rintro e u' ⟨rfl,h1,h2⟩
   rw[<- Pl.cu_succ xs k (by omega)]at h1 ⊢
   exact⟨rfl,h1,hu.2.trans h2⟩
  ·rintro e w' ⟨rfl,k,_,hI,_⟩
   exact⟨rfl,hI.2.below⟩
 have hc':∀ o,(w.alloc o).cell? ⟨ga,0,none⟩=some (.slice a len cap):=fun o=>below_cell (below_alloc w o) hc
 clear h hB hc
 go_enter Tryz.func30,Tryz.ntmps30
 go_wp2_with (go_at_call 71;refine (HX.out _ rfl).mono ?_;rintro e u1 ⟨rfl,d1⟩)
 go_ret
 exact⟨rfl,d1⟩
theorem badLine_is {lo:Nat} (ga:Nat) (a:Option Addr) (len cap:Nat) (xs:List Pl.Ln) (w:World) (h:LRow lo w a len cap xs) (hc:w.cell? ⟨ga,0,none⟩=some (.slice a len cap)):Calls Tryz.prog 29 #[.pointer (some ⟨ga,0,none⟩)] w fun e w'=>e=.returned (.int .i64 (if 20000<len then 20000 else Pl.fst1 (fun i=>!okL (Pl.gl xs i)) len))/\Below w.heap.size w w':=by
 obtain⟨hL,hm⟩:=h.len
 have HX:Hid (Calls Tryz.prog 71 #[.slice a len cap,.func (.func 72) #[] #[]] w fun e w'=>e=.returned (.int .i64 (Pl.fst1 (fun i=>!okL (Pl.gl xs i)) len))/\Below w.heap.size w w'):=by
  refine (index_badLine a len cap xs w (fun i=>!okL (Pl.gl xs i)) (fun k u=>Below w.heap.size w u) (fun k u hu=>h.keep hu) (Below.refl _ _) (fun k u hk _ hu=>?_)).mono ?_
  ·refine (badLine1_is (Pl.gl xs k) u).mono ?_
   rintro e u' ⟨rfl,h1⟩
   exact⟨rfl,hu.trans (h1.mono hu.size)⟩
  ·rintro e w' ⟨rfl,k,_,hI,_⟩
   exact⟨rfl,hI⟩
 clear h
 generalize Pl.fst1 (fun i=>!okL (Pl.gl xs i)) len=z at *
 by_cases hn:20000<len
 ·have hi:(20000:Int)<(len:Int):=by omega
  rw[if_pos hn]
  go_enter Tryz.func29,Tryz.ntmps29
  go_wp2
  go_ret
  exact⟨rfl,Below.refl _ _⟩
 ·have hi:¬ (20000:Int)<(len:Int):=by omega
  rw[if_neg hn]
  go_enter Tryz.func29,Tryz.ntmps29
  go_wp2_with (go_at_call 71;refine HX.out.mono ?_;rintro e u1 ⟨rfl,d1⟩)
  go_ret
  exact⟨rfl,d1⟩
theorem badStack_is (ga:Nat) (n:Int) (w:World) (hc:w.cell? ⟨ga,1,none⟩=some (.int .i64 n)):Calls Tryz.prog 37 #[.pointer (some ⟨ga,0,none⟩)] w fun e w'=>e=.returned (.int .i64 (if 0<=n/\n<=65536/\n % 16=0 then -1 else 0))/\w'=w:=by
 have HS:Hid (∀ u:World,Calls Tryz.prog 46 #[.int .i64 n] u fun e w'=>e=.returned (.bool (decide (0<=n/\n<=65536/\n % 16=0)))/\w'=u):=fun u=>stackOk_is n u
 have HZ:Hid (∀ (b:Bool) (u:World),Calls Tryz.prog 80 #[.bool b] u fun e w'=>e=.returned (.int .i64 (if b then 0 else -1))/\w'=u):=zeroIf_is
 by_cases q:0<=n/\n<=65536/\n % 16=0
 ·rw[if_pos q]
  rw[show decide (0<=n/\n<=65536/\n % 16=0)=true from decide_eq_true q]at HS
  go_enter Tryz.func37,Tryz.ntmps37
  go_wp2_with (first | (go_at_call 46;refine (HS.out _).mono ?_;rintro e u1 ⟨rfl,rfl⟩) | (go_at_call 80;refine (HZ.out _ _).mono ?_;rintro e u1 ⟨rfl,rfl⟩))
  go_ret
  exact⟨rfl,rfl⟩
 ·rw[if_neg q]
  rw[show decide (0<=n/\n<=65536/\n % 16=0)=false from decide_eq_false q]at HS
  go_enter Tryz.func37,Tryz.ntmps37
  go_wp2_with (first | (go_at_call 46;refine (HS.out _).mono ?_;rintro e u1 ⟨rfl,rfl⟩) | (go_at_call 80;refine (HZ.out _ _).mono ?_;rintro e u1 ⟨rfl,rfl⟩))
  go_ret
  exact⟨rfl,rfl⟩
theorem badData_is (ga:Nat) (n:Int) (w:World) (hc:w.cell? ⟨ga,5,none⟩=some (.int .i64 n)):Calls Tryz.prog 34 #[.pointer (some ⟨ga,0,none⟩)] w fun e w'=>e=.returned (.int .i64 (if 65536<n then 0 else -1))/\w'=w:=by
 have HZ:Hid (∀ (b:Bool) (u:World),Calls Tryz.prog 80 #[.bool b] u fun e w'=>e=.returned (.int .i64 (if b then 0 else -1))/\w'=u):=zeroIf_is
 by_cases q:65536<n
 ·have hd:decide (65536<n)=true:=by simpa using q
  rw[if_pos q]
  go_enter Tryz.func34,Tryz.ntmps34
  go_wp2_with (go_at_call 80;refine (HZ.out _ _).mono ?_;rintro e u1 ⟨rfl,rfl⟩)
  go_ret
  refine⟨ret_int ?_,rfl⟩
  simp[q]
 ·have hd:decide (65536<n)=false:=by simpa using q
  rw[if_neg q]
  go_enter Tryz.func34,Tryz.ntmps34
  go_wp2_with (go_at_call 80;refine (HZ.out _ _).mono ?_;rintro e u1 ⟨rfl,rfl⟩)
  go_ret
  refine⟨ret_int ?_,rfl⟩
  simp[q]
end Go.Proofs.YtlbomnnldkeocaaGreat.W
namespace Go.Proofs.YtlbomnnldkeocaaGreat.Pl
def atL (xs:List Ln) (m:Nat):List Value:=(List.range m).map fun i=>Value.int .i64 (cu xs i).at
theorem atL_succ (xs:List Ln) (m:Nat):atL xs (m+1)=atL xs m ++ [.int .i64 (cu xs m).at]:=by
 unfold atL;rw[List.range_succ,List.map_append];rfl
def lcell (xs:List Ln) (i:Nat):List Value:=[.string (gl xs i).s,.int .i64 (i:Nat),.int .i64 (cu xs i).at,.bool (!(cu xs i).d)]
def lcs (xs:List Ln) (ls:List Nat):List Value:=ls.flatMap (lcell xs)
theorem lcs_at (xs:List Ln):∀ (ls:List Nat) (p j:Nat),p<ls.length->j<4->(lcs xs ls)[p*4+j]?=(lcell xs (ls.getD p 0))[j]?:=by
 intro ls
 induction ls with
 | nil=>intro p j hp;simp at hp
 | cons a l ih=>
  intro p j hp hj
  unfold lcs at ih ⊢
  rw[List.flatMap_cons]
  rcases p with _ | p
  ·rw[Nat.zero_mul,Nat.zero_add,List.getElem?_append_left (by show j<4;exact hj)];rfl
  ·rw[List.getElem?_append_right (by show 4<=_;omega)]
   have:(p+1)*4+j-(lcell xs a).length=p*4+j:=by show (p+1)*4+j-4=_;omega
   rw[this,ih p j (by simpa using hp) hj]
   rfl
theorem lcs_app (xs:List Ln) (ls:List Nat) (i:Nat):lcs xs (ls ++ [i])=lcs xs ls ++ lcell xs i:=by
 unfold lcs;rw[List.flatMap_append];simp
end Go.Proofs.YtlbomnnldkeocaaGreat.Pl
namespace Go.Proofs.YtlbomnnldkeocaaGreat.W
open Go.RowKit
theorem OnlyC.grown {g:Nat} {w w':World} (h:OnlyC g w w'):w.grownBy w' (some g):=⟨h.os,h.tape,h.output,h.size,fun k hk hn=>h.block k hk (fun e=>hn (by rw[e]))⟩
theorem grown_below {w w':World} (h:Below w.heap.size w w'):w.grownBy w' none:=⟨h.os,h.tape,h.output,h.size,fun k hk _=>h.block k hk⟩
theorem owns_keep {w w':World} {B:Nat} {e:TypeId} {s:Nat} {v:Value} {n:Nat} {ys:List Value} (h:w.ownsRow B e s v n ys) (hb:Below w.heap.size w w'):w'.ownsRow B e s v n ys:=
 h.kept (grown_below hb) (by cases hv:v.ownBlock <;> simp)
theorem owns_set {w:World} {B:Nat} {e:TypeId} {s:Nat} {v:Value} {n:Nat} {ys:List Value} {g j:Nat} {x:Value} (h:w.ownsRow B e s v n ys) (hg:g<B):(w.setCell ⟨g,j,none⟩ x).ownsRow B e s v n ys:=
 h.kept (OnlyC.set g j w x).grown (by
  cases hv:v.ownBlock with
  | none=>exact .inl rfl
  | some k=>right;intro c;cases c;have:=(h.lt _ hv).1;omega)
theorem owns_apart {w:World} {B B':Nat} {e e':TypeId} {s s':Nat} {v v':Value} {n n':Nat} {ys ys':List Value} (h:w.ownsRow B e s v n ys) (h':w.ownsRow B' e' s' v' n' ys') (he:e≠e'):v.ownBlock=none\/v.ownBlock≠v'.ownBlock:=by
 rcases h.2 with ⟨rfl,_⟩ | ⟨g,cap,cur,rfl,_,hg,_⟩
 ·exact .inl rfl
 ·right
  rcases h'.2 with ⟨rfl,_⟩ | ⟨g',cap',cur',rfl,_,hg',_⟩
  ·simp[Value.ownBlock]
  ·intro c
   have:g=g':=by simpa [Value.ownBlock] using c
   subst this
   rw[hg]at hg'
   injection hg' with q
   injection q with _ q2 _
   exact he q2
structure LayS (xs:List Pl.Ln) (w u:World) (g n m:Nat) (vl va:Value) (q b:Int):Prop where
 c0:u.cell? ⟨g,0,none⟩=some vl
 c1:u.cell? ⟨g,1,none⟩=some va
 c2:u.cell? ⟨g,2,none⟩=some (.int .i64 q)
 c3:u.cell? ⟨g,3,none⟩=some (.int .i64 b)
 fz:∀ j,u.frozen? ⟨g,j,none⟩=false
 lt:g<u.heap.size
 ol:u.ownsRow (g+1) 63 4 vl (Pl.lbs xs n).length (Pl.lcs xs (Pl.lbs xs n))
 oa:u.ownsRow (g+1) 3 1 va m (Pl.atL xs m)
 bel:Below w.heap.size w u
 hg:w.heap.size<=g
variable {xs:List Pl.Ln} {w u u':World} {g n m:Nat} {vl va:Value} {q b:Int}
theorem LayS.keep (h:LayS xs w u g n m vl va q b) (hb:Below u.heap.size u u'):LayS xs w u' g n m vl va q b:=
 ⟨(hb.cell (p:=⟨g,0,none⟩) h.lt).trans h.c0,(hb.cell (p:=⟨g,1,none⟩) h.lt).trans h.c1,(hb.cell (p:=⟨g,2,none⟩) h.lt).trans h.c2,(hb.cell (p:=⟨g,3,none⟩) h.lt).trans h.c3,fun j=>(hb.frozen (p:=⟨g,j,none⟩) h.lt).trans (h.fz j),Nat.lt_of_lt_of_le h.lt hb.size,owns_keep h.ol hb,owns_keep h.oa hb,h.bel.trans (hb.mono h.bel.size),h.hg⟩
theorem LayS.size (h:LayS xs w u g n m vl va q b):w.heap.size<=u.heap.size:=h.bel.size
theorem grown_cell {r:Option Nat} {k j:Nat} {v:Value} (hg:u.grownBy u' r) (h:u.cell? ⟨k,j,none⟩=some v) (hn:r≠some k):u'.cell? ⟨k,j,none⟩=some v:=hg.cell h (fun c=>hn c.symm)
theorem grown_fz {r:Option Nat} {k j:Nat} {v:Bool} (hg:u.grownBy u' r) (hk:k<u.heap.size) (h:u.frozen? ⟨k,j,none⟩=v) (hn:r≠some k):u'.frozen? ⟨k,j,none⟩=v:=
 (World.frozen?_of_block (hg.block k hk (fun c=>hn c.symm))).trans h
theorem own_slice {B:Nat} {e:TypeId} {s:Nat} {v:Value} {ys:List Value} (h:u.ownsRow B e s v n ys):∃ a c,v=.slice a n c:=by
 rcases h.2 with ⟨rfl,h0⟩ | ⟨g,cap,cur,rfl,_⟩
 ·exact⟨none,0,by rw[h0]⟩
 ·exact⟨_,_,rfl⟩
theorem own_ne {B:Nat} {e:TypeId} {s:Nat} {v:Value} {k:Nat} {ys:List Value} (h:u.ownsRow B e s v n ys) (hk:k<B\/u.heap.size<=k):v.ownBlock≠some k:=fun c=>by have:=h.lt k c;omega
theorem LayS.grow1 (h:LayS xs w u g n m vl va q b) {v':Value} (ho:u'.ownsRow (g+1) 3 1 v' (m+1) (Pl.atL xs m ++ [.int .i64 (Pl.cu xs m).at])) (hg:u.grownBy u' va.ownBlock):LayS xs w (u'.setCell ⟨g,1,none⟩ v') g n (m+1) vl v' q b:=by
 have hn:va.ownBlock≠some g:=own_ne h.oa (.inl (by omega))
 have hb:Below w.heap.size w u':=h.bel.grown hg h.bel.size (fun k hk=>by have:=(h.oa.lt k hk).1;have:=h.hg;omega)
 refine⟨?_,World.cell?_setCell_same' _ _ _ (by rw[grown_cell hg h.c1 hn];rfl),?_,?_,fun j=>(World.frozen?_setCell _ _ _ _).trans (grown_fz hg h.lt (h.fz j) hn),?_,owns_set (h.ol.kept hg (owns_apart h.ol h.oa (by decide))) (by omega),?_,hb.setCell (p:=⟨g,1,none⟩) h.hg _,h.hg⟩
 ·exact (World.cell?_setCell_other _ _ _ _ (fun e=>by injection e;omega)).trans (grown_cell hg h.c0 hn)
 ·exact (World.cell?_setCell_other _ _ _ _ (fun e=>by injection e;omega)).trans (grown_cell hg h.c2 hn)
 ·exact (World.cell?_setCell_other _ _ _ _ (fun e=>by injection e;omega)).trans (grown_cell hg h.c3 hn)
 ·exact Nat.lt_of_lt_of_le (Nat.lt_of_lt_of_le h.lt hg.size) (OnlyC.set g 1 u' _).size
 ·rw[Pl.atL_succ];exact owns_set ho (by omega)
theorem LayS.grow0 (h:LayS xs w u g n m vl va q b) (hk:(Pl.gl xs n).k=1) {v':Value} (ho:u'.ownsRow (g+1) 63 4 v' ((Pl.lbs xs n).length+1) (Pl.lcs xs (Pl.lbs xs n) ++ Pl.lcell xs n)) (hg:u.grownBy u' vl.ownBlock):LayS xs w (u'.setCell ⟨g,0,none⟩ v') g (n+1) m v' va q b:=by
 have hn:vl.ownBlock≠some g:=own_ne h.ol (.inl (by omega))
 have hb:Below w.heap.size w u':=h.bel.grown hg h.bel.size (fun k hk=>by have:=(h.ol.lt k hk).1;have:=h.hg;omega)
 refine⟨World.cell?_setCell_same' _ _ _ (by rw[grown_cell hg h.c0 hn];rfl),?_,?_,?_,fun j=>(World.frozen?_setCell _ _ _ _).trans (grown_fz hg h.lt (h.fz j) hn),?_,?_,owns_set (h.oa.kept hg (owns_apart h.oa h.ol (by decide))) (by omega),hb.setCell (p:=⟨g,0,none⟩) h.hg _,h.hg⟩
 ·exact (World.cell?_setCell_other _ _ _ _ (fun e=>by injection e;omega)).trans (grown_cell hg h.c1 hn)
 ·exact (World.cell?_setCell_other _ _ _ _ (fun e=>by injection e;omega)).trans (grown_cell hg h.c2 hn)
 ·exact (World.cell?_setCell_other _ _ _ _ (fun e=>by injection e;omega)).trans (grown_cell hg h.c3 hn)
 ·exact Nat.lt_of_lt_of_le (Nat.lt_of_lt_of_le h.lt hg.size) (OnlyC.set g 0 u' _).size
 ·rw[Pl.lbs_succ,if_pos hk,Pl.lcs_app,List.length_append];exact owns_set ho (by omega)
theorem LayS.next (h:LayS xs w u g n m vl va q b) (hk:(Pl.gl xs n).k≠1):LayS xs w u g (n+1) m vl va q b:=
 ⟨h.c0,h.c1,h.c2,h.c3,h.fz,h.lt,by rw[Pl.lbs_succ,if_neg hk];exact h.ol,h.oa,h.bel,h.hg⟩
theorem LayS.set2 (h:LayS xs w u g n m vl va q b) (q':Int):LayS xs w (u.setCell ⟨g,2,none⟩ (.int .i64 q')) g n m vl va q' b:=by
 refine⟨?_,?_,World.cell?_setCell_same' _ _ _ (by rw[h.c2];rfl),?_,fun j=>(World.frozen?_setCell _ _ _ _).trans (h.fz j),Nat.lt_of_lt_of_le h.lt (OnlyC.set g 2 u _).size,owns_set h.ol (by omega),owns_set h.oa (by omega),h.bel.setCell (p:=⟨g,2,none⟩) h.hg _,h.hg⟩
 ·exact (World.cell?_setCell_other _ _ _ _ (fun e=>by injection e;omega)).trans h.c0
 ·exact (World.cell?_setCell_other _ _ _ _ (fun e=>by injection e;omega)).trans h.c1
 ·exact (World.cell?_setCell_other _ _ _ _ (fun e=>by injection e;omega)).trans h.c3
theorem LayS.set3 (h:LayS xs w u g n m vl va q b) (b':Int):LayS xs w (u.setCell ⟨g,3,none⟩ (.int .i64 b')) g n m vl va q b':=by
 refine⟨?_,?_,?_,World.cell?_setCell_same' _ _ _ (by rw[h.c3];rfl),fun j=>(World.frozen?_setCell _ _ _ _).trans (h.fz j),Nat.lt_of_lt_of_le h.lt (OnlyC.set g 3 u _).size,owns_set h.ol (by omega),owns_set h.oa (by omega),h.bel.setCell (p:=⟨g,3,none⟩) h.hg _,h.hg⟩
 ·exact (World.cell?_setCell_other _ _ _ _ (fun e=>by injection e;omega)).trans h.c0
 ·exact (World.cell?_setCell_other _ _ _ _ (fun e=>by injection e;omega)).trans h.c1
 ·exact (World.cell?_setCell_other _ _ _ _ (fun e=>by injection e;omega)).trans h.c2
theorem row4L {U:World} {b:Nat} {t:TypeId} {a1 a2 a3 a4 x0 x1 x2 x3:Value} (h:U.heap[b]?=some (.cells #[a1,a2,a3,a4] t (0,0))):((((U.setCell ⟨b,0,none⟩ x0).setCell ⟨b,1,none⟩ x1).setCell ⟨b,2,none⟩ x2).setCell ⟨b,3,none⟩ x3).heap[b]?=some (.cells #[x0,x1,x2,x3] t (0,0)):=
 heap_setCell_same _ _ _ _ _ _ (heap_setCell_same _ _ _ _ _ _ (heap_setCell_same _ _ _ _ _ _ (heap_setCell_same _ _ _ _ _ _ h)))
theorem LayS.res {W0:World} (h:LayS xs W0 u g n m vl va q b) (hw:Below w.heap.size w u) {r j:Nat} (v:Value) (h1:w.heap.size<=r) (h2:r<g):LayS xs w (u.setCell ⟨r,j,none⟩ v) g n m vl va q b:=by
 have ne:∀ i,(⟨r,j,none⟩:Addr)≠⟨g,i,none⟩:=fun i e=>by injection e;omega
 exact⟨(World.cell?_setCell_other _ _ _ _ (ne 0)).trans h.c0,(World.cell?_setCell_other _ _ _ _ (ne 1)).trans h.c1,(World.cell?_setCell_other _ _ _ _ (ne 2)).trans h.c2,(World.cell?_setCell_other _ _ _ _ (ne 3)).trans h.c3,fun i=>(World.frozen?_setCell _ _ _ _).trans (h.fz i),Nat.lt_of_lt_of_le h.lt (OnlyC.set r j u v).size,owns_set h.ol (by omega),owns_set h.oa (by omega),hw.setCell (p:=⟨r,j,none⟩) h1 _,by omega⟩
theorem LayS.labels (h:LayS xs w u g n m vl va q b):∃ la lc,vl=.slice la (Pl.lbs xs n).length lc/\LbRow u la (Pl.lbs xs n).length lc xs (Pl.lbs xs n):=by
 rcases h.ol.2 with ⟨rfl,h0⟩ | ⟨k,cap,cur,rfl,hb,hk,h1,h2,h3,h4⟩
 ·exact⟨none,0,by rw[h0],rfl,by omega,Nat.zero_le _,.inl h0⟩
 ·refine⟨_,cap,rfl,rfl,h1,h2,.inr ⟨k,0,rfl,(Array.getElem?_eq_some_iff.1 hk).1,fun p hp=>?_⟩⟩
  have hc:=h.ol.cells (g:=k) rfl
  have key:∀ j v,j<4->(Pl.lcell xs ((Pl.lbs xs n).getD p 0))[j]?=some v->u.cell? ⟨k,0+p*4+j,none⟩=some v:=fun j v hj hv=>by
   have:=hc (p*4+j) v (by rw[Pl.lcs_at xs _ p j hp hj];exact hv)
   rw[Nat.zero_add]
   rw[Addr.add_lit]at this
   simpa using this
  exact⟨key 0 _ (by omega) rfl,key 1 _ (by omega) rfl,key 2 _ (by omega) rfl,key 3 _ (by omega) rfl⟩
def AtRow (w:World) (a:Option Addr) (len cap:Nat) (xs:List Pl.Ln):Prop:=
 len<=cap/\cap<=maxLen/\(len=0\/∃ b off,a=some ⟨b,off,none⟩/\b<w.heap.size/\∀ p,p<len->w.cell? ⟨b,off+p,none⟩=some (.int .i64 (Pl.cu xs p).at))
theorem AtRow.keep {a:Option Addr} {len cap:Nat} (h:AtRow w a len cap xs) (hb:Below w.heap.size w u):AtRow u a len cap xs:=by
 obtain⟨h1,h2,h3⟩:=h
 refine⟨h1,h2,?_⟩
 rcases h3 with h3 | ⟨b,off,ha,hlt,hc⟩
 ·exact .inl h3
 ·exact .inr ⟨b,off,ha,Nat.lt_of_lt_of_le hlt hb.size,fun p hp=>(hb.cell (p:=⟨b,off+p,none⟩) hlt).trans (hc p hp)⟩
theorem LayS.ats (h:LayS xs w u g n m vl va q b):∃ aa ac,va=.slice aa m ac/\AtRow u aa m ac xs:=by
 rcases h.oa.2 with ⟨rfl,h0⟩ | ⟨k,cap,cur,rfl,hb,hk,h1,h2,h3,h4⟩
 ·exact⟨none,0,by rw[h0],by omega,Nat.zero_le _,.inl h0⟩
 ·refine⟨_,cap,rfl,h1,h2,.inr ⟨k,0,rfl,(Array.getElem?_eq_some_iff.1 hk).1,fun p hp=>?_⟩⟩
  have hc:=h.oa.cells (g:=k) rfl p (.int .i64 (Pl.cu xs p).at) (by unfold Pl.atL;rw[List.getElem?_map,List.getElem?_range hp];rfl)
  rw[Addr.add_lit]at hc
  simpa using hc
def codeR (n:Nat):Code->Option Code
 | .region m ops d=>if m == n then some (.region m ops d) else none
 | .seq a b=>match codeR n a with
  | some c=>some c
  | none=>codeR n b
 | .cond _ a b=>match codeR n a with
  | some c=>some c
  | none=>codeR n b
 | .rangeFunc _ _ a b=>match codeR n a with
  | some c=>some c
  | none=>codeR n b
 | .block _ c=>codeR n c
 | .loop c=>codeR n c
 | .scope c=>codeR n c
 | _=>none
theorem infoint:(Tryz.prog.info? 3).map (fun i=>(i.zero,i.size,i.bytes))=some (some (.int .i64 0),1,8):=by kernel_rfl
theorem infoll:(Tryz.prog.info? 63).map (fun i=>(i.zero,i.size,i.bytes))=some (some (.agg #[.string ⟨#[]⟩,.int .i64 0,.int .i64 0,.bool false]),4,40):=by kernel_rfl
def ewI (x:Pl.Ins):Int:=if x.ok then Pl.enc x.op.toNat x.rd x.r1 x.r2 x.im else 0
theorem ins_nat {x:Pl.Ins} (h:x.ok=true):∃ k:Nat,x.op=k/\1<=k/\k<=47:=by
 unfold Pl.Ins.ok at h
 rw[Bool.and_eq_true,decide_eq_true_eq]at h
 exact⟨x.op.toNat,by omega,by omega,by omega⟩
theorem specEncI (x:Pl.Ins) (w:World):Calls Tryz.prog 68 #[.agg #[.int .i64 x.op,.int .i64 x.rd,.int .i64 x.r1,.int .i64 x.r2,.int .i64 x.im]] w fun e w'=>e=.returned (.tuple #[.int .i64 (ewI x),.bool x.ok])/\Below w.heap.size w w':=by
 cases h:x.ok
 ·have e:ewI x=0:=by unfold ewI;rw[h];rfl
  rw[e]
  exact specEnc_no _ _ _ _ _ h w
 ·have e:ewI x=Pl.enc x.op.toNat x.rd x.r1 x.r2 x.im:=by unfold ewI;rw[h];rfl
  rw[e]
  obtain⟨k,hk,k1,k2⟩:=ins_nat h
  have h':iok (k:Int) x.rd x.r1 x.r2 x.im=true:=by rw[<- hk];exact h
  rw[hk]
  exact specEnc_yes k k1 k2 _ _ _ _ h' w
theorem implEncI (x:Pl.Ins) (w:World):Calls Tryz.prog 43 #[.agg #[.int .i64 x.op,.int .i64 x.rd,.int .i64 x.r1,.int .i64 x.r2,.int .i64 x.im]] w fun e w'=>e=.returned (.tuple #[.int .i64 (ewI x),.bool x.ok])/\Below w.heap.size w w':=by
 cases h:x.ok
 ·have e:ewI x=0:=by unfold ewI;rw[h];rfl
  rw[e]
  exact implEnc_no _ _ _ _ _ h w
 ·have e:ewI x=Pl.enc x.op.toNat x.rd x.r1 x.r2 x.im:=by unfold ewI;rw[h];rfl
  rw[e]
  obtain⟨k,hk,k1,k2⟩:=ins_nat h
  have h':iok (k:Int) x.rd x.r1 x.r2 x.im=true:=by rw[<- hk];exact h
  rw[hk]
  exact implEnc_at k k1 k2 _ _ _ _ h' w
theorem zeroCells_u8 (m:Nat):(Builtin.zeroCells (Value.int .u8 0).cells m).toList=Pl.bcs (List.replicate m 0):=by
 unfold Builtin.zeroCells Pl.bcs
 simp[Value.cells,Nat.mod_one,List.map_const']
theorem run_append_zeros {P:Program} (w:World) (base:Nat) (t tn ty e:TypeId) (i:TypeInfo) (k kn:IntKind) (ht:P.underlying t=some (.slice e)) (htn:P.underlying tn=some (.int kn)) (hi:P.info? e=some i) (hz:i.zero=some (.int .u8 0)) (hsize:i.size=1) (hby:i.bytes=1)
  (v:Value) (l:List Int) (hown:w.ownsRow base e 1 v l.length (Pl.bcs l)) (m:Nat) (hm:l.length+m<=70368744177664) (hbase:base<=w.heap.size) :
  ∃ v' w',(Builtin.append_ #[t,tn] ty #[v,.int k m]).run P w=.ok v' w'/\w'.ownsRow base e 1 v' (l ++ List.replicate m 0).length (Pl.bcs (l ++ List.replicate m 0))/\w.grownBy w' v.ownBlock:=by
 have hw:IntKind.i64.wrap (m:Int)=m:=by rw[IntKind.wrap_i64];omega
 have hneg:¬ ((m:Int)<0):=by omega
 have h48i:¬ (281474976710656<(m:Int)):=by omega
 have hcl:(Value.int IntKind.u8 0).cells.size=1:=rfl
 have hlen:(l ++ List.replicate m 0).length=l.length+m:=by simp
 have hbl:(Pl.bcs l).length=l.length:=Pl.bcs_len l
 rw[hlen,Pl.bcs_app,<- zeroCells_u8]
 have hzl:(Builtin.zeroCells (Value.int .u8 0).cells m).toList.length=m:=by rw[zeroCells_u8,Pl.bcs_len];simp
 rcases hown.2 with ⟨rfl,h0⟩ | ⟨g,cap,cur,rfl,hbg,hg,hnc,hcm,hcs,htake⟩
 ·have hl:l=[]:=List.eq_nil_of_length_eq_zero h0
  subst hl
  by_cases hm0:m=0
  ·subst hm0
   refine⟨.slice none 0 0,w,?_,by rw[zeroCells_u8];exact World.ownsRow_nil w base e 1,⟨rfl,rfl,rfl,Nat.le_refl _,fun _ _ _=>rfl⟩⟩
   simp[Builtin.append_,run_underlying ht,run_underlying htn,sizeOf,typeInfo,zeroValue,hi,hz,asInt,asIntOf,IntKind.wrap_i64]
  ·have hr:=Lib.run_append_nil_zeros (P:=P) w t tn ty e i (.int .u8 0) k kn ht htn hi hz m (by omega) (by rw[hsize];decide) (by omega) (by rw[hby];simp at hm;omega)
   refine⟨_,_,hr,⟨by simp[Pl.bcs,hzl],.inr ⟨w.heap.size,grownCap w m 0 e,_,by simp,hbase,heap_alloc_new w.drew _,?_,grownCap_le_maxLen w m 0 e (by unfold maxLen;simp at hm;omega),?_,?_⟩⟩,⟨rfl,rfl,rfl,by simp,fun k hk _=>Below.heap_alloc w.drew _ k hk⟩⟩
   ·have:=grownCap_ge w m 0 e;simpa using this
   ·have:=grownCap_ge w m 0 e
    simp only[Array.size_append,size_zeroCells,hcl];omega
   ·simp only[Array.toList_append]
    have:(0+m)*1=(Builtin.zeroCells (Value.int .u8 0).cells m).toList.length:=by rw[hzl];omega
    simp only[List.length_nil] at *
    rw[this,List.take_left]
    rfl
 ·by_cases hroom:l.length+m<=cap
  ·by_cases hm0:m=0
   ·subst hm0
    refine⟨_,w,?_,⟨by simp[hzl,hbl],.inr ⟨g,cap,cur,rfl,hbg,hg,hnc,hcm,hcs,?_⟩⟩,⟨rfl,rfl,rfl,Nat.le_refl _,fun _ _ _=>rfl⟩⟩
    ·have hst:(storeCells (⟨g,l.length,none⟩:Addr) []).run P w=.ok () w:=by simp[storeCells]
     simp[Builtin.append_,run_underlying ht,run_underlying htn,sizeOf,typeInfo,zeroValue,hi,hz,hsize,asInt,asIntOf,IntKind.wrap_i64,hnc,Addr.add_lit,hst]
    ·rw[Nat.add_zero,htake]
     have:(Builtin.zeroCells (Value.int .u8 0).cells 0).toList=[]:=List.eq_nil_of_length_eq_zero hzl
     rw[this,List.append_nil]
   ·have hst:=run_storeCells_at P g (l.length*1) e (Builtin.zeroCells (Value.int .u8 0).cells m).toList 0 cur w hg (by rw[hzl];omega) (by intro u hu;rw[zeroCells_u8]at hu;unfold Pl.bcs at hu;obtain⟨y,_,rfl⟩:=List.mem_map.1 hu;rfl)
    simp only[Nat.add_zero,Nat.mul_one]at hst
    refine⟨.slice (some ⟨g,0,none⟩) (l.length+m) cap,_,?_,⟨by rw[List.length_append,hzl,hbl,Nat.mul_one],.inr ⟨g,cap,_,rfl,hbg,setRow_heap w g cur (cur.toList.take l.length ++ (Builtin.zeroCells (Value.int .u8 0).cells m).toList ++ cur.toList.drop (l.length+(Builtin.zeroCells (Value.int .u8 0).cells m).toList.length)).toArray e _ hg,hroom,hcm,?_,?_⟩⟩,⟨rfl,rfl,rfl,by simp,fun k _ hk=>setRow_other w g k _ (fun e=>hk (by simp[Value.ownBlock,e]))⟩⟩
    ·simp[Builtin.append_,run_underlying ht,run_underlying htn,sizeOf,typeInfo,zeroValue,hi,hz,hsize,hby,asInt,asIntOf,hw,hneg,h48i,hm0,hroom,Addr.add_lit]
     simp only[List.append_assoc,Array.length_toList]at hst
     rw[hst]
     rfl
    ·simp only[List.size_toArray,List.length_append,List.length_take,List.length_drop,Array.length_toList,hzl]
     omega
    ·rw[Nat.mul_one]at htake hcs
     rw[htake]
     have:(l.length+m)*1=(Pl.bcs l ++ (Builtin.zeroCells (Value.int .u8 0).cells m).toList).length:=by rw[List.length_append,hzl,hbl,Nat.mul_one]
     rw[this,List.take_left]
  ·have holds:∀ j u,(Pl.bcs l)[j]?=some u->w.cell? ((⟨g,0,none⟩:Addr).add j)=some u:=hown.cells (g:=g) rfl
   have hf:=run_firstCells_some (P:=P) w 1 l.length ⟨g,0,none⟩ l.length cap (Pl.bcs l) (by rw[hbl,Nat.mul_one]) holds
   have hm0:¬ m=0:=by omega
   have h63':¬ (9223372036854775807<((l.length+m:Nat):Int)):=by omega
   have hnx:¬ (281474976710656<Builtin.nextslicecap (l.length+m) cap*1):=Nat.not_lt.2 <| growslice_fits (show cap<l.length+m by omega) (show (l.length+m)*1<=140737488355328 by omega)
   have hge:=grownCap_ge w (l.length+m) cap e
   refine⟨.slice (some ⟨w.heap.size,0,none⟩) (l.length+m) (grownCap w (l.length+m) cap e),w.drew.alloc (.cells ((Pl.bcs l).toArray ++ Builtin.zeroCells (Value.int .u8 0).cells m ++ Builtin.zeroCells (Value.int .u8 0).cells (grownCap w (l.length+m) cap e-(l.length+m))) e),?_,⟨by rw[List.length_append,hzl,hbl,Nat.mul_one],.inr ⟨w.heap.size,_,_,rfl,hbase,heap_alloc_new w.drew _,hge,grownCap_le_maxLen w _ cap e (by unfold maxLen;omega),?_,?_⟩⟩,⟨rfl,rfl,rfl,by simp,fun k hk _=>Below.heap_alloc w.drew _ k hk⟩⟩
   ·simp[Builtin.append_,run_underlying ht,run_underlying htn,sizeOf,typeInfo,zeroValue,hi,hz,hsize,hby,asInt,asIntOf,hw,hneg,h48i,hm0,hroom,h63',Question.forced,newRow,grownCap,hf]
    rw[if_neg (by omega),if_neg (by simpa using hnx)]
    rw[run_firstCells_some (P:=P) w.drew 1 l.length ⟨g,0,none⟩ l.length cap (Pl.bcs l) (by rw[hbl,Nat.mul_one]) holds]
    rfl
   ·simp only[Array.size_append,size_zeroCells,hcl,List.size_toArray,hbl]
    omega
   ·simp only[Array.toList_append]
    have:(l.length+m)*1=(Pl.bcs l ++ (Builtin.zeroCells (Value.int .u8 0).cells m).toList).length:=by rw[List.length_append,hzl,hbl,Nat.mul_one]
    rw[this,List.take_left]
noncomputable def layC (n:Nat):Code:=((Tryz.f22.body.bind (codeR n)).getD .skip)
def lay16Mk (g h:Nat) (x:Pl.Ln) (q z:Int)  (c0 c1 c2 c4 c5 c7 c8 c9 c10 c11 c12 c13 c14 c15 c16 c17 c18 c19 c20 c21 c22 c23 c24 c25 c26 c27 c28 c29 c30 c31 c32 c33 c34 c35 c36 c37 c38 c39 c40 c41 c42 c43 c44 c45 c46 c47 c48 c49 c50 c51 c52 c53 c54 c55 c56 c57 c58 c65 c66 c67 c68 c69 c70 c71 c72 c73 d59 d60 d61 d62 d63 d64:Value)  (L:Array Bool):Act:={ tmps:=#[c0,c1,c2,.pointer (some ⟨g,0,none⟩),c4,c5,.pointer (some ⟨h,0,none⟩),c7,c8,c9,c10,c11,c12,c13,c14,c15,c16,c17,c18,c19,c20,c21,c22,c23,c24,c25,c26,c27,c28,c29,c30,c31,c32,c33,c34,c35,c36,c37,c38,c39,c40,c41,c42,c43,c44,c45,c46,c47,c48,c49,c50,c51,c52,c53,c54,c55,c56,c57,c58,sld d59 L 0 (.pointer (some ⟨g,2,none⟩)),sld d60 L 1 (.int .i64 q),sld d61 L 2 (.agg #[.int .i64 x.k,.int .i64 x.op,.int .i64 x.rd,.int .i64 x.r1,.int .i64 x.r2,.int .i64 x.im,.string x.s,.int .i64 x.n]),sld d62 L 3 (.int .i64 z),sld d63 L 4 (.int .i64 (q+z)),sld d64 L 5 (.pointer (some ⟨g,2,none⟩)),c65,c66,c67,c68,c69,c70,c71,c72,c73],defers:=[] }
set_option maxRecDepth 100000 in
theorem lay16 (g h:Nat) (x:Pl.Ln) (q z:Int) {c0 c1 c2 c4 c5 c7 c8 c9 c10 c11 c12 c13 c14 c15 c16 c17 c18 c19 c20 c21 c22 c23 c24 c25 c26 c27 c28 c29 c30 c31 c32 c33 c34 c35 c36 c37 c38 c39 c40 c41 c42 c43 c44 c45 c46 c47 c48 c49 c50 c51 c52 c53 c54 c55 c56 c57 c58 c65 c66 c67 c68 c69 c70 c71 c72 c73 d59 d60 d61 d62 d63 d64:Value} (Y:World) (ho:Y.cell? ⟨g,2,none⟩=some (.int .i64 q)) (hf:Y.frozen? ⟨g,2,none⟩=false) (b0:Y.cell? ⟨h,0,none⟩=some (.int .i64 x.k)) (b1:Y.cell? ⟨h,1,none⟩=some (.int .i64 x.op)) (b2:Y.cell? ⟨h,2,none⟩=some (.int .i64 x.rd)) (b3:Y.cell? ⟨h,3,none⟩=some (.int .i64 x.r1)) (b4:Y.cell? ⟨h,4,none⟩=some (.int .i64 x.r2)) (b5:Y.cell? ⟨h,5,none⟩=some (.int .i64 x.im)) (b6:Y.cell? ⟨h,6,none⟩=some (.string x.s)) (b7:Y.cell? ⟨h,7,none⟩=some (.int .i64 x.n)) (hT:∀ u:World,Calls Tryz.prog 65 #[.agg #[.int .i64 x.k,.int .i64 x.op,.int .i64 x.rd,.int .i64 x.r1,.int .i64 x.r2,.int .i64 x.im,.string x.s,.int .i64 x.n]] u fun e w'=>e=.returned (.int .i64 z)/\Below u.heap.size u w') (hb:0<=q/\q<=1310720000/\0<=z/\z<=1310720000) {Q:Exit->Act->World->Prop}
  (hK:∀ w1,Below Y.heap.size Y w1->Q .normal { tmps:=#[c0,c1,c2,.pointer (some ⟨g,0,none⟩),c4,c5,.pointer (some ⟨h,0,none⟩),c7,c8,c9,c10,c11,c12,c13,c14,c15,c16,c17,c18,c19,c20,c21,c22,c23,c24,c25,c26,c27,c28,c29,c30,c31,c32,c33,c34,c35,c36,c37,c38,c39,c40,c41,c42,c43,c44,c45,c46,c47,c48,c49,c50,c51,c52,c53,c54,c55,c56,c57,c58,.pointer (some ⟨g,2,none⟩),.int .i64 q,.agg #[.int .i64 x.k,.int .i64 x.op,.int .i64 x.rd,.int .i64 x.r1,.int .i64 x.r2,.int .i64 x.im,.string x.s,.int .i64 x.n],.int .i64 z,.int .i64 (q+z),.pointer (some ⟨g,2,none⟩),c65,c66,c67,c68,c69,c70,c71,c72,c73],defers:=[] } (w1.setCell ⟨g,2,none⟩ (.int .i64 (q+z)))) :
  (layC 16).wp Tryz.prog Q { tmps:=#[c0,c1,c2,.pointer (some ⟨g,0,none⟩),c4,c5,.pointer (some ⟨h,0,none⟩),c7,c8,c9,c10,c11,c12,c13,c14,c15,c16,c17,c18,c19,c20,c21,c22,c23,c24,c25,c26,c27,c28,c29,c30,c31,c32,c33,c34,c35,c36,c37,c38,c39,c40,c41,c42,c43,c44,c45,c46,c47,c48,c49,c50,c51,c52,c53,c54,c55,c56,c57,c58,d59,d60,d61,d62,d63,d64,c65,c66,c67,c68,c69,c70,c71,c72,c73],defers:=[] } Y:=by
 have HKt:Hid _:=hK
 clear hK
 have jo:Y.drew.cell? ⟨g,2,none⟩=some (.int .i64 q):=ho
 have jf:Y.drew.frozen? ⟨g,2,none⟩=false:=hf
 have k0:Y.drew.cell? ⟨h,0,none⟩=some (.int .i64 x.k):=b0
 have k1:Y.drew.cell? ⟨h,1,none⟩=some (.int .i64 x.op):=b1
 have k2:Y.drew.cell? ⟨h,2,none⟩=some (.int .i64 x.rd):=b2
 have k3:Y.drew.cell? ⟨h,3,none⟩=some (.int .i64 x.r1):=b3
 have k4:Y.drew.cell? ⟨h,4,none⟩=some (.int .i64 x.r2):=b4
 have k5:Y.drew.cell? ⟨h,5,none⟩=some (.int .i64 x.im):=b5
 have k6:Y.drew.cell? ⟨h,6,none⟩=some (.string x.s):=b6
 have k7:Y.drew.cell? ⟨h,7,none⟩=some (.int .i64 x.n):=b7
 have HT:Hid _:=hT
 clear hT ho hf b0 b1 b2 b3 b4 b5 b6 b7
 have hw1:IntKind.i64.wrap (q+z)=q+z:=by rw[IntKind.wrap_i64];omega
 have hw2:wrap64 (q+z)=q+z:=by unfold wrap64;omega
 conv=>arg 2;whnf
 dsimp only
 refine wp_region_any (by kernel_rfl) ?_
 change wpAny _ _ _ _ _ _ _ (World.drew _)
 refine wpAny_inw (fun L act0 u=>∃ w1,act0=lay16Mk g h x q z  c0 c1 c2 c4 c5 c7 c8 c9 c10 c11 c12 c13 c14 c15 c16 c17 c18 c19 c20 c21 c22 c23 c24 c25 c26 c27 c28 c29 c30 c31 c32 c33 c34 c35 c36 c37 c38 c39 c40 c41 c42 c43 c44 c45 c46 c47 c48 c49 c50 c51 c52 c53 c54 c55 c56 c57 c58 c65 c66 c67 c68 c69 c70 c71 c72 c73 d59 d60 d61 d62 d63 d64  L/\TwoW Y.drew (fun u=>Below Y.drew.heap.size Y.drew u) (fun u=>u=w1.setCell ⟨g,2,none⟩ (.int .i64 (q+z))) 3 6 w1 L u) ?done (by kernel_rfl) ?step _ 7 _ _ (by kernel_rfl) ?init (by decide)
 case init=>exact⟨Y,by simp only[lay16Mk,sld_no (up_init _ _)],TwoW.init⟩
 case step=>
  intro L act w i o hI hlt hs nl hC hd ho K hK
  obtain⟨w1,rfl,hW⟩:=hI
  have hi_lt:i<7:=(Array.getElem?_eq_some_iff.1 ho).1
  rcases (show i=0\/i=1\/i=2\/i=3\/i=4\/i=5\/i=6 by omega) with rfl | rfl | rfl | rfl | rfl | rfl | rfl
  ·change some _=some o at ho
   cases ho
   simp only[lay16Mk]
   go_simp
   exact hK _ _ ⟨w1,by simp only[lay16Mk,sld_set hlt,reduceIte,Nat.reduceEqDiff];try rfl,(hW.keep hlt (by decide) (by decide))⟩
  ·change some _=some o at ho
   cases ho
   have q0:up L 0=true:=hd { on:=0,ground:=.data } (by simp) rfl
   have n4:up L 4=false:=hC.no nl 4 rfl (by kernel_rfl)
   have n6:up L 6=false:=hC.no n4 6 rfl (by kernel_rfl)
   have xo:=hW.cell n6 jo (fun q=>below_cell q jo)
   simp only[lay16Mk,sld_yes q0]
   go_simp
   exact hK _ _ ⟨w1,by simp only[lay16Mk,sld_set hlt,sld_yes q0,reduceIte,Nat.reduceEqDiff];try rfl,(hW.keep hlt (by decide) (by decide))⟩
  ·change some _=some o at ho
   cases ho
   have n3:up L 3=false:=hC.no nl 3 rfl (by kernel_rfl)
   obtain rfl:=hW.1 n3
   simp only[lay16Mk]
   go_simp
   exact hK _ _ ⟨w1,by simp only[lay16Mk,sld_set hlt,reduceIte,Nat.reduceEqDiff];try rfl,(hW.keep hlt (by decide) (by decide))⟩
  ·change some _=some o at ho
   cases ho
   have q2:up L 2=true:=hd { on:=2,ground:=.data } (by simp) rfl
   have n4:up L 4=false:=hC.no nl 4 rfl (by kernel_rfl)
   have n6:up L 6=false:=hC.no n4 6 rfl (by kernel_rfl)
   obtain rfl:=hW.1 nl
   simp only[lay16Mk,sld_yes q2]
   go_simp
   refine (HT.out _).mono ?_
   rintro e w2 ⟨rfl,d1⟩
   go_simp
   exact hK _ _ ⟨w2,by simp only[lay16Mk,sld_set hlt,sld_yes q2,reduceIte,Nat.reduceEqDiff];try rfl,TwoW.first hlt (by decide) n6 d1⟩
  ·change some _=some o at ho
   cases ho
   have q1:up L 1=true:=hd { on:=1,ground:=.data } (by simp) rfl
   have q3:up L 3=true:=hd { on:=3,ground:=.data } (by simp) rfl
   simp only[lay16Mk,sld_yes q1,sld_yes q3]
   go_simp
   exact hK _ _ ⟨w1,by simp only[lay16Mk,sld_set hlt,sld_yes q1,sld_yes q3,reduceIte,Nat.reduceEqDiff];try rfl,(hW.keep hlt (by decide) (by decide))⟩
  ·change some _=some o at ho
   cases ho
   simp only[lay16Mk]
   go_simp
   exact hK _ _ ⟨w1,by simp only[lay16Mk,sld_set hlt,reduceIte,Nat.reduceEqDiff];try rfl,(hW.keep hlt (by decide) (by decide))⟩
  ·change some _=some o at ho
   cases ho
   have q4:up L 4=true:=hd { on:=4,ground:=.data } (by simp) rfl
   have q5:up L 5=true:=hd { on:=5,ground:=.data } (by simp) rfl
   have q3:up L 3=true:=hC 4 _ rfl q4 { on:=3,ground:=.data } (by simp) rfl
   obtain⟨d1,y4,_⟩:=hW.2 q3
   obtain rfl:=y4 nl
   have c1:=below_cell d1 jo
   have f1:=(Below.frozen d1 (p:=⟨g,2,none⟩) (block_lt_of_cell jo)).trans jf
   simp only[lay16Mk,sld_yes q4,sld_yes q5]
   go_simp
   exact hK _ _ ⟨w,by simp only[lay16Mk,sld_set hlt,sld_yes q4,sld_yes q5,reduceIte,Nat.reduceEqDiff];try rfl,hW.second hlt q3 rfl⟩
 case done=>
  rintro L a u ⟨w1,rfl,hW⟩ hall
  simp only[lay16Mk,sld_yes (hall 0 (by decide)),sld_yes (hall 1 (by decide)),sld_yes (hall 2 (by decide)),sld_yes (hall 3 (by decide)),sld_yes (hall 4 (by decide)),sld_yes (hall 5 (by decide)),sld_yes (hall 6 (by decide))]
  obtain⟨d1,_,hB⟩:=hW.2 (hall 3 (by decide))
  obtain rfl:=hB (hall 6 (by decide))
  exact HKt.out w1 (Below.trans (Below.drew (Below.refl _ _)) d1)
def lay17Mk (g h:Nat) (x:Pl.Ln) (q z:Int)  (c0 c1 c2 c4 c5 c7 c8 c9 c10 c11 c12 c13 c14 c15 c16 c17 c18 c19 c20 c21 c22 c23 c24 c25 c26 c27 c28 c29 c30 c31 c32 c33 c34 c35 c36 c37 c38 c39 c40 c41 c42 c43 c44 c45 c46 c47 c48 c49 c50 c51 c52 c53 c54 c55 c56 c57 c58 c59 c60 c61 c62 c63 c64 c73 d65 d66 d67 d68 d69 d70 d71 d72:Value)  (L:Array Bool):Act:={ tmps:=#[c0,c1,c2,.pointer (some ⟨g,0,none⟩),c4,c5,.pointer (some ⟨h,0,none⟩),c7,c8,c9,c10,c11,c12,c13,c14,c15,c16,c17,c18,c19,c20,c21,c22,c23,c24,c25,c26,c27,c28,c29,c30,c31,c32,c33,c34,c35,c36,c37,c38,c39,c40,c41,c42,c43,c44,c45,c46,c47,c48,c49,c50,c51,c52,c53,c54,c55,c56,c57,c58,c59,c60,c61,c62,c63,c64,sld d65 L 0 (.pointer (some ⟨g,3,none⟩)),sld d66 L 1 (.int .i64 q),sld d67 L 2 (.agg #[.int .i64 x.k,.int .i64 x.op,.int .i64 x.rd,.int .i64 x.r1,.int .i64 x.r2,.int .i64 x.im,.string x.s,.int .i64 x.n]),sld d68 L 3 (.pointer (some ⟨g,3,none⟩)),sld d69 L 4 (.int .i64 q),sld d70 L 5 (.int .i64 z),sld d71 L 6 (.int .i64 (q+z)),sld d72 L 7 (.pointer (some ⟨g,3,none⟩)),c73],defers:=[] }
set_option maxRecDepth 100000 in
theorem lay17 (g h:Nat) (x:Pl.Ln) (q z:Int) {c0 c1 c2 c4 c5 c7 c8 c9 c10 c11 c12 c13 c14 c15 c16 c17 c18 c19 c20 c21 c22 c23 c24 c25 c26 c27 c28 c29 c30 c31 c32 c33 c34 c35 c36 c37 c38 c39 c40 c41 c42 c43 c44 c45 c46 c47 c48 c49 c50 c51 c52 c53 c54 c55 c56 c57 c58 c59 c60 c61 c62 c63 c64 c73 d65 d66 d67 d68 d69 d70 d71 d72:Value} (Y:World) (ho:Y.cell? ⟨g,3,none⟩=some (.int .i64 q)) (hf:Y.frozen? ⟨g,3,none⟩=false) (b0:Y.cell? ⟨h,0,none⟩=some (.int .i64 x.k)) (b1:Y.cell? ⟨h,1,none⟩=some (.int .i64 x.op)) (b2:Y.cell? ⟨h,2,none⟩=some (.int .i64 x.rd)) (b3:Y.cell? ⟨h,3,none⟩=some (.int .i64 x.r1)) (b4:Y.cell? ⟨h,4,none⟩=some (.int .i64 x.r2)) (b5:Y.cell? ⟨h,5,none⟩=some (.int .i64 x.im)) (b6:Y.cell? ⟨h,6,none⟩=some (.string x.s)) (b7:Y.cell? ⟨h,7,none⟩=some (.int .i64 x.n)) (hT:∀ u:World,Calls Tryz.prog 66 #[.agg #[.int .i64 x.k,.int .i64 x.op,.int .i64 x.rd,.int .i64 x.r1,.int .i64 x.r2,.int .i64 x.im,.string x.s,.int .i64 x.n],.int .i64 q] u fun e w'=>e=.returned (.int .i64 z)/\Below u.heap.size u w') (hb:0<=q/\q<=1310720000/\0<=z/\z<=1310720000) {Q:Exit->Act->World->Prop}
  (hK:∀ w1,Below Y.heap.size Y w1->Q .normal { tmps:=#[c0,c1,c2,.pointer (some ⟨g,0,none⟩),c4,c5,.pointer (some ⟨h,0,none⟩),c7,c8,c9,c10,c11,c12,c13,c14,c15,c16,c17,c18,c19,c20,c21,c22,c23,c24,c25,c26,c27,c28,c29,c30,c31,c32,c33,c34,c35,c36,c37,c38,c39,c40,c41,c42,c43,c44,c45,c46,c47,c48,c49,c50,c51,c52,c53,c54,c55,c56,c57,c58,c59,c60,c61,c62,c63,c64,.pointer (some ⟨g,3,none⟩),.int .i64 q,.agg #[.int .i64 x.k,.int .i64 x.op,.int .i64 x.rd,.int .i64 x.r1,.int .i64 x.r2,.int .i64 x.im,.string x.s,.int .i64 x.n],.pointer (some ⟨g,3,none⟩),.int .i64 q,.int .i64 z,.int .i64 (q+z),.pointer (some ⟨g,3,none⟩),c73],defers:=[] } (w1.setCell ⟨g,3,none⟩ (.int .i64 (q+z)))) :
  (layC 17).wp Tryz.prog Q { tmps:=#[c0,c1,c2,.pointer (some ⟨g,0,none⟩),c4,c5,.pointer (some ⟨h,0,none⟩),c7,c8,c9,c10,c11,c12,c13,c14,c15,c16,c17,c18,c19,c20,c21,c22,c23,c24,c25,c26,c27,c28,c29,c30,c31,c32,c33,c34,c35,c36,c37,c38,c39,c40,c41,c42,c43,c44,c45,c46,c47,c48,c49,c50,c51,c52,c53,c54,c55,c56,c57,c58,c59,c60,c61,c62,c63,c64,d65,d66,d67,d68,d69,d70,d71,d72,c73],defers:=[] } Y:=by
 have HKt:Hid _:=hK
 clear hK
 have jo:Y.drew.cell? ⟨g,3,none⟩=some (.int .i64 q):=ho
 have jf:Y.drew.frozen? ⟨g,3,none⟩=false:=hf
 have k0:Y.drew.cell? ⟨h,0,none⟩=some (.int .i64 x.k):=b0
 have k1:Y.drew.cell? ⟨h,1,none⟩=some (.int .i64 x.op):=b1
 have k2:Y.drew.cell? ⟨h,2,none⟩=some (.int .i64 x.rd):=b2
 have k3:Y.drew.cell? ⟨h,3,none⟩=some (.int .i64 x.r1):=b3
 have k4:Y.drew.cell? ⟨h,4,none⟩=some (.int .i64 x.r2):=b4
 have k5:Y.drew.cell? ⟨h,5,none⟩=some (.int .i64 x.im):=b5
 have k6:Y.drew.cell? ⟨h,6,none⟩=some (.string x.s):=b6
 have k7:Y.drew.cell? ⟨h,7,none⟩=some (.int .i64 x.n):=b7
 have HT:Hid _:=hT
 clear hT ho hf b0 b1 b2 b3 b4 b5 b6 b7
 have hw1:IntKind.i64.wrap (q+z)=q+z:=by rw[IntKind.wrap_i64];omega
 have hw2:wrap64 (q+z)=q+z:=by unfold wrap64;omega
 conv=>arg 2;whnf
 dsimp only
 refine wp_region_any (by kernel_rfl) ?_
 change wpAny _ _ _ _ _ _ _ (World.drew _)
 refine wpAny_inw (fun L act0 u=>∃ w1,act0=lay17Mk g h x q z  c0 c1 c2 c4 c5 c7 c8 c9 c10 c11 c12 c13 c14 c15 c16 c17 c18 c19 c20 c21 c22 c23 c24 c25 c26 c27 c28 c29 c30 c31 c32 c33 c34 c35 c36 c37 c38 c39 c40 c41 c42 c43 c44 c45 c46 c47 c48 c49 c50 c51 c52 c53 c54 c55 c56 c57 c58 c59 c60 c61 c62 c63 c64 c73 d65 d66 d67 d68 d69 d70 d71 d72  L/\TwoW Y.drew (fun u=>Below Y.drew.heap.size Y.drew u) (fun u=>u=w1.setCell ⟨g,3,none⟩ (.int .i64 (q+z))) 5 8 w1 L u) ?done (by kernel_rfl) ?step _ 9 _ _ (by kernel_rfl) ?init (by decide)
 case init=>exact⟨Y,by simp only[lay17Mk,sld_no (up_init _ _)],TwoW.init⟩
 case step=>
  intro L act w i o hI hlt hs nl hC hd ho K hK
  obtain⟨w1,rfl,hW⟩:=hI
  have hi_lt:i<9:=(Array.getElem?_eq_some_iff.1 ho).1
  rcases (show i=0\/i=1\/i=2\/i=3\/i=4\/i=5\/i=6\/i=7\/i=8 by omega) with rfl | rfl | rfl | rfl | rfl | rfl | rfl | rfl | rfl
  ·change some _=some o at ho
   cases ho
   simp only[lay17Mk]
   go_simp
   exact hK _ _ ⟨w1,by simp only[lay17Mk,sld_set hlt,reduceIte,Nat.reduceEqDiff];try rfl,(hW.keep hlt (by decide) (by decide))⟩
  ·change some _=some o at ho
   cases ho
   have q0:up L 0=true:=hd { on:=0,ground:=.data } (by simp) rfl
   have n6:up L 6=false:=hC.no nl 6 rfl (by kernel_rfl)
   have n8:up L 8=false:=hC.no n6 8 rfl (by kernel_rfl)
   have xo:=hW.cell n8 jo (fun q=>below_cell q jo)
   simp only[lay17Mk,sld_yes q0]
   go_simp
   exact hK _ _ ⟨w1,by simp only[lay17Mk,sld_set hlt,sld_yes q0,reduceIte,Nat.reduceEqDiff];try rfl,(hW.keep hlt (by decide) (by decide))⟩
  ·change some _=some o at ho
   cases ho
   have n5:up L 5=false:=hC.no nl 5 rfl (by kernel_rfl)
   obtain rfl:=hW.1 n5
   simp only[lay17Mk]
   go_simp
   exact hK _ _ ⟨w1,by simp only[lay17Mk,sld_set hlt,reduceIte,Nat.reduceEqDiff];try rfl,(hW.keep hlt (by decide) (by decide))⟩
  ·change some _=some o at ho
   cases ho
   simp only[lay17Mk]
   go_simp
   exact hK _ _ ⟨w1,by simp only[lay17Mk,sld_set hlt,reduceIte,Nat.reduceEqDiff];try rfl,(hW.keep hlt (by decide) (by decide))⟩
  ·change some _=some o at ho
   cases ho
   have q3:up L 3=true:=hd { on:=3,ground:=.data } (by simp) rfl
   have n5:up L 5=false:=hC.no nl 5 rfl (by kernel_rfl)
   obtain rfl:=hW.1 n5
   simp only[lay17Mk,sld_yes q3]
   go_simp
   exact hK _ _ ⟨w1,by simp only[lay17Mk,sld_set hlt,sld_yes q3,reduceIte,Nat.reduceEqDiff];try rfl,(hW.keep hlt (by decide) (by decide))⟩
  ·change some _=some o at ho
   cases ho
   have q2:up L 2=true:=hd { on:=2,ground:=.data } (by simp) rfl
   have q4:up L 4=true:=hd { on:=4,ground:=.data } (by simp) rfl
   have n6:up L 6=false:=hC.no nl 6 rfl (by kernel_rfl)
   have n8:up L 8=false:=hC.no n6 8 rfl (by kernel_rfl)
   obtain rfl:=hW.1 nl
   simp only[lay17Mk,sld_yes q2,sld_yes q4]
   go_simp
   refine (HT.out _).mono ?_
   rintro e w2 ⟨rfl,d1⟩
   go_simp
   exact hK _ _ ⟨w2,by simp only[lay17Mk,sld_set hlt,sld_yes q2,sld_yes q4,reduceIte,Nat.reduceEqDiff];try rfl,TwoW.first hlt (by decide) n8 d1⟩
  ·change some _=some o at ho
   cases ho
   have q1:up L 1=true:=hd { on:=1,ground:=.data } (by simp) rfl
   have q5:up L 5=true:=hd { on:=5,ground:=.data } (by simp) rfl
   simp only[lay17Mk,sld_yes q1,sld_yes q5]
   go_simp
   exact hK _ _ ⟨w1,by simp only[lay17Mk,sld_set hlt,sld_yes q1,sld_yes q5,reduceIte,Nat.reduceEqDiff];try rfl,(hW.keep hlt (by decide) (by decide))⟩
  ·change some _=some o at ho
   cases ho
   simp only[lay17Mk]
   go_simp
   exact hK _ _ ⟨w1,by simp only[lay17Mk,sld_set hlt,reduceIte,Nat.reduceEqDiff];try rfl,(hW.keep hlt (by decide) (by decide))⟩
  ·change some _=some o at ho
   cases ho
   have q6:up L 6=true:=hd { on:=6,ground:=.data } (by simp) rfl
   have q7:up L 7=true:=hd { on:=7,ground:=.data } (by simp) rfl
   have q5:up L 5=true:=hC 6 _ rfl q6 { on:=5,ground:=.data } (by simp) rfl
   obtain⟨d1,y4,_⟩:=hW.2 q5
   obtain rfl:=y4 nl
   have c1:=below_cell d1 jo
   have f1:=(Below.frozen d1 (p:=⟨g,3,none⟩) (block_lt_of_cell jo)).trans jf
   simp only[lay17Mk,sld_yes q6,sld_yes q7]
   go_simp
   exact hK _ _ ⟨w,by simp only[lay17Mk,sld_set hlt,sld_yes q6,sld_yes q7,reduceIte,Nat.reduceEqDiff];try rfl,hW.second hlt q5 rfl⟩
 case done=>
  rintro L a u ⟨w1,rfl,hW⟩ hall
  simp only[lay17Mk,sld_yes (hall 0 (by decide)),sld_yes (hall 1 (by decide)),sld_yes (hall 2 (by decide)),sld_yes (hall 3 (by decide)),sld_yes (hall 4 (by decide)),sld_yes (hall 5 (by decide)),sld_yes (hall 6 (by decide)),sld_yes (hall 7 (by decide)),sld_yes (hall 8 (by decide))]
  obtain⟨d1,_,hB⟩:=hW.2 (hall 5 (by decide))
  obtain rfl:=hB (hall 8 (by decide))
  exact HKt.out w1 (Below.trans (Below.drew (Below.refl _ _)) d1)
end Go.Proofs.YtlbomnnldkeocaaGreat.W
