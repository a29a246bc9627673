import Derived.Test.YtnapeklkhkonhaaGreatDoorP24
import Derived.Test.YtnapeklkhkonhaaGreatDoorP00
set_option linter.unusedVariables false
namespace Go.Proofs.YtnapeklkhkonhaaGreatDoor.Pl
def fRd (f : Nat) (n : Int) : Int := if us f 0 then n / pw 7 % pw 5 else 0
def fR1 (f : Nat) (n : Int) : Int := if us f 1 then n / pw 15 % pw 5 else 0
def fR2 (f : Nat) (n : Int) : Int := if us f 2 then n / pw 20 % pw 5 else 0
end Go.Proofs.YtnapeklkhkonhaaGreatDoor.Pl
namespace Go.Proofs.YtnapeklkhkonhaaGreatDoor.W
open Go.RowKit
theorem readImm_any (n : Int) (f : Nat) (h1 : 1 ≤ f) (h2 : f ≤ 8) (w : World) :
    Calls Tryz.prog 111 #[.int .i64 n, .agg (Pl.ruleV f)] w fun e w' => e = .returned (.int .i64 (Pl.gIm f n)) ∧ Below w.heap.size w w' := by
  rcases Pl.form_cases f h1 h2 with rfl | rfl | rfl | rfl | rfl | rfl | rfl | rfl
  · exact readImm_1 n w
  · exact readImm_2 n w
  · exact readImm_3 n w
  · exact readImm_4 n w
  · exact readImm_5 n w
  · exact readImm_6 n w
  · exact readImm_7 n w
  · exact readImm_8 n w
theorem calls_at5 {P : Program} {f : Nat} {args : Array Value} {W : World} {Q : Ending → World → Prop} (h : ∀ U, U = W → Calls P f args U Q) : Calls P f args W Q := h W rfl
theorem below_setRow5 {B : Nat} {a b : World} (h : Below B a b) {g : Nat} (hp : B ≤ g) (cs : Array Value) : Below B a (b.setRow g cs) :=
  ⟨h.os, h.tape, h.output, by simpa using h.size, fun k hk => (setRow_other b g k cs (by omega)).trans (h.block k hk)⟩
theorem row_put5 {u : World} {g : Nat} {cs cs' : Array Value} {t : TypeId} (q : u.heap[g]? = some (.cells cs t)) (j : Nat) (x : Value) (e : cs.setIfInBounds j x = cs') : (u.setCell ⟨g, j, none⟩ x).heap[g]? = some (.cells cs' t) := by
  rw [← e]; exact heap_setCell_same u g j cs t x q
set_option maxHeartbeats 4000000 in
theorem readFields_any (n : Int) (f : Nat) (h1 : 1 ≤ f) (h2 : f ≤ 8) (w : World) :
    Calls Tryz.prog 96 #[.int .i64 n, .agg (Pl.ruleV f)] w fun e w' => e = .returned (.agg #[.int .i64 0, .int .i64 (Pl.fRd f n), .int .i64 (Pl.fR1 f n), .int .i64 (Pl.fR2 f n), .int .i64 (Pl.gIm f n)]) ∧ Below w.heap.size w w' := by
  have hri := fun W => readImm_any n f h1 h2 W
  unfold Pl.ruleV at hri ⊢
  unfold Pl.fRd Pl.fR1 Pl.fR2
  obtain ⟨q0, e0⟩ : ∃ q, q = Pl.us f 0 := ⟨_, rfl⟩
  obtain ⟨q1, e1⟩ : ∃ q, q = Pl.us f 1 := ⟨_, rfl⟩
  obtain ⟨q2, e2⟩ : ∃ q, q = Pl.us f 2 := ⟨_, rfl⟩
  rw [← e0, ← e1, ← e2] at hri ⊢
  have HRI : Hid _ := hri
  obtain ⟨gi, hgi⟩ : ∃ gi, gi = Pl.gIm f n := ⟨_, rfl⟩
  clear hri e0 e1 e2
  have P0 : Hid (((w.alloc (.cells #[.bool q0, .bool q1, .bool q2, .int .i64 (Pl.lo f), .int .i64 (Pl.hi f), .int .i64 (Pl.st f), .int .i64 (Pl.pa f 0), .int .i64 (Pl.pa f 1), .int .i64 (Pl.pa f 2), .int .i64 (Pl.pa f 3), .int .i64 (Pl.pa f 4), .int .i64 (Pl.pa f 5), .int .i64 (Pl.pa f 6), .int .i64 (Pl.pa f 7), .int .i64 (Pl.pa f 8), .int .i64 (Pl.pa f 9), .int .i64 (Pl.pa f 10), .int .i64 (Pl.pa f 11)] 117)).alloc (.cells #[.int .i64 0, .int .i64 0, .int .i64 0, .int .i64 0, .int .i64 0] 67)).heap[w.heap.size]? = some (.cells #[.bool q0, .bool q1, .bool q2, .int .i64 (Pl.lo f), .int .i64 (Pl.hi f), .int .i64 (Pl.st f), .int .i64 (Pl.pa f 0), .int .i64 (Pl.pa f 1), .int .i64 (Pl.pa f 2), .int .i64 (Pl.pa f 3), .int .i64 (Pl.pa f 4), .int .i64 (Pl.pa f 5), .int .i64 (Pl.pa f 6), .int .i64 (Pl.pa f 7), .int .i64 (Pl.pa f 8), .int .i64 (Pl.pa f 9), .int .i64 (Pl.pa f 10), .int .i64 (Pl.pa f 11)] 117)) := (Below.heap_alloc _ _ _ (by simp)).trans (heap_alloc_new w _)
  go_enter Tryz.func96, Tryz.ntmps96
  go_wp2_with (refine wpList_load_row rfl 117 _ rfl (w.heap.size) ?hx 117 #[.bool q0, .bool q1, .bool q2, .int .i64 (Pl.lo f), .int .i64 (Pl.hi f), .int .i64 (Pl.st f), .int .i64 (Pl.pa f 0), .int .i64 (Pl.pa f 1), .int .i64 (Pl.pa f 2), .int .i64 (Pl.pa f 3), .int .i64 (Pl.pa f 4), .int .i64 (Pl.pa f 5), .int .i64 (Pl.pa f 6), .int .i64 (Pl.pa f 7), .int .i64 (Pl.pa f 8), .int .i64 (Pl.pa f 9), .int .i64 (Pl.pa f 10), .int .i64 (Pl.pa f 11)] (0, 0) _ ?hg Tryz.underlying117 ?hd ?hi ?_; (case hx => rfl); (case hg => exact P0.out); (case hd => rfl); (case hi => kernel_rfl))
  refine calls_at5 fun u0 hu0 => ?_
  have X0 : Hid (u0.heap[w.heap.size + 1]? = some (.cells #[.int .i64 0, .int .i64 0, .int .i64 0, .int .i64 0, .int .i64 0] 67)) := by
    show u0.heap[w.heap.size + 1]? = _
    rw [hu0]
    have := heap_alloc_new (w.alloc (.cells #[.bool q0, .bool q1, .bool q2, .int .i64 (Pl.lo f), .int .i64 (Pl.hi f), .int .i64 (Pl.st f), .int .i64 (Pl.pa f 0), .int .i64 (Pl.pa f 1), .int .i64 (Pl.pa f 2), .int .i64 (Pl.pa f 3), .int .i64 (Pl.pa f 4), .int .i64 (Pl.pa f 5), .int .i64 (Pl.pa f 6), .int .i64 (Pl.pa f 7), .int .i64 (Pl.pa f 8), .int .i64 (Pl.pa f 9), .int .i64 (Pl.pa f 10), .int .i64 (Pl.pa f 11)] 117)) (.cells #[.int .i64 0, .int .i64 0, .int .i64 0, .int .i64 0, .int .i64 0] 67)
    simpa using this
  have B0 : Hid (Below w.heap.size w u0) := by
    show Below w.heap.size w u0
    rw [hu0]
    exact ((Below.refl _ _).alloc (Nat.le_refl _) _).alloc (by simp) _
  have Z0 : Hid (w.heap.size + 1 < u0.heap.size) := by show w.heap.size + 1 < u0.heap.size; rw [hu0]; simp
  rw [← hu0] at P0
  clear hu0
  refine (HRI.out u0).mono ?_
  rintro e u1 ⟨rfl, d1⟩
  rw [← hgi]
  have HGI : Hid (gi = Pl.gIm f n) := hgi
  clear hgi
  have P1 : Hid (u1.heap[w.heap.size]? = some (.cells #[.bool q0, .bool q1, .bool q2, .int .i64 (Pl.lo f), .int .i64 (Pl.hi f), .int .i64 (Pl.st f), .int .i64 (Pl.pa f 0), .int .i64 (Pl.pa f 1), .int .i64 (Pl.pa f 2), .int .i64 (Pl.pa f 3), .int .i64 (Pl.pa f 4), .int .i64 (Pl.pa f 5), .int .i64 (Pl.pa f 6), .int .i64 (Pl.pa f 7), .int .i64 (Pl.pa f 8), .int .i64 (Pl.pa f 9), .int .i64 (Pl.pa f 10), .int .i64 (Pl.pa f 11)] 117)) := (d1.block _ (by have := Z0.out; omega)).trans P0.out
  have X1 : Hid (u1.heap[w.heap.size + 1]? = some (.cells #[.int .i64 0, .int .i64 0, .int .i64 0, .int .i64 0, .int .i64 0] 67)) := (d1.block _ (by have := Z0.out; omega)).trans X0.out
  have B1 : Hid (Below w.heap.size w u1) := B0.out.trans (d1.mono (by have := Z0.out; omega))
  have Z1 : Hid (w.heap.size + 1 < u1.heap.size) := Nat.lt_of_lt_of_le Z0.out d1.size
  clear d1 P0 X0 B0 Z0 HRI
  go_wp2_with (refine wpList_store_row rfl 67 _ _ rfl u1.heap.size #[.int .i64 0, .int .i64 0, .int .i64 0, .int .i64 0, .int .i64 gi] ?hx ?hy 67 #[.int .i64 0, .int .i64 0, .int .i64 0, .int .i64 0, .int .i64 0] ?hg ?hi ?ho ?h1 ?_; (case hx => rfl); (case hy => rfl); (case hg => exact heap_alloc_new u1 _); (case hi => kernel_rfl); (case ho => kernel_rfl); (case h1 => kernel_rfl); refine Hid.out ?_)
  unfold Hid
  rw [World.setRow_alloc_new]
  refine wpList_at fun u2 hu2 => ?_
  have d2 : Below u1.heap.size u1 u2 := by rw [hu2]; exact below_alloc u1 _
  have Y2 : Hid (u2.heap[u1.heap.size]? = some (.cells #[.int .i64 0, .int .i64 0, .int .i64 0, .int .i64 0, .int .i64 gi] 67)) := by show u2.heap[u1.heap.size]? = _; rw [hu2]; exact heap_alloc_new u1 _
  have P2 : Hid (u2.heap[w.heap.size]? = some (.cells #[.bool q0, .bool q1, .bool q2, .int .i64 (Pl.lo f), .int .i64 (Pl.hi f), .int .i64 (Pl.st f), .int .i64 (Pl.pa f 0), .int .i64 (Pl.pa f 1), .int .i64 (Pl.pa f 2), .int .i64 (Pl.pa f 3), .int .i64 (Pl.pa f 4), .int .i64 (Pl.pa f 5), .int .i64 (Pl.pa f 6), .int .i64 (Pl.pa f 7), .int .i64 (Pl.pa f 8), .int .i64 (Pl.pa f 9), .int .i64 (Pl.pa f 10), .int .i64 (Pl.pa f 11)] 117)) := (d2.block _ (by have := Z1.out; omega)).trans P1.out
  have X2 : Hid (u2.heap[w.heap.size + 1]? = some (.cells #[.int .i64 0, .int .i64 0, .int .i64 0, .int .i64 0, .int .i64 0] 67)) := (d2.block _ Z1.out).trans X1.out
  have B2 : Hid (Below w.heap.size w u2) := B1.out.trans (d2.mono (by have := Z1.out; omega))
  clear d2 hu2 P1 X1 B1
  obtain ⟨g, hg⟩ : ∃ g, g = u1.heap.size := ⟨_, rfl⟩
  rw [← hg] at Z1 Y2 ⊢
  have Z2 : w.heap.size + 1 < g := Z1.out
  clear hg Z1
  have kp : ∀ j, u2.cell? ⟨w.heap.size, j, none⟩ = (#[.bool q0, .bool q1, .bool q2, .int .i64 (Pl.lo f), .int .i64 (Pl.hi f), .int .i64 (Pl.st f), .int .i64 (Pl.pa f 0), .int .i64 (Pl.pa f 1), .int .i64 (Pl.pa f 2), .int .i64 (Pl.pa f 3), .int .i64 (Pl.pa f 4), .int .i64 (Pl.pa f 5), .int .i64 (Pl.pa f 6), .int .i64 (Pl.pa f 7), .int .i64 (Pl.pa f 8), .int .i64 (Pl.pa f 9), .int .i64 (Pl.pa f 10), .int .i64 (Pl.pa f 11)] : Array Value)[j]? := fun j => cell_of_row u2 w.heap.size j _ 117 (0, 0) P2.out
  have ky : ∀ j, u2.cell? ⟨g, j, none⟩ = (#[.int .i64 0, .int .i64 0, .int .i64 0, .int .i64 0, .int .i64 gi] : Array Value)[j]? := fun j => cell_of_row u2 g j _ 67 (0, 0) Y2.out
  have kf : ∀ j, u2.frozen? ⟨g, j, none⟩ = false := fun j => frozen_of_row u2 g j _ 67 Y2.out
  have ne1 : ¬ w.heap.size = g := by omega
  have ne2 : ¬ g = w.heap.size := by omega
  cases q0 <;> cases q1 <;> cases q2
  · go_wp2_with (first | (go_at_call 112; refine (bitsOf_is _ _ _ (by decide) (by decide) _).mono ?_; rintro e u3 ⟨rfl, mm, rfl⟩) | (refine wpList_load_row rfl 67 _ rfl g ?hx 67 #[.int .i64 0, .int .i64 0, .int .i64 0, .int .i64 0, .int .i64 gi] (0, 0) _ ?hg Tryz.underlying67 ?hd ?hi ?_; (case hx => rfl); (case hg => exact Y2.out); (case hd => rfl); (case hi => kernel_rfl)) | (refine wpList_store_row rfl 67 _ _ rfl (w.heap.size + 1) #[.int .i64 0, .int .i64 0, .int .i64 0, .int .i64 0, .int .i64 gi] ?hx ?hy 67 #[.int .i64 0, .int .i64 0, .int .i64 0, .int .i64 0, .int .i64 0] ?hg ?hi ?ho ?h1 ?_; (case hx => rfl); (case hy => rfl); (case hg => exact X2.out); (case hi => kernel_rfl); (case ho => kernel_rfl); (case h1 => kernel_rfl); refine Hid.out ?_))
    unfold Hid
    go_wp2_with fail
    refine bodyPost_ret (v := .agg #[.int .i64 0, .int .i64 0, .int .i64 0, .int .i64 0, .int .i64 gi]) ?hres rfl ⟨by rw [HGI.out], ?_⟩
    case hres =>
      refine results_cell_row Tryz.results96 _ _ (w.heap.size + 1) 67 #[.int .i64 0, .int .i64 0, .int .i64 0, .int .i64 0, .int .i64 gi] (0, 0) _ ?hp ?hg Tryz.underlying67 ?hd ?hi
      case hp => rfl
      case hg => exact setRow_heap _ _ _ _ _ _ (X2.out)
      case hd => rfl
      case hi => kernel_rfl
    exact below_setRow5 (B2.out) (show w.heap.size ≤ w.heap.size + 1 by omega) _
  · go_wp2_with (first | (go_at_call 112; refine (bitsOf_is _ _ _ (by decide) (by decide) _).mono ?_; rintro e u3 ⟨rfl, mm, rfl⟩) | (refine wpList_load_row rfl 67 _ rfl g ?hx 67 #[.int .i64 0, .int .i64 0, .int .i64 0, .int .i64 (n / Pl.pw 20 % Pl.pw 5), .int .i64 gi] (0, 0) _ ?hg Tryz.underlying67 ?hd ?hi ?_; (case hx => rfl); (case hg => exact row_put5 (keep_drew (Y2.out)) _ _ rfl); (case hd => rfl); (case hi => kernel_rfl)) | (refine wpList_store_row rfl 67 _ _ rfl (w.heap.size + 1) #[.int .i64 0, .int .i64 0, .int .i64 0, .int .i64 (n / Pl.pw 20 % Pl.pw 5), .int .i64 gi] ?hx ?hy 67 #[.int .i64 0, .int .i64 0, .int .i64 0, .int .i64 0, .int .i64 0] ?hg ?hi ?ho ?h1 ?_; (case hx => rfl); (case hy => rfl); (case hg => exact keep_other (keep_drew (X2.out)) (Nat.ne_of_lt Z2)); (case hi => kernel_rfl); (case ho => kernel_rfl); (case h1 => kernel_rfl); refine Hid.out ?_))
    unfold Hid
    go_wp2_with fail
    refine bodyPost_ret (v := .agg #[.int .i64 0, .int .i64 0, .int .i64 0, .int .i64 (n / Pl.pw 20 % Pl.pw 5), .int .i64 gi]) ?hres rfl ⟨by rw [HGI.out], ?_⟩
    case hres =>
      refine results_cell_row Tryz.results96 _ _ (w.heap.size + 1) 67 #[.int .i64 0, .int .i64 0, .int .i64 0, .int .i64 (n / Pl.pw 20 % Pl.pw 5), .int .i64 gi] (0, 0) _ ?hp ?hg Tryz.underlying67 ?hd ?hi
      case hp => rfl
      case hg => exact setRow_heap _ _ _ _ _ _ (keep_other (keep_drew (X2.out)) (Nat.ne_of_lt Z2))
      case hd => rfl
      case hi => kernel_rfl
    exact below_setRow5 (((below_drewN (B2.out) _).setCell (show w.heap.size ≤ g by omega) _)) (show w.heap.size ≤ w.heap.size + 1 by omega) _
  · go_wp2_with (first | (go_at_call 112; refine (bitsOf_is _ _ _ (by decide) (by decide) _).mono ?_; rintro e u3 ⟨rfl, mm, rfl⟩) | (refine wpList_load_row rfl 67 _ rfl g ?hx 67 #[.int .i64 0, .int .i64 0, .int .i64 (n / Pl.pw 15 % Pl.pw 5), .int .i64 0, .int .i64 gi] (0, 0) _ ?hg Tryz.underlying67 ?hd ?hi ?_; (case hx => rfl); (case hg => exact row_put5 (keep_drew (Y2.out)) _ _ rfl); (case hd => rfl); (case hi => kernel_rfl)) | (refine wpList_store_row rfl 67 _ _ rfl (w.heap.size + 1) #[.int .i64 0, .int .i64 0, .int .i64 (n / Pl.pw 15 % Pl.pw 5), .int .i64 0, .int .i64 gi] ?hx ?hy 67 #[.int .i64 0, .int .i64 0, .int .i64 0, .int .i64 0, .int .i64 0] ?hg ?hi ?ho ?h1 ?_; (case hx => rfl); (case hy => rfl); (case hg => exact keep_other (keep_drew (X2.out)) (Nat.ne_of_lt Z2)); (case hi => kernel_rfl); (case ho => kernel_rfl); (case h1 => kernel_rfl); refine Hid.out ?_))
    unfold Hid
    go_wp2_with fail
    refine bodyPost_ret (v := .agg #[.int .i64 0, .int .i64 0, .int .i64 (n / Pl.pw 15 % Pl.pw 5), .int .i64 0, .int .i64 gi]) ?hres rfl ⟨by rw [HGI.out], ?_⟩
    case hres =>
      refine results_cell_row Tryz.results96 _ _ (w.heap.size + 1) 67 #[.int .i64 0, .int .i64 0, .int .i64 (n / Pl.pw 15 % Pl.pw 5), .int .i64 0, .int .i64 gi] (0, 0) _ ?hp ?hg Tryz.underlying67 ?hd ?hi
      case hp => rfl
      case hg => exact setRow_heap _ _ _ _ _ _ (keep_other (keep_drew (X2.out)) (Nat.ne_of_lt Z2))
      case hd => rfl
      case hi => kernel_rfl
    exact below_setRow5 (((below_drewN (B2.out) _).setCell (show w.heap.size ≤ g by omega) _)) (show w.heap.size ≤ w.heap.size + 1 by omega) _
  · go_wp2_with (first | (go_at_call 112; refine (bitsOf_is _ _ _ (by decide) (by decide) _).mono ?_; rintro e u3 ⟨rfl, mm, rfl⟩) | (refine wpList_load_row rfl 67 _ rfl g ?hx 67 #[.int .i64 0, .int .i64 0, .int .i64 (n / Pl.pw 15 % Pl.pw 5), .int .i64 (n / Pl.pw 20 % Pl.pw 5), .int .i64 gi] (0, 0) _ ?hg Tryz.underlying67 ?hd ?hi ?_; (case hx => rfl); (case hg => exact row_put5 (keep_drew (row_put5 (keep_drew (Y2.out)) _ _ rfl)) _ _ rfl); (case hd => rfl); (case hi => kernel_rfl)) | (refine wpList_store_row rfl 67 _ _ rfl (w.heap.size + 1) #[.int .i64 0, .int .i64 0, .int .i64 (n / Pl.pw 15 % Pl.pw 5), .int .i64 (n / Pl.pw 20 % Pl.pw 5), .int .i64 gi] ?hx ?hy 67 #[.int .i64 0, .int .i64 0, .int .i64 0, .int .i64 0, .int .i64 0] ?hg ?hi ?ho ?h1 ?_; (case hx => rfl); (case hy => rfl); (case hg => exact keep_other (keep_drew (keep_other (keep_drew (X2.out)) (Nat.ne_of_lt Z2))) (Nat.ne_of_lt Z2)); (case hi => kernel_rfl); (case ho => kernel_rfl); (case h1 => kernel_rfl); refine Hid.out ?_))
    unfold Hid
    go_wp2_with fail
    refine bodyPost_ret (v := .agg #[.int .i64 0, .int .i64 0, .int .i64 (n / Pl.pw 15 % Pl.pw 5), .int .i64 (n / Pl.pw 20 % Pl.pw 5), .int .i64 gi]) ?hres rfl ⟨by rw [HGI.out], ?_⟩
    case hres =>
      refine results_cell_row Tryz.results96 _ _ (w.heap.size + 1) 67 #[.int .i64 0, .int .i64 0, .int .i64 (n / Pl.pw 15 % Pl.pw 5), .int .i64 (n / Pl.pw 20 % Pl.pw 5), .int .i64 gi] (0, 0) _ ?hp ?hg Tryz.underlying67 ?hd ?hi
      case hp => rfl
      case hg => exact setRow_heap _ _ _ _ _ _ (keep_other (keep_drew (keep_other (keep_drew (X2.out)) (Nat.ne_of_lt Z2))) (Nat.ne_of_lt Z2))
      case hd => rfl
      case hi => kernel_rfl
    exact below_setRow5 (((below_drewN (((below_drewN (B2.out) _).setCell (show w.heap.size ≤ g by omega) _)) _).setCell (show w.heap.size ≤ g by omega) _)) (show w.heap.size ≤ w.heap.size + 1 by omega) _
  · go_wp2_with (first | (go_at_call 112; refine (bitsOf_is _ _ _ (by decide) (by decide) _).mono ?_; rintro e u3 ⟨rfl, mm, rfl⟩) | (refine wpList_load_row rfl 67 _ rfl g ?hx 67 #[.int .i64 0, .int .i64 (n / Pl.pw 7 % Pl.pw 5), .int .i64 0, .int .i64 0, .int .i64 gi] (0, 0) _ ?hg Tryz.underlying67 ?hd ?hi ?_; (case hx => rfl); (case hg => exact row_put5 (keep_drew (Y2.out)) _ _ rfl); (case hd => rfl); (case hi => kernel_rfl)) | (refine wpList_store_row rfl 67 _ _ rfl (w.heap.size + 1) #[.int .i64 0, .int .i64 (n / Pl.pw 7 % Pl.pw 5), .int .i64 0, .int .i64 0, .int .i64 gi] ?hx ?hy 67 #[.int .i64 0, .int .i64 0, .int .i64 0, .int .i64 0, .int .i64 0] ?hg ?hi ?ho ?h1 ?_; (case hx => rfl); (case hy => rfl); (case hg => exact keep_other (keep_drew (X2.out)) (Nat.ne_of_lt Z2)); (case hi => kernel_rfl); (case ho => kernel_rfl); (case h1 => kernel_rfl); refine Hid.out ?_))
    unfold Hid
    go_wp2_with fail
    refine bodyPost_ret (v := .agg #[.int .i64 0, .int .i64 (n / Pl.pw 7 % Pl.pw 5), .int .i64 0, .int .i64 0, .int .i64 gi]) ?hres rfl ⟨by rw [HGI.out], ?_⟩
    case hres =>
      refine results_cell_row Tryz.results96 _ _ (w.heap.size + 1) 67 #[.int .i64 0, .int .i64 (n / Pl.pw 7 % Pl.pw 5), .int .i64 0, .int .i64 0, .int .i64 gi] (0, 0) _ ?hp ?hg Tryz.underlying67 ?hd ?hi
      case hp => rfl
      case hg => exact setRow_heap _ _ _ _ _ _ (keep_other (keep_drew (X2.out)) (Nat.ne_of_lt Z2))
      case hd => rfl
      case hi => kernel_rfl
    exact below_setRow5 (((below_drewN (B2.out) _).setCell (show w.heap.size ≤ g by omega) _)) (show w.heap.size ≤ w.heap.size + 1 by omega) _
  · go_wp2_with (first | (go_at_call 112; refine (bitsOf_is _ _ _ (by decide) (by decide) _).mono ?_; rintro e u3 ⟨rfl, mm, rfl⟩) | (refine wpList_load_row rfl 67 _ rfl g ?hx 67 #[.int .i64 0, .int .i64 (n / Pl.pw 7 % Pl.pw 5), .int .i64 0, .int .i64 (n / Pl.pw 20 % Pl.pw 5), .int .i64 gi] (0, 0) _ ?hg Tryz.underlying67 ?hd ?hi ?_; (case hx => rfl); (case hg => exact row_put5 (keep_drew (row_put5 (keep_drew (Y2.out)) _ _ rfl)) _ _ rfl); (case hd => rfl); (case hi => kernel_rfl)) | (refine wpList_store_row rfl 67 _ _ rfl (w.heap.size + 1) #[.int .i64 0, .int .i64 (n / Pl.pw 7 % Pl.pw 5), .int .i64 0, .int .i64 (n / Pl.pw 20 % Pl.pw 5), .int .i64 gi] ?hx ?hy 67 #[.int .i64 0, .int .i64 0, .int .i64 0, .int .i64 0, .int .i64 0] ?hg ?hi ?ho ?h1 ?_; (case hx => rfl); (case hy => rfl); (case hg => exact keep_other (keep_drew (keep_other (keep_drew (X2.out)) (Nat.ne_of_lt Z2))) (Nat.ne_of_lt Z2)); (case hi => kernel_rfl); (case ho => kernel_rfl); (case h1 => kernel_rfl); refine Hid.out ?_))
    unfold Hid
    go_wp2_with fail
    refine bodyPost_ret (v := .agg #[.int .i64 0, .int .i64 (n / Pl.pw 7 % Pl.pw 5), .int .i64 0, .int .i64 (n / Pl.pw 20 % Pl.pw 5), .int .i64 gi]) ?hres rfl ⟨by rw [HGI.out], ?_⟩
    case hres =>
      refine results_cell_row Tryz.results96 _ _ (w.heap.size + 1) 67 #[.int .i64 0, .int .i64 (n / Pl.pw 7 % Pl.pw 5), .int .i64 0, .int .i64 (n / Pl.pw 20 % Pl.pw 5), .int .i64 gi] (0, 0) _ ?hp ?hg Tryz.underlying67 ?hd ?hi
      case hp => rfl
      case hg => exact setRow_heap _ _ _ _ _ _ (keep_other (keep_drew (keep_other (keep_drew (X2.out)) (Nat.ne_of_lt Z2))) (Nat.ne_of_lt Z2))
      case hd => rfl
      case hi => kernel_rfl
    exact below_setRow5 (((below_drewN (((below_drewN (B2.out) _).setCell (show w.heap.size ≤ g by omega) _)) _).setCell (show w.heap.size ≤ g by omega) _)) (show w.heap.size ≤ w.heap.size + 1 by omega) _
  · go_wp2_with (first | (go_at_call 112; refine (bitsOf_is _ _ _ (by decide) (by decide) _).mono ?_; rintro e u3 ⟨rfl, mm, rfl⟩) | (refine wpList_load_row rfl 67 _ rfl g ?hx 67 #[.int .i64 0, .int .i64 (n / Pl.pw 7 % Pl.pw 5), .int .i64 (n / Pl.pw 15 % Pl.pw 5), .int .i64 0, .int .i64 gi] (0, 0) _ ?hg Tryz.underlying67 ?hd ?hi ?_; (case hx => rfl); (case hg => exact row_put5 (keep_drew (row_put5 (keep_drew (Y2.out)) _ _ rfl)) _ _ rfl); (case hd => rfl); (case hi => kernel_rfl)) | (refine wpList_store_row rfl 67 _ _ rfl (w.heap.size + 1) #[.int .i64 0, .int .i64 (n / Pl.pw 7 % Pl.pw 5), .int .i64 (n / Pl.pw 15 % Pl.pw 5), .int .i64 0, .int .i64 gi] ?hx ?hy 67 #[.int .i64 0, .int .i64 0, .int .i64 0, .int .i64 0, .int .i64 0] ?hg ?hi ?ho ?h1 ?_; (case hx => rfl); (case hy => rfl); (case hg => exact keep_other (keep_drew (keep_other (keep_drew (X2.out)) (Nat.ne_of_lt Z2))) (Nat.ne_of_lt Z2)); (case hi => kernel_rfl); (case ho => kernel_rfl); (case h1 => kernel_rfl); refine Hid.out ?_))
    unfold Hid
    go_wp2_with fail
    refine bodyPost_ret (v := .agg #[.int .i64 0, .int .i64 (n / Pl.pw 7 % Pl.pw 5), .int .i64 (n / Pl.pw 15 % Pl.pw 5), .int .i64 0, .int .i64 gi]) ?hres rfl ⟨by rw [HGI.out], ?_⟩
    case hres =>
      refine results_cell_row Tryz.results96 _ _ (w.heap.size + 1) 67 #[.int .i64 0, .int .i64 (n / Pl.pw 7 % Pl.pw 5), .int .i64 (n / Pl.pw 15 % Pl.pw 5), .int .i64 0, .int .i64 gi] (0, 0) _ ?hp ?hg Tryz.underlying67 ?hd ?hi
      case hp => rfl
      case hg => exact setRow_heap _ _ _ _ _ _ (keep_other (keep_drew (keep_other (keep_drew (X2.out)) (Nat.ne_of_lt Z2))) (Nat.ne_of_lt Z2))
      case hd => rfl
      case hi => kernel_rfl
    exact below_setRow5 (((below_drewN (((below_drewN (B2.out) _).setCell (show w.heap.size ≤ g by omega) _)) _).setCell (show w.heap.size ≤ g by omega) _)) (show w.heap.size ≤ w.heap.size + 1 by omega) _
  · go_wp2_with (first | (go_at_call 112; refine (bitsOf_is _ _ _ (by decide) (by decide) _).mono ?_; rintro e u3 ⟨rfl, mm, rfl⟩) | (refine wpList_load_row rfl 67 _ rfl g ?hx 67 #[.int .i64 0, .int .i64 (n / Pl.pw 7 % Pl.pw 5), .int .i64 (n / Pl.pw 15 % Pl.pw 5), .int .i64 (n / Pl.pw 20 % Pl.pw 5), .int .i64 gi] (0, 0) _ ?hg Tryz.underlying67 ?hd ?hi ?_; (case hx => rfl); (case hg => exact row_put5 (keep_drew (row_put5 (keep_drew (row_put5 (keep_drew (Y2.out)) _ _ rfl)) _ _ rfl)) _ _ rfl); (case hd => rfl); (case hi => kernel_rfl)) | (refine wpList_store_row rfl 67 _ _ rfl (w.heap.size + 1) #[.int .i64 0, .int .i64 (n / Pl.pw 7 % Pl.pw 5), .int .i64 (n / Pl.pw 15 % Pl.pw 5), .int .i64 (n / Pl.pw 20 % Pl.pw 5), .int .i64 gi] ?hx ?hy 67 #[.int .i64 0, .int .i64 0, .int .i64 0, .int .i64 0, .int .i64 0] ?hg ?hi ?ho ?h1 ?_; (case hx => rfl); (case hy => rfl); (case hg => exact keep_other (keep_drew (keep_other (keep_drew (keep_other (keep_drew (X2.out)) (Nat.ne_of_lt Z2))) (Nat.ne_of_lt Z2))) (Nat.ne_of_lt Z2)); (case hi => kernel_rfl); (case ho => kernel_rfl); (case h1 => kernel_rfl); refine Hid.out ?_))
    unfold Hid
    go_wp2_with fail
    refine bodyPost_ret (v := .agg #[.int .i64 0, .int .i64 (n / Pl.pw 7 % Pl.pw 5), .int .i64 (n / Pl.pw 15 % Pl.pw 5), .int .i64 (n / Pl.pw 20 % Pl.pw 5), .int .i64 gi]) ?hres rfl ⟨by rw [HGI.out], ?_⟩
    case hres =>
      refine results_cell_row Tryz.results96 _ _ (w.heap.size + 1) 67 #[.int .i64 0, .int .i64 (n / Pl.pw 7 % Pl.pw 5), .int .i64 (n / Pl.pw 15 % Pl.pw 5), .int .i64 (n / Pl.pw 20 % Pl.pw 5), .int .i64 gi] (0, 0) _ ?hp ?hg Tryz.underlying67 ?hd ?hi
      case hp => rfl
      case hg => exact setRow_heap _ _ _ _ _ _ (keep_other (keep_drew (keep_other (keep_drew (keep_other (keep_drew (X2.out)) (Nat.ne_of_lt Z2))) (Nat.ne_of_lt Z2))) (Nat.ne_of_lt Z2))
      case hd => rfl
      case hi => kernel_rfl
    exact below_setRow5 (((below_drewN (((below_drewN (((below_drewN (B2.out) _).setCell (show w.heap.size ≤ g by omega) _)) _).setCell (show w.heap.size ≤ g by omega) _)) _).setCell (show w.heap.size ≤ g by omega) _)) (show w.heap.size ≤ w.heap.size + 1 by omega) _
end Go.Proofs.YtnapeklkhkonhaaGreatDoor.W
namespace Go.Proofs.YtnapeklkhkonhaaGreatDoor.Pl
def hit (k : Nat) (n : Int) : Bool :=
  okF (fmN k) (fRd (fmN k) n) (fR1 (fmN k) n) (fR2 (fmN k) n) (gIm (fmN k) n) && decide (enc k (fRd (fmN k) n) (fR1 (fmN k) n) (fR2 (fmN k) n) (gIm (fmN k) n) = n)
theorem hit_iff (k : Nat) (n : Int) : hit k n = true ↔ okF (fmN k) (fRd (fmN k) n) (fR1 (fmN k) n) (fR2 (fmN k) n) (gIm (fmN k) n) = true ∧ enc k (fRd (fmN k) n) (fR1 (fmN k) n) (fR2 (fmN k) n) (gIm (fmN k) n) = n := by
  unfold hit
  rw [Bool.and_eq_true, decide_eq_true_eq]
theorem hit_fits {k : Nat} (h1 : 1 ≤ k) (h2 : k ≤ 47) {n : Int} (h : hit k n = true) : fits k n = true ∧ 0 ≤ n ∧ n ≤ 4294967295 := by
  obtain ⟨a, b⟩ := (hit_iff k n).1 h
  have := enc_fits k h1 h2 _ _ _ _ a
  rw [b] at this
  exact this
def dec (n : Int) : Nat := ((List.range 48).find? fun k => decide (1 ≤ k) && hit k n).getD 0
theorem dec_none {n : Int} (h : ∀ k, 1 ≤ k → k ≤ 47 → hit k n = false) : dec n = 0 := by
  unfold dec
  rw [List.find?_eq_none.2]
  · rfl
  · intro k hk
    have hk' : k < 48 := List.mem_range.1 hk
    by_cases h1 : 1 ≤ k
    · rw [h k h1 (by omega)]; simp
    · simp; omega
theorem dec_hit {k : Nat} {n : Int} (h1 : 1 ≤ k) (h2 : k ≤ 47) (h : hit k n = true) : dec n = k := by
  unfold dec
  cases hf : (List.range 48).find? fun k => decide (1 ≤ k) && hit k n with
  | none =>
    have := List.find?_eq_none.1 hf k (List.mem_range.2 (by omega))
    simp [h, h1] at this
  | some j =>
    have hp := List.find?_some hf
    have hm := List.mem_range.1 (List.mem_of_find?_eq_some hf)
    simp only [Bool.and_eq_true, decide_eq_true_eq] at hp
    show j = k
    exact fits_one hp.1 (by omega) h1 h2 (hit_fits hp.1 (by omega) hp.2).1 (hit_fits h1 h2 h).1
def dRd (n : Int) : Int := if dec n = 0 then 0 else fRd (fmN (dec n)) n
def dR1 (n : Int) : Int := if dec n = 0 then 0 else fR1 (fmN (dec n)) n
def dR2 (n : Int) : Int := if dec n = 0 then 0 else fR2 (fmN (dec n)) n
def dIm (n : Int) : Int := if dec n = 0 then 0 else gIm (fmN (dec n)) n
def decV (n : Int) : Array Value := #[.int .i64 (dec n : Int), .int .i64 (dRd n), .int .i64 (dR1 n), .int .i64 (dR2 n), .int .i64 (dIm n)]
theorem decV_none {n : Int} (h : dec n = 0) : decV n = #[.int .i64 0, .int .i64 0, .int .i64 0, .int .i64 0, .int .i64 0] := by
  unfold decV dRd dR1 dR2 dIm
  rw [h]
  rfl
theorem decV_hit {k : Nat} {n : Int} (h1 : 1 ≤ k) (h : dec n = k) : decV n = #[.int .i64 (k : Int), .int .i64 (fRd (fmN k) n), .int .i64 (fR1 (fmN k) n), .int .i64 (fR2 (fmN k) n), .int .i64 (gIm (fmN k) n)] := by
  unfold decV dRd dR1 dR2 dIm
  rw [h, if_neg (by omega), if_neg (by omega), if_neg (by omega), if_neg (by omega)]
end Go.Proofs.YtnapeklkhkonhaaGreatDoor.Pl
namespace Go.Proofs.YtnapeklkhkonhaaGreatDoor.W
open Go.RowKit
theorem results_cell_tmp {P : Program} {fn : Func} {p q : Tmp} {ty : TypeId} (h : fn.results = #[.cell p ty, .tmp q]) (tmps : Array Value) (w : World) (g : Nat) (t : TypeId) (cs : Array Value) (fr : Nat × Nat) (d : TypeDesc) (v : Value)
    (hp : tmps.getD p undef = .pointer (some ⟨g, 0, none⟩)) (hq : tmps.getD q undef = v) (hg : w.heap[g]? = some (.cells cs t fr))
    (hu : P.underlying ty = some d) (hd : (match d with | .struct _ | .array _ _ => true | _ => false) = true) (hi : (P.info? ty).map (·.size) = some cs.size) :
    (results fn tmps).run P w = .ok (.tuple #[.agg cs, v]) w := by
  have hp' : tmps[p]?.getD undef = .pointer (some ⟨g, 0, none⟩) := by simpa using hp
  have hq' : tmps[q]?.getD undef = v := by simpa using hq
  simp [results, h, hp', hq', asAddr, run_loadVar_row w g t ty cs fr d hg hu hd hi]
theorem iok_eq (k : Nat) (h1 : 1 ≤ k) (h2 : k ≤ 47) (rd r1 r2 im : Int) : iok (k : Int) rd r1 r2 im = Pl.okF (Pl.fmN k) rd r1 r2 im := by
  have e : decide (1 ≤ (k : Int) ∧ (k : Int) ≤ 47) = true := decide_eq_true (by omega)
  unfold iok
  rw [e, Bool.true_and, Int.toNat_natCast]
end Go.Proofs.YtnapeklkhkonhaaGreatDoor.W
namespace Go.Proofs.YtnapeklkhkonhaaGreatDoor.Pl
def bt (n x y : Int) : Int := wd n / pw y.toNat % pw (x.toNat - y.toNat + 1)
theorem bt_bd (n x y : Int) : 0 ≤ bt n x y ∧ bt n x y ≤ pw (x.toNat - y.toNat + 1) - 1 := by
  have h := Int.emod_nonneg (wd n / pw y.toNat) (Int.ne_of_gt (pw_pos (x.toNat - y.toNat + 1)))
  have h' := Int.emod_lt_of_pos (wd n / pw y.toNat) (pw_pos (x.toNat - y.toNat + 1))
  unfold bt
  omega
def wde (v m : Int) : Int := if pw (m.toNat - 1) ≤ v then v - pw m.toNat else v
end Go.Proofs.YtnapeklkhkonhaaGreatDoor.Pl
namespace Go.Proofs.YtnapeklkhkonhaaGreatDoor.W
open Go.RowKit
theorem l2Bits_is (n x y : Int) (h : 0 ≤ y ∧ y ≤ x ∧ x ≤ 31) (w : World) : Calls Tryz.prog 77 #[.int .i64 n, .int .i64 x, .int .i64 y] w fun e w' => e = .returned (.int .i64 (Pl.bt n x y)) ∧ ∃ m, w' = w.drewN m :=
  l2Bits_any n x y x.toNat y.toNat (by omega) (by omega) (by omega) (by omega) w
theorem power_is (x : Int) (h : 0 ≤ x ∧ x ≤ 32) (w : World) : Calls Tryz.prog 99 #[.int .i64 x] w fun e w' => e = .returned (.int .i64 (Pl.pw x.toNat)) ∧ w' = w := specPower_any x x.toNat (by omega) (by omega) w
theorem l2Wide_is (v m : Int) (hm : m = 12 ∨ m = 13 ∨ m = 21) (hv : 0 ≤ v ∧ v ≤ 8589934592) (w : World) : Calls Tryz.prog 78 #[.int .i64 v, .int .i64 m] w fun e w' => e = .returned (.int .i64 (Pl.wde v m)) ∧ w' = w := by
  rcases hm with rfl | rfl | rfl
  · have e1 : Pl.pw 11 = 2048 := by decide
    have e2 : Pl.pw 12 = 4096 := by decide
    by_cases h : 2048 ≤ v
    · have HP : Hid (Pl.wde v 12 = v - 4096) := by show Pl.wde v 12 = _; unfold Pl.wde; rw [show (Int.toNat 12 - 1) = 11 from rfl, show Int.toNat 12 = 12 from rfl, e1, e2, if_pos h]
      go_enter Tryz.func78, Tryz.ntmps78
      go_wp2_with (first | (go_at_call 99; refine (power_is _ (by decide) _).mono ?_; rintro e w' ⟨rfl, rfl⟩))
      go_ret
      exact ⟨ret_int (HP.out.trans (by first | rfl | simp only [e2])).symm, rfl⟩
    · have HP : Hid (Pl.wde v 12 = v) := by show Pl.wde v 12 = _; unfold Pl.wde; rw [show (Int.toNat 12 - 1) = 11 from rfl, e1, if_neg h]
      go_enter Tryz.func78, Tryz.ntmps78
      go_wp2_with (first | (go_at_call 99; refine (power_is _ (by decide) _).mono ?_; rintro e w' ⟨rfl, rfl⟩))
      go_ret
      exact ⟨ret_int HP.out.symm, rfl⟩
  · have e1 : Pl.pw 12 = 4096 := by decide
    have e2 : Pl.pw 13 = 8192 := by decide
    by_cases h : 4096 ≤ v
    · have HP : Hid (Pl.wde v 13 = v - 8192) := by show Pl.wde v 13 = _; unfold Pl.wde; rw [show (Int.toNat 13 - 1) = 12 from rfl, show Int.toNat 13 = 13 from rfl, e1, e2, if_pos h]
      go_enter Tryz.func78, Tryz.ntmps78
      go_wp2_with (first | (go_at_call 99; refine (power_is _ (by decide) _).mono ?_; rintro e w' ⟨rfl, rfl⟩))
      go_ret
      exact ⟨ret_int (HP.out.trans (by first | rfl | simp only [e2])).symm, rfl⟩
    · have HP : Hid (Pl.wde v 13 = v) := by show Pl.wde v 13 = _; unfold Pl.wde; rw [show (Int.toNat 13 - 1) = 12 from rfl, e1, if_neg h]
      go_enter Tryz.func78, Tryz.ntmps78
      go_wp2_with (first | (go_at_call 99; refine (power_is _ (by decide) _).mono ?_; rintro e w' ⟨rfl, rfl⟩))
      go_ret
      exact ⟨ret_int HP.out.symm, rfl⟩
  · have e1 : Pl.pw 20 = 1048576 := by decide
    have e2 : Pl.pw 21 = 2097152 := by decide
    by_cases h : 1048576 ≤ v
    · have HP : Hid (Pl.wde v 21 = v - 2097152) := by show Pl.wde v 21 = _; unfold Pl.wde; rw [show (Int.toNat 21 - 1) = 20 from rfl, show Int.toNat 21 = 21 from rfl, e1, e2, if_pos h]
      go_enter Tryz.func78, Tryz.ntmps78
      go_wp2_with (first | (go_at_call 99; refine (power_is _ (by decide) _).mono ?_; rintro e w' ⟨rfl, rfl⟩))
      go_ret
      exact ⟨ret_int (HP.out.trans (by first | rfl | simp only [e2])).symm, rfl⟩
    · have HP : Hid (Pl.wde v 21 = v) := by show Pl.wde v 21 = _; unfold Pl.wde; rw [show (Int.toNat 21 - 1) = 20 from rfl, e1, if_neg h]
      go_enter Tryz.func78, Tryz.ntmps78
      go_wp2_with (first | (go_at_call 99; refine (power_is _ (by decide) _).mono ?_; rintro e w' ⟨rfl, rfl⟩))
      go_ret
      exact ⟨ret_int HP.out.symm, rfl⟩
theorem parts_b (f : Nat) (h1 : 1 ≤ f) (h2 : f ≤ 8) (w : World) : Calls Tryz.prog 71 #[.int .i64 f] w fun e w' => e = .returned (.int .i64 (Pl.pts f)) ∧ Below w.heap.size w w' := by
  refine (parts_any f h1 h2 w).mono ?_
  rintro e w' ⟨rfl, rfl⟩
  exact ⟨rfl, below_alloc _ _⟩
set_option maxHeartbeats 2000000 in
theorem l2Read_1 (k : Nat) (h1 : 1 ≤ k) (h2 : k ≤ 47) (HF : Hid (Pl.fmN k = 1)) (n : Int) (w : World) :
    Calls Tryz.prog 53 #[.int .i64 (k : Int), .int .i64 n] w fun e w' => e = .returned (.agg #[.int .i64 (k : Int), .int .i64 (Pl.bt n 11 7), .int .i64 (Pl.bt n 19 15), .int .i64 (Pl.bt n 24 20), .int .i64 (0)]) ∧ Below w.heap.size w w' := by
  go_enter Tryz.func53, Tryz.ntmps53
  go_wp2_with (first | (go_at_call 50; refine (form_any k h1 h2 _).mono ?_; rintro e w' ⟨rfl, rfl⟩; rw [HF.out]) )
  refine calls_at5 fun u0 hu0 => ?_
  have X0 : Hid (u0.heap[w.heap.size]? = some (.cells #[.int .i64 0, .int .i64 0, .int .i64 0, .int .i64 0, .int .i64 0] 67)) := by show u0.heap[w.heap.size]? = _; rw [hu0]; exact heap_alloc_new w _
  have B0 : Hid (Below w.heap.size w u0) := by show Below w.heap.size w u0; rw [hu0]; exact below_alloc w _
  have Z0 : Hid (w.heap.size < u0.heap.size) := by show w.heap.size < u0.heap.size; rw [hu0]; simp
  clear hu0
  refine (parts_b 1 (by decide) (by decide) u0).mono ?_
  rintro e u1 ⟨rfl, d1⟩
  have X1 : Hid (u1.heap[w.heap.size]? = some (.cells #[.int .i64 0, .int .i64 0, .int .i64 0, .int .i64 0, .int .i64 0] 67)) := (d1.block _ Z0.out).trans X0.out
  have B1 : Hid (Below w.heap.size w u1) := B0.out.trans (d1.mono (Nat.le_of_lt Z0.out))
  have Z1 : Hid (w.heap.size < u1.heap.size) := Nat.lt_of_lt_of_le Z0.out d1.size
  clear d1 X0 B0 Z0
  rw [show Pl.pts 1 = 7 from rfl]
  go_wp2_with (refine wpList_store_row rfl 67 _ _ rfl (u1.heap.size) #[.int .i64 (k : Int), .int .i64 0, .int .i64 0, .int .i64 0, .int .i64 0] ?hx ?hy 67 #[.int .i64 0, .int .i64 0, .int .i64 0, .int .i64 0, .int .i64 0] ?hg ?hi ?ho ?h1 ?_; (case hx => rfl); (case hy => rfl); (case hg => exact heap_alloc_new u1 _); (case hi => kernel_rfl); (case ho => kernel_rfl); (case h1 => kernel_rfl); refine Hid.out ?_)
  unfold Hid
  rw [World.setRow_alloc_new]
  refine wpList_at fun u2 hu2 => ?_
  have d2 : Below u1.heap.size u1 u2 := by rw [hu2]; exact below_alloc u1 _
  have Y2 : Hid (u2.heap[u1.heap.size]? = some (.cells #[.int .i64 (k : Int), .int .i64 0, .int .i64 0, .int .i64 0, .int .i64 0] 67)) := by show u2.heap[u1.heap.size]? = _; rw [hu2]; exact heap_alloc_new u1 _
  have X2 : Hid (u2.heap[w.heap.size]? = some (.cells #[.int .i64 0, .int .i64 0, .int .i64 0, .int .i64 0, .int .i64 0] 67)) := (d2.block _ Z1.out).trans X1.out
  have B2 : Hid (Below w.heap.size w u2) := B1.out.trans (d2.mono (Nat.le_of_lt Z1.out))
  clear d2 hu2 X1 B1
  obtain ⟨g, hg⟩ : ∃ g, g = u1.heap.size := ⟨_, rfl⟩
  rw [← hg] at Z1 Y2 ⊢
  have Z2 : w.heap.size < g := Z1.out
  clear hg Z1
  have ky : ∀ j, u2.cell? ⟨g, j, none⟩ = (#[.int .i64 (k : Int), .int .i64 0, .int .i64 0, .int .i64 0, .int .i64 0] : Array Value)[j]? := fun j => cell_of_row u2 g j _ 67 (0, 0) Y2.out
  have kf : ∀ j, u2.frozen? ⟨g, j, none⟩ = false := fun j => frozen_of_row u2 g j _ 67 Y2.out
  go_wp2_with (first | (go_at_call 77; refine (l2Bits_is _ _ _ (by decide) _).mono ?_; rintro e u3 ⟨rfl, mm, rfl⟩) | (go_at_call 78; refine (l2Wide_is _ _ (by decide) (by omega) _).mono ?_; rintro e u3 ⟨rfl, rfl⟩) | (refine wpList_load_row rfl 67 _ rfl g ?hx 67 #[.int .i64 (k : Int), .int .i64 (Pl.bt n 11 7), .int .i64 (Pl.bt n 19 15), .int .i64 (Pl.bt n 24 20), .int .i64 (0)] (0, 0) _ ?hg Tryz.underlying67 ?hd ?hi ?_; (case hx => rfl); (case hg => exact row_put5 (row_put5 (row_put5 (Y2.out) _ _ rfl) _ _ rfl) _ _ rfl); (case hd => rfl); (case hi => kernel_rfl)) | (refine wpList_store_row rfl 67 _ _ rfl (w.heap.size) #[.int .i64 (k : Int), .int .i64 (Pl.bt n 11 7), .int .i64 (Pl.bt n 19 15), .int .i64 (Pl.bt n 24 20), .int .i64 (0)] ?hx ?hy 67 #[.int .i64 0, .int .i64 0, .int .i64 0, .int .i64 0, .int .i64 0] ?hg ?hi ?ho ?h1 ?_; (case hx => rfl); (case hy => rfl); (case hg => exact keep_other (keep_other (keep_other (X2.out) (Nat.ne_of_lt Z2)) (Nat.ne_of_lt Z2)) (Nat.ne_of_lt Z2)); (case hi => kernel_rfl); (case ho => kernel_rfl); (case h1 => kernel_rfl); refine Hid.out ?_))
  unfold Hid
  go_wp2_with fail
  refine bodyPost_ret (v := .agg #[.int .i64 (k : Int), .int .i64 (Pl.bt n 11 7), .int .i64 (Pl.bt n 19 15), .int .i64 (Pl.bt n 24 20), .int .i64 (0)]) ?_ rfl ⟨rfl, ?_⟩
  · refine results_cell_row Tryz.results53 _ _ (w.heap.size) 67 #[.int .i64 (k : Int), .int .i64 (Pl.bt n 11 7), .int .i64 (Pl.bt n 19 15), .int .i64 (Pl.bt n 24 20), .int .i64 (0)] (0, 0) _ ?hp ?hg Tryz.underlying67 ?hd ?hi
    case hp => rfl
    case hg => exact setRow_heap _ _ _ _ _ _ (keep_other (keep_other (keep_other (X2.out) (Nat.ne_of_lt Z2)) (Nat.ne_of_lt Z2)) (Nat.ne_of_lt Z2))
    case hd => rfl
    case hi => kernel_rfl
  · refine below_setRow5 ?_ (Nat.le_refl _) _
    repeat (first | exact B2.out | refine below_drewN ?_ _ | refine Below.setCell ?_ (Nat.le_of_lt Z2) _)
set_option maxHeartbeats 2000000 in
theorem l2Read_2 (k : Nat) (h1 : 1 ≤ k) (h2 : k ≤ 47) (HF : Hid (Pl.fmN k = 2)) (n : Int) (w : World) :
    Calls Tryz.prog 53 #[.int .i64 (k : Int), .int .i64 n] w fun e w' => e = .returned (.agg #[.int .i64 (k : Int), .int .i64 (Pl.bt n 11 7), .int .i64 (Pl.bt n 19 15), .int .i64 (0), .int .i64 (Pl.wde (Pl.bt n 31 20) 12)]) ∧ Below w.heap.size w w' := by
  have b0 : 0 ≤ Pl.bt n 31 20 ∧ Pl.bt n 31 20 ≤ 4095 := Pl.bt_bd n 31 20
  go_enter Tryz.func53, Tryz.ntmps53
  go_wp2_with (first | (go_at_call 50; refine (form_any k h1 h2 _).mono ?_; rintro e w' ⟨rfl, rfl⟩; rw [HF.out]) )
  refine calls_at5 fun u0 hu0 => ?_
  have X0 : Hid (u0.heap[w.heap.size]? = some (.cells #[.int .i64 0, .int .i64 0, .int .i64 0, .int .i64 0, .int .i64 0] 67)) := by show u0.heap[w.heap.size]? = _; rw [hu0]; exact heap_alloc_new w _
  have B0 : Hid (Below w.heap.size w u0) := by show Below w.heap.size w u0; rw [hu0]; exact below_alloc w _
  have Z0 : Hid (w.heap.size < u0.heap.size) := by show w.heap.size < u0.heap.size; rw [hu0]; simp
  clear hu0
  refine (parts_b 2 (by decide) (by decide) u0).mono ?_
  rintro e u1 ⟨rfl, d1⟩
  have X1 : Hid (u1.heap[w.heap.size]? = some (.cells #[.int .i64 0, .int .i64 0, .int .i64 0, .int .i64 0, .int .i64 0] 67)) := (d1.block _ Z0.out).trans X0.out
  have B1 : Hid (Below w.heap.size w u1) := B0.out.trans (d1.mono (Nat.le_of_lt Z0.out))
  have Z1 : Hid (w.heap.size < u1.heap.size) := Nat.lt_of_lt_of_le Z0.out d1.size
  clear d1 X0 B0 Z0
  rw [show Pl.pts 2 = 11 from rfl]
  go_wp2_with (refine wpList_store_row rfl 67 _ _ rfl (u1.heap.size) #[.int .i64 (k : Int), .int .i64 0, .int .i64 0, .int .i64 0, .int .i64 0] ?hx ?hy 67 #[.int .i64 0, .int .i64 0, .int .i64 0, .int .i64 0, .int .i64 0] ?hg ?hi ?ho ?h1 ?_; (case hx => rfl); (case hy => rfl); (case hg => exact heap_alloc_new u1 _); (case hi => kernel_rfl); (case ho => kernel_rfl); (case h1 => kernel_rfl); refine Hid.out ?_)
  unfold Hid
  rw [World.setRow_alloc_new]
  refine wpList_at fun u2 hu2 => ?_
  have d2 : Below u1.heap.size u1 u2 := by rw [hu2]; exact below_alloc u1 _
  have Y2 : Hid (u2.heap[u1.heap.size]? = some (.cells #[.int .i64 (k : Int), .int .i64 0, .int .i64 0, .int .i64 0, .int .i64 0] 67)) := by show u2.heap[u1.heap.size]? = _; rw [hu2]; exact heap_alloc_new u1 _
  have X2 : Hid (u2.heap[w.heap.size]? = some (.cells #[.int .i64 0, .int .i64 0, .int .i64 0, .int .i64 0, .int .i64 0] 67)) := (d2.block _ Z1.out).trans X1.out
  have B2 : Hid (Below w.heap.size w u2) := B1.out.trans (d2.mono (Nat.le_of_lt Z1.out))
  clear d2 hu2 X1 B1
  obtain ⟨g, hg⟩ : ∃ g, g = u1.heap.size := ⟨_, rfl⟩
  rw [← hg] at Z1 Y2 ⊢
  have Z2 : w.heap.size < g := Z1.out
  clear hg Z1
  have ky : ∀ j, u2.cell? ⟨g, j, none⟩ = (#[.int .i64 (k : Int), .int .i64 0, .int .i64 0, .int .i64 0, .int .i64 0] : Array Value)[j]? := fun j => cell_of_row u2 g j _ 67 (0, 0) Y2.out
  have kf : ∀ j, u2.frozen? ⟨g, j, none⟩ = false := fun j => frozen_of_row u2 g j _ 67 Y2.out
  go_wp2_with (first | (go_at_call 77; refine (l2Bits_is _ _ _ (by decide) _).mono ?_; rintro e u3 ⟨rfl, mm, rfl⟩) | (go_at_call 78; refine (l2Wide_is _ _ (by decide) (by omega) _).mono ?_; rintro e u3 ⟨rfl, rfl⟩) | (refine wpList_load_row rfl 67 _ rfl g ?hx 67 #[.int .i64 (k : Int), .int .i64 (Pl.bt n 11 7), .int .i64 (Pl.bt n 19 15), .int .i64 (0), .int .i64 (Pl.wde (Pl.bt n 31 20) 12)] (0, 0) _ ?hg Tryz.underlying67 ?hd ?hi ?_; (case hx => rfl); (case hg => exact row_put5 (row_put5 (row_put5 (Y2.out) _ _ rfl) _ _ rfl) _ _ rfl); (case hd => rfl); (case hi => kernel_rfl)) | (refine wpList_store_row rfl 67 _ _ rfl (w.heap.size) #[.int .i64 (k : Int), .int .i64 (Pl.bt n 11 7), .int .i64 (Pl.bt n 19 15), .int .i64 (0), .int .i64 (Pl.wde (Pl.bt n 31 20) 12)] ?hx ?hy 67 #[.int .i64 0, .int .i64 0, .int .i64 0, .int .i64 0, .int .i64 0] ?hg ?hi ?ho ?h1 ?_; (case hx => rfl); (case hy => rfl); (case hg => exact keep_other (keep_other (keep_other (X2.out) (Nat.ne_of_lt Z2)) (Nat.ne_of_lt Z2)) (Nat.ne_of_lt Z2)); (case hi => kernel_rfl); (case ho => kernel_rfl); (case h1 => kernel_rfl); refine Hid.out ?_))
  unfold Hid
  go_wp2_with fail
  refine bodyPost_ret (v := .agg #[.int .i64 (k : Int), .int .i64 (Pl.bt n 11 7), .int .i64 (Pl.bt n 19 15), .int .i64 (0), .int .i64 (Pl.wde (Pl.bt n 31 20) 12)]) ?_ rfl ⟨rfl, ?_⟩
  · refine results_cell_row Tryz.results53 _ _ (w.heap.size) 67 #[.int .i64 (k : Int), .int .i64 (Pl.bt n 11 7), .int .i64 (Pl.bt n 19 15), .int .i64 (0), .int .i64 (Pl.wde (Pl.bt n 31 20) 12)] (0, 0) _ ?hp ?hg Tryz.underlying67 ?hd ?hi
    case hp => rfl
    case hg => exact setRow_heap _ _ _ _ _ _ (keep_other (keep_other (keep_other (X2.out) (Nat.ne_of_lt Z2)) (Nat.ne_of_lt Z2)) (Nat.ne_of_lt Z2))
    case hd => rfl
    case hi => kernel_rfl
  · refine below_setRow5 ?_ (Nat.le_refl _) _
    repeat (first | exact B2.out | refine below_drewN ?_ _ | refine Below.setCell ?_ (Nat.le_of_lt Z2) _)
set_option maxHeartbeats 2000000 in
theorem l2Read_3 (k : Nat) (h1 : 1 ≤ k) (h2 : k ≤ 47) (HF : Hid (Pl.fmN k = 3)) (n : Int) (w : World) :
    Calls Tryz.prog 53 #[.int .i64 (k : Int), .int .i64 n] w fun e w' => e = .returned (.agg #[.int .i64 (k : Int), .int .i64 (Pl.bt n 11 7), .int .i64 (Pl.bt n 19 15), .int .i64 (0), .int .i64 (Pl.bt n 24 20)]) ∧ Below w.heap.size w w' := by
  have b0 : 0 ≤ Pl.bt n 24 20 ∧ Pl.bt n 24 20 ≤ 31 := Pl.bt_bd n 24 20
  go_enter Tryz.func53, Tryz.ntmps53
  go_wp2_with (first | (go_at_call 50; refine (form_any k h1 h2 _).mono ?_; rintro e w' ⟨rfl, rfl⟩; rw [HF.out]) )
  refine calls_at5 fun u0 hu0 => ?_
  have X0 : Hid (u0.heap[w.heap.size]? = some (.cells #[.int .i64 0, .int .i64 0, .int .i64 0, .int .i64 0, .int .i64 0] 67)) := by show u0.heap[w.heap.size]? = _; rw [hu0]; exact heap_alloc_new w _
  have B0 : Hid (Below w.heap.size w u0) := by show Below w.heap.size w u0; rw [hu0]; exact below_alloc w _
  have Z0 : Hid (w.heap.size < u0.heap.size) := by show w.heap.size < u0.heap.size; rw [hu0]; simp
  clear hu0
  refine (parts_b 3 (by decide) (by decide) u0).mono ?_
  rintro e u1 ⟨rfl, d1⟩
  have X1 : Hid (u1.heap[w.heap.size]? = some (.cells #[.int .i64 0, .int .i64 0, .int .i64 0, .int .i64 0, .int .i64 0] 67)) := (d1.block _ Z0.out).trans X0.out
  have B1 : Hid (Below w.heap.size w u1) := B0.out.trans (d1.mono (Nat.le_of_lt Z0.out))
  have Z1 : Hid (w.heap.size < u1.heap.size) := Nat.lt_of_lt_of_le Z0.out d1.size
  clear d1 X0 B0 Z0
  rw [show Pl.pts 3 = 11 from rfl]
  go_wp2_with (refine wpList_store_row rfl 67 _ _ rfl (u1.heap.size) #[.int .i64 (k : Int), .int .i64 0, .int .i64 0, .int .i64 0, .int .i64 0] ?hx ?hy 67 #[.int .i64 0, .int .i64 0, .int .i64 0, .int .i64 0, .int .i64 0] ?hg ?hi ?ho ?h1 ?_; (case hx => rfl); (case hy => rfl); (case hg => exact heap_alloc_new u1 _); (case hi => kernel_rfl); (case ho => kernel_rfl); (case h1 => kernel_rfl); refine Hid.out ?_)
  unfold Hid
  rw [World.setRow_alloc_new]
  refine wpList_at fun u2 hu2 => ?_
  have d2 : Below u1.heap.size u1 u2 := by rw [hu2]; exact below_alloc u1 _
  have Y2 : Hid (u2.heap[u1.heap.size]? = some (.cells #[.int .i64 (k : Int), .int .i64 0, .int .i64 0, .int .i64 0, .int .i64 0] 67)) := by show u2.heap[u1.heap.size]? = _; rw [hu2]; exact heap_alloc_new u1 _
  have X2 : Hid (u2.heap[w.heap.size]? = some (.cells #[.int .i64 0, .int .i64 0, .int .i64 0, .int .i64 0, .int .i64 0] 67)) := (d2.block _ Z1.out).trans X1.out
  have B2 : Hid (Below w.heap.size w u2) := B1.out.trans (d2.mono (Nat.le_of_lt Z1.out))
  clear d2 hu2 X1 B1
  obtain ⟨g, hg⟩ : ∃ g, g = u1.heap.size := ⟨_, rfl⟩
  rw [← hg] at Z1 Y2 ⊢
  have Z2 : w.heap.size < g := Z1.out
  clear hg Z1
  have ky : ∀ j, u2.cell? ⟨g, j, none⟩ = (#[.int .i64 (k : Int), .int .i64 0, .int .i64 0, .int .i64 0, .int .i64 0] : Array Value)[j]? := fun j => cell_of_row u2 g j _ 67 (0, 0) Y2.out
  have kf : ∀ j, u2.frozen? ⟨g, j, none⟩ = false := fun j => frozen_of_row u2 g j _ 67 Y2.out
  go_wp2_with (first | (go_at_call 77; refine (l2Bits_is _ _ _ (by decide) _).mono ?_; rintro e u3 ⟨rfl, mm, rfl⟩) | (go_at_call 78; refine (l2Wide_is _ _ (by decide) (by omega) _).mono ?_; rintro e u3 ⟨rfl, rfl⟩) | (refine wpList_load_row rfl 67 _ rfl g ?hx 67 #[.int .i64 (k : Int), .int .i64 (Pl.bt n 11 7), .int .i64 (Pl.bt n 19 15), .int .i64 (0), .int .i64 (Pl.bt n 24 20)] (0, 0) _ ?hg Tryz.underlying67 ?hd ?hi ?_; (case hx => rfl); (case hg => exact row_put5 (row_put5 (row_put5 (Y2.out) _ _ rfl) _ _ rfl) _ _ rfl); (case hd => rfl); (case hi => kernel_rfl)) | (refine wpList_store_row rfl 67 _ _ rfl (w.heap.size) #[.int .i64 (k : Int), .int .i64 (Pl.bt n 11 7), .int .i64 (Pl.bt n 19 15), .int .i64 (0), .int .i64 (Pl.bt n 24 20)] ?hx ?hy 67 #[.int .i64 0, .int .i64 0, .int .i64 0, .int .i64 0, .int .i64 0] ?hg ?hi ?ho ?h1 ?_; (case hx => rfl); (case hy => rfl); (case hg => exact keep_other (keep_other (keep_other (X2.out) (Nat.ne_of_lt Z2)) (Nat.ne_of_lt Z2)) (Nat.ne_of_lt Z2)); (case hi => kernel_rfl); (case ho => kernel_rfl); (case h1 => kernel_rfl); refine Hid.out ?_))
  unfold Hid
  go_wp2_with fail
  refine bodyPost_ret (v := .agg #[.int .i64 (k : Int), .int .i64 (Pl.bt n 11 7), .int .i64 (Pl.bt n 19 15), .int .i64 (0), .int .i64 (Pl.bt n 24 20)]) ?_ rfl ⟨rfl, ?_⟩
  · refine results_cell_row Tryz.results53 _ _ (w.heap.size) 67 #[.int .i64 (k : Int), .int .i64 (Pl.bt n 11 7), .int .i64 (Pl.bt n 19 15), .int .i64 (0), .int .i64 (Pl.bt n 24 20)] (0, 0) _ ?hp ?hg Tryz.underlying67 ?hd ?hi
    case hp => rfl
    case hg => exact setRow_heap _ _ _ _ _ _ (keep_other (keep_other (keep_other (X2.out) (Nat.ne_of_lt Z2)) (Nat.ne_of_lt Z2)) (Nat.ne_of_lt Z2))
    case hd => rfl
    case hi => kernel_rfl
  · refine below_setRow5 ?_ (Nat.le_refl _) _
    repeat (first | exact B2.out | refine below_drewN ?_ _ | refine Below.setCell ?_ (Nat.le_of_lt Z2) _)
set_option maxHeartbeats 2000000 in
theorem l2Read_4 (k : Nat) (h1 : 1 ≤ k) (h2 : k ≤ 47) (HF : Hid (Pl.fmN k = 4)) (n : Int) (w : World) :
    Calls Tryz.prog 53 #[.int .i64 (k : Int), .int .i64 n] w fun e w' => e = .returned (.agg #[.int .i64 (k : Int), .int .i64 (0), .int .i64 (Pl.bt n 19 15), .int .i64 (Pl.bt n 24 20), .int .i64 (Pl.wde (Pl.bt n 31 25 * 32 + Pl.bt n 11 7) 12)]) ∧ Below w.heap.size w w' := by
  have b0 : 0 ≤ Pl.bt n 31 25 ∧ Pl.bt n 31 25 ≤ 127 := Pl.bt_bd n 31 25
  have b1 : 0 ≤ Pl.bt n 11 7 ∧ Pl.bt n 11 7 ≤ 31 := Pl.bt_bd n 11 7
  go_enter Tryz.func53, Tryz.ntmps53
  go_wp2_with (first | (go_at_call 50; refine (form_any k h1 h2 _).mono ?_; rintro e w' ⟨rfl, rfl⟩; rw [HF.out]) )
  refine calls_at5 fun u0 hu0 => ?_
  have X0 : Hid (u0.heap[w.heap.size]? = some (.cells #[.int .i64 0, .int .i64 0, .int .i64 0, .int .i64 0, .int .i64 0] 67)) := by show u0.heap[w.heap.size]? = _; rw [hu0]; exact heap_alloc_new w _
  have B0 : Hid (Below w.heap.size w u0) := by show Below w.heap.size w u0; rw [hu0]; exact below_alloc w _
  have Z0 : Hid (w.heap.size < u0.heap.size) := by show w.heap.size < u0.heap.size; rw [hu0]; simp
  clear hu0
  refine (parts_b 4 (by decide) (by decide) u0).mono ?_
  rintro e u1 ⟨rfl, d1⟩
  have X1 : Hid (u1.heap[w.heap.size]? = some (.cells #[.int .i64 0, .int .i64 0, .int .i64 0, .int .i64 0, .int .i64 0] 67)) := (d1.block _ Z0.out).trans X0.out
  have B1 : Hid (Below w.heap.size w u1) := B0.out.trans (d1.mono (Nat.le_of_lt Z0.out))
  have Z1 : Hid (w.heap.size < u1.heap.size) := Nat.lt_of_lt_of_le Z0.out d1.size
  clear d1 X0 B0 Z0
  rw [show Pl.pts 4 = 14 from rfl]
  go_wp2_with (refine wpList_store_row rfl 67 _ _ rfl (u1.heap.size) #[.int .i64 (k : Int), .int .i64 0, .int .i64 0, .int .i64 0, .int .i64 0] ?hx ?hy 67 #[.int .i64 0, .int .i64 0, .int .i64 0, .int .i64 0, .int .i64 0] ?hg ?hi ?ho ?h1 ?_; (case hx => rfl); (case hy => rfl); (case hg => exact heap_alloc_new u1 _); (case hi => kernel_rfl); (case ho => kernel_rfl); (case h1 => kernel_rfl); refine Hid.out ?_)
  unfold Hid
  rw [World.setRow_alloc_new]
  refine wpList_at fun u2 hu2 => ?_
  have d2 : Below u1.heap.size u1 u2 := by rw [hu2]; exact below_alloc u1 _
  have Y2 : Hid (u2.heap[u1.heap.size]? = some (.cells #[.int .i64 (k : Int), .int .i64 0, .int .i64 0, .int .i64 0, .int .i64 0] 67)) := by show u2.heap[u1.heap.size]? = _; rw [hu2]; exact heap_alloc_new u1 _
  have X2 : Hid (u2.heap[w.heap.size]? = some (.cells #[.int .i64 0, .int .i64 0, .int .i64 0, .int .i64 0, .int .i64 0] 67)) := (d2.block _ Z1.out).trans X1.out
  have B2 : Hid (Below w.heap.size w u2) := B1.out.trans (d2.mono (Nat.le_of_lt Z1.out))
  clear d2 hu2 X1 B1
  obtain ⟨g, hg⟩ : ∃ g, g = u1.heap.size := ⟨_, rfl⟩
  rw [← hg] at Z1 Y2 ⊢
  have Z2 : w.heap.size < g := Z1.out
  clear hg Z1
  have ky : ∀ j, u2.cell? ⟨g, j, none⟩ = (#[.int .i64 (k : Int), .int .i64 0, .int .i64 0, .int .i64 0, .int .i64 0] : Array Value)[j]? := fun j => cell_of_row u2 g j _ 67 (0, 0) Y2.out
  have kf : ∀ j, u2.frozen? ⟨g, j, none⟩ = false := fun j => frozen_of_row u2 g j _ 67 Y2.out
  go_wp2_with (first | (go_at_call 77; refine (l2Bits_is _ _ _ (by decide) _).mono ?_; rintro e u3 ⟨rfl, mm, rfl⟩) | (go_at_call 78; refine (l2Wide_is _ _ (by decide) (by omega) _).mono ?_; rintro e u3 ⟨rfl, rfl⟩) | (refine wpList_load_row rfl 67 _ rfl g ?hx 67 #[.int .i64 (k : Int), .int .i64 (0), .int .i64 (Pl.bt n 19 15), .int .i64 (Pl.bt n 24 20), .int .i64 (Pl.wde (Pl.bt n 31 25 * 32 + Pl.bt n 11 7) 12)] (0, 0) _ ?hg Tryz.underlying67 ?hd ?hi ?_; (case hx => rfl); (case hg => exact row_put5 (row_put5 (row_put5 (Y2.out) _ _ rfl) _ _ rfl) _ _ rfl); (case hd => rfl); (case hi => kernel_rfl)) | (refine wpList_store_row rfl 67 _ _ rfl (w.heap.size) #[.int .i64 (k : Int), .int .i64 (0), .int .i64 (Pl.bt n 19 15), .int .i64 (Pl.bt n 24 20), .int .i64 (Pl.wde (Pl.bt n 31 25 * 32 + Pl.bt n 11 7) 12)] ?hx ?hy 67 #[.int .i64 0, .int .i64 0, .int .i64 0, .int .i64 0, .int .i64 0] ?hg ?hi ?ho ?h1 ?_; (case hx => rfl); (case hy => rfl); (case hg => exact keep_other (keep_other (keep_other (X2.out) (Nat.ne_of_lt Z2)) (Nat.ne_of_lt Z2)) (Nat.ne_of_lt Z2)); (case hi => kernel_rfl); (case ho => kernel_rfl); (case h1 => kernel_rfl); refine Hid.out ?_))
  unfold Hid
  go_wp2_with fail
  refine bodyPost_ret (v := .agg #[.int .i64 (k : Int), .int .i64 (0), .int .i64 (Pl.bt n 19 15), .int .i64 (Pl.bt n 24 20), .int .i64 (Pl.wde (Pl.bt n 31 25 * 32 + Pl.bt n 11 7) 12)]) ?_ rfl ⟨rfl, ?_⟩
  · refine results_cell_row Tryz.results53 _ _ (w.heap.size) 67 #[.int .i64 (k : Int), .int .i64 (0), .int .i64 (Pl.bt n 19 15), .int .i64 (Pl.bt n 24 20), .int .i64 (Pl.wde (Pl.bt n 31 25 * 32 + Pl.bt n 11 7) 12)] (0, 0) _ ?hp ?hg Tryz.underlying67 ?hd ?hi
    case hp => rfl
    case hg => exact setRow_heap _ _ _ _ _ _ (keep_other (keep_other (keep_other (X2.out) (Nat.ne_of_lt Z2)) (Nat.ne_of_lt Z2)) (Nat.ne_of_lt Z2))
    case hd => rfl
    case hi => kernel_rfl
  · refine below_setRow5 ?_ (Nat.le_refl _) _
    repeat (first | exact B2.out | refine below_drewN ?_ _ | refine Below.setCell ?_ (Nat.le_of_lt Z2) _)
set_option maxHeartbeats 2000000 in
theorem l2Read_5 (k : Nat) (h1 : 1 ≤ k) (h2 : k ≤ 47) (HF : Hid (Pl.fmN k = 5)) (n : Int) (w : World) :
    Calls Tryz.prog 53 #[.int .i64 (k : Int), .int .i64 n] w fun e w' => e = .returned (.agg #[.int .i64 (k : Int), .int .i64 (0), .int .i64 (Pl.bt n 19 15), .int .i64 (Pl.bt n 24 20), .int .i64 (Pl.wde (Pl.bt n 31 31 * 4096 + Pl.bt n 7 7 * 2048 + Pl.bt n 30 25 * 32 + Pl.bt n 11 8 * 2) 13)]) ∧ Below w.heap.size w w' := by
  have b0 : 0 ≤ Pl.bt n 31 31 ∧ Pl.bt n 31 31 ≤ 1 := Pl.bt_bd n 31 31
  have b1 : 0 ≤ Pl.bt n 7 7 ∧ Pl.bt n 7 7 ≤ 1 := Pl.bt_bd n 7 7
  have b2 : 0 ≤ Pl.bt n 30 25 ∧ Pl.bt n 30 25 ≤ 63 := Pl.bt_bd n 30 25
  have b3 : 0 ≤ Pl.bt n 11 8 ∧ Pl.bt n 11 8 ≤ 15 := Pl.bt_bd n 11 8
  go_enter Tryz.func53, Tryz.ntmps53
  go_wp2_with (first | (go_at_call 50; refine (form_any k h1 h2 _).mono ?_; rintro e w' ⟨rfl, rfl⟩; rw [HF.out]) )
  refine calls_at5 fun u0 hu0 => ?_
  have X0 : Hid (u0.heap[w.heap.size]? = some (.cells #[.int .i64 0, .int .i64 0, .int .i64 0, .int .i64 0, .int .i64 0] 67)) := by show u0.heap[w.heap.size]? = _; rw [hu0]; exact heap_alloc_new w _
  have B0 : Hid (Below w.heap.size w u0) := by show Below w.heap.size w u0; rw [hu0]; exact below_alloc w _
  have Z0 : Hid (w.heap.size < u0.heap.size) := by show w.heap.size < u0.heap.size; rw [hu0]; simp
  clear hu0
  refine (parts_b 5 (by decide) (by decide) u0).mono ?_
  rintro e u1 ⟨rfl, d1⟩
  have X1 : Hid (u1.heap[w.heap.size]? = some (.cells #[.int .i64 0, .int .i64 0, .int .i64 0, .int .i64 0, .int .i64 0] 67)) := (d1.block _ Z0.out).trans X0.out
  have B1 : Hid (Below w.heap.size w u1) := B0.out.trans (d1.mono (Nat.le_of_lt Z0.out))
  have Z1 : Hid (w.heap.size < u1.heap.size) := Nat.lt_of_lt_of_le Z0.out d1.size
  clear d1 X0 B0 Z0
  rw [show Pl.pts 5 = 14 from rfl]
  go_wp2_with (refine wpList_store_row rfl 67 _ _ rfl (u1.heap.size) #[.int .i64 (k : Int), .int .i64 0, .int .i64 0, .int .i64 0, .int .i64 0] ?hx ?hy 67 #[.int .i64 0, .int .i64 0, .int .i64 0, .int .i64 0, .int .i64 0] ?hg ?hi ?ho ?h1 ?_; (case hx => rfl); (case hy => rfl); (case hg => exact heap_alloc_new u1 _); (case hi => kernel_rfl); (case ho => kernel_rfl); (case h1 => kernel_rfl); refine Hid.out ?_)
  unfold Hid
  rw [World.setRow_alloc_new]
  refine wpList_at fun u2 hu2 => ?_
  have d2 : Below u1.heap.size u1 u2 := by rw [hu2]; exact below_alloc u1 _
  have Y2 : Hid (u2.heap[u1.heap.size]? = some (.cells #[.int .i64 (k : Int), .int .i64 0, .int .i64 0, .int .i64 0, .int .i64 0] 67)) := by show u2.heap[u1.heap.size]? = _; rw [hu2]; exact heap_alloc_new u1 _
  have X2 : Hid (u2.heap[w.heap.size]? = some (.cells #[.int .i64 0, .int .i64 0, .int .i64 0, .int .i64 0, .int .i64 0] 67)) := (d2.block _ Z1.out).trans X1.out
  have B2 : Hid (Below w.heap.size w u2) := B1.out.trans (d2.mono (Nat.le_of_lt Z1.out))
  clear d2 hu2 X1 B1
  obtain ⟨g, hg⟩ : ∃ g, g = u1.heap.size := ⟨_, rfl⟩
  rw [← hg] at Z1 Y2 ⊢
  have Z2 : w.heap.size < g := Z1.out
  clear hg Z1
  have ky : ∀ j, u2.cell? ⟨g, j, none⟩ = (#[.int .i64 (k : Int), .int .i64 0, .int .i64 0, .int .i64 0, .int .i64 0] : Array Value)[j]? := fun j => cell_of_row u2 g j _ 67 (0, 0) Y2.out
  have kf : ∀ j, u2.frozen? ⟨g, j, none⟩ = false := fun j => frozen_of_row u2 g j _ 67 Y2.out
  go_wp2_with (first | (go_at_call 77; refine (l2Bits_is _ _ _ (by decide) _).mono ?_; rintro e u3 ⟨rfl, mm, rfl⟩) | (go_at_call 78; refine (l2Wide_is _ _ (by decide) (by omega) _).mono ?_; rintro e u3 ⟨rfl, rfl⟩) | (refine wpList_load_row rfl 67 _ rfl g ?hx 67 #[.int .i64 (k : Int), .int .i64 (0), .int .i64 (Pl.bt n 19 15), .int .i64 (Pl.bt n 24 20), .int .i64 (Pl.wde (Pl.bt n 31 31 * 4096 + Pl.bt n 7 7 * 2048 + Pl.bt n 30 25 * 32 + Pl.bt n 11 8 * 2) 13)] (0, 0) _ ?hg Tryz.underlying67 ?hd ?hi ?_; (case hx => rfl); (case hg => exact row_put5 (row_put5 (row_put5 (Y2.out) _ _ rfl) _ _ rfl) _ _ rfl); (case hd => rfl); (case hi => kernel_rfl)) | (refine wpList_store_row rfl 67 _ _ rfl (w.heap.size) #[.int .i64 (k : Int), .int .i64 (0), .int .i64 (Pl.bt n 19 15), .int .i64 (Pl.bt n 24 20), .int .i64 (Pl.wde (Pl.bt n 31 31 * 4096 + Pl.bt n 7 7 * 2048 + Pl.bt n 30 25 * 32 + Pl.bt n 11 8 * 2) 13)] ?hx ?hy 67 #[.int .i64 0, .int .i64 0, .int .i64 0, .int .i64 0, .int .i64 0] ?hg ?hi ?ho ?h1 ?_; (case hx => rfl); (case hy => rfl); (case hg => exact keep_other (keep_other (keep_other (X2.out) (Nat.ne_of_lt Z2)) (Nat.ne_of_lt Z2)) (Nat.ne_of_lt Z2)); (case hi => kernel_rfl); (case ho => kernel_rfl); (case h1 => kernel_rfl); refine Hid.out ?_))
  unfold Hid
  go_wp2_with fail
  refine bodyPost_ret (v := .agg #[.int .i64 (k : Int), .int .i64 (0), .int .i64 (Pl.bt n 19 15), .int .i64 (Pl.bt n 24 20), .int .i64 (Pl.wde (Pl.bt n 31 31 * 4096 + Pl.bt n 7 7 * 2048 + Pl.bt n 30 25 * 32 + Pl.bt n 11 8 * 2) 13)]) ?_ rfl ⟨rfl, ?_⟩
  · refine results_cell_row Tryz.results53 _ _ (w.heap.size) 67 #[.int .i64 (k : Int), .int .i64 (0), .int .i64 (Pl.bt n 19 15), .int .i64 (Pl.bt n 24 20), .int .i64 (Pl.wde (Pl.bt n 31 31 * 4096 + Pl.bt n 7 7 * 2048 + Pl.bt n 30 25 * 32 + Pl.bt n 11 8 * 2) 13)] (0, 0) _ ?hp ?hg Tryz.underlying67 ?hd ?hi
    case hp => rfl
    case hg => exact setRow_heap _ _ _ _ _ _ (keep_other (keep_other (keep_other (X2.out) (Nat.ne_of_lt Z2)) (Nat.ne_of_lt Z2)) (Nat.ne_of_lt Z2))
    case hd => rfl
    case hi => kernel_rfl
  · refine below_setRow5 ?_ (Nat.le_refl _) _
    repeat (first | exact B2.out | refine below_drewN ?_ _ | refine Below.setCell ?_ (Nat.le_of_lt Z2) _)
set_option maxHeartbeats 2000000 in
theorem l2Read_6 (k : Nat) (h1 : 1 ≤ k) (h2 : k ≤ 47) (HF : Hid (Pl.fmN k = 6)) (n : Int) (w : World) :
    Calls Tryz.prog 53 #[.int .i64 (k : Int), .int .i64 n] w fun e w' => e = .returned (.agg #[.int .i64 (k : Int), .int .i64 (Pl.bt n 11 7), .int .i64 (0), .int .i64 (0), .int .i64 (Pl.bt n 31 12)]) ∧ Below w.heap.size w w' := by
  have b0 : 0 ≤ Pl.bt n 31 12 ∧ Pl.bt n 31 12 ≤ 1048575 := Pl.bt_bd n 31 12
  go_enter Tryz.func53, Tryz.ntmps53
  go_wp2_with (first | (go_at_call 50; refine (form_any k h1 h2 _).mono ?_; rintro e w' ⟨rfl, rfl⟩; rw [HF.out]) )
  refine calls_at5 fun u0 hu0 => ?_
  have X0 : Hid (u0.heap[w.heap.size]? = some (.cells #[.int .i64 0, .int .i64 0, .int .i64 0, .int .i64 0, .int .i64 0] 67)) := by show u0.heap[w.heap.size]? = _; rw [hu0]; exact heap_alloc_new w _
  have B0 : Hid (Below w.heap.size w u0) := by show Below w.heap.size w u0; rw [hu0]; exact below_alloc w _
  have Z0 : Hid (w.heap.size < u0.heap.size) := by show w.heap.size < u0.heap.size; rw [hu0]; simp
  clear hu0
  refine (parts_b 6 (by decide) (by decide) u0).mono ?_
  rintro e u1 ⟨rfl, d1⟩
  have X1 : Hid (u1.heap[w.heap.size]? = some (.cells #[.int .i64 0, .int .i64 0, .int .i64 0, .int .i64 0, .int .i64 0] 67)) := (d1.block _ Z0.out).trans X0.out
  have B1 : Hid (Below w.heap.size w u1) := B0.out.trans (d1.mono (Nat.le_of_lt Z0.out))
  have Z1 : Hid (w.heap.size < u1.heap.size) := Nat.lt_of_lt_of_le Z0.out d1.size
  clear d1 X0 B0 Z0
  rw [show Pl.pts 6 = 9 from rfl]
  go_wp2_with (refine wpList_store_row rfl 67 _ _ rfl (u1.heap.size) #[.int .i64 (k : Int), .int .i64 0, .int .i64 0, .int .i64 0, .int .i64 0] ?hx ?hy 67 #[.int .i64 0, .int .i64 0, .int .i64 0, .int .i64 0, .int .i64 0] ?hg ?hi ?ho ?h1 ?_; (case hx => rfl); (case hy => rfl); (case hg => exact heap_alloc_new u1 _); (case hi => kernel_rfl); (case ho => kernel_rfl); (case h1 => kernel_rfl); refine Hid.out ?_)
  unfold Hid
  rw [World.setRow_alloc_new]
  refine wpList_at fun u2 hu2 => ?_
  have d2 : Below u1.heap.size u1 u2 := by rw [hu2]; exact below_alloc u1 _
  have Y2 : Hid (u2.heap[u1.heap.size]? = some (.cells #[.int .i64 (k : Int), .int .i64 0, .int .i64 0, .int .i64 0, .int .i64 0] 67)) := by show u2.heap[u1.heap.size]? = _; rw [hu2]; exact heap_alloc_new u1 _
  have X2 : Hid (u2.heap[w.heap.size]? = some (.cells #[.int .i64 0, .int .i64 0, .int .i64 0, .int .i64 0, .int .i64 0] 67)) := (d2.block _ Z1.out).trans X1.out
  have B2 : Hid (Below w.heap.size w u2) := B1.out.trans (d2.mono (Nat.le_of_lt Z1.out))
  clear d2 hu2 X1 B1
  obtain ⟨g, hg⟩ : ∃ g, g = u1.heap.size := ⟨_, rfl⟩
  rw [← hg] at Z1 Y2 ⊢
  have Z2 : w.heap.size < g := Z1.out
  clear hg Z1
  have ky : ∀ j, u2.cell? ⟨g, j, none⟩ = (#[.int .i64 (k : Int), .int .i64 0, .int .i64 0, .int .i64 0, .int .i64 0] : Array Value)[j]? := fun j => cell_of_row u2 g j _ 67 (0, 0) Y2.out
  have kf : ∀ j, u2.frozen? ⟨g, j, none⟩ = false := fun j => frozen_of_row u2 g j _ 67 Y2.out
  go_wp2_with (first | (go_at_call 77; refine (l2Bits_is _ _ _ (by decide) _).mono ?_; rintro e u3 ⟨rfl, mm, rfl⟩) | (go_at_call 78; refine (l2Wide_is _ _ (by decide) (by omega) _).mono ?_; rintro e u3 ⟨rfl, rfl⟩) | (refine wpList_load_row rfl 67 _ rfl g ?hx 67 #[.int .i64 (k : Int), .int .i64 (Pl.bt n 11 7), .int .i64 (0), .int .i64 (0), .int .i64 (Pl.bt n 31 12)] (0, 0) _ ?hg Tryz.underlying67 ?hd ?hi ?_; (case hx => rfl); (case hg => exact row_put5 (row_put5 (Y2.out) _ _ rfl) _ _ rfl); (case hd => rfl); (case hi => kernel_rfl)) | (refine wpList_store_row rfl 67 _ _ rfl (w.heap.size) #[.int .i64 (k : Int), .int .i64 (Pl.bt n 11 7), .int .i64 (0), .int .i64 (0), .int .i64 (Pl.bt n 31 12)] ?hx ?hy 67 #[.int .i64 0, .int .i64 0, .int .i64 0, .int .i64 0, .int .i64 0] ?hg ?hi ?ho ?h1 ?_; (case hx => rfl); (case hy => rfl); (case hg => exact keep_other (keep_other (X2.out) (Nat.ne_of_lt Z2)) (Nat.ne_of_lt Z2)); (case hi => kernel_rfl); (case ho => kernel_rfl); (case h1 => kernel_rfl); refine Hid.out ?_))
  unfold Hid
  go_wp2_with fail
  refine bodyPost_ret (v := .agg #[.int .i64 (k : Int), .int .i64 (Pl.bt n 11 7), .int .i64 (0), .int .i64 (0), .int .i64 (Pl.bt n 31 12)]) ?_ rfl ⟨rfl, ?_⟩
  · refine results_cell_row Tryz.results53 _ _ (w.heap.size) 67 #[.int .i64 (k : Int), .int .i64 (Pl.bt n 11 7), .int .i64 (0), .int .i64 (0), .int .i64 (Pl.bt n 31 12)] (0, 0) _ ?hp ?hg Tryz.underlying67 ?hd ?hi
    case hp => rfl
    case hg => exact setRow_heap _ _ _ _ _ _ (keep_other (keep_other (X2.out) (Nat.ne_of_lt Z2)) (Nat.ne_of_lt Z2))
    case hd => rfl
    case hi => kernel_rfl
  · refine below_setRow5 ?_ (Nat.le_refl _) _
    repeat (first | exact B2.out | refine below_drewN ?_ _ | refine Below.setCell ?_ (Nat.le_of_lt Z2) _)
set_option maxHeartbeats 2000000 in
theorem l2Read_7 (k : Nat) (h1 : 1 ≤ k) (h2 : k ≤ 47) (HF : Hid (Pl.fmN k = 7)) (n : Int) (w : World) :
    Calls Tryz.prog 53 #[.int .i64 (k : Int), .int .i64 n] w fun e w' => e = .returned (.agg #[.int .i64 (k : Int), .int .i64 (Pl.bt n 11 7), .int .i64 (0), .int .i64 (0), .int .i64 (Pl.wde (Pl.bt n 31 31 * 1048576 + Pl.bt n 19 12 * 4096 + Pl.bt n 20 20 * 2048 + Pl.bt n 30 21 * 2) 21)]) ∧ Below w.heap.size w w' := by
  have b0 : 0 ≤ Pl.bt n 31 31 ∧ Pl.bt n 31 31 ≤ 1 := Pl.bt_bd n 31 31
  have b1 : 0 ≤ Pl.bt n 19 12 ∧ Pl.bt n 19 12 ≤ 255 := Pl.bt_bd n 19 12
  have b2 : 0 ≤ Pl.bt n 20 20 ∧ Pl.bt n 20 20 ≤ 1 := Pl.bt_bd n 20 20
  have b3 : 0 ≤ Pl.bt n 30 21 ∧ Pl.bt n 30 21 ≤ 1023 := Pl.bt_bd n 30 21
  go_enter Tryz.func53, Tryz.ntmps53
  go_wp2_with (first | (go_at_call 50; refine (form_any k h1 h2 _).mono ?_; rintro e w' ⟨rfl, rfl⟩; rw [HF.out]) )
  refine calls_at5 fun u0 hu0 => ?_
  have X0 : Hid (u0.heap[w.heap.size]? = some (.cells #[.int .i64 0, .int .i64 0, .int .i64 0, .int .i64 0, .int .i64 0] 67)) := by show u0.heap[w.heap.size]? = _; rw [hu0]; exact heap_alloc_new w _
  have B0 : Hid (Below w.heap.size w u0) := by show Below w.heap.size w u0; rw [hu0]; exact below_alloc w _
  have Z0 : Hid (w.heap.size < u0.heap.size) := by show w.heap.size < u0.heap.size; rw [hu0]; simp
  clear hu0
  refine (parts_b 7 (by decide) (by decide) u0).mono ?_
  rintro e u1 ⟨rfl, d1⟩
  have X1 : Hid (u1.heap[w.heap.size]? = some (.cells #[.int .i64 0, .int .i64 0, .int .i64 0, .int .i64 0, .int .i64 0] 67)) := (d1.block _ Z0.out).trans X0.out
  have B1 : Hid (Below w.heap.size w u1) := B0.out.trans (d1.mono (Nat.le_of_lt Z0.out))
  have Z1 : Hid (w.heap.size < u1.heap.size) := Nat.lt_of_lt_of_le Z0.out d1.size
  clear d1 X0 B0 Z0
  rw [show Pl.pts 7 = 9 from rfl]
  go_wp2_with (refine wpList_store_row rfl 67 _ _ rfl (u1.heap.size) #[.int .i64 (k : Int), .int .i64 0, .int .i64 0, .int .i64 0, .int .i64 0] ?hx ?hy 67 #[.int .i64 0, .int .i64 0, .int .i64 0, .int .i64 0, .int .i64 0] ?hg ?hi ?ho ?h1 ?_; (case hx => rfl); (case hy => rfl); (case hg => exact heap_alloc_new u1 _); (case hi => kernel_rfl); (case ho => kernel_rfl); (case h1 => kernel_rfl); refine Hid.out ?_)
  unfold Hid
  rw [World.setRow_alloc_new]
  refine wpList_at fun u2 hu2 => ?_
  have d2 : Below u1.heap.size u1 u2 := by rw [hu2]; exact below_alloc u1 _
  have Y2 : Hid (u2.heap[u1.heap.size]? = some (.cells #[.int .i64 (k : Int), .int .i64 0, .int .i64 0, .int .i64 0, .int .i64 0] 67)) := by show u2.heap[u1.heap.size]? = _; rw [hu2]; exact heap_alloc_new u1 _
  have X2 : Hid (u2.heap[w.heap.size]? = some (.cells #[.int .i64 0, .int .i64 0, .int .i64 0, .int .i64 0, .int .i64 0] 67)) := (d2.block _ Z1.out).trans X1.out
  have B2 : Hid (Below w.heap.size w u2) := B1.out.trans (d2.mono (Nat.le_of_lt Z1.out))
  clear d2 hu2 X1 B1
  obtain ⟨g, hg⟩ : ∃ g, g = u1.heap.size := ⟨_, rfl⟩
  rw [← hg] at Z1 Y2 ⊢
  have Z2 : w.heap.size < g := Z1.out
  clear hg Z1
  have ky : ∀ j, u2.cell? ⟨g, j, none⟩ = (#[.int .i64 (k : Int), .int .i64 0, .int .i64 0, .int .i64 0, .int .i64 0] : Array Value)[j]? := fun j => cell_of_row u2 g j _ 67 (0, 0) Y2.out
  have kf : ∀ j, u2.frozen? ⟨g, j, none⟩ = false := fun j => frozen_of_row u2 g j _ 67 Y2.out
  go_wp2_with (first | (go_at_call 77; refine (l2Bits_is _ _ _ (by decide) _).mono ?_; rintro e u3 ⟨rfl, mm, rfl⟩) | (go_at_call 78; refine (l2Wide_is _ _ (by decide) (by omega) _).mono ?_; rintro e u3 ⟨rfl, rfl⟩) | (refine wpList_load_row rfl 67 _ rfl g ?hx 67 #[.int .i64 (k : Int), .int .i64 (Pl.bt n 11 7), .int .i64 (0), .int .i64 (0), .int .i64 (Pl.wde (Pl.bt n 31 31 * 1048576 + Pl.bt n 19 12 * 4096 + Pl.bt n 20 20 * 2048 + Pl.bt n 30 21 * 2) 21)] (0, 0) _ ?hg Tryz.underlying67 ?hd ?hi ?_; (case hx => rfl); (case hg => exact row_put5 (row_put5 (Y2.out) _ _ rfl) _ _ rfl); (case hd => rfl); (case hi => kernel_rfl)) | (refine wpList_store_row rfl 67 _ _ rfl (w.heap.size) #[.int .i64 (k : Int), .int .i64 (Pl.bt n 11 7), .int .i64 (0), .int .i64 (0), .int .i64 (Pl.wde (Pl.bt n 31 31 * 1048576 + Pl.bt n 19 12 * 4096 + Pl.bt n 20 20 * 2048 + Pl.bt n 30 21 * 2) 21)] ?hx ?hy 67 #[.int .i64 0, .int .i64 0, .int .i64 0, .int .i64 0, .int .i64 0] ?hg ?hi ?ho ?h1 ?_; (case hx => rfl); (case hy => rfl); (case hg => exact keep_other (keep_other (X2.out) (Nat.ne_of_lt Z2)) (Nat.ne_of_lt Z2)); (case hi => kernel_rfl); (case ho => kernel_rfl); (case h1 => kernel_rfl); refine Hid.out ?_))
  unfold Hid
  go_wp2_with fail
  refine bodyPost_ret (v := .agg #[.int .i64 (k : Int), .int .i64 (Pl.bt n 11 7), .int .i64 (0), .int .i64 (0), .int .i64 (Pl.wde (Pl.bt n 31 31 * 1048576 + Pl.bt n 19 12 * 4096 + Pl.bt n 20 20 * 2048 + Pl.bt n 30 21 * 2) 21)]) ?_ rfl ⟨rfl, ?_⟩
  · refine results_cell_row Tryz.results53 _ _ (w.heap.size) 67 #[.int .i64 (k : Int), .int .i64 (Pl.bt n 11 7), .int .i64 (0), .int .i64 (0), .int .i64 (Pl.wde (Pl.bt n 31 31 * 1048576 + Pl.bt n 19 12 * 4096 + Pl.bt n 20 20 * 2048 + Pl.bt n 30 21 * 2) 21)] (0, 0) _ ?hp ?hg Tryz.underlying67 ?hd ?hi
    case hp => rfl
    case hg => exact setRow_heap _ _ _ _ _ _ (keep_other (keep_other (X2.out) (Nat.ne_of_lt Z2)) (Nat.ne_of_lt Z2))
    case hd => rfl
    case hi => kernel_rfl
  · refine below_setRow5 ?_ (Nat.le_refl _) _
    repeat (first | exact B2.out | refine below_drewN ?_ _ | refine Below.setCell ?_ (Nat.le_of_lt Z2) _)
set_option maxHeartbeats 2000000 in
theorem l2Read_8 (k : Nat) (h1 : 1 ≤ k) (h2 : k ≤ 47) (HF : Hid (Pl.fmN k = 8)) (n : Int) (w : World) :
    Calls Tryz.prog 53 #[.int .i64 (k : Int), .int .i64 n] w fun e w' => e = .returned (.agg #[.int .i64 (k : Int), .int .i64 (0), .int .i64 (0), .int .i64 (0), .int .i64 (0)]) ∧ Below w.heap.size w w' := by
  go_enter Tryz.func53, Tryz.ntmps53
  go_wp2_with (first | (go_at_call 50; refine (form_any k h1 h2 _).mono ?_; rintro e w' ⟨rfl, rfl⟩; rw [HF.out]) )
  refine calls_at5 fun u0 hu0 => ?_
  have X0 : Hid (u0.heap[w.heap.size]? = some (.cells #[.int .i64 0, .int .i64 0, .int .i64 0, .int .i64 0, .int .i64 0] 67)) := by show u0.heap[w.heap.size]? = _; rw [hu0]; exact heap_alloc_new w _
  have B0 : Hid (Below w.heap.size w u0) := by show Below w.heap.size w u0; rw [hu0]; exact below_alloc w _
  have Z0 : Hid (w.heap.size < u0.heap.size) := by show w.heap.size < u0.heap.size; rw [hu0]; simp
  clear hu0
  refine (parts_b 8 (by decide) (by decide) u0).mono ?_
  rintro e u1 ⟨rfl, d1⟩
  have X1 : Hid (u1.heap[w.heap.size]? = some (.cells #[.int .i64 0, .int .i64 0, .int .i64 0, .int .i64 0, .int .i64 0] 67)) := (d1.block _ Z0.out).trans X0.out
  have B1 : Hid (Below w.heap.size w u1) := B0.out.trans (d1.mono (Nat.le_of_lt Z0.out))
  have Z1 : Hid (w.heap.size < u1.heap.size) := Nat.lt_of_lt_of_le Z0.out d1.size
  clear d1 X0 B0 Z0
  rw [show Pl.pts 8 = 0 from rfl]
  go_wp2_with (refine wpList_store_row rfl 67 _ _ rfl (u1.heap.size) #[.int .i64 (k : Int), .int .i64 0, .int .i64 0, .int .i64 0, .int .i64 0] ?hx ?hy 67 #[.int .i64 0, .int .i64 0, .int .i64 0, .int .i64 0, .int .i64 0] ?hg ?hi ?ho ?h1 ?_; (case hx => rfl); (case hy => rfl); (case hg => exact heap_alloc_new u1 _); (case hi => kernel_rfl); (case ho => kernel_rfl); (case h1 => kernel_rfl); refine Hid.out ?_)
  unfold Hid
  rw [World.setRow_alloc_new]
  refine wpList_at fun u2 hu2 => ?_
  have d2 : Below u1.heap.size u1 u2 := by rw [hu2]; exact below_alloc u1 _
  have Y2 : Hid (u2.heap[u1.heap.size]? = some (.cells #[.int .i64 (k : Int), .int .i64 0, .int .i64 0, .int .i64 0, .int .i64 0] 67)) := by show u2.heap[u1.heap.size]? = _; rw [hu2]; exact heap_alloc_new u1 _
  have X2 : Hid (u2.heap[w.heap.size]? = some (.cells #[.int .i64 0, .int .i64 0, .int .i64 0, .int .i64 0, .int .i64 0] 67)) := (d2.block _ Z1.out).trans X1.out
  have B2 : Hid (Below w.heap.size w u2) := B1.out.trans (d2.mono (Nat.le_of_lt Z1.out))
  clear d2 hu2 X1 B1
  obtain ⟨g, hg⟩ : ∃ g, g = u1.heap.size := ⟨_, rfl⟩
  rw [← hg] at Z1 Y2 ⊢
  have Z2 : w.heap.size < g := Z1.out
  clear hg Z1
  have ky : ∀ j, u2.cell? ⟨g, j, none⟩ = (#[.int .i64 (k : Int), .int .i64 0, .int .i64 0, .int .i64 0, .int .i64 0] : Array Value)[j]? := fun j => cell_of_row u2 g j _ 67 (0, 0) Y2.out
  have kf : ∀ j, u2.frozen? ⟨g, j, none⟩ = false := fun j => frozen_of_row u2 g j _ 67 Y2.out
  go_wp2_with (first | (go_at_call 77; refine (l2Bits_is _ _ _ (by decide) _).mono ?_; rintro e u3 ⟨rfl, mm, rfl⟩) | (go_at_call 78; refine (l2Wide_is _ _ (by decide) (by omega) _).mono ?_; rintro e u3 ⟨rfl, rfl⟩) | (refine wpList_load_row rfl 67 _ rfl g ?hx 67 #[.int .i64 (k : Int), .int .i64 (0), .int .i64 (0), .int .i64 (0), .int .i64 (0)] (0, 0) _ ?hg Tryz.underlying67 ?hd ?hi ?_; (case hx => rfl); (case hg => exact Y2.out); (case hd => rfl); (case hi => kernel_rfl)) | (refine wpList_store_row rfl 67 _ _ rfl (w.heap.size) #[.int .i64 (k : Int), .int .i64 (0), .int .i64 (0), .int .i64 (0), .int .i64 (0)] ?hx ?hy 67 #[.int .i64 0, .int .i64 0, .int .i64 0, .int .i64 0, .int .i64 0] ?hg ?hi ?ho ?h1 ?_; (case hx => rfl); (case hy => rfl); (case hg => exact X2.out); (case hi => kernel_rfl); (case ho => kernel_rfl); (case h1 => kernel_rfl); refine Hid.out ?_))
  unfold Hid
  go_wp2_with fail
  refine bodyPost_ret (v := .agg #[.int .i64 (k : Int), .int .i64 (0), .int .i64 (0), .int .i64 (0), .int .i64 (0)]) ?_ rfl ⟨rfl, ?_⟩
  · refine results_cell_row Tryz.results53 _ _ (w.heap.size) 67 #[.int .i64 (k : Int), .int .i64 (0), .int .i64 (0), .int .i64 (0), .int .i64 (0)] (0, 0) _ ?hp ?hg Tryz.underlying67 ?hd ?hi
    case hp => rfl
    case hg => exact setRow_heap _ _ _ _ _ _ (X2.out)
    case hd => rfl
    case hi => kernel_rfl
  · refine below_setRow5 ?_ (Nat.le_refl _) _
    repeat (first | exact B2.out | refine below_drewN ?_ _ | refine Below.setCell ?_ (Nat.le_of_lt Z2) _)
end Go.Proofs.YtnapeklkhkonhaaGreatDoor.W
