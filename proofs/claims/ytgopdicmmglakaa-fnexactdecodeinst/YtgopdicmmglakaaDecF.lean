import Derived.Test.YtgopdicmmglakaaDecI
import Derived.Test.YtgopdicmmglakaaMacM
set_option linter.unusedVariables false
namespace Go.Proofs.Ytgopdicmmglakaa.Pl
/-- the fields that a word has in a form -/
def fRd (f : Nat) (n : Int) : Int := if us f 0 then n / pw 7 % pw 5 else 0
def fR1 (f : Nat) (n : Int) : Int := if us f 1 then n / pw 15 % pw 5 else 0
def fR2 (f : Nat) (n : Int) : Int := if us f 2 then n / pw 20 % pw 5 else 0
end Go.Proofs.Ytgopdicmmglakaa.Pl
namespace Go.Proofs.Ytgopdicmmglakaa.W
open Go.RowKit
theorem readImm_any (n : Int) (f : Nat) (h1 : 1 ≤ f) (h2 : f ≤ 8) (w : World) :
    Calls Try.prog 62 #[.int .i64 n, .agg (Pl.ruleV f)] w fun e w' => e = .returned (.int .i64 (Pl.gIm f n)) ∧ Below w.heap.size w w' := by
  rcases Pl.form_cases f h1 h2 with rfl | rfl | rfl | rfl | rfl | rfl | rfl | rfl
  · exact readImm_1 n w
  · exact readImm_2 n w
  · exact readImm_3 n w
  · exact readImm_4 n w
  · exact readImm_5 n w
  · exact readImm_6 n w
  · exact readImm_7 n w
  · exact readImm_8 n w
theorem calls_at5 {P : Program} {f : Nat} {args : Array Value} {W : World} {Q : Ending → World → Prop} (h : ∀ U, U = W → Calls P f args U Q) : Calls P f args W Q := h W rfl
theorem below_setRow5 {B : Nat} {a b : World} (h : Below B a b) {g : Nat} (hp : B ≤ g) (cs : Array Value) : Below B a (b.setRow g cs) :=
  ⟨h.os, h.tape, h.output, by simpa using h.size, fun k hk => (setRow_other b g k cs (by omega)).trans (h.block k hk)⟩
theorem row_put5 {u : World} {g : Nat} {cs cs' : Array Value} {t : TypeId} (q : u.heap[g]? = some (.cells cs t)) (j : Nat) (x : Value) (e : cs.setIfInBounds j x = cs') : (u.setCell ⟨g, j, none⟩ x).heap[g]? = some (.cells cs' t) := by
  rw [← e]; exact heap_setCell_same u g j cs t x q
set_option maxHeartbeats 4000000 in
theorem readFields_any (n : Int) (f : Nat) (h1 : 1 ≤ f) (h2 : f ≤ 8) (w : World) :
    Calls Try.prog 42 #[.int .i64 n, .agg (Pl.ruleV f)] w fun e w' => e = .returned (.agg #[.int .i64 0, .int .i64 (Pl.fRd f n), .int .i64 (Pl.fR1 f n), .int .i64 (Pl.fR2 f n), .int .i64 (Pl.gIm f n)]) ∧ Below w.heap.size w w' := by
  have hri := fun W => readImm_any n f h1 h2 W
  unfold Pl.ruleV at hri ⊢
  unfold Pl.fRd Pl.fR1 Pl.fR2
  obtain ⟨q0, e0⟩ : ∃ q, q = Pl.us f 0 := ⟨_, rfl⟩
  obtain ⟨q1, e1⟩ : ∃ q, q = Pl.us f 1 := ⟨_, rfl⟩
  obtain ⟨q2, e2⟩ : ∃ q, q = Pl.us f 2 := ⟨_, rfl⟩
  rw [← e0, ← e1, ← e2] at hri ⊢
  have HRI : Hid _ := hri
  obtain ⟨gi, hgi⟩ : ∃ gi, gi = Pl.gIm f n := ⟨_, rfl⟩
  clear hri e0 e1 e2
  have P0 : Hid (((w.alloc (.cells #[.bool q0, .bool q1, .bool q2, .int .i64 (Pl.lo f), .int .i64 (Pl.hi f), .int .i64 (Pl.st f), .int .i64 (Pl.pa f 0), .int .i64 (Pl.pa f 1), .int .i64 (Pl.pa f 2), .int .i64 (Pl.pa f 3), .int .i64 (Pl.pa f 4), .int .i64 (Pl.pa f 5), .int .i64 (Pl.pa f 6), .int .i64 (Pl.pa f 7), .int .i64 (Pl.pa f 8), .int .i64 (Pl.pa f 9), .int .i64 (Pl.pa f 10), .int .i64 (Pl.pa f 11)] 71)).alloc (.cells #[.int .i64 0, .int .i64 0, .int .i64 0, .int .i64 0, .int .i64 0] 41)).heap[w.heap.size]? = some (.cells #[.bool q0, .bool q1, .bool q2, .int .i64 (Pl.lo f), .int .i64 (Pl.hi f), .int .i64 (Pl.st f), .int .i64 (Pl.pa f 0), .int .i64 (Pl.pa f 1), .int .i64 (Pl.pa f 2), .int .i64 (Pl.pa f 3), .int .i64 (Pl.pa f 4), .int .i64 (Pl.pa f 5), .int .i64 (Pl.pa f 6), .int .i64 (Pl.pa f 7), .int .i64 (Pl.pa f 8), .int .i64 (Pl.pa f 9), .int .i64 (Pl.pa f 10), .int .i64 (Pl.pa f 11)] 71)) := (Below.heap_alloc _ _ _ (by simp)).trans (heap_alloc_new w _)
  go_enter Try.func42, Try.ntmps42
  go_wp2_with (refine wpList_load_row rfl 71 _ rfl (w.heap.size) ?hx 71 #[.bool q0, .bool q1, .bool q2, .int .i64 (Pl.lo f), .int .i64 (Pl.hi f), .int .i64 (Pl.st f), .int .i64 (Pl.pa f 0), .int .i64 (Pl.pa f 1), .int .i64 (Pl.pa f 2), .int .i64 (Pl.pa f 3), .int .i64 (Pl.pa f 4), .int .i64 (Pl.pa f 5), .int .i64 (Pl.pa f 6), .int .i64 (Pl.pa f 7), .int .i64 (Pl.pa f 8), .int .i64 (Pl.pa f 9), .int .i64 (Pl.pa f 10), .int .i64 (Pl.pa f 11)] (0, 0) _ ?hg Try.underlying71 ?hd ?hi ?_; (case hx => rfl); (case hg => exact P0.out); (case hd => rfl); (case hi => kernel_rfl))
  refine calls_at5 fun u0 hu0 => ?_
  have X0 : Hid (u0.heap[w.heap.size + 1]? = some (.cells #[.int .i64 0, .int .i64 0, .int .i64 0, .int .i64 0, .int .i64 0] 41)) := by
    show u0.heap[w.heap.size + 1]? = _
    rw [hu0]
    have := heap_alloc_new (w.alloc (.cells #[.bool q0, .bool q1, .bool q2, .int .i64 (Pl.lo f), .int .i64 (Pl.hi f), .int .i64 (Pl.st f), .int .i64 (Pl.pa f 0), .int .i64 (Pl.pa f 1), .int .i64 (Pl.pa f 2), .int .i64 (Pl.pa f 3), .int .i64 (Pl.pa f 4), .int .i64 (Pl.pa f 5), .int .i64 (Pl.pa f 6), .int .i64 (Pl.pa f 7), .int .i64 (Pl.pa f 8), .int .i64 (Pl.pa f 9), .int .i64 (Pl.pa f 10), .int .i64 (Pl.pa f 11)] 71)) (.cells #[.int .i64 0, .int .i64 0, .int .i64 0, .int .i64 0, .int .i64 0] 41)
    simpa using this
  have B0 : Hid (Below w.heap.size w u0) := by
    show Below w.heap.size w u0
    rw [hu0]
    exact ((Below.refl _ _).alloc (Nat.le_refl _) _).alloc (by simp) _
  have Z0 : Hid (w.heap.size + 1 < u0.heap.size) := by show w.heap.size + 1 < u0.heap.size; rw [hu0]; simp
  rw [← hu0] at P0
  clear hu0
  refine (HRI.out u0).mono ?_
  rintro e u1 ⟨rfl, d1⟩
  rw [← hgi]
  have HGI : Hid (gi = Pl.gIm f n) := hgi
  clear hgi
  have P1 : Hid (u1.heap[w.heap.size]? = some (.cells #[.bool q0, .bool q1, .bool q2, .int .i64 (Pl.lo f), .int .i64 (Pl.hi f), .int .i64 (Pl.st f), .int .i64 (Pl.pa f 0), .int .i64 (Pl.pa f 1), .int .i64 (Pl.pa f 2), .int .i64 (Pl.pa f 3), .int .i64 (Pl.pa f 4), .int .i64 (Pl.pa f 5), .int .i64 (Pl.pa f 6), .int .i64 (Pl.pa f 7), .int .i64 (Pl.pa f 8), .int .i64 (Pl.pa f 9), .int .i64 (Pl.pa f 10), .int .i64 (Pl.pa f 11)] 71)) := (d1.block _ (by have := Z0.out; omega)).trans P0.out
  have X1 : Hid (u1.heap[w.heap.size + 1]? = some (.cells #[.int .i64 0, .int .i64 0, .int .i64 0, .int .i64 0, .int .i64 0] 41)) := (d1.block _ (by have := Z0.out; omega)).trans X0.out
  have B1 : Hid (Below w.heap.size w u1) := B0.out.trans (d1.mono (by have := Z0.out; omega))
  have Z1 : Hid (w.heap.size + 1 < u1.heap.size) := Nat.lt_of_lt_of_le Z0.out d1.size
  clear d1 P0 X0 B0 Z0 HRI
  go_wp2_with (refine wpList_store_row rfl 41 _ _ rfl u1.heap.size #[.int .i64 0, .int .i64 0, .int .i64 0, .int .i64 0, .int .i64 gi] ?hx ?hy 41 #[.int .i64 0, .int .i64 0, .int .i64 0, .int .i64 0, .int .i64 0] ?hg ?hi ?ho ?h1 ?_; (case hx => rfl); (case hy => rfl); (case hg => exact heap_alloc_new u1 _); (case hi => kernel_rfl); (case ho => kernel_rfl); (case h1 => kernel_rfl); refine Hid.out ?_)
  unfold Hid
  rw [World.setRow_alloc_new]
  refine wpList_at fun u2 hu2 => ?_
  have d2 : Below u1.heap.size u1 u2 := by rw [hu2]; exact below_alloc u1 _
  have Y2 : Hid (u2.heap[u1.heap.size]? = some (.cells #[.int .i64 0, .int .i64 0, .int .i64 0, .int .i64 0, .int .i64 gi] 41)) := by show u2.heap[u1.heap.size]? = _; rw [hu2]; exact heap_alloc_new u1 _
  have P2 : Hid (u2.heap[w.heap.size]? = some (.cells #[.bool q0, .bool q1, .bool q2, .int .i64 (Pl.lo f), .int .i64 (Pl.hi f), .int .i64 (Pl.st f), .int .i64 (Pl.pa f 0), .int .i64 (Pl.pa f 1), .int .i64 (Pl.pa f 2), .int .i64 (Pl.pa f 3), .int .i64 (Pl.pa f 4), .int .i64 (Pl.pa f 5), .int .i64 (Pl.pa f 6), .int .i64 (Pl.pa f 7), .int .i64 (Pl.pa f 8), .int .i64 (Pl.pa f 9), .int .i64 (Pl.pa f 10), .int .i64 (Pl.pa f 11)] 71)) := (d2.block _ (by have := Z1.out; omega)).trans P1.out
  have X2 : Hid (u2.heap[w.heap.size + 1]? = some (.cells #[.int .i64 0, .int .i64 0, .int .i64 0, .int .i64 0, .int .i64 0] 41)) := (d2.block _ Z1.out).trans X1.out
  have B2 : Hid (Below w.heap.size w u2) := B1.out.trans (d2.mono (by have := Z1.out; omega))
  clear d2 hu2 P1 X1 B1
  obtain ⟨g, hg⟩ : ∃ g, g = u1.heap.size := ⟨_, rfl⟩
  rw [← hg] at Z1 Y2 ⊢
  have Z2 : w.heap.size + 1 < g := Z1.out
  clear hg Z1
  have kp : ∀ j, u2.cell? ⟨w.heap.size, j, none⟩ = (#[.bool q0, .bool q1, .bool q2, .int .i64 (Pl.lo f), .int .i64 (Pl.hi f), .int .i64 (Pl.st f), .int .i64 (Pl.pa f 0), .int .i64 (Pl.pa f 1), .int .i64 (Pl.pa f 2), .int .i64 (Pl.pa f 3), .int .i64 (Pl.pa f 4), .int .i64 (Pl.pa f 5), .int .i64 (Pl.pa f 6), .int .i64 (Pl.pa f 7), .int .i64 (Pl.pa f 8), .int .i64 (Pl.pa f 9), .int .i64 (Pl.pa f 10), .int .i64 (Pl.pa f 11)] : Array Value)[j]? := fun j => cell_of_row u2 w.heap.size j _ 71 (0, 0) P2.out
  have ky : ∀ j, u2.cell? ⟨g, j, none⟩ = (#[.int .i64 0, .int .i64 0, .int .i64 0, .int .i64 0, .int .i64 gi] : Array Value)[j]? := fun j => cell_of_row u2 g j _ 41 (0, 0) Y2.out
  have kf : ∀ j, u2.frozen? ⟨g, j, none⟩ = false := fun j => frozen_of_row u2 g j _ 41 Y2.out
  have ne1 : ¬ w.heap.size = g := by omega
  have ne2 : ¬ g = w.heap.size := by omega
  cases q0 <;> cases q1 <;> cases q2
  · go_wp2_with (first | (go_at_call 63; refine (bitsOf_is _ _ _ (by decide) (by decide) _).mono ?_; rintro e u3 ⟨rfl, mm, rfl⟩) | (refine wpList_load_row rfl 41 _ rfl g ?hx 41 #[.int .i64 0, .int .i64 0, .int .i64 0, .int .i64 0, .int .i64 gi] (0, 0) _ ?hg Try.underlying41 ?hd ?hi ?_; (case hx => rfl); (case hg => exact Y2.out); (case hd => rfl); (case hi => kernel_rfl)) | (refine wpList_store_row rfl 41 _ _ rfl (w.heap.size + 1) #[.int .i64 0, .int .i64 0, .int .i64 0, .int .i64 0, .int .i64 gi] ?hx ?hy 41 #[.int .i64 0, .int .i64 0, .int .i64 0, .int .i64 0, .int .i64 0] ?hg ?hi ?ho ?h1 ?_; (case hx => rfl); (case hy => rfl); (case hg => exact X2.out); (case hi => kernel_rfl); (case ho => kernel_rfl); (case h1 => kernel_rfl); refine Hid.out ?_))
    unfold Hid
    go_wp2_with fail
    refine bodyPost_ret (v := .agg #[.int .i64 0, .int .i64 0, .int .i64 0, .int .i64 0, .int .i64 gi]) ?hres rfl ⟨by rw [HGI.out], ?_⟩
    case hres =>
      refine results_cell_row Try.results42 _ _ (w.heap.size + 1) 41 #[.int .i64 0, .int .i64 0, .int .i64 0, .int .i64 0, .int .i64 gi] (0, 0) _ ?hp ?hg Try.underlying41 ?hd ?hi
      case hp => rfl
      case hg => exact setRow_heap _ _ _ _ _ _ (X2.out)
      case hd => rfl
      case hi => kernel_rfl
    exact below_setRow5 (B2.out) (show w.heap.size ≤ w.heap.size + 1 by omega) _
  · go_wp2_with (first | (go_at_call 63; refine (bitsOf_is _ _ _ (by decide) (by decide) _).mono ?_; rintro e u3 ⟨rfl, mm, rfl⟩) | (refine wpList_load_row rfl 41 _ rfl g ?hx 41 #[.int .i64 0, .int .i64 0, .int .i64 0, .int .i64 (n / Pl.pw 20 % Pl.pw 5), .int .i64 gi] (0, 0) _ ?hg Try.underlying41 ?hd ?hi ?_; (case hx => rfl); (case hg => exact row_put5 (keep_drew (Y2.out)) _ _ rfl); (case hd => rfl); (case hi => kernel_rfl)) | (refine wpList_store_row rfl 41 _ _ rfl (w.heap.size + 1) #[.int .i64 0, .int .i64 0, .int .i64 0, .int .i64 (n / Pl.pw 20 % Pl.pw 5), .int .i64 gi] ?hx ?hy 41 #[.int .i64 0, .int .i64 0, .int .i64 0, .int .i64 0, .int .i64 0] ?hg ?hi ?ho ?h1 ?_; (case hx => rfl); (case hy => rfl); (case hg => exact keep_other (keep_drew (X2.out)) (Nat.ne_of_lt Z2)); (case hi => kernel_rfl); (case ho => kernel_rfl); (case h1 => kernel_rfl); refine Hid.out ?_))
    unfold Hid
    go_wp2_with fail
    refine bodyPost_ret (v := .agg #[.int .i64 0, .int .i64 0, .int .i64 0, .int .i64 (n / Pl.pw 20 % Pl.pw 5), .int .i64 gi]) ?hres rfl ⟨by rw [HGI.out], ?_⟩
    case hres =>
      refine results_cell_row Try.results42 _ _ (w.heap.size + 1) 41 #[.int .i64 0, .int .i64 0, .int .i64 0, .int .i64 (n / Pl.pw 20 % Pl.pw 5), .int .i64 gi] (0, 0) _ ?hp ?hg Try.underlying41 ?hd ?hi
      case hp => rfl
      case hg => exact setRow_heap _ _ _ _ _ _ (keep_other (keep_drew (X2.out)) (Nat.ne_of_lt Z2))
      case hd => rfl
      case hi => kernel_rfl
    exact below_setRow5 (((below_drewN (B2.out) _).setCell (show w.heap.size ≤ g by omega) _)) (show w.heap.size ≤ w.heap.size + 1 by omega) _
  · go_wp2_with (first | (go_at_call 63; refine (bitsOf_is _ _ _ (by decide) (by decide) _).mono ?_; rintro e u3 ⟨rfl, mm, rfl⟩) | (refine wpList_load_row rfl 41 _ rfl g ?hx 41 #[.int .i64 0, .int .i64 0, .int .i64 (n / Pl.pw 15 % Pl.pw 5), .int .i64 0, .int .i64 gi] (0, 0) _ ?hg Try.underlying41 ?hd ?hi ?_; (case hx => rfl); (case hg => exact row_put5 (keep_drew (Y2.out)) _ _ rfl); (case hd => rfl); (case hi => kernel_rfl)) | (refine wpList_store_row rfl 41 _ _ rfl (w.heap.size + 1) #[.int .i64 0, .int .i64 0, .int .i64 (n / Pl.pw 15 % Pl.pw 5), .int .i64 0, .int .i64 gi] ?hx ?hy 41 #[.int .i64 0, .int .i64 0, .int .i64 0, .int .i64 0, .int .i64 0] ?hg ?hi ?ho ?h1 ?_; (case hx => rfl); (case hy => rfl); (case hg => exact keep_other (keep_drew (X2.out)) (Nat.ne_of_lt Z2)); (case hi => kernel_rfl); (case ho => kernel_rfl); (case h1 => kernel_rfl); refine Hid.out ?_))
    unfold Hid
    go_wp2_with fail
    refine bodyPost_ret (v := .agg #[.int .i64 0, .int .i64 0, .int .i64 (n / Pl.pw 15 % Pl.pw 5), .int .i64 0, .int .i64 gi]) ?hres rfl ⟨by rw [HGI.out], ?_⟩
    case hres =>
      refine results_cell_row Try.results42 _ _ (w.heap.size + 1) 41 #[.int .i64 0, .int .i64 0, .int .i64 (n / Pl.pw 15 % Pl.pw 5), .int .i64 0, .int .i64 gi] (0, 0) _ ?hp ?hg Try.underlying41 ?hd ?hi
      case hp => rfl
      case hg => exact setRow_heap _ _ _ _ _ _ (keep_other (keep_drew (X2.out)) (Nat.ne_of_lt Z2))
      case hd => rfl
      case hi => kernel_rfl
    exact below_setRow5 (((below_drewN (B2.out) _).setCell (show w.heap.size ≤ g by omega) _)) (show w.heap.size ≤ w.heap.size + 1 by omega) _
  · go_wp2_with (first | (go_at_call 63; refine (bitsOf_is _ _ _ (by decide) (by decide) _).mono ?_; rintro e u3 ⟨rfl, mm, rfl⟩) | (refine wpList_load_row rfl 41 _ rfl g ?hx 41 #[.int .i64 0, .int .i64 0, .int .i64 (n / Pl.pw 15 % Pl.pw 5), .int .i64 (n / Pl.pw 20 % Pl.pw 5), .int .i64 gi] (0, 0) _ ?hg Try.underlying41 ?hd ?hi ?_; (case hx => rfl); (case hg => exact row_put5 (keep_drew (row_put5 (keep_drew (Y2.out)) _ _ rfl)) _ _ rfl); (case hd => rfl); (case hi => kernel_rfl)) | (refine wpList_store_row rfl 41 _ _ rfl (w.heap.size + 1) #[.int .i64 0, .int .i64 0, .int .i64 (n / Pl.pw 15 % Pl.pw 5), .int .i64 (n / Pl.pw 20 % Pl.pw 5), .int .i64 gi] ?hx ?hy 41 #[.int .i64 0, .int .i64 0, .int .i64 0, .int .i64 0, .int .i64 0] ?hg ?hi ?ho ?h1 ?_; (case hx => rfl); (case hy => rfl); (case hg => exact keep_other (keep_drew (keep_other (keep_drew (X2.out)) (Nat.ne_of_lt Z2))) (Nat.ne_of_lt Z2)); (case hi => kernel_rfl); (case ho => kernel_rfl); (case h1 => kernel_rfl); refine Hid.out ?_))
    unfold Hid
    go_wp2_with fail
    refine bodyPost_ret (v := .agg #[.int .i64 0, .int .i64 0, .int .i64 (n / Pl.pw 15 % Pl.pw 5), .int .i64 (n / Pl.pw 20 % Pl.pw 5), .int .i64 gi]) ?hres rfl ⟨by rw [HGI.out], ?_⟩
    case hres =>
      refine results_cell_row Try.results42 _ _ (w.heap.size + 1) 41 #[.int .i64 0, .int .i64 0, .int .i64 (n / Pl.pw 15 % Pl.pw 5), .int .i64 (n / Pl.pw 20 % Pl.pw 5), .int .i64 gi] (0, 0) _ ?hp ?hg Try.underlying41 ?hd ?hi
      case hp => rfl
      case hg => exact setRow_heap _ _ _ _ _ _ (keep_other (keep_drew (keep_other (keep_drew (X2.out)) (Nat.ne_of_lt Z2))) (Nat.ne_of_lt Z2))
      case hd => rfl
      case hi => kernel_rfl
    exact below_setRow5 (((below_drewN (((below_drewN (B2.out) _).setCell (show w.heap.size ≤ g by omega) _)) _).setCell (show w.heap.size ≤ g by omega) _)) (show w.heap.size ≤ w.heap.size + 1 by omega) _
  · go_wp2_with (first | (go_at_call 63; refine (bitsOf_is _ _ _ (by decide) (by decide) _).mono ?_; rintro e u3 ⟨rfl, mm, rfl⟩) | (refine wpList_load_row rfl 41 _ rfl g ?hx 41 #[.int .i64 0, .int .i64 (n / Pl.pw 7 % Pl.pw 5), .int .i64 0, .int .i64 0, .int .i64 gi] (0, 0) _ ?hg Try.underlying41 ?hd ?hi ?_; (case hx => rfl); (case hg => exact row_put5 (keep_drew (Y2.out)) _ _ rfl); (case hd => rfl); (case hi => kernel_rfl)) | (refine wpList_store_row rfl 41 _ _ rfl (w.heap.size + 1) #[.int .i64 0, .int .i64 (n / Pl.pw 7 % Pl.pw 5), .int .i64 0, .int .i64 0, .int .i64 gi] ?hx ?hy 41 #[.int .i64 0, .int .i64 0, .int .i64 0, .int .i64 0, .int .i64 0] ?hg ?hi ?ho ?h1 ?_; (case hx => rfl); (case hy => rfl); (case hg => exact keep_other (keep_drew (X2.out)) (Nat.ne_of_lt Z2)); (case hi => kernel_rfl); (case ho => kernel_rfl); (case h1 => kernel_rfl); refine Hid.out ?_))
    unfold Hid
    go_wp2_with fail
    refine bodyPost_ret (v := .agg #[.int .i64 0, .int .i64 (n / Pl.pw 7 % Pl.pw 5), .int .i64 0, .int .i64 0, .int .i64 gi]) ?hres rfl ⟨by rw [HGI.out], ?_⟩
    case hres =>
      refine results_cell_row Try.results42 _ _ (w.heap.size + 1) 41 #[.int .i64 0, .int .i64 (n / Pl.pw 7 % Pl.pw 5), .int .i64 0, .int .i64 0, .int .i64 gi] (0, 0) _ ?hp ?hg Try.underlying41 ?hd ?hi
      case hp => rfl
      case hg => exact setRow_heap _ _ _ _ _ _ (keep_other (keep_drew (X2.out)) (Nat.ne_of_lt Z2))
      case hd => rfl
      case hi => kernel_rfl
    exact below_setRow5 (((below_drewN (B2.out) _).setCell (show w.heap.size ≤ g by omega) _)) (show w.heap.size ≤ w.heap.size + 1 by omega) _
  · go_wp2_with (first | (go_at_call 63; refine (bitsOf_is _ _ _ (by decide) (by decide) _).mono ?_; rintro e u3 ⟨rfl, mm, rfl⟩) | (refine wpList_load_row rfl 41 _ rfl g ?hx 41 #[.int .i64 0, .int .i64 (n / Pl.pw 7 % Pl.pw 5), .int .i64 0, .int .i64 (n / Pl.pw 20 % Pl.pw 5), .int .i64 gi] (0, 0) _ ?hg Try.underlying41 ?hd ?hi ?_; (case hx => rfl); (case hg => exact row_put5 (keep_drew (row_put5 (keep_drew (Y2.out)) _ _ rfl)) _ _ rfl); (case hd => rfl); (case hi => kernel_rfl)) | (refine wpList_store_row rfl 41 _ _ rfl (w.heap.size + 1) #[.int .i64 0, .int .i64 (n / Pl.pw 7 % Pl.pw 5), .int .i64 0, .int .i64 (n / Pl.pw 20 % Pl.pw 5), .int .i64 gi] ?hx ?hy 41 #[.int .i64 0, .int .i64 0, .int .i64 0, .int .i64 0, .int .i64 0] ?hg ?hi ?ho ?h1 ?_; (case hx => rfl); (case hy => rfl); (case hg => exact keep_other (keep_drew (keep_other (keep_drew (X2.out)) (Nat.ne_of_lt Z2))) (Nat.ne_of_lt Z2)); (case hi => kernel_rfl); (case ho => kernel_rfl); (case h1 => kernel_rfl); refine Hid.out ?_))
    unfold Hid
    go_wp2_with fail
    refine bodyPost_ret (v := .agg #[.int .i64 0, .int .i64 (n / Pl.pw 7 % Pl.pw 5), .int .i64 0, .int .i64 (n / Pl.pw 20 % Pl.pw 5), .int .i64 gi]) ?hres rfl ⟨by rw [HGI.out], ?_⟩
    case hres =>
      refine results_cell_row Try.results42 _ _ (w.heap.size + 1) 41 #[.int .i64 0, .int .i64 (n / Pl.pw 7 % Pl.pw 5), .int .i64 0, .int .i64 (n / Pl.pw 20 % Pl.pw 5), .int .i64 gi] (0, 0) _ ?hp ?hg Try.underlying41 ?hd ?hi
      case hp => rfl
      case hg => exact setRow_heap _ _ _ _ _ _ (keep_other (keep_drew (keep_other (keep_drew (X2.out)) (Nat.ne_of_lt Z2))) (Nat.ne_of_lt Z2))
      case hd => rfl
      case hi => kernel_rfl
    exact below_setRow5 (((below_drewN (((below_drewN (B2.out) _).setCell (show w.heap.size ≤ g by omega) _)) _).setCell (show w.heap.size ≤ g by omega) _)) (show w.heap.size ≤ w.heap.size + 1 by omega) _
  · go_wp2_with (first | (go_at_call 63; refine (bitsOf_is _ _ _ (by decide) (by decide) _).mono ?_; rintro e u3 ⟨rfl, mm, rfl⟩) | (refine wpList_load_row rfl 41 _ rfl g ?hx 41 #[.int .i64 0, .int .i64 (n / Pl.pw 7 % Pl.pw 5), .int .i64 (n / Pl.pw 15 % Pl.pw 5), .int .i64 0, .int .i64 gi] (0, 0) _ ?hg Try.underlying41 ?hd ?hi ?_; (case hx => rfl); (case hg => exact row_put5 (keep_drew (row_put5 (keep_drew (Y2.out)) _ _ rfl)) _ _ rfl); (case hd => rfl); (case hi => kernel_rfl)) | (refine wpList_store_row rfl 41 _ _ rfl (w.heap.size + 1) #[.int .i64 0, .int .i64 (n / Pl.pw 7 % Pl.pw 5), .int .i64 (n / Pl.pw 15 % Pl.pw 5), .int .i64 0, .int .i64 gi] ?hx ?hy 41 #[.int .i64 0, .int .i64 0, .int .i64 0, .int .i64 0, .int .i64 0] ?hg ?hi ?ho ?h1 ?_; (case hx => rfl); (case hy => rfl); (case hg => exact keep_other (keep_drew (keep_other (keep_drew (X2.out)) (Nat.ne_of_lt Z2))) (Nat.ne_of_lt Z2)); (case hi => kernel_rfl); (case ho => kernel_rfl); (case h1 => kernel_rfl); refine Hid.out ?_))
    unfold Hid
    go_wp2_with fail
    refine bodyPost_ret (v := .agg #[.int .i64 0, .int .i64 (n / Pl.pw 7 % Pl.pw 5), .int .i64 (n / Pl.pw 15 % Pl.pw 5), .int .i64 0, .int .i64 gi]) ?hres rfl ⟨by rw [HGI.out], ?_⟩
    case hres =>
      refine results_cell_row Try.results42 _ _ (w.heap.size + 1) 41 #[.int .i64 0, .int .i64 (n / Pl.pw 7 % Pl.pw 5), .int .i64 (n / Pl.pw 15 % Pl.pw 5), .int .i64 0, .int .i64 gi] (0, 0) _ ?hp ?hg Try.underlying41 ?hd ?hi
      case hp => rfl
      case hg => exact setRow_heap _ _ _ _ _ _ (keep_other (keep_drew (keep_other (keep_drew (X2.out)) (Nat.ne_of_lt Z2))) (Nat.ne_of_lt Z2))
      case hd => rfl
      case hi => kernel_rfl
    exact below_setRow5 (((below_drewN (((below_drewN (B2.out) _).setCell (show w.heap.size ≤ g by omega) _)) _).setCell (show w.heap.size ≤ g by omega) _)) (show w.heap.size ≤ w.heap.size + 1 by omega) _
  · go_wp2_with (first | (go_at_call 63; refine (bitsOf_is _ _ _ (by decide) (by decide) _).mono ?_; rintro e u3 ⟨rfl, mm, rfl⟩) | (refine wpList_load_row rfl 41 _ rfl g ?hx 41 #[.int .i64 0, .int .i64 (n / Pl.pw 7 % Pl.pw 5), .int .i64 (n / Pl.pw 15 % Pl.pw 5), .int .i64 (n / Pl.pw 20 % Pl.pw 5), .int .i64 gi] (0, 0) _ ?hg Try.underlying41 ?hd ?hi ?_; (case hx => rfl); (case hg => exact row_put5 (keep_drew (row_put5 (keep_drew (row_put5 (keep_drew (Y2.out)) _ _ rfl)) _ _ rfl)) _ _ rfl); (case hd => rfl); (case hi => kernel_rfl)) | (refine wpList_store_row rfl 41 _ _ rfl (w.heap.size + 1) #[.int .i64 0, .int .i64 (n / Pl.pw 7 % Pl.pw 5), .int .i64 (n / Pl.pw 15 % Pl.pw 5), .int .i64 (n / Pl.pw 20 % Pl.pw 5), .int .i64 gi] ?hx ?hy 41 #[.int .i64 0, .int .i64 0, .int .i64 0, .int .i64 0, .int .i64 0] ?hg ?hi ?ho ?h1 ?_; (case hx => rfl); (case hy => rfl); (case hg => exact keep_other (keep_drew (keep_other (keep_drew (keep_other (keep_drew (X2.out)) (Nat.ne_of_lt Z2))) (Nat.ne_of_lt Z2))) (Nat.ne_of_lt Z2)); (case hi => kernel_rfl); (case ho => kernel_rfl); (case h1 => kernel_rfl); refine Hid.out ?_))
    unfold Hid
    go_wp2_with fail
    refine bodyPost_ret (v := .agg #[.int .i64 0, .int .i64 (n / Pl.pw 7 % Pl.pw 5), .int .i64 (n / Pl.pw 15 % Pl.pw 5), .int .i64 (n / Pl.pw 20 % Pl.pw 5), .int .i64 gi]) ?hres rfl ⟨by rw [HGI.out], ?_⟩
    case hres =>
      refine results_cell_row Try.results42 _ _ (w.heap.size + 1) 41 #[.int .i64 0, .int .i64 (n / Pl.pw 7 % Pl.pw 5), .int .i64 (n / Pl.pw 15 % Pl.pw 5), .int .i64 (n / Pl.pw 20 % Pl.pw 5), .int .i64 gi] (0, 0) _ ?hp ?hg Try.underlying41 ?hd ?hi
      case hp => rfl
      case hg => exact setRow_heap _ _ _ _ _ _ (keep_other (keep_drew (keep_other (keep_drew (keep_other (keep_drew (X2.out)) (Nat.ne_of_lt Z2))) (Nat.ne_of_lt Z2))) (Nat.ne_of_lt Z2))
      case hd => rfl
      case hi => kernel_rfl
    exact below_setRow5 (((below_drewN (((below_drewN (((below_drewN (B2.out) _).setCell (show w.heap.size ≤ g by omega) _)) _).setCell (show w.heap.size ≤ g by omega) _)) _).setCell (show w.heap.size ≤ g by omega) _)) (show w.heap.size ≤ w.heap.size + 1 by omega) _
end Go.Proofs.Ytgopdicmmglakaa.W
