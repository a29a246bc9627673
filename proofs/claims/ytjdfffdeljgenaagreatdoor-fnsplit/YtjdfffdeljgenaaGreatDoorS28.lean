import Derived.Test.YtjdfffdeljgenaaGreatDoorS27
import Derived.Test.YtjdfffdeljgenaaGreatDoorS00
import Derived.Test.YtjdfffdeljgenaaGreatDoorS26
import Derived.ChangeKeysEq
import Derived.Laws.StructEq
import Derived.Deep.RegionWith
set_option linter.unusedVariables false
namespace Go.Proofs.YtjdfffdeljgenaaGreatDoor.Pl
def fRd (f : Nat) (n : Int) : Int := if us f 0 then n / pw 7 % pw 5 else 0
def fR1 (f : Nat) (n : Int) : Int := if us f 1 then n / pw 15 % pw 5 else 0
def fR2 (f : Nat) (n : Int) : Int := if us f 2 then n / pw 20 % pw 5 else 0
end Go.Proofs.YtjdfffdeljgenaaGreatDoor.Pl
namespace Go.Proofs.YtjdfffdeljgenaaGreatDoor.W
open Go.RowKit
theorem readImm_any (n : Int) (f : Nat) (h1 : 1 ≤ f) (h2 : f ≤ 8) (w : World) :
    Calls Tryz.prog 130 #[.int .i64 n, .agg (Pl.ruleV f)] w fun e w' => e = .returned (.int .i64 (Pl.gIm f n)) ∧ Below w.heap.size w w' := by
  rcases Pl.form_cases f h1 h2 with rfl | rfl | rfl | rfl | rfl | rfl | rfl | rfl
  · exact readImm_1 n w
  · exact readImm_2 n w
  · exact readImm_3 n w
  · exact readImm_4 n w
  · exact readImm_5 n w
  · exact readImm_6 n w
  · exact readImm_7 n w
  · exact readImm_8 n w
theorem calls_at5 {P : Program} {f : Nat} {args : Array Value} {W : World} {Q : Ending → World → Prop} (h : ∀ U, U = W → Calls P f args U Q) : Calls P f args W Q := h W rfl
theorem below_setRow5 {B : Nat} {a b : World} (h : Below B a b) {g : Nat} (hp : B ≤ g) (cs : Array Value) : Below B a (b.setRow g cs) :=
  ⟨h.os, h.tape, h.output, by simpa using h.size, fun k hk => (setRow_other b g k cs (by omega)).trans (h.block k hk)⟩
theorem row_put5 {u : World} {g : Nat} {cs cs' : Array Value} {t : TypeId} (q : u.heap[g]? = some (.cells cs t)) (j : Nat) (x : Value) (e : cs.setIfInBounds j x = cs') : (u.setCell ⟨g, j, none⟩ x).heap[g]? = some (.cells cs' t) := by
  rw [← e]; exact heap_setCell_same u g j cs t x q
set_option maxHeartbeats 4000000 in
theorem readFields_any (n : Int) (f : Nat) (h1 : 1 ≤ f) (h2 : f ≤ 8) (w : World) :
    Calls Tryz.prog 114 #[.int .i64 n, .agg (Pl.ruleV f)] w fun e w' => e = .returned (.agg #[.int .i64 0, .int .i64 (Pl.fRd f n), .int .i64 (Pl.fR1 f n), .int .i64 (Pl.fR2 f n), .int .i64 (Pl.gIm f n)]) ∧ Below w.heap.size w w' := by
  have hri := fun W => readImm_any n f h1 h2 W
  unfold Pl.ruleV at hri ⊢
  unfold Pl.fRd Pl.fR1 Pl.fR2
  obtain ⟨q0, e0⟩ : ∃ q, q = Pl.us f 0 := ⟨_, rfl⟩
  obtain ⟨q1, e1⟩ : ∃ q, q = Pl.us f 1 := ⟨_, rfl⟩
  obtain ⟨q2, e2⟩ : ∃ q, q = Pl.us f 2 := ⟨_, rfl⟩
  rw [← e0, ← e1, ← e2] at hri ⊢
  have HRI : Hid _ := hri
  obtain ⟨gi, hgi⟩ : ∃ gi, gi = Pl.gIm f n := ⟨_, rfl⟩
  clear hri e0 e1 e2
  have P0 : Hid (((w.alloc (.cells #[.bool q0, .bool q1, .bool q2, .int .i64 (Pl.lo f), .int .i64 (Pl.hi f), .int .i64 (Pl.st f), .int .i64 (Pl.pa f 0), .int .i64 (Pl.pa f 1), .int .i64 (Pl.pa f 2), .int .i64 (Pl.pa f 3), .int .i64 (Pl.pa f 4), .int .i64 (Pl.pa f 5), .int .i64 (Pl.pa f 6), .int .i64 (Pl.pa f 7), .int .i64 (Pl.pa f 8), .int .i64 (Pl.pa f 9), .int .i64 (Pl.pa f 10), .int .i64 (Pl.pa f 11)] 124)).alloc (.cells #[.int .i64 0, .int .i64 0, .int .i64 0, .int .i64 0, .int .i64 0] 74)).heap[w.heap.size]? = some (.cells #[.bool q0, .bool q1, .bool q2, .int .i64 (Pl.lo f), .int .i64 (Pl.hi f), .int .i64 (Pl.st f), .int .i64 (Pl.pa f 0), .int .i64 (Pl.pa f 1), .int .i64 (Pl.pa f 2), .int .i64 (Pl.pa f 3), .int .i64 (Pl.pa f 4), .int .i64 (Pl.pa f 5), .int .i64 (Pl.pa f 6), .int .i64 (Pl.pa f 7), .int .i64 (Pl.pa f 8), .int .i64 (Pl.pa f 9), .int .i64 (Pl.pa f 10), .int .i64 (Pl.pa f 11)] 124)) := (Below.heap_alloc _ _ _ (by simp)).trans (heap_alloc_new w _)
  go_enter Tryz.func114, Tryz.ntmps114
  go_wp2_with (refine wpList_load_row rfl 124 _ rfl (w.heap.size) ?hx 124 #[.bool q0, .bool q1, .bool q2, .int .i64 (Pl.lo f), .int .i64 (Pl.hi f), .int .i64 (Pl.st f), .int .i64 (Pl.pa f 0), .int .i64 (Pl.pa f 1), .int .i64 (Pl.pa f 2), .int .i64 (Pl.pa f 3), .int .i64 (Pl.pa f 4), .int .i64 (Pl.pa f 5), .int .i64 (Pl.pa f 6), .int .i64 (Pl.pa f 7), .int .i64 (Pl.pa f 8), .int .i64 (Pl.pa f 9), .int .i64 (Pl.pa f 10), .int .i64 (Pl.pa f 11)] (0, 0) _ ?hg Tryz.underlying124 ?hd ?hi ?_; (case hx => rfl); (case hg => exact P0.out); (case hd => rfl); (case hi => kernel_rfl))
  refine calls_at5 fun u0 hu0 => ?_
  have X0 : Hid (u0.heap[w.heap.size + 1]? = some (.cells #[.int .i64 0, .int .i64 0, .int .i64 0, .int .i64 0, .int .i64 0] 74)) := by
    show u0.heap[w.heap.size + 1]? = _
    rw [hu0]
    have := heap_alloc_new (w.alloc (.cells #[.bool q0, .bool q1, .bool q2, .int .i64 (Pl.lo f), .int .i64 (Pl.hi f), .int .i64 (Pl.st f), .int .i64 (Pl.pa f 0), .int .i64 (Pl.pa f 1), .int .i64 (Pl.pa f 2), .int .i64 (Pl.pa f 3), .int .i64 (Pl.pa f 4), .int .i64 (Pl.pa f 5), .int .i64 (Pl.pa f 6), .int .i64 (Pl.pa f 7), .int .i64 (Pl.pa f 8), .int .i64 (Pl.pa f 9), .int .i64 (Pl.pa f 10), .int .i64 (Pl.pa f 11)] 124)) (.cells #[.int .i64 0, .int .i64 0, .int .i64 0, .int .i64 0, .int .i64 0] 74)
    simpa using this
  have B0 : Hid (Below w.heap.size w u0) := by
    show Below w.heap.size w u0
    rw [hu0]
    exact ((Below.refl _ _).alloc (Nat.le_refl _) _).alloc (by simp) _
  have Z0 : Hid (w.heap.size + 1 < u0.heap.size) := by show w.heap.size + 1 < u0.heap.size; rw [hu0]; simp
  rw [← hu0] at P0
  clear hu0
  refine (HRI.out u0).mono ?_
  rintro e u1 ⟨rfl, d1⟩
  rw [← hgi]
  have HGI : Hid (gi = Pl.gIm f n) := hgi
  clear hgi
  have P1 : Hid (u1.heap[w.heap.size]? = some (.cells #[.bool q0, .bool q1, .bool q2, .int .i64 (Pl.lo f), .int .i64 (Pl.hi f), .int .i64 (Pl.st f), .int .i64 (Pl.pa f 0), .int .i64 (Pl.pa f 1), .int .i64 (Pl.pa f 2), .int .i64 (Pl.pa f 3), .int .i64 (Pl.pa f 4), .int .i64 (Pl.pa f 5), .int .i64 (Pl.pa f 6), .int .i64 (Pl.pa f 7), .int .i64 (Pl.pa f 8), .int .i64 (Pl.pa f 9), .int .i64 (Pl.pa f 10), .int .i64 (Pl.pa f 11)] 124)) := (d1.block _ (by have := Z0.out; omega)).trans P0.out
  have X1 : Hid (u1.heap[w.heap.size + 1]? = some (.cells #[.int .i64 0, .int .i64 0, .int .i64 0, .int .i64 0, .int .i64 0] 74)) := (d1.block _ (by have := Z0.out; omega)).trans X0.out
  have B1 : Hid (Below w.heap.size w u1) := B0.out.trans (d1.mono (by have := Z0.out; omega))
  have Z1 : Hid (w.heap.size + 1 < u1.heap.size) := Nat.lt_of_lt_of_le Z0.out d1.size
  clear d1 P0 X0 B0 Z0 HRI
  go_wp2_with (refine wpList_store_row rfl 74 _ _ rfl u1.heap.size #[.int .i64 0, .int .i64 0, .int .i64 0, .int .i64 0, .int .i64 gi] ?hx ?hy 74 #[.int .i64 0, .int .i64 0, .int .i64 0, .int .i64 0, .int .i64 0] ?hg ?hi ?ho ?h1 ?_; (case hx => rfl); (case hy => rfl); (case hg => exact heap_alloc_new u1 _); (case hi => kernel_rfl); (case ho => kernel_rfl); (case h1 => kernel_rfl); refine Hid.out ?_)
  unfold Hid
  rw [World.setRow_alloc_new]
  refine wpList_at fun u2 hu2 => ?_
  have d2 : Below u1.heap.size u1 u2 := by rw [hu2]; exact below_alloc u1 _
  have Y2 : Hid (u2.heap[u1.heap.size]? = some (.cells #[.int .i64 0, .int .i64 0, .int .i64 0, .int .i64 0, .int .i64 gi] 74)) := by show u2.heap[u1.heap.size]? = _; rw [hu2]; exact heap_alloc_new u1 _
  have P2 : Hid (u2.heap[w.heap.size]? = some (.cells #[.bool q0, .bool q1, .bool q2, .int .i64 (Pl.lo f), .int .i64 (Pl.hi f), .int .i64 (Pl.st f), .int .i64 (Pl.pa f 0), .int .i64 (Pl.pa f 1), .int .i64 (Pl.pa f 2), .int .i64 (Pl.pa f 3), .int .i64 (Pl.pa f 4), .int .i64 (Pl.pa f 5), .int .i64 (Pl.pa f 6), .int .i64 (Pl.pa f 7), .int .i64 (Pl.pa f 8), .int .i64 (Pl.pa f 9), .int .i64 (Pl.pa f 10), .int .i64 (Pl.pa f 11)] 124)) := (d2.block _ (by have := Z1.out; omega)).trans P1.out
  have X2 : Hid (u2.heap[w.heap.size + 1]? = some (.cells #[.int .i64 0, .int .i64 0, .int .i64 0, .int .i64 0, .int .i64 0] 74)) := (d2.block _ Z1.out).trans X1.out
  have B2 : Hid (Below w.heap.size w u2) := B1.out.trans (d2.mono (by have := Z1.out; omega))
  clear d2 hu2 P1 X1 B1
  obtain ⟨g, hg⟩ : ∃ g, g = u1.heap.size := ⟨_, rfl⟩
  rw [← hg] at Z1 Y2 ⊢
  have Z2 : w.heap.size + 1 < g := Z1.out
  clear hg Z1
  have kp : ∀ j, u2.cell? ⟨w.heap.size, j, none⟩ = (#[.bool q0, .bool q1, .bool q2, .int .i64 (Pl.lo f), .int .i64 (Pl.hi f), .int .i64 (Pl.st f), .int .i64 (Pl.pa f 0), .int .i64 (Pl.pa f 1), .int .i64 (Pl.pa f 2), .int .i64 (Pl.pa f 3), .int .i64 (Pl.pa f 4), .int .i64 (Pl.pa f 5), .int .i64 (Pl.pa f 6), .int .i64 (Pl.pa f 7), .int .i64 (Pl.pa f 8), .int .i64 (Pl.pa f 9), .int .i64 (Pl.pa f 10), .int .i64 (Pl.pa f 11)] : Array Value)[j]? := fun j => cell_of_row u2 w.heap.size j _ 124 (0, 0) P2.out
  have ky : ∀ j, u2.cell? ⟨g, j, none⟩ = (#[.int .i64 0, .int .i64 0, .int .i64 0, .int .i64 0, .int .i64 gi] : Array Value)[j]? := fun j => cell_of_row u2 g j _ 74 (0, 0) Y2.out
  have kf : ∀ j, u2.frozen? ⟨g, j, none⟩ = false := fun j => frozen_of_row u2 g j _ 74 Y2.out
  have ne1 : ¬ w.heap.size = g := by omega
  have ne2 : ¬ g = w.heap.size := by omega
  cases q0 <;> cases q1 <;> cases q2
  · go_wp2_with (first | (go_at_call 131; refine (bitsOf_is _ _ _ (by decide) (by decide) _).mono ?_; rintro e u3 ⟨rfl, mm, rfl⟩) | (refine wpList_load_row rfl 74 _ rfl g ?hx 74 #[.int .i64 0, .int .i64 0, .int .i64 0, .int .i64 0, .int .i64 gi] (0, 0) _ ?hg Tryz.underlying74 ?hd ?hi ?_; (case hx => rfl); (case hg => exact Y2.out); (case hd => rfl); (case hi => kernel_rfl)) | (refine wpList_store_row rfl 74 _ _ rfl (w.heap.size + 1) #[.int .i64 0, .int .i64 0, .int .i64 0, .int .i64 0, .int .i64 gi] ?hx ?hy 74 #[.int .i64 0, .int .i64 0, .int .i64 0, .int .i64 0, .int .i64 0] ?hg ?hi ?ho ?h1 ?_; (case hx => rfl); (case hy => rfl); (case hg => exact X2.out); (case hi => kernel_rfl); (case ho => kernel_rfl); (case h1 => kernel_rfl); refine Hid.out ?_))
    unfold Hid
    go_wp2_with fail
    refine bodyPost_ret (v := .agg #[.int .i64 0, .int .i64 0, .int .i64 0, .int .i64 0, .int .i64 gi]) ?hres rfl ⟨by rw [HGI.out], ?_⟩
    case hres =>
      refine results_cell_row Tryz.results114 _ _ (w.heap.size + 1) 74 #[.int .i64 0, .int .i64 0, .int .i64 0, .int .i64 0, .int .i64 gi] (0, 0) _ ?hp ?hg Tryz.underlying74 ?hd ?hi
      case hp => rfl
      case hg => exact setRow_heap _ _ _ _ _ _ (X2.out)
      case hd => rfl
      case hi => kernel_rfl
    exact below_setRow5 (B2.out) (show w.heap.size ≤ w.heap.size + 1 by omega) _
  · go_wp2_with (first | (go_at_call 131; refine (bitsOf_is _ _ _ (by decide) (by decide) _).mono ?_; rintro e u3 ⟨rfl, mm, rfl⟩) | (refine wpList_load_row rfl 74 _ rfl g ?hx 74 #[.int .i64 0, .int .i64 0, .int .i64 0, .int .i64 (n / Pl.pw 20 % Pl.pw 5), .int .i64 gi] (0, 0) _ ?hg Tryz.underlying74 ?hd ?hi ?_; (case hx => rfl); (case hg => exact row_put5 (keep_drew (Y2.out)) _ _ rfl); (case hd => rfl); (case hi => kernel_rfl)) | (refine wpList_store_row rfl 74 _ _ rfl (w.heap.size + 1) #[.int .i64 0, .int .i64 0, .int .i64 0, .int .i64 (n / Pl.pw 20 % Pl.pw 5), .int .i64 gi] ?hx ?hy 74 #[.int .i64 0, .int .i64 0, .int .i64 0, .int .i64 0, .int .i64 0] ?hg ?hi ?ho ?h1 ?_; (case hx => rfl); (case hy => rfl); (case hg => exact keep_other (keep_drew (X2.out)) (Nat.ne_of_lt Z2)); (case hi => kernel_rfl); (case ho => kernel_rfl); (case h1 => kernel_rfl); refine Hid.out ?_))
    unfold Hid
    go_wp2_with fail
    refine bodyPost_ret (v := .agg #[.int .i64 0, .int .i64 0, .int .i64 0, .int .i64 (n / Pl.pw 20 % Pl.pw 5), .int .i64 gi]) ?hres rfl ⟨by rw [HGI.out], ?_⟩
    case hres =>
      refine results_cell_row Tryz.results114 _ _ (w.heap.size + 1) 74 #[.int .i64 0, .int .i64 0, .int .i64 0, .int .i64 (n / Pl.pw 20 % Pl.pw 5), .int .i64 gi] (0, 0) _ ?hp ?hg Tryz.underlying74 ?hd ?hi
      case hp => rfl
      case hg => exact setRow_heap _ _ _ _ _ _ (keep_other (keep_drew (X2.out)) (Nat.ne_of_lt Z2))
      case hd => rfl
      case hi => kernel_rfl
    exact below_setRow5 (((below_drewN (B2.out) _).setCell (show w.heap.size ≤ g by omega) _)) (show w.heap.size ≤ w.heap.size + 1 by omega) _
  · go_wp2_with (first | (go_at_call 131; refine (bitsOf_is _ _ _ (by decide) (by decide) _).mono ?_; rintro e u3 ⟨rfl, mm, rfl⟩) | (refine wpList_load_row rfl 74 _ rfl g ?hx 74 #[.int .i64 0, .int .i64 0, .int .i64 (n / Pl.pw 15 % Pl.pw 5), .int .i64 0, .int .i64 gi] (0, 0) _ ?hg Tryz.underlying74 ?hd ?hi ?_; (case hx => rfl); (case hg => exact row_put5 (keep_drew (Y2.out)) _ _ rfl); (case hd => rfl); (case hi => kernel_rfl)) | (refine wpList_store_row rfl 74 _ _ rfl (w.heap.size + 1) #[.int .i64 0, .int .i64 0, .int .i64 (n / Pl.pw 15 % Pl.pw 5), .int .i64 0, .int .i64 gi] ?hx ?hy 74 #[.int .i64 0, .int .i64 0, .int .i64 0, .int .i64 0, .int .i64 0] ?hg ?hi ?ho ?h1 ?_; (case hx => rfl); (case hy => rfl); (case hg => exact keep_other (keep_drew (X2.out)) (Nat.ne_of_lt Z2)); (case hi => kernel_rfl); (case ho => kernel_rfl); (case h1 => kernel_rfl); refine Hid.out ?_))
    unfold Hid
    go_wp2_with fail
    refine bodyPost_ret (v := .agg #[.int .i64 0, .int .i64 0, .int .i64 (n / Pl.pw 15 % Pl.pw 5), .int .i64 0, .int .i64 gi]) ?hres rfl ⟨by rw [HGI.out], ?_⟩
    case hres =>
      refine results_cell_row Tryz.results114 _ _ (w.heap.size + 1) 74 #[.int .i64 0, .int .i64 0, .int .i64 (n / Pl.pw 15 % Pl.pw 5), .int .i64 0, .int .i64 gi] (0, 0) _ ?hp ?hg Tryz.underlying74 ?hd ?hi
      case hp => rfl
      case hg => exact setRow_heap _ _ _ _ _ _ (keep_other (keep_drew (X2.out)) (Nat.ne_of_lt Z2))
      case hd => rfl
      case hi => kernel_rfl
    exact below_setRow5 (((below_drewN (B2.out) _).setCell (show w.heap.size ≤ g by omega) _)) (show w.heap.size ≤ w.heap.size + 1 by omega) _
  · go_wp2_with (first | (go_at_call 131; refine (bitsOf_is _ _ _ (by decide) (by decide) _).mono ?_; rintro e u3 ⟨rfl, mm, rfl⟩) | (refine wpList_load_row rfl 74 _ rfl g ?hx 74 #[.int .i64 0, .int .i64 0, .int .i64 (n / Pl.pw 15 % Pl.pw 5), .int .i64 (n / Pl.pw 20 % Pl.pw 5), .int .i64 gi] (0, 0) _ ?hg Tryz.underlying74 ?hd ?hi ?_; (case hx => rfl); (case hg => exact row_put5 (keep_drew (row_put5 (keep_drew (Y2.out)) _ _ rfl)) _ _ rfl); (case hd => rfl); (case hi => kernel_rfl)) | (refine wpList_store_row rfl 74 _ _ rfl (w.heap.size + 1) #[.int .i64 0, .int .i64 0, .int .i64 (n / Pl.pw 15 % Pl.pw 5), .int .i64 (n / Pl.pw 20 % Pl.pw 5), .int .i64 gi] ?hx ?hy 74 #[.int .i64 0, .int .i64 0, .int .i64 0, .int .i64 0, .int .i64 0] ?hg ?hi ?ho ?h1 ?_; (case hx => rfl); (case hy => rfl); (case hg => exact keep_other (keep_drew (keep_other (keep_drew (X2.out)) (Nat.ne_of_lt Z2))) (Nat.ne_of_lt Z2)); (case hi => kernel_rfl); (case ho => kernel_rfl); (case h1 => kernel_rfl); refine Hid.out ?_))
    unfold Hid
    go_wp2_with fail
    refine bodyPost_ret (v := .agg #[.int .i64 0, .int .i64 0, .int .i64 (n / Pl.pw 15 % Pl.pw 5), .int .i64 (n / Pl.pw 20 % Pl.pw 5), .int .i64 gi]) ?hres rfl ⟨by rw [HGI.out], ?_⟩
    case hres =>
      refine results_cell_row Tryz.results114 _ _ (w.heap.size + 1) 74 #[.int .i64 0, .int .i64 0, .int .i64 (n / Pl.pw 15 % Pl.pw 5), .int .i64 (n / Pl.pw 20 % Pl.pw 5), .int .i64 gi] (0, 0) _ ?hp ?hg Tryz.underlying74 ?hd ?hi
      case hp => rfl
      case hg => exact setRow_heap _ _ _ _ _ _ (keep_other (keep_drew (keep_other (keep_drew (X2.out)) (Nat.ne_of_lt Z2))) (Nat.ne_of_lt Z2))
      case hd => rfl
      case hi => kernel_rfl
    exact below_setRow5 (((below_drewN (((below_drewN (B2.out) _).setCell (show w.heap.size ≤ g by omega) _)) _).setCell (show w.heap.size ≤ g by omega) _)) (show w.heap.size ≤ w.heap.size + 1 by omega) _
  · go_wp2_with (first | (go_at_call 131; refine (bitsOf_is _ _ _ (by decide) (by decide) _).mono ?_; rintro e u3 ⟨rfl, mm, rfl⟩) | (refine wpList_load_row rfl 74 _ rfl g ?hx 74 #[.int .i64 0, .int .i64 (n / Pl.pw 7 % Pl.pw 5), .int .i64 0, .int .i64 0, .int .i64 gi] (0, 0) _ ?hg Tryz.underlying74 ?hd ?hi ?_; (case hx => rfl); (case hg => exact row_put5 (keep_drew (Y2.out)) _ _ rfl); (case hd => rfl); (case hi => kernel_rfl)) | (refine wpList_store_row rfl 74 _ _ rfl (w.heap.size + 1) #[.int .i64 0, .int .i64 (n / Pl.pw 7 % Pl.pw 5), .int .i64 0, .int .i64 0, .int .i64 gi] ?hx ?hy 74 #[.int .i64 0, .int .i64 0, .int .i64 0, .int .i64 0, .int .i64 0] ?hg ?hi ?ho ?h1 ?_; (case hx => rfl); (case hy => rfl); (case hg => exact keep_other (keep_drew (X2.out)) (Nat.ne_of_lt Z2)); (case hi => kernel_rfl); (case ho => kernel_rfl); (case h1 => kernel_rfl); refine Hid.out ?_))
    unfold Hid
    go_wp2_with fail
    refine bodyPost_ret (v := .agg #[.int .i64 0, .int .i64 (n / Pl.pw 7 % Pl.pw 5), .int .i64 0, .int .i64 0, .int .i64 gi]) ?hres rfl ⟨by rw [HGI.out], ?_⟩
    case hres =>
      refine results_cell_row Tryz.results114 _ _ (w.heap.size + 1) 74 #[.int .i64 0, .int .i64 (n / Pl.pw 7 % Pl.pw 5), .int .i64 0, .int .i64 0, .int .i64 gi] (0, 0) _ ?hp ?hg Tryz.underlying74 ?hd ?hi
      case hp => rfl
      case hg => exact setRow_heap _ _ _ _ _ _ (keep_other (keep_drew (X2.out)) (Nat.ne_of_lt Z2))
      case hd => rfl
      case hi => kernel_rfl
    exact below_setRow5 (((below_drewN (B2.out) _).setCell (show w.heap.size ≤ g by omega) _)) (show w.heap.size ≤ w.heap.size + 1 by omega) _
  · go_wp2_with (first | (go_at_call 131; refine (bitsOf_is _ _ _ (by decide) (by decide) _).mono ?_; rintro e u3 ⟨rfl, mm, rfl⟩) | (refine wpList_load_row rfl 74 _ rfl g ?hx 74 #[.int .i64 0, .int .i64 (n / Pl.pw 7 % Pl.pw 5), .int .i64 0, .int .i64 (n / Pl.pw 20 % Pl.pw 5), .int .i64 gi] (0, 0) _ ?hg Tryz.underlying74 ?hd ?hi ?_; (case hx => rfl); (case hg => exact row_put5 (keep_drew (row_put5 (keep_drew (Y2.out)) _ _ rfl)) _ _ rfl); (case hd => rfl); (case hi => kernel_rfl)) | (refine wpList_store_row rfl 74 _ _ rfl (w.heap.size + 1) #[.int .i64 0, .int .i64 (n / Pl.pw 7 % Pl.pw 5), .int .i64 0, .int .i64 (n / Pl.pw 20 % Pl.pw 5), .int .i64 gi] ?hx ?hy 74 #[.int .i64 0, .int .i64 0, .int .i64 0, .int .i64 0, .int .i64 0] ?hg ?hi ?ho ?h1 ?_; (case hx => rfl); (case hy => rfl); (case hg => exact keep_other (keep_drew (keep_other (keep_drew (X2.out)) (Nat.ne_of_lt Z2))) (Nat.ne_of_lt Z2)); (case hi => kernel_rfl); (case ho => kernel_rfl); (case h1 => kernel_rfl); refine Hid.out ?_))
    unfold Hid
    go_wp2_with fail
    refine bodyPost_ret (v := .agg #[.int .i64 0, .int .i64 (n / Pl.pw 7 % Pl.pw 5), .int .i64 0, .int .i64 (n / Pl.pw 20 % Pl.pw 5), .int .i64 gi]) ?hres rfl ⟨by rw [HGI.out], ?_⟩
    case hres =>
      refine results_cell_row Tryz.results114 _ _ (w.heap.size + 1) 74 #[.int .i64 0, .int .i64 (n / Pl.pw 7 % Pl.pw 5), .int .i64 0, .int .i64 (n / Pl.pw 20 % Pl.pw 5), .int .i64 gi] (0, 0) _ ?hp ?hg Tryz.underlying74 ?hd ?hi
      case hp => rfl
      case hg => exact setRow_heap _ _ _ _ _ _ (keep_other (keep_drew (keep_other (keep_drew (X2.out)) (Nat.ne_of_lt Z2))) (Nat.ne_of_lt Z2))
      case hd => rfl
      case hi => kernel_rfl
    exact below_setRow5 (((below_drewN (((below_drewN (B2.out) _).setCell (show w.heap.size ≤ g by omega) _)) _).setCell (show w.heap.size ≤ g by omega) _)) (show w.heap.size ≤ w.heap.size + 1 by omega) _
  · go_wp2_with (first | (go_at_call 131; refine (bitsOf_is _ _ _ (by decide) (by decide) _).mono ?_; rintro e u3 ⟨rfl, mm, rfl⟩) | (refine wpList_load_row rfl 74 _ rfl g ?hx 74 #[.int .i64 0, .int .i64 (n / Pl.pw 7 % Pl.pw 5), .int .i64 (n / Pl.pw 15 % Pl.pw 5), .int .i64 0, .int .i64 gi] (0, 0) _ ?hg Tryz.underlying74 ?hd ?hi ?_; (case hx => rfl); (case hg => exact row_put5 (keep_drew (row_put5 (keep_drew (Y2.out)) _ _ rfl)) _ _ rfl); (case hd => rfl); (case hi => kernel_rfl)) | (refine wpList_store_row rfl 74 _ _ rfl (w.heap.size + 1) #[.int .i64 0, .int .i64 (n / Pl.pw 7 % Pl.pw 5), .int .i64 (n / Pl.pw 15 % Pl.pw 5), .int .i64 0, .int .i64 gi] ?hx ?hy 74 #[.int .i64 0, .int .i64 0, .int .i64 0, .int .i64 0, .int .i64 0] ?hg ?hi ?ho ?h1 ?_; (case hx => rfl); (case hy => rfl); (case hg => exact keep_other (keep_drew (keep_other (keep_drew (X2.out)) (Nat.ne_of_lt Z2))) (Nat.ne_of_lt Z2)); (case hi => kernel_rfl); (case ho => kernel_rfl); (case h1 => kernel_rfl); refine Hid.out ?_))
    unfold Hid
    go_wp2_with fail
    refine bodyPost_ret (v := .agg #[.int .i64 0, .int .i64 (n / Pl.pw 7 % Pl.pw 5), .int .i64 (n / Pl.pw 15 % Pl.pw 5), .int .i64 0, .int .i64 gi]) ?hres rfl ⟨by rw [HGI.out], ?_⟩
    case hres =>
      refine results_cell_row Tryz.results114 _ _ (w.heap.size + 1) 74 #[.int .i64 0, .int .i64 (n / Pl.pw 7 % Pl.pw 5), .int .i64 (n / Pl.pw 15 % Pl.pw 5), .int .i64 0, .int .i64 gi] (0, 0) _ ?hp ?hg Tryz.underlying74 ?hd ?hi
      case hp => rfl
      case hg => exact setRow_heap _ _ _ _ _ _ (keep_other (keep_drew (keep_other (keep_drew (X2.out)) (Nat.ne_of_lt Z2))) (Nat.ne_of_lt Z2))
      case hd => rfl
      case hi => kernel_rfl
    exact below_setRow5 (((below_drewN (((below_drewN (B2.out) _).setCell (show w.heap.size ≤ g by omega) _)) _).setCell (show w.heap.size ≤ g by omega) _)) (show w.heap.size ≤ w.heap.size + 1 by omega) _
  · go_wp2_with (first | (go_at_call 131; refine (bitsOf_is _ _ _ (by decide) (by decide) _).mono ?_; rintro e u3 ⟨rfl, mm, rfl⟩) | (refine wpList_load_row rfl 74 _ rfl g ?hx 74 #[.int .i64 0, .int .i64 (n / Pl.pw 7 % Pl.pw 5), .int .i64 (n / Pl.pw 15 % Pl.pw 5), .int .i64 (n / Pl.pw 20 % Pl.pw 5), .int .i64 gi] (0, 0) _ ?hg Tryz.underlying74 ?hd ?hi ?_; (case hx => rfl); (case hg => exact row_put5 (keep_drew (row_put5 (keep_drew (row_put5 (keep_drew (Y2.out)) _ _ rfl)) _ _ rfl)) _ _ rfl); (case hd => rfl); (case hi => kernel_rfl)) | (refine wpList_store_row rfl 74 _ _ rfl (w.heap.size + 1) #[.int .i64 0, .int .i64 (n / Pl.pw 7 % Pl.pw 5), .int .i64 (n / Pl.pw 15 % Pl.pw 5), .int .i64 (n / Pl.pw 20 % Pl.pw 5), .int .i64 gi] ?hx ?hy 74 #[.int .i64 0, .int .i64 0, .int .i64 0, .int .i64 0, .int .i64 0] ?hg ?hi ?ho ?h1 ?_; (case hx => rfl); (case hy => rfl); (case hg => exact keep_other (keep_drew (keep_other (keep_drew (keep_other (keep_drew (X2.out)) (Nat.ne_of_lt Z2))) (Nat.ne_of_lt Z2))) (Nat.ne_of_lt Z2)); (case hi => kernel_rfl); (case ho => kernel_rfl); (case h1 => kernel_rfl); refine Hid.out ?_))
    unfold Hid
    go_wp2_with fail
    refine bodyPost_ret (v := .agg #[.int .i64 0, .int .i64 (n / Pl.pw 7 % Pl.pw 5), .int .i64 (n / Pl.pw 15 % Pl.pw 5), .int .i64 (n / Pl.pw 20 % Pl.pw 5), .int .i64 gi]) ?hres rfl ⟨by rw [HGI.out], ?_⟩
    case hres =>
      refine results_cell_row Tryz.results114 _ _ (w.heap.size + 1) 74 #[.int .i64 0, .int .i64 (n / Pl.pw 7 % Pl.pw 5), .int .i64 (n / Pl.pw 15 % Pl.pw 5), .int .i64 (n / Pl.pw 20 % Pl.pw 5), .int .i64 gi] (0, 0) _ ?hp ?hg Tryz.underlying74 ?hd ?hi
      case hp => rfl
      case hg => exact setRow_heap _ _ _ _ _ _ (keep_other (keep_drew (keep_other (keep_drew (keep_other (keep_drew (X2.out)) (Nat.ne_of_lt Z2))) (Nat.ne_of_lt Z2))) (Nat.ne_of_lt Z2))
      case hd => rfl
      case hi => kernel_rfl
    exact below_setRow5 (((below_drewN (((below_drewN (((below_drewN (B2.out) _).setCell (show w.heap.size ≤ g by omega) _)) _).setCell (show w.heap.size ≤ g by omega) _)) _).setCell (show w.heap.size ≤ g by omega) _)) (show w.heap.size ≤ w.heap.size + 1 by omega) _
end Go.Proofs.YtjdfffdeljgenaaGreatDoor.W
namespace Go.Proofs.YtjdfffdeljgenaaGreatDoor.Pl
def hit (k : Nat) (n : Int) : Bool :=
  okF (fmN k) (fRd (fmN k) n) (fR1 (fmN k) n) (fR2 (fmN k) n) (gIm (fmN k) n) && decide (enc k (fRd (fmN k) n) (fR1 (fmN k) n) (fR2 (fmN k) n) (gIm (fmN k) n) = n)
theorem hit_iff (k : Nat) (n : Int) : hit k n = true ↔ okF (fmN k) (fRd (fmN k) n) (fR1 (fmN k) n) (fR2 (fmN k) n) (gIm (fmN k) n) = true ∧ enc k (fRd (fmN k) n) (fR1 (fmN k) n) (fR2 (fmN k) n) (gIm (fmN k) n) = n := by
  unfold hit
  rw [Bool.and_eq_true, decide_eq_true_eq]
theorem hit_fits {k : Nat} (h1 : 1 ≤ k) (h2 : k ≤ 47) {n : Int} (h : hit k n = true) : fits k n = true ∧ 0 ≤ n ∧ n ≤ 4294967295 := by
  obtain ⟨a, b⟩ := (hit_iff k n).1 h
  have := enc_fits k h1 h2 _ _ _ _ a
  rw [b] at this
  exact this
def dec (n : Int) : Nat := ((List.range 48).find? fun k => decide (1 ≤ k) && hit k n).getD 0
theorem dec_none {n : Int} (h : ∀ k, 1 ≤ k → k ≤ 47 → hit k n = false) : dec n = 0 := by
  unfold dec
  rw [List.find?_eq_none.2]
  · rfl
  · intro k hk
    have hk' : k < 48 := List.mem_range.1 hk
    by_cases h1 : 1 ≤ k
    · rw [h k h1 (by omega)]; simp
    · simp; omega
theorem dec_hit {k : Nat} {n : Int} (h1 : 1 ≤ k) (h2 : k ≤ 47) (h : hit k n = true) : dec n = k := by
  unfold dec
  cases hf : (List.range 48).find? fun k => decide (1 ≤ k) && hit k n with
  | none =>
    have := List.find?_eq_none.1 hf k (List.mem_range.2 (by omega))
    simp [h, h1] at this
  | some j =>
    have hp := List.find?_some hf
    have hm := List.mem_range.1 (List.mem_of_find?_eq_some hf)
    simp only [Bool.and_eq_true, decide_eq_true_eq] at hp
    show j = k
    exact fits_one hp.1 (by omega) h1 h2 (hit_fits hp.1 (by omega) hp.2).1 (hit_fits h1 h2 h).1
def dRd (n : Int) : Int := if dec n = 0 then 0 else fRd (fmN (dec n)) n
def dR1 (n : Int) : Int := if dec n = 0 then 0 else fR1 (fmN (dec n)) n
def dR2 (n : Int) : Int := if dec n = 0 then 0 else fR2 (fmN (dec n)) n
def dIm (n : Int) : Int := if dec n = 0 then 0 else gIm (fmN (dec n)) n
def decV (n : Int) : Array Value := #[.int .i64 (dec n : Int), .int .i64 (dRd n), .int .i64 (dR1 n), .int .i64 (dR2 n), .int .i64 (dIm n)]
theorem decV_none {n : Int} (h : dec n = 0) : decV n = #[.int .i64 0, .int .i64 0, .int .i64 0, .int .i64 0, .int .i64 0] := by
  unfold decV dRd dR1 dR2 dIm
  rw [h]
  rfl
theorem decV_hit {k : Nat} {n : Int} (h1 : 1 ≤ k) (h : dec n = k) : decV n = #[.int .i64 (k : Int), .int .i64 (fRd (fmN k) n), .int .i64 (fR1 (fmN k) n), .int .i64 (fR2 (fmN k) n), .int .i64 (gIm (fmN k) n)] := by
  unfold decV dRd dR1 dR2 dIm
  rw [h, if_neg (by omega), if_neg (by omega), if_neg (by omega), if_neg (by omega)]
end Go.Proofs.YtjdfffdeljgenaaGreatDoor.Pl
namespace Go.Proofs.YtjdfffdeljgenaaGreatDoor.W
open Go.RowKit
theorem results_cell_tmp {P : Program} {fn : Func} {p q : Tmp} {ty : TypeId} (h : fn.results = #[.cell p ty, .tmp q]) (tmps : Array Value) (w : World) (g : Nat) (t : TypeId) (cs : Array Value) (fr : Nat × Nat) (d : TypeDesc) (v : Value)
    (hp : tmps.getD p undef = .pointer (some ⟨g, 0, none⟩)) (hq : tmps.getD q undef = v) (hg : w.heap[g]? = some (.cells cs t fr))
    (hu : P.underlying ty = some d) (hd : (match d with | .struct _ | .array _ _ => true | _ => false) = true) (hi : (P.info? ty).map (·.size) = some cs.size) :
    (results fn tmps).run P w = .ok (.tuple #[.agg cs, v]) w := by
  have hp' : tmps[p]?.getD undef = .pointer (some ⟨g, 0, none⟩) := by simpa using hp
  have hq' : tmps[q]?.getD undef = v := by simpa using hq
  simp [results, h, hp', hq', asAddr, run_loadVar_row w g t ty cs fr d hg hu hd hi]
theorem iok_eq (k : Nat) (h1 : 1 ≤ k) (h2 : k ≤ 47) (rd r1 r2 im : Int) : iok (k : Int) rd r1 r2 im = Pl.okF (Pl.fmN k) rd r1 r2 im := by
  have e : decide (1 ≤ (k : Int) ∧ (k : Int) ≤ 47) = true := decide_eq_true (by omega)
  unfold iok
  rw [e, Bool.true_and, Int.toNat_natCast]
end Go.Proofs.YtjdfffdeljgenaaGreatDoor.W
namespace Go.Proofs.YtjdfffdeljgenaaGreatDoor.W
open Go.RowKit
theorem part_byte (xs : Array Value) (j : Nat) (v : Value) (h : xs[j]? = some v) (w : World) : (part 5 xs j).run Tryz.prog w = .ok v w := by
  obtain ⟨i0, hi, hz0, hz1, hz2⟩ := info_parts Tryz.infou8
  simp [part, sizeOf, typeInfo, hi, hz1, h]
theorem eq4 (a0 a1 a2 a3 b0 b1 b2 b3 : Int) (w : World) : (binOp .eql 114 (.agg #[.int .u8 a0, .int .u8 a1, .int .u8 a2, .int .u8 a3]) (.agg #[.int .u8 b0, .int .u8 b1, .int .u8 b2, .int .u8 b3])).run Tryz.prog w = .ok (.bool (a0 == b0 && (a1 == b1 && (a2 == b2 && a3 == b3)))) w := by
  obtain ⟨i0, hi, hz0, hz1, hz2⟩ := info_parts Tryz.infou8
  have h5 : Tryz.prog.cellsOf 5 = 1 := by kernel_rfl
  have p : ∀ (x0 x1 x2 x3 : Int) (w : World), (part 5 #[.int .u8 x0, .int .u8 x1, .int .u8 x2, .int .u8 x3] 0).run Tryz.prog w = .ok (.int .u8 x0) w ∧ (part 5 #[.int .u8 x0, .int .u8 x1, .int .u8 x2, .int .u8 x3] 1).run Tryz.prog w = .ok (.int .u8 x1) w ∧ (part 5 #[.int .u8 x0, .int .u8 x1, .int .u8 x2, .int .u8 x3] 2).run Tryz.prog w = .ok (.int .u8 x2) w ∧ (part 5 #[.int .u8 x0, .int .u8 x1, .int .u8 x2, .int .u8 x3] 3).run Tryz.prog w = .ok (.int .u8 x3) w :=
    fun x0 x1 x2 x3 w => ⟨part_byte _ 0 (.int .u8 x0) rfl w, part_byte _ 1 (.int .u8 x1) rfl w, part_byte _ 2 (.int .u8 x2) rfl w, part_byte _ 3 (.int .u8 x3) rfl w⟩
  rw [run_eql_struct, show (10000 : Nat) = 9998 + 1 + 1 from rfl, run_equalIn_array w (9998 + 1) _ _ Tryz.underlying114 hi, h5]
  rw [show List.range 4 = [0, 1, 2, 3] from rfl]
  simp only [Op.eqItems, Sem.run_bind, Nat.mul_one, (p _ _ _ _ _).1, Result.andThen_ok, run_equalIn_int _ _ _ _ _ _ _ Tryz.underlying5]
  cases a0 == b0 <;> simp only [Bool.not_false, Bool.not_true, if_true, Bool.false_eq_true, if_false, Sem.run_pure, Sem.run_bind, Result.andThen_ok, Bool.false_and, Bool.true_and, (p _ _ _ _ _).2.1, run_equalIn_int _ _ _ _ _ _ _ Tryz.underlying5]
  cases a1 == b1 <;> simp only [Bool.not_false, Bool.not_true, if_true, Bool.false_eq_true, if_false, Sem.run_pure, Sem.run_bind, Result.andThen_ok, Bool.false_and, Bool.true_and, (p _ _ _ _ _).2.2.1, run_equalIn_int _ _ _ _ _ _ _ Tryz.underlying5]
  cases a2 == b2 <;> simp only [Bool.not_false, Bool.not_true, if_true, Bool.false_eq_true, if_false, Sem.run_pure, Sem.run_bind, Result.andThen_ok, Bool.false_and, Bool.true_and, (p _ _ _ _ _).2.2.2, run_equalIn_int _ _ _ _ _ _ _ Tryz.underlying5]
  cases a3 == b3 <;> simp only [Bool.not_false, Bool.not_true, if_true, Bool.false_eq_true, if_false, Sem.run_pure, Result.andThen_ok]
theorem eq4_in (a0 a1 a2 a3 b0 b1 b2 b3 : Int) (w : World) : (Op.equalIn 10000 114 (.agg #[.int .u8 a0, .int .u8 a1, .int .u8 a2, .int .u8 a3]) (.agg #[.int .u8 b0, .int .u8 b1, .int .u8 b2, .int .u8 b3])).run Tryz.prog w = .ok (a0 == b0 && (a1 == b1 && (a2 == b2 && a3 == b3))) w := by
  have h := eq4 a0 a1 a2 a3 b0 b1 b2 b3 w
  rw [run_eql_struct] at h
  generalize (Op.equalIn 10000 114 (.agg #[.int .u8 a0, .int .u8 a1, .int .u8 a2, .int .u8 a3]) (.agg #[.int .u8 b0, .int .u8 b1, .int .u8 b2, .int .u8 b3])).run Tryz.prog w = r at h
  cases r with
  | ok b w1 => simp only [Result.andThen_ok, Result.ok.injEq, Value.bool.injEq] at h; rw [h.1, h.2]
  | halt x w1 => simp [Result.andThen] at h
theorem fits_eq (k : Nat) (n : Int) : (Pl.cc k 0 == Pl.rf (Pl.fmN k) n 0 && (Pl.cc k 1 == Pl.rf (Pl.fmN k) n 1 && (Pl.cc k 2 == Pl.rf (Pl.fmN k) n 2 && Pl.cc k 3 == Pl.rf (Pl.fmN k) n 3))) = Pl.fits k n := by
  unfold Pl.fits
  simp only [Bool.and_assoc]
  rfl
set_option maxRecDepth 100000 in
set_option maxHeartbeats 4000000 in
theorem opOfWord_any (n : Int) (w : World) :
    Calls Tryz.prog 112 #[.int .i64 n] w fun e w' => (∃ k : Nat, k ≤ 47 ∧ e = .returned (.int .i64 (k : Int)) ∧ (k = 0 → ∀ j, 1 ≤ j → j ≤ 47 → Pl.fits j n = false) ∧ (1 ≤ k → Pl.fits k n = true)) ∧ Below w.heap.size w w' := by
  go_enter Tryz.func112, Tryz.ntmps112
  go_wp2_with (go_at_call 128; refine (instTable_any _).mono ?_; rintro e w' ⟨rfl, rfl⟩)
  go_loopw [6] (fun i wr => ∃ k : Nat, k ≤ 48 ∧ i = .int .i64 k ∧ (∀ j, 1 ≤ j → j < k → Pl.fits j n = false) ∧ Below w.heap.size w wr) (fun i _ => 48 - (intOf i).toNat)
  case atStart => exact ⟨0, by decide, rfl, fun j h1 h2 => absurd h2 (Nat.not_lt_zero _), below_alloc _ _⟩
  case round =>
    obtain ⟨k, hk, rfl, hall, hb⟩ := hrel
    have HA : Hid (∀ j, 1 ≤ j → j < k → Pl.fits j n = false) := hall
    have HB : Hid (Below w.heap.size w wr) := hb
    have HZ : Hid (w.heap.size ≤ wr.heap.size) := hb.size
    clear hall hb
    by_cases hlt : k < 48
    · have hi := fun w => tab_index w k hlt
      unfold Pl.rowV at hi
      go_wp2_with (refine wpList_store_row rfl 116 _ _ rfl wr.heap.size #[.string (Pl.nm k), .int .i64 (Pl.fm k), .int .u8 (Pl.cc k 0), .int .u8 (Pl.cc k 1), .int .u8 (Pl.cc k 2), .int .u8 (Pl.cc k 3)] ?hx ?hy 116 #[.string ByteArray.empty, .int .i64 0, .int .u8 0, .int .u8 0, .int .u8 0, .int .u8 0] ?hg ?hi ?ho ?h1 ?_; (case hx => rfl); (case hy => rfl); (case hg => exact heap_alloc_new wr _); (case hi => kernel_rfl); (case ho => kernel_rfl); (case h1 => kernel_rfl); refine Hid.out ?_)
      unfold Hid
      rw [World.setRow_alloc_new]
      refine wpList_at fun u1 hu1 => ?_
      have B1 : Hid (Below w.heap.size w u1) := by show Below w.heap.size w u1; rw [hu1]; exact HB.out.alloc HZ.out _
      have Y1 : Hid (u1.heap[wr.heap.size]? = some (.cells #[.string (Pl.nm k), .int .i64 (Pl.fm k), .int .u8 (Pl.cc k 0), .int .u8 (Pl.cc k 1), .int .u8 (Pl.cc k 2), .int .u8 (Pl.cc k 3)] 116)) := by show u1.heap[wr.heap.size]? = _; rw [hu1]; exact heap_alloc_new wr _
      have Z1 : Hid (w.heap.size ≤ u1.heap.size) := by show w.heap.size ≤ u1.heap.size; rw [hu1]; have := HZ.out; simp; omega
      clear hu1 HB HZ hi
      obtain ⟨g, hg⟩ : ∃ g, g = wr.heap.size := ⟨_, rfl⟩
      rw [← hg] at Y1 ⊢
      clear hg
      have ky : ∀ j, u1.cell? ⟨g, j, none⟩ = (#[.string (Pl.nm k), .int .i64 (Pl.fm k), .int .u8 (Pl.cc k 0), .int .u8 (Pl.cc k 1), .int .u8 (Pl.cc k 2), .int .u8 (Pl.cc k 3)] : Array Value)[j]? := fun j => cell_of_row u1 g j _ 116 (0, 0) Y1.out
      by_cases hk0 : k = 0
      · subst hk0
        go_wp2_with fail
        go_quiet (fail)
        go_wp2
        go_roundw
        case rel =>
          refine ⟨1, by decide, rfl, fun j h1 h2 => absurd h2 (by omega), ?_⟩
          repeat (first | exact B1.out | refine Below.drew ?_ | refine below_drewN ?_ _)
        case measure => simp [intOf]
      · obtain ⟨f1, f2, f3⟩ := fm_at k (by omega) (by omega)
        have HF : Hid (Pl.fm k = (Pl.fmN k : Int)) := f3
        clear f3
        have hm : Tryz.prog.eqGuardType Tryz.prog.depth 114 = false := by kernel_rfl
        have hpos : 0 < k := by omega
        have hpos' : decide (0 < k) = true := decide_eq_true hpos
        cases hfit : Pl.fits k n
        · have h4 : ∀ w, (Op.equalIn 10000 114 (.agg #[.int .u8 (Pl.cc k 0), .int .u8 (Pl.cc k 1), .int .u8 (Pl.cc k 2), .int .u8 (Pl.cc k 3)]) (.agg #[.int .u8 (Pl.rf (Pl.fmN k) n 0), .int .u8 (Pl.rf (Pl.fmN k) n 1), .int .u8 (Pl.rf (Pl.fmN k) n 2), .int .u8 (Pl.rf (Pl.fmN k) n 3)])).run Tryz.prog w = .ok (Pl.fits k n) w := fun w => by rw [eq4_in, fits_eq]
          rw [hfit] at h4
          go_wp2_with fail
          go_region_with (go_at_call 129; refine (readFixed_any (Pl.fmN k) _ n HF.out f1 f2 _).mono ?_; rintro e u2 ⟨rfl, d2⟩; have D2 : Hid _ := d2; have ky2 : ∀ j, u2.cell? ⟨g, j, none⟩ = (#[.string (Pl.nm k), .int .i64 (Pl.fm k), .int .u8 (Pl.cc k 0), .int .u8 (Pl.cc k 1), .int .u8 (Pl.cc k 2), .int .u8 (Pl.cc k 3)] : Array Value)[j]? := (fun j => cell_of_row u2 g j _ 116 (0, 0) ((d2.block _ (Array.getElem?_eq_some_iff.1 Y1.out).1).trans Y1.out)); clear d2)
          all_goals
            go_wp2
            go_roundw
            case rel =>
              refine ⟨k + 1, by omega, by go_num, fun j h1 h2 => ?_, Below.trans (by repeat (first | exact B1.out | refine Below.drew ?_ | refine below_drewN ?_ _)) (D2.out.mono Z1.out)⟩
              by_cases hj : j < k
              · exact HA.out j h1 hj
              · have : j = k := by omega
                subst this; exact hfit
            case measure => simp [intOf]; omega
        · have h4 : ∀ w, (Op.equalIn 10000 114 (.agg #[.int .u8 (Pl.cc k 0), .int .u8 (Pl.cc k 1), .int .u8 (Pl.cc k 2), .int .u8 (Pl.cc k 3)]) (.agg #[.int .u8 (Pl.rf (Pl.fmN k) n 0), .int .u8 (Pl.rf (Pl.fmN k) n 1), .int .u8 (Pl.rf (Pl.fmN k) n 2), .int .u8 (Pl.rf (Pl.fmN k) n 3)])).run Tryz.prog w = .ok (Pl.fits k n) w := fun w => by rw [eq4_in, fits_eq]
          rw [hfit] at h4
          go_wp2_with fail
          go_region_with (go_at_call 129; refine (readFixed_any (Pl.fmN k) _ n HF.out f1 f2 _).mono ?_; rintro e u2 ⟨rfl, d2⟩; have D2 : Hid _ := d2; have ky2 : ∀ j, u2.cell? ⟨g, j, none⟩ = (#[.string (Pl.nm k), .int .i64 (Pl.fm k), .int .u8 (Pl.cc k 0), .int .u8 (Pl.cc k 1), .int .u8 (Pl.cc k 2), .int .u8 (Pl.cc k 3)] : Array Value)[j]? := (fun j => cell_of_row u2 g j _ 116 (0, 0) ((d2.block _ (Array.getElem?_eq_some_iff.1 Y1.out).1).trans Y1.out)); clear d2)
          all_goals
            go_wp2
            go_ret
            exact ⟨⟨k, by omega, rfl, fun h => absurd h hk0, fun _ => hfit⟩, Below.trans (by repeat (first | exact B1.out | refine Below.drew ?_ | refine below_drewN ?_ _)) (D2.out.mono Z1.out)⟩
    · have hke : k = 48 := by omega
      subst hke
      go_wp2
      go_ret
      exact ⟨⟨0, by decide, rfl, fun _ j h1 h2 => HA.out j h1 (by omega), fun h => absurd h (by decide)⟩, HB.out⟩
end Go.Proofs.YtjdfffdeljgenaaGreatDoor.W
namespace Go.Proofs.YtjdfffdeljgenaaGreatDoor.W
open Go.RowKit
theorem rowOf_b (k : Nat) (h1 : 1 ≤ k) (h2 : k ≤ 47) (w : World) : Calls Tryz.prog 113 #[.int .i64 k] w fun e w' => e = .returned (.tuple #[.agg #[.string (Pl.nm k), .int .i64 (Pl.fm k), .int .u8 (Pl.cc k 0), .int .u8 (Pl.cc k 1), .int .u8 (Pl.cc k 2), .int .u8 (Pl.cc k 3)], .bool true]) ∧ Below w.heap.size w w' := by
  refine (rowOf_at k h1 h2 w).mono ?_
  rintro e w' ⟨rfl, rfl⟩
  exact ⟨rfl, ((Below.refl _ _).alloc (Nat.le_refl _) _).alloc (by simp) _⟩
theorem ruleOf_b (n : Int) (f : Nat) (hn : n = f) (h1 : 1 ≤ f) (h2 : f ≤ 8) (w : World) : Calls Tryz.prog 115 #[.int .i64 n] w fun e w' => e = .returned (.agg (Pl.ruleV f)) ∧ Below w.heap.size w w' := by
  refine (ruleOf_any n f hn h1 h2 w).mono ?_
  rintro e w' ⟨rfl, rfl⟩
  exact ⟨rfl, below_alloc _ _⟩
theorem ret_dec {n : Int} {cs : Array Value} {b : Bool} (h : Pl.decV n = cs) (hb : (Pl.dec n != 0) = b) : Ending.returned (.tuple #[.agg cs, .bool b]) = Ending.returned (.tuple #[.agg (Pl.decV n), .bool (Pl.dec n != 0)]) := by rw [h, hb]
set_option maxHeartbeats 4000000 in
theorem implDec_any (n : Int) (w : World) :
    Calls Tryz.prog 86 #[.int .i64 n] w fun e w' => e = .returned (.tuple #[.agg (Pl.decV n), .bool (Pl.dec n != 0)]) ∧ Below w.heap.size w w' := by
  go_enter Tryz.func86, Tryz.ntmps86
  go_wp2_with fail
  refine calls_at5 fun u0 hu0 => ?_
  have X0 : Hid (u0.heap[w.heap.size]? = some (.cells #[.int .i64 0, .int .i64 0, .int .i64 0, .int .i64 0, .int .i64 0] 74)) := by show u0.heap[w.heap.size]? = _; rw [hu0]; exact heap_alloc_new w _
  have B0 : Hid (Below w.heap.size w u0) := by show Below w.heap.size w u0; rw [hu0]; exact below_alloc w _
  have Z0 : Hid (w.heap.size < u0.heap.size) := by show w.heap.size < u0.heap.size; rw [hu0]; simp
  clear hu0
  refine (opOfWord_any n u0).mono ?_
  rintro e u1 ⟨⟨k, hk, rfl, hz, hf⟩, d1⟩
  have X1 : Hid (u1.heap[w.heap.size]? = some (.cells #[.int .i64 0, .int .i64 0, .int .i64 0, .int .i64 0, .int .i64 0] 74)) := (d1.block _ Z0.out).trans X0.out
  have B1 : Hid (Below w.heap.size w u1) := B0.out.trans (d1.mono (Nat.le_of_lt Z0.out))
  have Z1 : Hid (w.heap.size < u1.heap.size) := Nat.lt_of_lt_of_le Z0.out d1.size
  clear d1 X0 B0 Z0
  by_cases hk0 : k = 0
  · have HD : Hid (Pl.dec n = 0) := Pl.dec_none (fun j h1 h2 => by
      cases hh : Pl.hit j n
      · rfl
      · have := (Pl.hit_fits h1 h2 hh).1
        rw [hz hk0 j h1 h2] at this
        cases this)
    subst hk0
    clear hz hf
    go_wp2_with (refine wpList_store_row rfl 74 _ _ rfl (w.heap.size) #[.int .i64 0, .int .i64 0, .int .i64 0, .int .i64 0, .int .i64 0] ?hx ?hy 74 #[.int .i64 0, .int .i64 0, .int .i64 0, .int .i64 0, .int .i64 0] ?hg ?hi ?ho ?h1 ?_; (case hx => rfl); (case hy => rfl); (case hg => exact X1.out); (case hi => kernel_rfl); (case ho => kernel_rfl); (case h1 => kernel_rfl); refine Hid.out ?_)
    unfold Hid
    go_wp2_with fail
    refine bodyPost_ret (v := .tuple #[.agg #[.int .i64 0, .int .i64 0, .int .i64 0, .int .i64 0, .int .i64 0], .bool false]) ?_ rfl ⟨ret_dec (Pl.decV_none HD.out) (by rw [HD.out]; rfl), below_setRow5 B1.out (Nat.le_refl _) _⟩
    refine results_cell_tmp Tryz.results86 _ _ (w.heap.size) 74 #[.int .i64 0, .int .i64 0, .int .i64 0, .int .i64 0, .int .i64 0] (0, 0) _ (.bool false) ?hp ?hq ?hg Tryz.underlying74 ?hd ?hi
    case hp => rfl
    case hq => rfl
    case hg => exact setRow_heap _ _ _ _ _ _ X1.out
    case hd => rfl
    case hi => kernel_rfl
  have h1 : 1 ≤ k := by omega
  have HF : Hid (Pl.fits k n = true) := hf h1
  obtain ⟨f1, f2, f3⟩ := fm_at k h1 hk
  have HM : Hid (Pl.fm k = (Pl.fmN k : Int)) := f3
  clear hz hf f3
  go_wp2_with fail
  refine (rowOf_b k h1 hk u1).mono ?_
  rintro e u2 ⟨rfl, d2⟩
  have X2 : Hid (u2.heap[w.heap.size]? = some (.cells #[.int .i64 0, .int .i64 0, .int .i64 0, .int .i64 0, .int .i64 0] 74)) := (d2.block _ Z1.out).trans X1.out
  have B2 : Hid (Below w.heap.size w u2) := B1.out.trans (d2.mono (Nat.le_of_lt Z1.out))
  have Z2 : Hid (w.heap.size < u2.heap.size) := Nat.lt_of_lt_of_le Z1.out d2.size
  clear d2 X1 B1 Z1
  go_wp2_with (refine wpList_store_row rfl 116 _ _ rfl (u2.heap.size) #[.string (Pl.nm k), .int .i64 (Pl.fm k), .int .u8 (Pl.cc k 0), .int .u8 (Pl.cc k 1), .int .u8 (Pl.cc k 2), .int .u8 (Pl.cc k 3)] ?hx ?hy 116 #[.string ByteArray.empty, .int .i64 0, .int .u8 0, .int .u8 0, .int .u8 0, .int .u8 0] ?hg ?hi ?ho ?h1 ?_; (case hx => rfl); (case hy => rfl); (case hg => exact heap_alloc_new u2 _); (case hi => kernel_rfl); (case ho => kernel_rfl); (case h1 => kernel_rfl); refine Hid.out ?_)
  unfold Hid
  rw [World.setRow_alloc_new]
  refine wpList_at fun u3 hu3 => ?_
  have d3 : Below u2.heap.size u2 u3 := by rw [hu3]; exact below_alloc u2 _
  have Y3 : Hid (u3.heap[u2.heap.size]? = some (.cells #[.string (Pl.nm k), .int .i64 (Pl.fm k), .int .u8 (Pl.cc k 0), .int .u8 (Pl.cc k 1), .int .u8 (Pl.cc k 2), .int .u8 (Pl.cc k 3)] 116)) := by show u3.heap[u2.heap.size]? = _; rw [hu3]; exact heap_alloc_new u2 _
  have X3 : Hid (u3.heap[w.heap.size]? = some (.cells #[.int .i64 0, .int .i64 0, .int .i64 0, .int .i64 0, .int .i64 0] 74)) := (d3.block _ Z2.out).trans X2.out
  have B3 : Hid (Below w.heap.size w u3) := B2.out.trans (d3.mono (Nat.le_of_lt Z2.out))
  have Z3 : Hid (w.heap.size < u3.heap.size) := Nat.lt_of_lt_of_le Z2.out d3.size
  clear d3 hu3 X2 B2 Z2
  have ky : ∀ j, u3.cell? ⟨u2.heap.size, j, none⟩ = (#[.string (Pl.nm k), .int .i64 (Pl.fm k), .int .u8 (Pl.cc k 0), .int .u8 (Pl.cc k 1), .int .u8 (Pl.cc k 2), .int .u8 (Pl.cc k 3)] : Array Value)[j]? := fun j => cell_of_row u3 u2.heap.size j _ 116 (0, 0) Y3.out
  go_wp2_with fail
  refine (ruleOf_b _ (Pl.fmN k) HM.out f1 f2 u3).mono ?_
  rintro e u4 ⟨rfl, d4⟩
  have X4 : Hid (u4.heap[w.heap.size]? = some (.cells #[.int .i64 0, .int .i64 0, .int .i64 0, .int .i64 0, .int .i64 0] 74)) := (d4.block _ Z3.out).trans X3.out
  have B4 : Hid (Below w.heap.size w u4) := B3.out.trans (d4.mono (Nat.le_of_lt Z3.out))
  have Z4 : Hid (w.heap.size < u4.heap.size) := Nat.lt_of_lt_of_le Z3.out d4.size
  clear d4 X3 B3 Z3 ky
  go_wp2_with fail
  refine (readFields_any n (Pl.fmN k) f1 f2 u4).mono ?_
  rintro e u5 ⟨rfl, d5⟩
  have X5 : Hid (u5.heap[w.heap.size]? = some (.cells #[.int .i64 0, .int .i64 0, .int .i64 0, .int .i64 0, .int .i64 0] 74)) := (d5.block _ Z4.out).trans X4.out
  have B5 : Hid (Below w.heap.size w u5) := B4.out.trans (d5.mono (Nat.le_of_lt Z4.out))
  have Z5 : Hid (w.heap.size < u5.heap.size) := Nat.lt_of_lt_of_le Z4.out d5.size
  clear d5 X4 B4 Z4
  obtain ⟨a, ha⟩ : ∃ a, a = Pl.fRd (Pl.fmN k) n := ⟨_, rfl⟩
  obtain ⟨b, hb⟩ : ∃ a, a = Pl.fR1 (Pl.fmN k) n := ⟨_, rfl⟩
  obtain ⟨c, hc⟩ : ∃ a, a = Pl.fR2 (Pl.fmN k) n := ⟨_, rfl⟩
  obtain ⟨d, hd⟩ : ∃ a, a = Pl.gIm (Pl.fmN k) n := ⟨_, rfl⟩
  rw [← ha, ← hb, ← hc, ← hd]
  have HV : Hid (a = Pl.fRd (Pl.fmN k) n ∧ b = Pl.fR1 (Pl.fmN k) n ∧ c = Pl.fR2 (Pl.fmN k) n ∧ d = Pl.gIm (Pl.fmN k) n) := ⟨ha, hb, hc, hd⟩
  clear ha hb hc hd
  go_wp2_with (refine wpList_store_row rfl 74 _ _ rfl (u5.heap.size) #[.int .i64 0, .int .i64 a, .int .i64 b, .int .i64 c, .int .i64 d] ?hx ?hy 74 #[.int .i64 0, .int .i64 0, .int .i64 0, .int .i64 0, .int .i64 0] ?hg ?hi ?ho ?h1 ?_; (case hx => rfl); (case hy => rfl); (case hg => exact heap_alloc_new u5 _); (case hi => kernel_rfl); (case ho => kernel_rfl); (case h1 => kernel_rfl); refine Hid.out ?_)
  unfold Hid
  rw [World.setRow_alloc_new]
  refine wpList_at fun u6 hu6 => ?_
  have d6 : Below u5.heap.size u5 u6 := by rw [hu6]; exact below_alloc u5 _
  have Y6 : Hid (u6.heap[u5.heap.size]? = some (.cells #[.int .i64 0, .int .i64 a, .int .i64 b, .int .i64 c, .int .i64 d] 74)) := by show u6.heap[u5.heap.size]? = _; rw [hu6]; exact heap_alloc_new u5 _
  have G6 : Hid (w.heap.size < u5.heap.size ∧ u5.heap.size < u6.heap.size) := ⟨Z5.out, by rw [hu6]; simp⟩
  have X6 : Hid (u6.heap[w.heap.size]? = some (.cells #[.int .i64 0, .int .i64 0, .int .i64 0, .int .i64 0, .int .i64 0] 74)) := (d6.block _ Z5.out).trans X5.out
  have B6 : Hid (Below w.heap.size w u6) := B5.out.trans (d6.mono (Nat.le_of_lt Z5.out))
  have Z6 : Hid (w.heap.size < u6.heap.size) := Nat.lt_of_lt_of_le Z5.out d6.size
  clear d6 hu6 X5 B5 Z5
  obtain ⟨g, hg⟩ : ∃ g, g = u5.heap.size := ⟨_, rfl⟩
  rw [← hg] at Y6 G6 ⊢
  clear hg
  have kf : ∀ j, u6.frozen? ⟨g, j, none⟩ = false := fun j => frozen_of_row u6 g j _ 74 Y6.out
  have ky : ∀ j, u6.cell? ⟨g, j, none⟩ = (#[.int .i64 0, .int .i64 a, .int .i64 b, .int .i64 c, .int .i64 d] : Array Value)[j]? := fun j => cell_of_row u6 g j _ 74 (0, 0) Y6.out
  have Y7 : Hid ((u6.setCell ⟨g, 0, none⟩ (.int .i64 (k : Int))).heap[g]? = some (.cells #[.int .i64 (k : Int), .int .i64 a, .int .i64 b, .int .i64 c, .int .i64 d] 74)) := row_put5 Y6.out 0 (.int .i64 (k : Int)) rfl
  go_wp2_with (refine wpList_load_row rfl 74 _ rfl (g) ?hx 74 #[.int .i64 (k : Int), .int .i64 a, .int .i64 b, .int .i64 c, .int .i64 d] (0, 0) _ ?hg Tryz.underlying74 ?hd ?hi ?_; (case hx => rfl); (case hg => exact Y7.out); (case hd => rfl); (case hi => kernel_rfl))
  refine calls_at5 fun u7 hu7 => ?_
  have X7 : Hid (u7.heap[w.heap.size]? = some (.cells #[.int .i64 0, .int .i64 0, .int .i64 0, .int .i64 0, .int .i64 0] 74)) := by show u7.heap[w.heap.size]? = _; rw [hu7]; exact keep_other X6.out (Nat.ne_of_lt G6.out.1)
  have B7 : Hid (Below w.heap.size w u7) := by show Below w.heap.size w u7; rw [hu7]; exact B6.out.setCell (Nat.le_of_lt G6.out.1) _
  have Z7 : Hid (w.heap.size < u7.heap.size ∧ g < u7.heap.size) := by show w.heap.size < u7.heap.size ∧ g < u7.heap.size; rw [hu7]; have := G6.out; simp; omega
  rw [← hu7] at Y7
  clear hu7 X6 B6 Z6 Y6 G6 kf ky
  cases hit : Pl.hit k n
  · have HD : Hid (Pl.dec n = 0) := Pl.dec_none (fun j j1 j2 => by
      cases hh : Pl.hit j n
      · rfl
      · have := (Pl.hit_fits j1 j2 hh).1
        have e := Pl.fits_one j1 j2 h1 hk this HF.out
        subst e
        rw [hit] at hh
        cases hh)
    cases hok : iok (k : Int) a b c d
    · refine (implEnc_no _ _ _ _ _ hok u7).mono ?_
      rintro e u8 ⟨rfl, d8⟩
      have X8 : Hid (u8.heap[w.heap.size]? = some (.cells #[.int .i64 0, .int .i64 0, .int .i64 0, .int .i64 0, .int .i64 0] 74)) := (d8.block _ Z7.out.1).trans X7.out
      have B8 : Hid (Below w.heap.size w u8) := B7.out.trans (d8.mono (Nat.le_of_lt Z7.out.1))
      clear d8
      go_wp2_with (refine wpList_store_row rfl 74 _ _ rfl (w.heap.size) #[.int .i64 0, .int .i64 0, .int .i64 0, .int .i64 0, .int .i64 0] ?hx ?hy 74 #[.int .i64 0, .int .i64 0, .int .i64 0, .int .i64 0, .int .i64 0] ?hg ?hi ?ho ?h1 ?_; (case hx => rfl); (case hy => rfl); (case hg => exact X8.out); (case hi => kernel_rfl); (case ho => kernel_rfl); (case h1 => kernel_rfl); refine Hid.out ?_)
      unfold Hid
      go_wp2_with fail
      refine bodyPost_ret (v := .tuple #[.agg #[.int .i64 0, .int .i64 0, .int .i64 0, .int .i64 0, .int .i64 0], .bool false]) ?_ rfl ⟨ret_dec (Pl.decV_none HD.out) (by rw [HD.out]; rfl), below_setRow5 B8.out (Nat.le_refl _) _⟩
      refine results_cell_tmp Tryz.results86 _ _ (w.heap.size) 74 #[.int .i64 0, .int .i64 0, .int .i64 0, .int .i64 0, .int .i64 0] (0, 0) _ (.bool false) ?hp ?hq ?hg Tryz.underlying74 ?hd ?hi
      case hp => rfl
      case hq => rfl
      case hg => exact setRow_heap _ _ _ _ _ _ X8.out
      case hd => rfl
      case hi => kernel_rfl
    · have hne : Pl.enc k a b c d ≠ n := by
        intro he
        obtain ⟨ea, eb, ec, ed⟩ := HV.out
        rw [iok_eq k h1 hk, ea, eb, ec, ed] at hok
        rw [ea, eb, ec, ed] at he
        rw [(Pl.hit_iff k n).2 ⟨hok, he⟩] at hit
        cases hit
      refine (implEnc_at k h1 hk _ _ _ _ hok u7).mono ?_
      rintro e u8 ⟨rfl, d8⟩
      have X8 : Hid (u8.heap[w.heap.size]? = some (.cells #[.int .i64 0, .int .i64 0, .int .i64 0, .int .i64 0, .int .i64 0] 74)) := (d8.block _ Z7.out.1).trans X7.out
      have B8 : Hid (Below w.heap.size w u8) := B7.out.trans (d8.mono (Nat.le_of_lt Z7.out.1))
      clear d8
      obtain ⟨m, hm⟩ : ∃ m, m = Pl.enc k a b c d := ⟨_, rfl⟩
      rw [← hm] at hne ⊢
      have hne' : (m != n) = true := by simpa using hne
      clear hm
      go_wp2_with (refine wpList_store_row rfl 74 _ _ rfl (w.heap.size) #[.int .i64 0, .int .i64 0, .int .i64 0, .int .i64 0, .int .i64 0] ?hx ?hy 74 #[.int .i64 0, .int .i64 0, .int .i64 0, .int .i64 0, .int .i64 0] ?hg ?hi ?ho ?h1 ?_; (case hx => rfl); (case hy => rfl); (case hg => exact X8.out); (case hi => kernel_rfl); (case ho => kernel_rfl); (case h1 => kernel_rfl); refine Hid.out ?_)
      unfold Hid
      go_wp2_with fail
      refine bodyPost_ret (v := .tuple #[.agg #[.int .i64 0, .int .i64 0, .int .i64 0, .int .i64 0, .int .i64 0], .bool false]) ?_ rfl ⟨ret_dec (Pl.decV_none HD.out) (by rw [HD.out]; rfl), below_setRow5 B8.out (Nat.le_refl _) _⟩
      refine results_cell_tmp Tryz.results86 _ _ (w.heap.size) 74 #[.int .i64 0, .int .i64 0, .int .i64 0, .int .i64 0, .int .i64 0] (0, 0) _ (.bool false) ?hp ?hq ?hg Tryz.underlying74 ?hd ?hi
      case hp => rfl
      case hq => rfl
      case hg => exact setRow_heap _ _ _ _ _ _ X8.out
      case hd => rfl
      case hi => kernel_rfl
  · have HD : Hid (Pl.dec n = k) := Pl.dec_hit h1 hk hit
    obtain ⟨q1, q2⟩ := (Pl.hit_iff k n).1 hit
    obtain ⟨ea, eb, ec, ed⟩ := HV.out
    rw [← ea, ← eb, ← ec, ← ed] at q1 q2
    have hok : iok (k : Int) a b c d = true := by rw [iok_eq k h1 hk]; exact q1
    refine (implEnc_at k h1 hk _ _ _ _ hok u7).mono ?_
    rintro e u8 ⟨rfl, d8⟩
    have X8 : Hid (u8.heap[w.heap.size]? = some (.cells #[.int .i64 0, .int .i64 0, .int .i64 0, .int .i64 0, .int .i64 0] 74)) := (d8.block _ Z7.out.1).trans X7.out
    have Y8 : Hid (u8.heap[g]? = some (.cells #[.int .i64 (k : Int), .int .i64 a, .int .i64 b, .int .i64 c, .int .i64 d] 74)) := (d8.block _ Z7.out.2).trans Y7.out
    have B8 : Hid (Below w.heap.size w u8) := B7.out.trans (d8.mono (Nat.le_of_lt Z7.out.1))
    have HE : Hid (Pl.decV n = #[.int .i64 (k : Int), .int .i64 a, .int .i64 b, .int .i64 c, .int .i64 d]) := by
      show Pl.decV n = #[.int .i64 (k : Int), .int .i64 a, .int .i64 b, .int .i64 c, .int .i64 d]
      rw [Pl.decV_hit h1 HD.out, ea, eb, ec, ed]
    clear d8 q1 ea eb ec ed
    rw [q2]
    clear q2
    go_wp2_with (first | (refine wpList_load_row rfl 74 _ rfl (g) ?hx 74 #[.int .i64 (k : Int), .int .i64 a, .int .i64 b, .int .i64 c, .int .i64 d] (0, 0) _ ?hg Tryz.underlying74 ?hd ?hi ?_; (case hx => rfl); (case hg => exact Y8.out); (case hd => rfl); (case hi => kernel_rfl)) | (refine wpList_store_row rfl 74 _ _ rfl (w.heap.size) #[.int .i64 (k : Int), .int .i64 a, .int .i64 b, .int .i64 c, .int .i64 d] ?hx ?hy 74 #[.int .i64 0, .int .i64 0, .int .i64 0, .int .i64 0, .int .i64 0] ?hg ?hi ?ho ?h1 ?_; (case hx => rfl); (case hy => rfl); (case hg => exact X8.out); (case hi => kernel_rfl); (case ho => kernel_rfl); (case h1 => kernel_rfl); refine Hid.out ?_))
    unfold Hid
    go_wp2_with fail
    refine bodyPost_ret (v := .tuple #[.agg #[.int .i64 (k : Int), .int .i64 a, .int .i64 b, .int .i64 c, .int .i64 d], .bool true]) ?_ rfl ⟨ret_dec HE.out (by rw [HD.out]; simp; omega), below_setRow5 B8.out (Nat.le_refl _) _⟩
    refine results_cell_tmp Tryz.results86 _ _ (w.heap.size) 74 #[.int .i64 (k : Int), .int .i64 a, .int .i64 b, .int .i64 c, .int .i64 d] (0, 0) _ (.bool true) ?hp ?hq ?hg Tryz.underlying74 ?hd ?hi
    case hp => rfl
    case hq => rfl
    case hg => exact setRow_heap _ _ _ _ _ _ X8.out
    case hd => rfl
    case hi => kernel_rfl
end Go.Proofs.YtjdfffdeljgenaaGreatDoor.W
