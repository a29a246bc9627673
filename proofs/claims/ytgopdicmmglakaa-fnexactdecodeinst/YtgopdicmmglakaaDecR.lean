import Derived.Test.YtgopdicmmglakaaDecMath
set_option linter.unusedVariables false
namespace Go.Proofs.Ytgopdicmmglakaa.W
open Go.RowKit
theorem bitsOf_at (n x y : Int) (a b : Nat) (hx : x = a) (hy : y = b) (ha : a ≤ 31) (hb : b ≤ 31) (w : World) :
    Calls Try.prog 63 #[.int .i64 n, .int .i64 x, .int .i64 y] w fun e w' => e = .returned (.int .i64 (n / Pl.pw a % Pl.pw b)) ∧ ∃ m, w' = w.drewN m := by
  subst hx hy
  have p1 := Pl.pw_pos b
  have p2 : Pl.pw b ≤ 2147483648 := Pl.pw_mono hb
  go_enter Try.func63, Try.ntmps63
  go_wp2_with fail
  go_quiet (fail)
  go_wp2
  go_ret
  exact ⟨ret_int (Pl.bits_eq n a b hb), _, rfl⟩
theorem bitsOf_is (n x y : Int) (ha : 0 ≤ x ∧ x ≤ 31) (hb : 0 ≤ y ∧ y ≤ 31) (w : World) :
    Calls Try.prog 63 #[.int .i64 n, .int .i64 x, .int .i64 y] w fun e w' => e = .returned (.int .i64 (n / Pl.pw x.toNat % Pl.pw y.toNat)) ∧ ∃ m, w' = w.drewN m :=
  bitsOf_at n x y x.toNat y.toNat (by omega) (by omega) (by omega) (by omega) w
theorem keep_drew {U : World} {g m : Nat} {o : Obj} (h : U.heap[g]? = some o) : (U.drewN m).heap[g]? = some o := h
theorem keep_alloc {U : World} {g : Nat} {o p : Obj} (h : U.heap[g]? = some o) (hg : g < U.heap.size) : (U.alloc p).heap[g]? = some o := (Below.heap_alloc U p g hg).trans h
theorem keep_other {U : World} {g b i : Nat} {o : Obj} {v : Value} (h : U.heap[g]? = some o) (hg : g ≠ b) : (U.setCell ⟨b, i, none⟩ v).heap[g]? = some o := (Below.heap_setCell U ⟨b, i, none⟩ v g hg).trans h
theorem row4 {U : World} {g : Nat} {t : TypeId} {a b c d x0 x1 x2 x3 : Value} (h : U.heap[g]? = some (.cells #[a, b, c, d] t (0, 0))) : ((((U.setCell ⟨g, 0, none⟩ x0).setCell ⟨g, 1, none⟩ x1).setCell ⟨g, 2, none⟩ x2).setCell ⟨g, 3, none⟩ x3).heap[g]? = some (.cells #[x0, x1, x2, x3] t (0, 0)) :=
  heap_setCell_same _ _ _ _ _ _ (heap_setCell_same _ _ _ _ _ _ (heap_setCell_same _ _ _ _ _ _ (heap_setCell_same _ _ _ _ _ _ h)))
theorem byte4 {a0 a1 a2 a3 b0 b1 b2 b3 : Int} (h0 : a0 = b0) (h1 : a1 = b1) (h2 : a2 = b2) (h3 : a3 = b3) : Value.agg #[.int .u8 a0, .int .u8 a1, .int .u8 a2, .int .u8 a3] = Value.agg #[.int .u8 b0, .int .u8 b1, .int .u8 b2, .int .u8 b3] := by rw [h0, h1, h2, h3]
theorem ret_of {v u : Value} (h : v = u) : Ending.returned v = Ending.returned u := by rw [h]
theorem pw3 : Pl.pw 3 = 8 := by decide
theorem pw25 : Pl.pw 25 = 33554432 := by decide
set_option maxHeartbeats 1000000 in
theorem readFixed_1 (n : Int) (w : World) :
    Calls Try.prog 61 #[.int .i64 n, .int .i64 1] w fun e w' => e = .returned (.agg #[.int .u8 (Pl.rf 1 n 0), .int .u8 (Pl.rf 1 n 1), .int .u8 (Pl.rf 1 n 2), .int .u8 (Pl.rf 1 n 3)]) ∧ Below w.heap.size w w' := by
  go_enter Try.func61, Try.ntmps61
  go_wp2_with (go_at_call 63; refine (bitsOf_is _ _ _ ⟨by decide, by decide⟩ ⟨by decide, by decide⟩ _).mono ?_; rintro e u ⟨rfl, m, rfl⟩)
  refine bodyPost_ret (results_cell_row Try.results61 _ _ w.heap.size 61 (#[.int .u8 (n / Pl.pw 0 % Pl.pw 7 % 256), .int .u8 (n / Pl.pw 12 % Pl.pw 3 % 256), .int .u8 (n / Pl.pw 25 % Pl.pw 7 % 256), .int .u8 (0)]) (0, 0) _ rfl ?hg Try.underlying61 rfl ?sz) rfl ?fin
  case hg => repeat (first | with_reducible exact heap_alloc_new _ _ | with_reducible refine keep_drew ?_ | with_reducible refine row4 (a := .int .u8 0) (b := .int .u8 0) (c := .int .u8 0) (d := .int .u8 0) ?_ | with_reducible refine keep_other ?_ (by omega) | with_reducible refine keep_alloc ?_ (by simp <;> omega))
  case sz => kernel_rfl
  refine ⟨ret_of ?_, ?_⟩
  refine byte4 ?_ ?_ ?_ ?_
  · simp only [Pl.rf, Pl.pw0, Pl.pw7]; omega
  · simp [Pl.rf, Pl.pw12, pw3] <;> omega
  · simp [Pl.rf, pw25, Pl.pw7] <;> omega
  · simp [Pl.rf]
  · repeat (first | with_reducible exact Below.refl _ _ | with_reducible refine below_drewN' ?_ _ | with_reducible refine Below.setCell ?_ (by simp <;> omega) _ | with_reducible refine Below.alloc ?_ (by simp <;> omega) _)
set_option maxHeartbeats 1000000 in
theorem readFixed_2 (n : Int) (w : World) :
    Calls Try.prog 61 #[.int .i64 n, .int .i64 2] w fun e w' => e = .returned (.agg #[.int .u8 (Pl.rf 2 n 0), .int .u8 (Pl.rf 2 n 1), .int .u8 (Pl.rf 2 n 2), .int .u8 (Pl.rf 2 n 3)]) ∧ Below w.heap.size w w' := by
  go_enter Try.func61, Try.ntmps61
  go_wp2_with (go_at_call 63; refine (bitsOf_is _ _ _ ⟨by decide, by decide⟩ ⟨by decide, by decide⟩ _).mono ?_; rintro e u ⟨rfl, m, rfl⟩)
  refine bodyPost_ret (results_cell_row Try.results61 _ _ w.heap.size 61 (#[.int .u8 (n / Pl.pw 0 % Pl.pw 7 % 256), .int .u8 (n / Pl.pw 12 % Pl.pw 3 % 256), .int .u8 (0), .int .u8 (0)]) (0, 0) _ rfl ?hg Try.underlying61 rfl ?sz) rfl ?fin
  case hg => repeat (first | with_reducible exact heap_alloc_new _ _ | with_reducible refine keep_drew ?_ | with_reducible refine row4 (a := .int .u8 0) (b := .int .u8 0) (c := .int .u8 0) (d := .int .u8 0) ?_ | with_reducible refine keep_other ?_ (by omega) | with_reducible refine keep_alloc ?_ (by simp <;> omega))
  case sz => kernel_rfl
  refine ⟨ret_of ?_, ?_⟩
  refine byte4 ?_ ?_ ?_ ?_
  · simp only [Pl.rf, Pl.pw0, Pl.pw7]; omega
  · simp [Pl.rf, Pl.pw12, pw3] <;> omega
  · simp [Pl.rf]
  · simp [Pl.rf]
  · repeat (first | with_reducible exact Below.refl _ _ | with_reducible refine below_drewN' ?_ _ | with_reducible refine Below.setCell ?_ (by simp <;> omega) _ | with_reducible refine Below.alloc ?_ (by simp <;> omega) _)
set_option maxHeartbeats 1000000 in
theorem readFixed_3 (n : Int) (w : World) :
    Calls Try.prog 61 #[.int .i64 n, .int .i64 3] w fun e w' => e = .returned (.agg #[.int .u8 (Pl.rf 3 n 0), .int .u8 (Pl.rf 3 n 1), .int .u8 (Pl.rf 3 n 2), .int .u8 (Pl.rf 3 n 3)]) ∧ Below w.heap.size w w' := by
  go_enter Try.func61, Try.ntmps61
  go_wp2_with (go_at_call 63; refine (bitsOf_is _ _ _ ⟨by decide, by decide⟩ ⟨by decide, by decide⟩ _).mono ?_; rintro e u ⟨rfl, m, rfl⟩)
  refine bodyPost_ret (results_cell_row Try.results61 _ _ w.heap.size 61 (#[.int .u8 (n / Pl.pw 0 % Pl.pw 7 % 256), .int .u8 (n / Pl.pw 12 % Pl.pw 3 % 256), .int .u8 (n / Pl.pw 25 % Pl.pw 7 % 256), .int .u8 (0)]) (0, 0) _ rfl ?hg Try.underlying61 rfl ?sz) rfl ?fin
  case hg => repeat (first | with_reducible exact heap_alloc_new _ _ | with_reducible refine keep_drew ?_ | with_reducible refine row4 (a := .int .u8 0) (b := .int .u8 0) (c := .int .u8 0) (d := .int .u8 0) ?_ | with_reducible refine keep_other ?_ (by omega) | with_reducible refine keep_alloc ?_ (by simp <;> omega))
  case sz => kernel_rfl
  refine ⟨ret_of ?_, ?_⟩
  refine byte4 ?_ ?_ ?_ ?_
  · simp only [Pl.rf, Pl.pw0, Pl.pw7]; omega
  · simp [Pl.rf, Pl.pw12, pw3] <;> omega
  · simp [Pl.rf, pw25, Pl.pw7] <;> omega
  · simp [Pl.rf]
  · repeat (first | with_reducible exact Below.refl _ _ | with_reducible refine below_drewN' ?_ _ | with_reducible refine Below.setCell ?_ (by simp <;> omega) _ | with_reducible refine Below.alloc ?_ (by simp <;> omega) _)
set_option maxHeartbeats 1000000 in
theorem readFixed_4 (n : Int) (w : World) :
    Calls Try.prog 61 #[.int .i64 n, .int .i64 4] w fun e w' => e = .returned (.agg #[.int .u8 (Pl.rf 4 n 0), .int .u8 (Pl.rf 4 n 1), .int .u8 (Pl.rf 4 n 2), .int .u8 (Pl.rf 4 n 3)]) ∧ Below w.heap.size w w' := by
  go_enter Try.func61, Try.ntmps61
  go_wp2_with (go_at_call 63; refine (bitsOf_is _ _ _ ⟨by decide, by decide⟩ ⟨by decide, by decide⟩ _).mono ?_; rintro e u ⟨rfl, m, rfl⟩)
  refine bodyPost_ret (results_cell_row Try.results61 _ _ w.heap.size 61 (#[.int .u8 (n / Pl.pw 0 % Pl.pw 7 % 256), .int .u8 (n / Pl.pw 12 % Pl.pw 3 % 256), .int .u8 (0), .int .u8 (0)]) (0, 0) _ rfl ?hg Try.underlying61 rfl ?sz) rfl ?fin
  case hg => repeat (first | with_reducible exact heap_alloc_new _ _ | with_reducible refine keep_drew ?_ | with_reducible refine row4 (a := .int .u8 0) (b := .int .u8 0) (c := .int .u8 0) (d := .int .u8 0) ?_ | with_reducible refine keep_other ?_ (by omega) | with_reducible refine keep_alloc ?_ (by simp <;> omega))
  case sz => kernel_rfl
  refine ⟨ret_of ?_, ?_⟩
  refine byte4 ?_ ?_ ?_ ?_
  · simp only [Pl.rf, Pl.pw0, Pl.pw7]; omega
  · simp [Pl.rf, Pl.pw12, pw3] <;> omega
  · simp [Pl.rf]
  · simp [Pl.rf]
  · repeat (first | with_reducible exact Below.refl _ _ | with_reducible refine below_drewN' ?_ _ | with_reducible refine Below.setCell ?_ (by simp <;> omega) _ | with_reducible refine Below.alloc ?_ (by simp <;> omega) _)
set_option maxHeartbeats 1000000 in
theorem readFixed_5 (n : Int) (w : World) :
    Calls Try.prog 61 #[.int .i64 n, .int .i64 5] w fun e w' => e = .returned (.agg #[.int .u8 (Pl.rf 5 n 0), .int .u8 (Pl.rf 5 n 1), .int .u8 (Pl.rf 5 n 2), .int .u8 (Pl.rf 5 n 3)]) ∧ Below w.heap.size w w' := by
  go_enter Try.func61, Try.ntmps61
  go_wp2_with (go_at_call 63; refine (bitsOf_is _ _ _ ⟨by decide, by decide⟩ ⟨by decide, by decide⟩ _).mono ?_; rintro e u ⟨rfl, m, rfl⟩)
  refine bodyPost_ret (results_cell_row Try.results61 _ _ w.heap.size 61 (#[.int .u8 (n / Pl.pw 0 % Pl.pw 7 % 256), .int .u8 (n / Pl.pw 12 % Pl.pw 3 % 256), .int .u8 (0), .int .u8 (0)]) (0, 0) _ rfl ?hg Try.underlying61 rfl ?sz) rfl ?fin
  case hg => repeat (first | with_reducible exact heap_alloc_new _ _ | with_reducible refine keep_drew ?_ | with_reducible refine row4 (a := .int .u8 0) (b := .int .u8 0) (c := .int .u8 0) (d := .int .u8 0) ?_ | with_reducible refine keep_other ?_ (by omega) | with_reducible refine keep_alloc ?_ (by simp <;> omega))
  case sz => kernel_rfl
  refine ⟨ret_of ?_, ?_⟩
  refine byte4 ?_ ?_ ?_ ?_
  · simp only [Pl.rf, Pl.pw0, Pl.pw7]; omega
  · simp [Pl.rf, Pl.pw12, pw3] <;> omega
  · simp [Pl.rf]
  · simp [Pl.rf]
  · repeat (first | with_reducible exact Below.refl _ _ | with_reducible refine below_drewN' ?_ _ | with_reducible refine Below.setCell ?_ (by simp <;> omega) _ | with_reducible refine Below.alloc ?_ (by simp <;> omega) _)
set_option maxHeartbeats 1000000 in
theorem readFixed_6 (n : Int) (w : World) :
    Calls Try.prog 61 #[.int .i64 n, .int .i64 6] w fun e w' => e = .returned (.agg #[.int .u8 (Pl.rf 6 n 0), .int .u8 (Pl.rf 6 n 1), .int .u8 (Pl.rf 6 n 2), .int .u8 (Pl.rf 6 n 3)]) ∧ Below w.heap.size w w' := by
  go_enter Try.func61, Try.ntmps61
  go_wp2_with (go_at_call 63; refine (bitsOf_is _ _ _ ⟨by decide, by decide⟩ ⟨by decide, by decide⟩ _).mono ?_; rintro e u ⟨rfl, m, rfl⟩)
  refine bodyPost_ret (results_cell_row Try.results61 _ _ w.heap.size 61 (#[.int .u8 (n / Pl.pw 0 % Pl.pw 7 % 256), .int .u8 (0), .int .u8 (0), .int .u8 (0)]) (0, 0) _ rfl ?hg Try.underlying61 rfl ?sz) rfl ?fin
  case hg => repeat (first | with_reducible exact heap_alloc_new _ _ | with_reducible refine keep_drew ?_ | with_reducible refine row4 (a := .int .u8 0) (b := .int .u8 0) (c := .int .u8 0) (d := .int .u8 0) ?_ | with_reducible refine keep_other ?_ (by omega) | with_reducible refine keep_alloc ?_ (by simp <;> omega))
  case sz => kernel_rfl
  refine ⟨ret_of ?_, ?_⟩
  refine byte4 ?_ ?_ ?_ ?_
  · simp only [Pl.rf, Pl.pw0, Pl.pw7]; omega
  · simp [Pl.rf]
  · simp [Pl.rf]
  · simp [Pl.rf]
  · repeat (first | with_reducible exact Below.refl _ _ | with_reducible refine below_drewN' ?_ _ | with_reducible refine Below.setCell ?_ (by simp <;> omega) _ | with_reducible refine Below.alloc ?_ (by simp <;> omega) _)
set_option maxHeartbeats 1000000 in
theorem readFixed_7 (n : Int) (w : World) :
    Calls Try.prog 61 #[.int .i64 n, .int .i64 7] w fun e w' => e = .returned (.agg #[.int .u8 (Pl.rf 7 n 0), .int .u8 (Pl.rf 7 n 1), .int .u8 (Pl.rf 7 n 2), .int .u8 (Pl.rf 7 n 3)]) ∧ Below w.heap.size w w' := by
  go_enter Try.func61, Try.ntmps61
  go_wp2_with (go_at_call 63; refine (bitsOf_is _ _ _ ⟨by decide, by decide⟩ ⟨by decide, by decide⟩ _).mono ?_; rintro e u ⟨rfl, m, rfl⟩)
  refine bodyPost_ret (results_cell_row Try.results61 _ _ w.heap.size 61 (#[.int .u8 (n / Pl.pw 0 % Pl.pw 7 % 256), .int .u8 (0), .int .u8 (0), .int .u8 (0)]) (0, 0) _ rfl ?hg Try.underlying61 rfl ?sz) rfl ?fin
  case hg => repeat (first | with_reducible exact heap_alloc_new _ _ | with_reducible refine keep_drew ?_ | with_reducible refine row4 (a := .int .u8 0) (b := .int .u8 0) (c := .int .u8 0) (d := .int .u8 0) ?_ | with_reducible refine keep_other ?_ (by omega) | with_reducible refine keep_alloc ?_ (by simp <;> omega))
  case sz => kernel_rfl
  refine ⟨ret_of ?_, ?_⟩
  refine byte4 ?_ ?_ ?_ ?_
  · simp only [Pl.rf, Pl.pw0, Pl.pw7]; omega
  · simp [Pl.rf]
  · simp [Pl.rf]
  · simp [Pl.rf]
  · repeat (first | with_reducible exact Below.refl _ _ | with_reducible refine below_drewN' ?_ _ | with_reducible refine Below.setCell ?_ (by simp <;> omega) _ | with_reducible refine Below.alloc ?_ (by simp <;> omega) _)
set_option maxHeartbeats 1000000 in
theorem readFixed_8 (n : Int) (w : World) :
    Calls Try.prog 61 #[.int .i64 n, .int .i64 8] w fun e w' => e = .returned (.agg #[.int .u8 (Pl.rf 8 n 0), .int .u8 (Pl.rf 8 n 1), .int .u8 (Pl.rf 8 n 2), .int .u8 (Pl.rf 8 n 3)]) ∧ Below w.heap.size w w' := by
  go_enter Try.func61, Try.ntmps61
  go_wp2_with (go_at_call 63; refine (bitsOf_is _ _ _ ⟨by decide, by decide⟩ ⟨by decide, by decide⟩ _).mono ?_; rintro e u ⟨rfl, m, rfl⟩)
  refine bodyPost_ret (results_cell_row Try.results61 _ _ w.heap.size 61 (#[.int .u8 (n / Pl.pw 0 % Pl.pw 7 % 256), .int .u8 (n / Pl.pw 12 % Pl.pw 3 % 256), .int .u8 (n / Pl.pw 25 % Pl.pw 7 % 256), .int .u8 (n / Pl.pw 20 % Pl.pw 5 % 256)]) (0, 0) _ rfl ?hg Try.underlying61 rfl ?sz) rfl ?fin
  case hg => repeat (first | with_reducible exact heap_alloc_new _ _ | with_reducible refine keep_drew ?_ | with_reducible refine row4 (a := .int .u8 0) (b := .int .u8 0) (c := .int .u8 0) (d := .int .u8 0) ?_ | with_reducible refine keep_other ?_ (by omega) | with_reducible refine keep_alloc ?_ (by simp <;> omega))
  case sz => kernel_rfl
  refine ⟨ret_of ?_, ?_⟩
  refine byte4 ?_ ?_ ?_ ?_
  · simp only [Pl.rf, Pl.pw0, Pl.pw7]; omega
  · simp [Pl.rf, Pl.pw12, pw3] <;> omega
  · simp [Pl.rf, pw25, Pl.pw7] <;> omega
  · simp [Pl.rf, Pl.pw20, Pl.pw5] <;> omega
  · repeat (first | with_reducible exact Below.refl _ _ | with_reducible refine below_drewN' ?_ _ | with_reducible refine Below.setCell ?_ (by simp <;> omega) _ | with_reducible refine Below.alloc ?_ (by simp <;> omega) _)
theorem readFixed_any (f : Nat) (x n : Int) (hx : x = f) (h1 : 1 ≤ f) (h2 : f ≤ 8) (w : World) :
    Calls Try.prog 61 #[.int .i64 n, .int .i64 x] w fun e w' => e = .returned (.agg #[.int .u8 (Pl.rf f n 0), .int .u8 (Pl.rf f n 1), .int .u8 (Pl.rf f n 2), .int .u8 (Pl.rf f n 3)]) ∧ Below w.heap.size w w' := by
  subst hx
  rcases Pl.form_cases f h1 h2 with rfl | rfl | rfl | rfl | rfl | rfl | rfl | rfl
  · exact readFixed_1 n w
  · exact readFixed_2 n w
  · exact readFixed_3 n w
  · exact readFixed_4 n w
  · exact readFixed_5 n w
  · exact readFixed_6 n w
  · exact readFixed_7 n w
  · exact readFixed_8 n w
end Go.Proofs.Ytgopdicmmglakaa.W
