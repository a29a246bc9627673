import Derived.Test.YtfcfnbncgadomaaQ08
import Derived.Test.YtfcfnbncgadomaaQ01
import Derived.ChangeKeysEq
import Derived.Laws.StructEq
import Derived.Deep.RegionWith
import Derived.Test.YtfcfnbncgadomaaQ02
set_option linter.unusedVariables false
set_option linter.unusedSimpArgs false
namespace Go.Proofs.Ytfcfnbncgadomaa.Pl
/-- bits y to x of a word -/
def bt (n x y : Int) : Int := wd n / pw y.toNat % pw (x.toNat - y.toNat + 1)
theorem bt_bd (n x y : Int) : 0 ≤ bt n x y ∧ bt n x y ≤ pw (x.toNat - y.toNat + 1) - 1 := by
  have h := Int.emod_nonneg (wd n / pw y.toNat) (Int.ne_of_gt (pw_pos (x.toNat - y.toNat + 1)))
  have h' := Int.emod_lt_of_pos (wd n / pw y.toNat) (pw_pos (x.toNat - y.toNat + 1))
  unfold bt
  omega
/-- a number of m bits with its sign -/
def wde (v m : Int) : Int := if pw (m.toNat - 1) ≤ v then v - pw m.toNat else v
end Go.Proofs.Ytfcfnbncgadomaa.Pl
namespace Go.Proofs.Ytfcfnbncgadomaa.W
open Go.RowKit
theorem l2Bits_is (n x y : Int) (h : 0 ≤ y ∧ y ≤ x ∧ x ≤ 31) (w : World) : Calls Try.prog 101 #[.int .i64 n, .int .i64 x, .int .i64 y] w fun e w' => e = .returned (.int .i64 (Pl.bt n x y)) ∧ ∃ m, w' = w.drewN m :=
  l2Bits_any n x y x.toNat y.toNat (by omega) (by omega) (by omega) (by omega) w
theorem power_is (x : Int) (h : 0 ≤ x ∧ x ≤ 32) (w : World) : Calls Try.prog 37 #[.int .i64 x] w fun e w' => e = .returned (.int .i64 (Pl.pw x.toNat)) ∧ w' = w := specPower_any x x.toNat (by omega) (by omega) w
theorem l2Wide_is (v m : Int) (hm : m = 12 ∨ m = 13 ∨ m = 21) (hv : 0 ≤ v ∧ v ≤ 8589934592) (w : World) : Calls Try.prog 102 #[.int .i64 v, .int .i64 m] w fun e w' => e = .returned (.int .i64 (Pl.wde v m)) ∧ w' = w := by
  rcases hm with rfl | rfl | rfl
  · have e1 : Pl.pw 11 = 2048 := by decide
    have e2 : Pl.pw 12 = 4096 := by decide
    by_cases h : 2048 ≤ v
    · have HP : Hid (Pl.wde v 12 = v - 4096) := by show Pl.wde v 12 = _; unfold Pl.wde; rw [show (Int.toNat 12 - 1) = 11 from rfl, show Int.toNat 12 = 12 from rfl, e1, e2, if_pos h]
      go_enter Try.func102, Try.ntmps102
      go_wp2_with (first | (go_at_call 37; refine (power_is _ (by decide) _).mono ?_; rintro e w' ⟨rfl, rfl⟩))
      go_ret
      exact ⟨ret_int (HP.out.trans (by first | rfl | simp only [e2])).symm, rfl⟩
    · have HP : Hid (Pl.wde v 12 = v) := by show Pl.wde v 12 = _; unfold Pl.wde; rw [show (Int.toNat 12 - 1) = 11 from rfl, e1, if_neg h]
      go_enter Try.func102, Try.ntmps102
      go_wp2_with (first | (go_at_call 37; refine (power_is _ (by decide) _).mono ?_; rintro e w' ⟨rfl, rfl⟩))
      go_ret
      exact ⟨ret_int HP.out.symm, rfl⟩
  · have e1 : Pl.pw 12 = 4096 := by decide
    have e2 : Pl.pw 13 = 8192 := by decide
    by_cases h : 4096 ≤ v
    · have HP : Hid (Pl.wde v 13 = v - 8192) := by show Pl.wde v 13 = _; unfold Pl.wde; rw [show (Int.toNat 13 - 1) = 12 from rfl, show Int.toNat 13 = 13 from rfl, e1, e2, if_pos h]
      go_enter Try.func102, Try.ntmps102
      go_wp2_with (first | (go_at_call 37; refine (power_is _ (by decide) _).mono ?_; rintro e w' ⟨rfl, rfl⟩))
      go_ret
      exact ⟨ret_int (HP.out.trans (by first | rfl | simp only [e2])).symm, rfl⟩
    · have HP : Hid (Pl.wde v 13 = v) := by show Pl.wde v 13 = _; unfold Pl.wde; rw [show (Int.toNat 13 - 1) = 12 from rfl, e1, if_neg h]
      go_enter Try.func102, Try.ntmps102
      go_wp2_with (first | (go_at_call 37; refine (power_is _ (by decide) _).mono ?_; rintro e w' ⟨rfl, rfl⟩))
      go_ret
      exact ⟨ret_int HP.out.symm, rfl⟩
  · have e1 : Pl.pw 20 = 1048576 := by decide
    have e2 : Pl.pw 21 = 2097152 := by decide
    by_cases h : 1048576 ≤ v
    · have HP : Hid (Pl.wde v 21 = v - 2097152) := by show Pl.wde v 21 = _; unfold Pl.wde; rw [show (Int.toNat 21 - 1) = 20 from rfl, show Int.toNat 21 = 21 from rfl, e1, e2, if_pos h]
      go_enter Try.func102, Try.ntmps102
      go_wp2_with (first | (go_at_call 37; refine (power_is _ (by decide) _).mono ?_; rintro e w' ⟨rfl, rfl⟩))
      go_ret
      exact ⟨ret_int (HP.out.trans (by first | rfl | simp only [e2])).symm, rfl⟩
    · have HP : Hid (Pl.wde v 21 = v) := by show Pl.wde v 21 = _; unfold Pl.wde; rw [show (Int.toNat 21 - 1) = 20 from rfl, e1, if_neg h]
      go_enter Try.func102, Try.ntmps102
      go_wp2_with (first | (go_at_call 37; refine (power_is _ (by decide) _).mono ?_; rintro e w' ⟨rfl, rfl⟩))
      go_ret
      exact ⟨ret_int HP.out.symm, rfl⟩
theorem parts_b (f : Nat) (h1 : 1 ≤ f) (h2 : f ≤ 8) (w : World) : Calls Try.prog 88 #[.int .i64 f] w fun e w' => e = .returned (.int .i64 (Pl.pts f)) ∧ Below w.heap.size w w' := by
  refine (parts_any f h1 h2 w).mono ?_
  rintro e w' ⟨rfl, rfl⟩
  exact ⟨rfl, below_alloc _ _⟩
set_option maxHeartbeats 2000000 in
theorem l2Read_1 (k : Nat) (h1 : 1 ≤ k) (h2 : k ≤ 47) (HF : Hid (Pl.fmN k = 1)) (n : Int) (w : World) :
    Calls Try.prog 95 #[.int .i64 (k : Int), .int .i64 n] w fun e w' => e = .returned (.agg #[.int .i64 (k : Int), .int .i64 (Pl.bt n 11 7), .int .i64 (Pl.bt n 19 15), .int .i64 (Pl.bt n 24 20), .int .i64 (0)]) ∧ Below w.heap.size w w' := by
  go_enter Try.func95, Try.ntmps95
  go_wp2_with (first | (go_at_call 84; refine (form_any k h1 h2 _).mono ?_; rintro e w' ⟨rfl, rfl⟩; rw [HF.out]) )
  refine calls_at5 fun u0 hu0 => ?_
  have X0 : Hid (u0.heap[w.heap.size]? = some (.cells #[.int .i64 0, .int .i64 0, .int .i64 0, .int .i64 0, .int .i64 0] 105)) := by show u0.heap[w.heap.size]? = _; rw [hu0]; exact heap_alloc_new w _
  have B0 : Hid (Below w.heap.size w u0) := by show Below w.heap.size w u0; rw [hu0]; exact below_alloc w _
  have Z0 : Hid (w.heap.size < u0.heap.size) := by show w.heap.size < u0.heap.size; rw [hu0]; simp
  clear hu0
  refine (parts_b 1 (by decide) (by decide) u0).mono ?_
  rintro e u1 ⟨rfl, d1⟩
  have X1 : Hid (u1.heap[w.heap.size]? = some (.cells #[.int .i64 0, .int .i64 0, .int .i64 0, .int .i64 0, .int .i64 0] 105)) := (d1.block _ Z0.out).trans X0.out
  have B1 : Hid (Below w.heap.size w u1) := B0.out.trans (d1.mono (Nat.le_of_lt Z0.out))
  have Z1 : Hid (w.heap.size < u1.heap.size) := Nat.lt_of_lt_of_le Z0.out d1.size
  clear d1 X0 B0 Z0
  rw [show Pl.pts 1 = 7 from rfl]
  go_wp2_with (refine wpList_store_row rfl 105 _ _ rfl (u1.heap.size) #[.int .i64 (k : Int), .int .i64 0, .int .i64 0, .int .i64 0, .int .i64 0] ?hx ?hy 105 #[.int .i64 0, .int .i64 0, .int .i64 0, .int .i64 0, .int .i64 0] ?hg ?hi ?ho ?h1 ?_; (case hx => rfl); (case hy => rfl); (case hg => exact heap_alloc_new u1 _); (case hi => kernel_rfl); (case ho => kernel_rfl); (case h1 => kernel_rfl); refine Hid.out ?_)
  unfold Hid
  rw [World.setRow_alloc_new]
  refine wpList_at fun u2 hu2 => ?_
  have d2 : Below u1.heap.size u1 u2 := by rw [hu2]; exact below_alloc u1 _
  have Y2 : Hid (u2.heap[u1.heap.size]? = some (.cells #[.int .i64 (k : Int), .int .i64 0, .int .i64 0, .int .i64 0, .int .i64 0] 105)) := by show u2.heap[u1.heap.size]? = _; rw [hu2]; exact heap_alloc_new u1 _
  have X2 : Hid (u2.heap[w.heap.size]? = some (.cells #[.int .i64 0, .int .i64 0, .int .i64 0, .int .i64 0, .int .i64 0] 105)) := (d2.block _ Z1.out).trans X1.out
  have B2 : Hid (Below w.heap.size w u2) := B1.out.trans (d2.mono (Nat.le_of_lt Z1.out))
  clear d2 hu2 X1 B1
  obtain ⟨g, hg⟩ : ∃ g, g = u1.heap.size := ⟨_, rfl⟩
  rw [← hg] at Z1 Y2 ⊢
  have Z2 : w.heap.size < g := Z1.out
  clear hg Z1
  have ky : ∀ j, u2.cell? ⟨g, j, none⟩ = (#[.int .i64 (k : Int), .int .i64 0, .int .i64 0, .int .i64 0, .int .i64 0] : Array Value)[j]? := fun j => cell_of_row u2 g j _ 105 (0, 0) Y2.out
  have kf : ∀ j, u2.frozen? ⟨g, j, none⟩ = false := fun j => frozen_of_row u2 g j _ 105 Y2.out
  go_wp2_with (first | (go_at_call 101; refine (l2Bits_is _ _ _ (by decide) _).mono ?_; rintro e u3 ⟨rfl, mm, rfl⟩) | (go_at_call 102; refine (l2Wide_is _ _ (by decide) (by omega) _).mono ?_; rintro e u3 ⟨rfl, rfl⟩) | (refine wpList_load_row rfl 105 _ rfl g ?hx 105 #[.int .i64 (k : Int), .int .i64 (Pl.bt n 11 7), .int .i64 (Pl.bt n 19 15), .int .i64 (Pl.bt n 24 20), .int .i64 (0)] (0, 0) _ ?hg Try.underlying105 ?hd ?hi ?_; (case hx => rfl); (case hg => exact row_put5 (row_put5 (row_put5 (Y2.out) _ _ rfl) _ _ rfl) _ _ rfl); (case hd => rfl); (case hi => kernel_rfl)) | (refine wpList_store_row rfl 105 _ _ rfl (w.heap.size) #[.int .i64 (k : Int), .int .i64 (Pl.bt n 11 7), .int .i64 (Pl.bt n 19 15), .int .i64 (Pl.bt n 24 20), .int .i64 (0)] ?hx ?hy 105 #[.int .i64 0, .int .i64 0, .int .i64 0, .int .i64 0, .int .i64 0] ?hg ?hi ?ho ?h1 ?_; (case hx => rfl); (case hy => rfl); (case hg => exact keep_other (keep_other (keep_other (X2.out) (Nat.ne_of_lt Z2)) (Nat.ne_of_lt Z2)) (Nat.ne_of_lt Z2)); (case hi => kernel_rfl); (case ho => kernel_rfl); (case h1 => kernel_rfl); refine Hid.out ?_))
  unfold Hid
  go_wp2_with fail
  refine bodyPost_ret (v := .agg #[.int .i64 (k : Int), .int .i64 (Pl.bt n 11 7), .int .i64 (Pl.bt n 19 15), .int .i64 (Pl.bt n 24 20), .int .i64 (0)]) ?_ rfl ⟨rfl, ?_⟩
  · refine results_cell_row Try.results95 _ _ (w.heap.size) 105 #[.int .i64 (k : Int), .int .i64 (Pl.bt n 11 7), .int .i64 (Pl.bt n 19 15), .int .i64 (Pl.bt n 24 20), .int .i64 (0)] (0, 0) _ ?hp ?hg Try.underlying105 ?hd ?hi
    case hp => rfl
    case hg => exact setRow_heap _ _ _ _ _ _ (keep_other (keep_other (keep_other (X2.out) (Nat.ne_of_lt Z2)) (Nat.ne_of_lt Z2)) (Nat.ne_of_lt Z2))
    case hd => rfl
    case hi => kernel_rfl
  · refine below_setRow5 ?_ (Nat.le_refl _) _
    repeat (first | exact B2.out | refine below_drewN ?_ _ | refine Below.setCell ?_ (Nat.le_of_lt Z2) _)
set_option maxHeartbeats 2000000 in
theorem l2Read_2 (k : Nat) (h1 : 1 ≤ k) (h2 : k ≤ 47) (HF : Hid (Pl.fmN k = 2)) (n : Int) (w : World) :
    Calls Try.prog 95 #[.int .i64 (k : Int), .int .i64 n] w fun e w' => e = .returned (.agg #[.int .i64 (k : Int), .int .i64 (Pl.bt n 11 7), .int .i64 (Pl.bt n 19 15), .int .i64 (0), .int .i64 (Pl.wde (Pl.bt n 31 20) 12)]) ∧ Below w.heap.size w w' := by
  have b0 : 0 ≤ Pl.bt n 31 20 ∧ Pl.bt n 31 20 ≤ 4095 := Pl.bt_bd n 31 20
  go_enter Try.func95, Try.ntmps95
  go_wp2_with (first | (go_at_call 84; refine (form_any k h1 h2 _).mono ?_; rintro e w' ⟨rfl, rfl⟩; rw [HF.out]) )
  refine calls_at5 fun u0 hu0 => ?_
  have X0 : Hid (u0.heap[w.heap.size]? = some (.cells #[.int .i64 0, .int .i64 0, .int .i64 0, .int .i64 0, .int .i64 0] 105)) := by show u0.heap[w.heap.size]? = _; rw [hu0]; exact heap_alloc_new w _
  have B0 : Hid (Below w.heap.size w u0) := by show Below w.heap.size w u0; rw [hu0]; exact below_alloc w _
  have Z0 : Hid (w.heap.size < u0.heap.size) := by show w.heap.size < u0.heap.size; rw [hu0]; simp
  clear hu0
  refine (parts_b 2 (by decide) (by decide) u0).mono ?_
  rintro e u1 ⟨rfl, d1⟩
  have X1 : Hid (u1.heap[w.heap.size]? = some (.cells #[.int .i64 0, .int .i64 0, .int .i64 0, .int .i64 0, .int .i64 0] 105)) := (d1.block _ Z0.out).trans X0.out
  have B1 : Hid (Below w.heap.size w u1) := B0.out.trans (d1.mono (Nat.le_of_lt Z0.out))
  have Z1 : Hid (w.heap.size < u1.heap.size) := Nat.lt_of_lt_of_le Z0.out d1.size
  clear d1 X0 B0 Z0
  rw [show Pl.pts 2 = 11 from rfl]
  go_wp2_with (refine wpList_store_row rfl 105 _ _ rfl (u1.heap.size) #[.int .i64 (k : Int), .int .i64 0, .int .i64 0, .int .i64 0, .int .i64 0] ?hx ?hy 105 #[.int .i64 0, .int .i64 0, .int .i64 0, .int .i64 0, .int .i64 0] ?hg ?hi ?ho ?h1 ?_; (case hx => rfl); (case hy => rfl); (case hg => exact heap_alloc_new u1 _); (case hi => kernel_rfl); (case ho => kernel_rfl); (case h1 => kernel_rfl); refine Hid.out ?_)
  unfold Hid
  rw [World.setRow_alloc_new]
  refine wpList_at fun u2 hu2 => ?_
  have d2 : Below u1.heap.size u1 u2 := by rw [hu2]; exact below_alloc u1 _
  have Y2 : Hid (u2.heap[u1.heap.size]? = some (.cells #[.int .i64 (k : Int), .int .i64 0, .int .i64 0, .int .i64 0, .int .i64 0] 105)) := by show u2.heap[u1.heap.size]? = _; rw [hu2]; exact heap_alloc_new u1 _
  have X2 : Hid (u2.heap[w.heap.size]? = some (.cells #[.int .i64 0, .int .i64 0, .int .i64 0, .int .i64 0, .int .i64 0] 105)) := (d2.block _ Z1.out).trans X1.out
  have B2 : Hid (Below w.heap.size w u2) := B1.out.trans (d2.mono (Nat.le_of_lt Z1.out))
  clear d2 hu2 X1 B1
  obtain ⟨g, hg⟩ : ∃ g, g = u1.heap.size := ⟨_, rfl⟩
  rw [← hg] at Z1 Y2 ⊢
  have Z2 : w.heap.size < g := Z1.out
  clear hg Z1
  have ky : ∀ j, u2.cell? ⟨g, j, none⟩ = (#[.int .i64 (k : Int), .int .i64 0, .int .i64 0, .int .i64 0, .int .i64 0] : Array Value)[j]? := fun j => cell_of_row u2 g j _ 105 (0, 0) Y2.out
  have kf : ∀ j, u2.frozen? ⟨g, j, none⟩ = false := fun j => frozen_of_row u2 g j _ 105 Y2.out
  go_wp2_with (first | (go_at_call 101; refine (l2Bits_is _ _ _ (by decide) _).mono ?_; rintro e u3 ⟨rfl, mm, rfl⟩) | (go_at_call 102; refine (l2Wide_is _ _ (by decide) (by omega) _).mono ?_; rintro e u3 ⟨rfl, rfl⟩) | (refine wpList_load_row rfl 105 _ rfl g ?hx 105 #[.int .i64 (k : Int), .int .i64 (Pl.bt n 11 7), .int .i64 (Pl.bt n 19 15), .int .i64 (0), .int .i64 (Pl.wde (Pl.bt n 31 20) 12)] (0, 0) _ ?hg Try.underlying105 ?hd ?hi ?_; (case hx => rfl); (case hg => exact row_put5 (row_put5 (row_put5 (Y2.out) _ _ rfl) _ _ rfl) _ _ rfl); (case hd => rfl); (case hi => kernel_rfl)) | (refine wpList_store_row rfl 105 _ _ rfl (w.heap.size) #[.int .i64 (k : Int), .int .i64 (Pl.bt n 11 7), .int .i64 (Pl.bt n 19 15), .int .i64 (0), .int .i64 (Pl.wde (Pl.bt n 31 20) 12)] ?hx ?hy 105 #[.int .i64 0, .int .i64 0, .int .i64 0, .int .i64 0, .int .i64 0] ?hg ?hi ?ho ?h1 ?_; (case hx => rfl); (case hy => rfl); (case hg => exact keep_other (keep_other (keep_other (X2.out) (Nat.ne_of_lt Z2)) (Nat.ne_of_lt Z2)) (Nat.ne_of_lt Z2)); (case hi => kernel_rfl); (case ho => kernel_rfl); (case h1 => kernel_rfl); refine Hid.out ?_))
  unfold Hid
  go_wp2_with fail
  refine bodyPost_ret (v := .agg #[.int .i64 (k : Int), .int .i64 (Pl.bt n 11 7), .int .i64 (Pl.bt n 19 15), .int .i64 (0), .int .i64 (Pl.wde (Pl.bt n 31 20) 12)]) ?_ rfl ⟨rfl, ?_⟩
  · refine results_cell_row Try.results95 _ _ (w.heap.size) 105 #[.int .i64 (k : Int), .int .i64 (Pl.bt n 11 7), .int .i64 (Pl.bt n 19 15), .int .i64 (0), .int .i64 (Pl.wde (Pl.bt n 31 20) 12)] (0, 0) _ ?hp ?hg Try.underlying105 ?hd ?hi
    case hp => rfl
    case hg => exact setRow_heap _ _ _ _ _ _ (keep_other (keep_other (keep_other (X2.out) (Nat.ne_of_lt Z2)) (Nat.ne_of_lt Z2)) (Nat.ne_of_lt Z2))
    case hd => rfl
    case hi => kernel_rfl
  · refine below_setRow5 ?_ (Nat.le_refl _) _
    repeat (first | exact B2.out | refine below_drewN ?_ _ | refine Below.setCell ?_ (Nat.le_of_lt Z2) _)
set_option maxHeartbeats 2000000 in
theorem l2Read_3 (k : Nat) (h1 : 1 ≤ k) (h2 : k ≤ 47) (HF : Hid (Pl.fmN k = 3)) (n : Int) (w : World) :
    Calls Try.prog 95 #[.int .i64 (k : Int), .int .i64 n] w fun e w' => e = .returned (.agg #[.int .i64 (k : Int), .int .i64 (Pl.bt n 11 7), .int .i64 (Pl.bt n 19 15), .int .i64 (0), .int .i64 (Pl.bt n 24 20)]) ∧ Below w.heap.size w w' := by
  have b0 : 0 ≤ Pl.bt n 24 20 ∧ Pl.bt n 24 20 ≤ 31 := Pl.bt_bd n 24 20
  go_enter Try.func95, Try.ntmps95
  go_wp2_with (first | (go_at_call 84; refine (form_any k h1 h2 _).mono ?_; rintro e w' ⟨rfl, rfl⟩; rw [HF.out]) )
  refine calls_at5 fun u0 hu0 => ?_
  have X0 : Hid (u0.heap[w.heap.size]? = some (.cells #[.int .i64 0, .int .i64 0, .int .i64 0, .int .i64 0, .int .i64 0] 105)) := by show u0.heap[w.heap.size]? = _; rw [hu0]; exact heap_alloc_new w _
  have B0 : Hid (Below w.heap.size w u0) := by show Below w.heap.size w u0; rw [hu0]; exact below_alloc w _
  have Z0 : Hid (w.heap.size < u0.heap.size) := by show w.heap.size < u0.heap.size; rw [hu0]; simp
  clear hu0
  refine (parts_b 3 (by decide) (by decide) u0).mono ?_
  rintro e u1 ⟨rfl, d1⟩
  have X1 : Hid (u1.heap[w.heap.size]? = some (.cells #[.int .i64 0, .int .i64 0, .int .i64 0, .int .i64 0, .int .i64 0] 105)) := (d1.block _ Z0.out).trans X0.out
  have B1 : Hid (Below w.heap.size w u1) := B0.out.trans (d1.mono (Nat.le_of_lt Z0.out))
  have Z1 : Hid (w.heap.size < u1.heap.size) := Nat.lt_of_lt_of_le Z0.out d1.size
  clear d1 X0 B0 Z0
  rw [show Pl.pts 3 = 11 from rfl]
  go_wp2_with (refine wpList_store_row rfl 105 _ _ rfl (u1.heap.size) #[.int .i64 (k : Int), .int .i64 0, .int .i64 0, .int .i64 0, .int .i64 0] ?hx ?hy 105 #[.int .i64 0, .int .i64 0, .int .i64 0, .int .i64 0, .int .i64 0] ?hg ?hi ?ho ?h1 ?_; (case hx => rfl); (case hy => rfl); (case hg => exact heap_alloc_new u1 _); (case hi => kernel_rfl); (case ho => kernel_rfl); (case h1 => kernel_rfl); refine Hid.out ?_)
  unfold Hid
  rw [World.setRow_alloc_new]
  refine wpList_at fun u2 hu2 => ?_
  have d2 : Below u1.heap.size u1 u2 := by rw [hu2]; exact below_alloc u1 _
  have Y2 : Hid (u2.heap[u1.heap.size]? = some (.cells #[.int .i64 (k : Int), .int .i64 0, .int .i64 0, .int .i64 0, .int .i64 0] 105)) := by show u2.heap[u1.heap.size]? = _; rw [hu2]; exact heap_alloc_new u1 _
  have X2 : Hid (u2.heap[w.heap.size]? = some (.cells #[.int .i64 0, .int .i64 0, .int .i64 0, .int .i64 0, .int .i64 0] 105)) := (d2.block _ Z1.out).trans X1.out
  have B2 : Hid (Below w.heap.size w u2) := B1.out.trans (d2.mono (Nat.le_of_lt Z1.out))
  clear d2 hu2 X1 B1
  obtain ⟨g, hg⟩ : ∃ g, g = u1.heap.size := ⟨_, rfl⟩
  rw [← hg] at Z1 Y2 ⊢
  have Z2 : w.heap.size < g := Z1.out
  clear hg Z1
  have ky : ∀ j, u2.cell? ⟨g, j, none⟩ = (#[.int .i64 (k : Int), .int .i64 0, .int .i64 0, .int .i64 0, .int .i64 0] : Array Value)[j]? := fun j => cell_of_row u2 g j _ 105 (0, 0) Y2.out
  have kf : ∀ j, u2.frozen? ⟨g, j, none⟩ = false := fun j => frozen_of_row u2 g j _ 105 Y2.out
  go_wp2_with (first | (go_at_call 101; refine (l2Bits_is _ _ _ (by decide) _).mono ?_; rintro e u3 ⟨rfl, mm, rfl⟩) | (go_at_call 102; refine (l2Wide_is _ _ (by decide) (by omega) _).mono ?_; rintro e u3 ⟨rfl, rfl⟩) | (refine wpList_load_row rfl 105 _ rfl g ?hx 105 #[.int .i64 (k : Int), .int .i64 (Pl.bt n 11 7), .int .i64 (Pl.bt n 19 15), .int .i64 (0), .int .i64 (Pl.bt n 24 20)] (0, 0) _ ?hg Try.underlying105 ?hd ?hi ?_; (case hx => rfl); (case hg => exact row_put5 (row_put5 (row_put5 (Y2.out) _ _ rfl) _ _ rfl) _ _ rfl); (case hd => rfl); (case hi => kernel_rfl)) | (refine wpList_store_row rfl 105 _ _ rfl (w.heap.size) #[.int .i64 (k : Int), .int .i64 (Pl.bt n 11 7), .int .i64 (Pl.bt n 19 15), .int .i64 (0), .int .i64 (Pl.bt n 24 20)] ?hx ?hy 105 #[.int .i64 0, .int .i64 0, .int .i64 0, .int .i64 0, .int .i64 0] ?hg ?hi ?ho ?h1 ?_; (case hx => rfl); (case hy => rfl); (case hg => exact keep_other (keep_other (keep_other (X2.out) (Nat.ne_of_lt Z2)) (Nat.ne_of_lt Z2)) (Nat.ne_of_lt Z2)); (case hi => kernel_rfl); (case ho => kernel_rfl); (case h1 => kernel_rfl); refine Hid.out ?_))
  unfold Hid
  go_wp2_with fail
  refine bodyPost_ret (v := .agg #[.int .i64 (k : Int), .int .i64 (Pl.bt n 11 7), .int .i64 (Pl.bt n 19 15), .int .i64 (0), .int .i64 (Pl.bt n 24 20)]) ?_ rfl ⟨rfl, ?_⟩
  · refine results_cell_row Try.results95 _ _ (w.heap.size) 105 #[.int .i64 (k : Int), .int .i64 (Pl.bt n 11 7), .int .i64 (Pl.bt n 19 15), .int .i64 (0), .int .i64 (Pl.bt n 24 20)] (0, 0) _ ?hp ?hg Try.underlying105 ?hd ?hi
    case hp => rfl
    case hg => exact setRow_heap _ _ _ _ _ _ (keep_other (keep_other (keep_other (X2.out) (Nat.ne_of_lt Z2)) (Nat.ne_of_lt Z2)) (Nat.ne_of_lt Z2))
    case hd => rfl
    case hi => kernel_rfl
  · refine below_setRow5 ?_ (Nat.le_refl _) _
    repeat (first | exact B2.out | refine below_drewN ?_ _ | refine Below.setCell ?_ (Nat.le_of_lt Z2) _)
set_option maxHeartbeats 2000000 in
theorem l2Read_4 (k : Nat) (h1 : 1 ≤ k) (h2 : k ≤ 47) (HF : Hid (Pl.fmN k = 4)) (n : Int) (w : World) :
    Calls Try.prog 95 #[.int .i64 (k : Int), .int .i64 n] w fun e w' => e = .returned (.agg #[.int .i64 (k : Int), .int .i64 (0), .int .i64 (Pl.bt n 19 15), .int .i64 (Pl.bt n 24 20), .int .i64 (Pl.wde (Pl.bt n 31 25 * 32 + Pl.bt n 11 7) 12)]) ∧ Below w.heap.size w w' := by
  have b0 : 0 ≤ Pl.bt n 31 25 ∧ Pl.bt n 31 25 ≤ 127 := Pl.bt_bd n 31 25
  have b1 : 0 ≤ Pl.bt n 11 7 ∧ Pl.bt n 11 7 ≤ 31 := Pl.bt_bd n 11 7
  go_enter Try.func95, Try.ntmps95
  go_wp2_with (first | (go_at_call 84; refine (form_any k h1 h2 _).mono ?_; rintro e w' ⟨rfl, rfl⟩; rw [HF.out]) )
  refine calls_at5 fun u0 hu0 => ?_
  have X0 : Hid (u0.heap[w.heap.size]? = some (.cells #[.int .i64 0, .int .i64 0, .int .i64 0, .int .i64 0, .int .i64 0] 105)) := by show u0.heap[w.heap.size]? = _; rw [hu0]; exact heap_alloc_new w _
  have B0 : Hid (Below w.heap.size w u0) := by show Below w.heap.size w u0; rw [hu0]; exact below_alloc w _
  have Z0 : Hid (w.heap.size < u0.heap.size) := by show w.heap.size < u0.heap.size; rw [hu0]; simp
  clear hu0
  refine (parts_b 4 (by decide) (by decide) u0).mono ?_
  rintro e u1 ⟨rfl, d1⟩
  have X1 : Hid (u1.heap[w.heap.size]? = some (.cells #[.int .i64 0, .int .i64 0, .int .i64 0, .int .i64 0, .int .i64 0] 105)) := (d1.block _ Z0.out).trans X0.out
  have B1 : Hid (Below w.heap.size w u1) := B0.out.trans (d1.mono (Nat.le_of_lt Z0.out))
  have Z1 : Hid (w.heap.size < u1.heap.size) := Nat.lt_of_lt_of_le Z0.out d1.size
  clear d1 X0 B0 Z0
  rw [show Pl.pts 4 = 14 from rfl]
  go_wp2_with (refine wpList_store_row rfl 105 _ _ rfl (u1.heap.size) #[.int .i64 (k : Int), .int .i64 0, .int .i64 0, .int .i64 0, .int .i64 0] ?hx ?hy 105 #[.int .i64 0, .int .i64 0, .int .i64 0, .int .i64 0, .int .i64 0] ?hg ?hi ?ho ?h1 ?_; (case hx => rfl); (case hy => rfl); (case hg => exact heap_alloc_new u1 _); (case hi => kernel_rfl); (case ho => kernel_rfl); (case h1 => kernel_rfl); refine Hid.out ?_)
  unfold Hid
  rw [World.setRow_alloc_new]
  refine wpList_at fun u2 hu2 => ?_
  have d2 : Below u1.heap.size u1 u2 := by rw [hu2]; exact below_alloc u1 _
  have Y2 : Hid (u2.heap[u1.heap.size]? = some (.cells #[.int .i64 (k : Int), .int .i64 0, .int .i64 0, .int .i64 0, .int .i64 0] 105)) := by show u2.heap[u1.heap.size]? = _; rw [hu2]; exact heap_alloc_new u1 _
  have X2 : Hid (u2.heap[w.heap.size]? = some (.cells #[.int .i64 0, .int .i64 0, .int .i64 0, .int .i64 0, .int .i64 0] 105)) := (d2.block _ Z1.out).trans X1.out
  have B2 : Hid (Below w.heap.size w u2) := B1.out.trans (d2.mono (Nat.le_of_lt Z1.out))
  clear d2 hu2 X1 B1
  obtain ⟨g, hg⟩ : ∃ g, g = u1.heap.size := ⟨_, rfl⟩
  rw [← hg] at Z1 Y2 ⊢
  have Z2 : w.heap.size < g := Z1.out
  clear hg Z1
  have ky : ∀ j, u2.cell? ⟨g, j, none⟩ = (#[.int .i64 (k : Int), .int .i64 0, .int .i64 0, .int .i64 0, .int .i64 0] : Array Value)[j]? := fun j => cell_of_row u2 g j _ 105 (0, 0) Y2.out
  have kf : ∀ j, u2.frozen? ⟨g, j, none⟩ = false := fun j => frozen_of_row u2 g j _ 105 Y2.out
  go_wp2_with (first | (go_at_call 101; refine (l2Bits_is _ _ _ (by decide) _).mono ?_; rintro e u3 ⟨rfl, mm, rfl⟩) | (go_at_call 102; refine (l2Wide_is _ _ (by decide) (by omega) _).mono ?_; rintro e u3 ⟨rfl, rfl⟩) | (refine wpList_load_row rfl 105 _ rfl g ?hx 105 #[.int .i64 (k : Int), .int .i64 (0), .int .i64 (Pl.bt n 19 15), .int .i64 (Pl.bt n 24 20), .int .i64 (Pl.wde (Pl.bt n 31 25 * 32 + Pl.bt n 11 7) 12)] (0, 0) _ ?hg Try.underlying105 ?hd ?hi ?_; (case hx => rfl); (case hg => exact row_put5 (row_put5 (row_put5 (Y2.out) _ _ rfl) _ _ rfl) _ _ rfl); (case hd => rfl); (case hi => kernel_rfl)) | (refine wpList_store_row rfl 105 _ _ rfl (w.heap.size) #[.int .i64 (k : Int), .int .i64 (0), .int .i64 (Pl.bt n 19 15), .int .i64 (Pl.bt n 24 20), .int .i64 (Pl.wde (Pl.bt n 31 25 * 32 + Pl.bt n 11 7) 12)] ?hx ?hy 105 #[.int .i64 0, .int .i64 0, .int .i64 0, .int .i64 0, .int .i64 0] ?hg ?hi ?ho ?h1 ?_; (case hx => rfl); (case hy => rfl); (case hg => exact keep_other (keep_other (keep_other (X2.out) (Nat.ne_of_lt Z2)) (Nat.ne_of_lt Z2)) (Nat.ne_of_lt Z2)); (case hi => kernel_rfl); (case ho => kernel_rfl); (case h1 => kernel_rfl); refine Hid.out ?_))
  unfold Hid
  go_wp2_with fail
  refine bodyPost_ret (v := .agg #[.int .i64 (k : Int), .int .i64 (0), .int .i64 (Pl.bt n 19 15), .int .i64 (Pl.bt n 24 20), .int .i64 (Pl.wde (Pl.bt n 31 25 * 32 + Pl.bt n 11 7) 12)]) ?_ rfl ⟨rfl, ?_⟩
  · refine results_cell_row Try.results95 _ _ (w.heap.size) 105 #[.int .i64 (k : Int), .int .i64 (0), .int .i64 (Pl.bt n 19 15), .int .i64 (Pl.bt n 24 20), .int .i64 (Pl.wde (Pl.bt n 31 25 * 32 + Pl.bt n 11 7) 12)] (0, 0) _ ?hp ?hg Try.underlying105 ?hd ?hi
    case hp => rfl
    case hg => exact setRow_heap _ _ _ _ _ _ (keep_other (keep_other (keep_other (X2.out) (Nat.ne_of_lt Z2)) (Nat.ne_of_lt Z2)) (Nat.ne_of_lt Z2))
    case hd => rfl
    case hi => kernel_rfl
  · refine below_setRow5 ?_ (Nat.le_refl _) _
    repeat (first | exact B2.out | refine below_drewN ?_ _ | refine Below.setCell ?_ (Nat.le_of_lt Z2) _)
set_option maxHeartbeats 2000000 in
theorem l2Read_5 (k : Nat) (h1 : 1 ≤ k) (h2 : k ≤ 47) (HF : Hid (Pl.fmN k = 5)) (n : Int) (w : World) :
    Calls Try.prog 95 #[.int .i64 (k : Int), .int .i64 n] w fun e w' => e = .returned (.agg #[.int .i64 (k : Int), .int .i64 (0), .int .i64 (Pl.bt n 19 15), .int .i64 (Pl.bt n 24 20), .int .i64 (Pl.wde (Pl.bt n 31 31 * 4096 + Pl.bt n 7 7 * 2048 + Pl.bt n 30 25 * 32 + Pl.bt n 11 8 * 2) 13)]) ∧ Below w.heap.size w w' := by
  have b0 : 0 ≤ Pl.bt n 31 31 ∧ Pl.bt n 31 31 ≤ 1 := Pl.bt_bd n 31 31
  have b1 : 0 ≤ Pl.bt n 7 7 ∧ Pl.bt n 7 7 ≤ 1 := Pl.bt_bd n 7 7
  have b2 : 0 ≤ Pl.bt n 30 25 ∧ Pl.bt n 30 25 ≤ 63 := Pl.bt_bd n 30 25
  have b3 : 0 ≤ Pl.bt n 11 8 ∧ Pl.bt n 11 8 ≤ 15 := Pl.bt_bd n 11 8
  go_enter Try.func95, Try.ntmps95
  go_wp2_with (first | (go_at_call 84; refine (form_any k h1 h2 _).mono ?_; rintro e w' ⟨rfl, rfl⟩; rw [HF.out]) )
  refine calls_at5 fun u0 hu0 => ?_
  have X0 : Hid (u0.heap[w.heap.size]? = some (.cells #[.int .i64 0, .int .i64 0, .int .i64 0, .int .i64 0, .int .i64 0] 105)) := by show u0.heap[w.heap.size]? = _; rw [hu0]; exact heap_alloc_new w _
  have B0 : Hid (Below w.heap.size w u0) := by show Below w.heap.size w u0; rw [hu0]; exact below_alloc w _
  have Z0 : Hid (w.heap.size < u0.heap.size) := by show w.heap.size < u0.heap.size; rw [hu0]; simp
  clear hu0
  refine (parts_b 5 (by decide) (by decide) u0).mono ?_
  rintro e u1 ⟨rfl, d1⟩
  have X1 : Hid (u1.heap[w.heap.size]? = some (.cells #[.int .i64 0, .int .i64 0, .int .i64 0, .int .i64 0, .int .i64 0] 105)) := (d1.block _ Z0.out).trans X0.out
  have B1 : Hid (Below w.heap.size w u1) := B0.out.trans (d1.mono (Nat.le_of_lt Z0.out))
  have Z1 : Hid (w.heap.size < u1.heap.size) := Nat.lt_of_lt_of_le Z0.out d1.size
  clear d1 X0 B0 Z0
  rw [show Pl.pts 5 = 14 from rfl]
  go_wp2_with (refine wpList_store_row rfl 105 _ _ rfl (u1.heap.size) #[.int .i64 (k : Int), .int .i64 0, .int .i64 0, .int .i64 0, .int .i64 0] ?hx ?hy 105 #[.int .i64 0, .int .i64 0, .int .i64 0, .int .i64 0, .int .i64 0] ?hg ?hi ?ho ?h1 ?_; (case hx => rfl); (case hy => rfl); (case hg => exact heap_alloc_new u1 _); (case hi => kernel_rfl); (case ho => kernel_rfl); (case h1 => kernel_rfl); refine Hid.out ?_)
  unfold Hid
  rw [World.setRow_alloc_new]
  refine wpList_at fun u2 hu2 => ?_
  have d2 : Below u1.heap.size u1 u2 := by rw [hu2]; exact below_alloc u1 _
  have Y2 : Hid (u2.heap[u1.heap.size]? = some (.cells #[.int .i64 (k : Int), .int .i64 0, .int .i64 0, .int .i64 0, .int .i64 0] 105)) := by show u2.heap[u1.heap.size]? = _; rw [hu2]; exact heap_alloc_new u1 _
  have X2 : Hid (u2.heap[w.heap.size]? = some (.cells #[.int .i64 0, .int .i64 0, .int .i64 0, .int .i64 0, .int .i64 0] 105)) := (d2.block _ Z1.out).trans X1.out
  have B2 : Hid (Below w.heap.size w u2) := B1.out.trans (d2.mono (Nat.le_of_lt Z1.out))
  clear d2 hu2 X1 B1
  obtain ⟨g, hg⟩ : ∃ g, g = u1.heap.size := ⟨_, rfl⟩
  rw [← hg] at Z1 Y2 ⊢
  have Z2 : w.heap.size < g := Z1.out
  clear hg Z1
  have ky : ∀ j, u2.cell? ⟨g, j, none⟩ = (#[.int .i64 (k : Int), .int .i64 0, .int .i64 0, .int .i64 0, .int .i64 0] : Array Value)[j]? := fun j => cell_of_row u2 g j _ 105 (0, 0) Y2.out
  have kf : ∀ j, u2.frozen? ⟨g, j, none⟩ = false := fun j => frozen_of_row u2 g j _ 105 Y2.out
  go_wp2_with (first | (go_at_call 101; refine (l2Bits_is _ _ _ (by decide) _).mono ?_; rintro e u3 ⟨rfl, mm, rfl⟩) | (go_at_call 102; refine (l2Wide_is _ _ (by decide) (by omega) _).mono ?_; rintro e u3 ⟨rfl, rfl⟩) | (refine wpList_load_row rfl 105 _ rfl g ?hx 105 #[.int .i64 (k : Int), .int .i64 (0), .int .i64 (Pl.bt n 19 15), .int .i64 (Pl.bt n 24 20), .int .i64 (Pl.wde (Pl.bt n 31 31 * 4096 + Pl.bt n 7 7 * 2048 + Pl.bt n 30 25 * 32 + Pl.bt n 11 8 * 2) 13)] (0, 0) _ ?hg Try.underlying105 ?hd ?hi ?_; (case hx => rfl); (case hg => exact row_put5 (row_put5 (row_put5 (Y2.out) _ _ rfl) _ _ rfl) _ _ rfl); (case hd => rfl); (case hi => kernel_rfl)) | (refine wpList_store_row rfl 105 _ _ rfl (w.heap.size) #[.int .i64 (k : Int), .int .i64 (0), .int .i64 (Pl.bt n 19 15), .int .i64 (Pl.bt n 24 20), .int .i64 (Pl.wde (Pl.bt n 31 31 * 4096 + Pl.bt n 7 7 * 2048 + Pl.bt n 30 25 * 32 + Pl.bt n 11 8 * 2) 13)] ?hx ?hy 105 #[.int .i64 0, .int .i64 0, .int .i64 0, .int .i64 0, .int .i64 0] ?hg ?hi ?ho ?h1 ?_; (case hx => rfl); (case hy => rfl); (case hg => exact keep_other (keep_other (keep_other (X2.out) (Nat.ne_of_lt Z2)) (Nat.ne_of_lt Z2)) (Nat.ne_of_lt Z2)); (case hi => kernel_rfl); (case ho => kernel_rfl); (case h1 => kernel_rfl); refine Hid.out ?_))
  unfold Hid
  go_wp2_with fail
  refine bodyPost_ret (v := .agg #[.int .i64 (k : Int), .int .i64 (0), .int .i64 (Pl.bt n 19 15), .int .i64 (Pl.bt n 24 20), .int .i64 (Pl.wde (Pl.bt n 31 31 * 4096 + Pl.bt n 7 7 * 2048 + Pl.bt n 30 25 * 32 + Pl.bt n 11 8 * 2) 13)]) ?_ rfl ⟨rfl, ?_⟩
  · refine results_cell_row Try.results95 _ _ (w.heap.size) 105 #[.int .i64 (k : Int), .int .i64 (0), .int .i64 (Pl.bt n 19 15), .int .i64 (Pl.bt n 24 20), .int .i64 (Pl.wde (Pl.bt n 31 31 * 4096 + Pl.bt n 7 7 * 2048 + Pl.bt n 30 25 * 32 + Pl.bt n 11 8 * 2) 13)] (0, 0) _ ?hp ?hg Try.underlying105 ?hd ?hi
    case hp => rfl
    case hg => exact setRow_heap _ _ _ _ _ _ (keep_other (keep_other (keep_other (X2.out) (Nat.ne_of_lt Z2)) (Nat.ne_of_lt Z2)) (Nat.ne_of_lt Z2))
    case hd => rfl
    case hi => kernel_rfl
  · refine below_setRow5 ?_ (Nat.le_refl _) _
    repeat (first | exact B2.out | refine below_drewN ?_ _ | refine Below.setCell ?_ (Nat.le_of_lt Z2) _)
set_option maxHeartbeats 2000000 in
theorem l2Read_6 (k : Nat) (h1 : 1 ≤ k) (h2 : k ≤ 47) (HF : Hid (Pl.fmN k = 6)) (n : Int) (w : World) :
    Calls Try.prog 95 #[.int .i64 (k : Int), .int .i64 n] w fun e w' => e = .returned (.agg #[.int .i64 (k : Int), .int .i64 (Pl.bt n 11 7), .int .i64 (0), .int .i64 (0), .int .i64 (Pl.bt n 31 12)]) ∧ Below w.heap.size w w' := by
  have b0 : 0 ≤ Pl.bt n 31 12 ∧ Pl.bt n 31 12 ≤ 1048575 := Pl.bt_bd n 31 12
  go_enter Try.func95, Try.ntmps95
  go_wp2_with (first | (go_at_call 84; refine (form_any k h1 h2 _).mono ?_; rintro e w' ⟨rfl, rfl⟩; rw [HF.out]) )
  refine calls_at5 fun u0 hu0 => ?_
  have X0 : Hid (u0.heap[w.heap.size]? = some (.cells #[.int .i64 0, .int .i64 0, .int .i64 0, .int .i64 0, .int .i64 0] 105)) := by show u0.heap[w.heap.size]? = _; rw [hu0]; exact heap_alloc_new w _
  have B0 : Hid (Below w.heap.size w u0) := by show Below w.heap.size w u0; rw [hu0]; exact below_alloc w _
  have Z0 : Hid (w.heap.size < u0.heap.size) := by show w.heap.size < u0.heap.size; rw [hu0]; simp
  clear hu0
  refine (parts_b 6 (by decide) (by decide) u0).mono ?_
  rintro e u1 ⟨rfl, d1⟩
  have X1 : Hid (u1.heap[w.heap.size]? = some (.cells #[.int .i64 0, .int .i64 0, .int .i64 0, .int .i64 0, .int .i64 0] 105)) := (d1.block _ Z0.out).trans X0.out
  have B1 : Hid (Below w.heap.size w u1) := B0.out.trans (d1.mono (Nat.le_of_lt Z0.out))
  have Z1 : Hid (w.heap.size < u1.heap.size) := Nat.lt_of_lt_of_le Z0.out d1.size
  clear d1 X0 B0 Z0
  rw [show Pl.pts 6 = 9 from rfl]
  go_wp2_with (refine wpList_store_row rfl 105 _ _ rfl (u1.heap.size) #[.int .i64 (k : Int), .int .i64 0, .int .i64 0, .int .i64 0, .int .i64 0] ?hx ?hy 105 #[.int .i64 0, .int .i64 0, .int .i64 0, .int .i64 0, .int .i64 0] ?hg ?hi ?ho ?h1 ?_; (case hx => rfl); (case hy => rfl); (case hg => exact heap_alloc_new u1 _); (case hi => kernel_rfl); (case ho => kernel_rfl); (case h1 => kernel_rfl); refine Hid.out ?_)
  unfold Hid
  rw [World.setRow_alloc_new]
  refine wpList_at fun u2 hu2 => ?_
  have d2 : Below u1.heap.size u1 u2 := by rw [hu2]; exact below_alloc u1 _
  have Y2 : Hid (u2.heap[u1.heap.size]? = some (.cells #[.int .i64 (k : Int), .int .i64 0, .int .i64 0, .int .i64 0, .int .i64 0] 105)) := by show u2.heap[u1.heap.size]? = _; rw [hu2]; exact heap_alloc_new u1 _
  have X2 : Hid (u2.heap[w.heap.size]? = some (.cells #[.int .i64 0, .int .i64 0, .int .i64 0, .int .i64 0, .int .i64 0] 105)) := (d2.block _ Z1.out).trans X1.out
  have B2 : Hid (Below w.heap.size w u2) := B1.out.trans (d2.mono (Nat.le_of_lt Z1.out))
  clear d2 hu2 X1 B1
  obtain ⟨g, hg⟩ : ∃ g, g = u1.heap.size := ⟨_, rfl⟩
  rw [← hg] at Z1 Y2 ⊢
  have Z2 : w.heap.size < g := Z1.out
  clear hg Z1
  have ky : ∀ j, u2.cell? ⟨g, j, none⟩ = (#[.int .i64 (k : Int), .int .i64 0, .int .i64 0, .int .i64 0, .int .i64 0] : Array Value)[j]? := fun j => cell_of_row u2 g j _ 105 (0, 0) Y2.out
  have kf : ∀ j, u2.frozen? ⟨g, j, none⟩ = false := fun j => frozen_of_row u2 g j _ 105 Y2.out
  go_wp2_with (first | (go_at_call 101; refine (l2Bits_is _ _ _ (by decide) _).mono ?_; rintro e u3 ⟨rfl, mm, rfl⟩) | (go_at_call 102; refine (l2Wide_is _ _ (by decide) (by omega) _).mono ?_; rintro e u3 ⟨rfl, rfl⟩) | (refine wpList_load_row rfl 105 _ rfl g ?hx 105 #[.int .i64 (k : Int), .int .i64 (Pl.bt n 11 7), .int .i64 (0), .int .i64 (0), .int .i64 (Pl.bt n 31 12)] (0, 0) _ ?hg Try.underlying105 ?hd ?hi ?_; (case hx => rfl); (case hg => exact row_put5 (row_put5 (Y2.out) _ _ rfl) _ _ rfl); (case hd => rfl); (case hi => kernel_rfl)) | (refine wpList_store_row rfl 105 _ _ rfl (w.heap.size) #[.int .i64 (k : Int), .int .i64 (Pl.bt n 11 7), .int .i64 (0), .int .i64 (0), .int .i64 (Pl.bt n 31 12)] ?hx ?hy 105 #[.int .i64 0, .int .i64 0, .int .i64 0, .int .i64 0, .int .i64 0] ?hg ?hi ?ho ?h1 ?_; (case hx => rfl); (case hy => rfl); (case hg => exact keep_other (keep_other (X2.out) (Nat.ne_of_lt Z2)) (Nat.ne_of_lt Z2)); (case hi => kernel_rfl); (case ho => kernel_rfl); (case h1 => kernel_rfl); refine Hid.out ?_))
  unfold Hid
  go_wp2_with fail
  refine bodyPost_ret (v := .agg #[.int .i64 (k : Int), .int .i64 (Pl.bt n 11 7), .int .i64 (0), .int .i64 (0), .int .i64 (Pl.bt n 31 12)]) ?_ rfl ⟨rfl, ?_⟩
  · refine results_cell_row Try.results95 _ _ (w.heap.size) 105 #[.int .i64 (k : Int), .int .i64 (Pl.bt n 11 7), .int .i64 (0), .int .i64 (0), .int .i64 (Pl.bt n 31 12)] (0, 0) _ ?hp ?hg Try.underlying105 ?hd ?hi
    case hp => rfl
    case hg => exact setRow_heap _ _ _ _ _ _ (keep_other (keep_other (X2.out) (Nat.ne_of_lt Z2)) (Nat.ne_of_lt Z2))
    case hd => rfl
    case hi => kernel_rfl
  · refine below_setRow5 ?_ (Nat.le_refl _) _
    repeat (first | exact B2.out | refine below_drewN ?_ _ | refine Below.setCell ?_ (Nat.le_of_lt Z2) _)
set_option maxHeartbeats 2000000 in
theorem l2Read_7 (k : Nat) (h1 : 1 ≤ k) (h2 : k ≤ 47) (HF : Hid (Pl.fmN k = 7)) (n : Int) (w : World) :
    Calls Try.prog 95 #[.int .i64 (k : Int), .int .i64 n] w fun e w' => e = .returned (.agg #[.int .i64 (k : Int), .int .i64 (Pl.bt n 11 7), .int .i64 (0), .int .i64 (0), .int .i64 (Pl.wde (Pl.bt n 31 31 * 1048576 + Pl.bt n 19 12 * 4096 + Pl.bt n 20 20 * 2048 + Pl.bt n 30 21 * 2) 21)]) ∧ Below w.heap.size w w' := by
  have b0 : 0 ≤ Pl.bt n 31 31 ∧ Pl.bt n 31 31 ≤ 1 := Pl.bt_bd n 31 31
  have b1 : 0 ≤ Pl.bt n 19 12 ∧ Pl.bt n 19 12 ≤ 255 := Pl.bt_bd n 19 12
  have b2 : 0 ≤ Pl.bt n 20 20 ∧ Pl.bt n 20 20 ≤ 1 := Pl.bt_bd n 20 20
  have b3 : 0 ≤ Pl.bt n 30 21 ∧ Pl.bt n 30 21 ≤ 1023 := Pl.bt_bd n 30 21
  go_enter Try.func95, Try.ntmps95
  go_wp2_with (first | (go_at_call 84; refine (form_any k h1 h2 _).mono ?_; rintro e w' ⟨rfl, rfl⟩; rw [HF.out]) )
  refine calls_at5 fun u0 hu0 => ?_
  have X0 : Hid (u0.heap[w.heap.size]? = some (.cells #[.int .i64 0, .int .i64 0, .int .i64 0, .int .i64 0, .int .i64 0] 105)) := by show u0.heap[w.heap.size]? = _; rw [hu0]; exact heap_alloc_new w _
  have B0 : Hid (Below w.heap.size w u0) := by show Below w.heap.size w u0; rw [hu0]; exact below_alloc w _
  have Z0 : Hid (w.heap.size < u0.heap.size) := by show w.heap.size < u0.heap.size; rw [hu0]; simp
  clear hu0
  refine (parts_b 7 (by decide) (by decide) u0).mono ?_
  rintro e u1 ⟨rfl, d1⟩
  have X1 : Hid (u1.heap[w.heap.size]? = some (.cells #[.int .i64 0, .int .i64 0, .int .i64 0, .int .i64 0, .int .i64 0] 105)) := (d1.block _ Z0.out).trans X0.out
  have B1 : Hid (Below w.heap.size w u1) := B0.out.trans (d1.mono (Nat.le_of_lt Z0.out))
  have Z1 : Hid (w.heap.size < u1.heap.size) := Nat.lt_of_lt_of_le Z0.out d1.size
  clear d1 X0 B0 Z0
  rw [show Pl.pts 7 = 9 from rfl]
  go_wp2_with (refine wpList_store_row rfl 105 _ _ rfl (u1.heap.size) #[.int .i64 (k : Int), .int .i64 0, .int .i64 0, .int .i64 0, .int .i64 0] ?hx ?hy 105 #[.int .i64 0, .int .i64 0, .int .i64 0, .int .i64 0, .int .i64 0] ?hg ?hi ?ho ?h1 ?_; (case hx => rfl); (case hy => rfl); (case hg => exact heap_alloc_new u1 _); (case hi => kernel_rfl); (case ho => kernel_rfl); (case h1 => kernel_rfl); refine Hid.out ?_)
  unfold Hid
  rw [World.setRow_alloc_new]
  refine wpList_at fun u2 hu2 => ?_
  have d2 : Below u1.heap.size u1 u2 := by rw [hu2]; exact below_alloc u1 _
  have Y2 : Hid (u2.heap[u1.heap.size]? = some (.cells #[.int .i64 (k : Int), .int .i64 0, .int .i64 0, .int .i64 0, .int .i64 0] 105)) := by show u2.heap[u1.heap.size]? = _; rw [hu2]; exact heap_alloc_new u1 _
  have X2 : Hid (u2.heap[w.heap.size]? = some (.cells #[.int .i64 0, .int .i64 0, .int .i64 0, .int .i64 0, .int .i64 0] 105)) := (d2.block _ Z1.out).trans X1.out
  have B2 : Hid (Below w.heap.size w u2) := B1.out.trans (d2.mono (Nat.le_of_lt Z1.out))
  clear d2 hu2 X1 B1
  obtain ⟨g, hg⟩ : ∃ g, g = u1.heap.size := ⟨_, rfl⟩
  rw [← hg] at Z1 Y2 ⊢
  have Z2 : w.heap.size < g := Z1.out
  clear hg Z1
  have ky : ∀ j, u2.cell? ⟨g, j, none⟩ = (#[.int .i64 (k : Int), .int .i64 0, .int .i64 0, .int .i64 0, .int .i64 0] : Array Value)[j]? := fun j => cell_of_row u2 g j _ 105 (0, 0) Y2.out
  have kf : ∀ j, u2.frozen? ⟨g, j, none⟩ = false := fun j => frozen_of_row u2 g j _ 105 Y2.out
  go_wp2_with (first | (go_at_call 101; refine (l2Bits_is _ _ _ (by decide) _).mono ?_; rintro e u3 ⟨rfl, mm, rfl⟩) | (go_at_call 102; refine (l2Wide_is _ _ (by decide) (by omega) _).mono ?_; rintro e u3 ⟨rfl, rfl⟩) | (refine wpList_load_row rfl 105 _ rfl g ?hx 105 #[.int .i64 (k : Int), .int .i64 (Pl.bt n 11 7), .int .i64 (0), .int .i64 (0), .int .i64 (Pl.wde (Pl.bt n 31 31 * 1048576 + Pl.bt n 19 12 * 4096 + Pl.bt n 20 20 * 2048 + Pl.bt n 30 21 * 2) 21)] (0, 0) _ ?hg Try.underlying105 ?hd ?hi ?_; (case hx => rfl); (case hg => exact row_put5 (row_put5 (Y2.out) _ _ rfl) _ _ rfl); (case hd => rfl); (case hi => kernel_rfl)) | (refine wpList_store_row rfl 105 _ _ rfl (w.heap.size) #[.int .i64 (k : Int), .int .i64 (Pl.bt n 11 7), .int .i64 (0), .int .i64 (0), .int .i64 (Pl.wde (Pl.bt n 31 31 * 1048576 + Pl.bt n 19 12 * 4096 + Pl.bt n 20 20 * 2048 + Pl.bt n 30 21 * 2) 21)] ?hx ?hy 105 #[.int .i64 0, .int .i64 0, .int .i64 0, .int .i64 0, .int .i64 0] ?hg ?hi ?ho ?h1 ?_; (case hx => rfl); (case hy => rfl); (case hg => exact keep_other (keep_other (X2.out) (Nat.ne_of_lt Z2)) (Nat.ne_of_lt Z2)); (case hi => kernel_rfl); (case ho => kernel_rfl); (case h1 => kernel_rfl); refine Hid.out ?_))
  unfold Hid
  go_wp2_with fail
  refine bodyPost_ret (v := .agg #[.int .i64 (k : Int), .int .i64 (Pl.bt n 11 7), .int .i64 (0), .int .i64 (0), .int .i64 (Pl.wde (Pl.bt n 31 31 * 1048576 + Pl.bt n 19 12 * 4096 + Pl.bt n 20 20 * 2048 + Pl.bt n 30 21 * 2) 21)]) ?_ rfl ⟨rfl, ?_⟩
  · refine results_cell_row Try.results95 _ _ (w.heap.size) 105 #[.int .i64 (k : Int), .int .i64 (Pl.bt n 11 7), .int .i64 (0), .int .i64 (0), .int .i64 (Pl.wde (Pl.bt n 31 31 * 1048576 + Pl.bt n 19 12 * 4096 + Pl.bt n 20 20 * 2048 + Pl.bt n 30 21 * 2) 21)] (0, 0) _ ?hp ?hg Try.underlying105 ?hd ?hi
    case hp => rfl
    case hg => exact setRow_heap _ _ _ _ _ _ (keep_other (keep_other (X2.out) (Nat.ne_of_lt Z2)) (Nat.ne_of_lt Z2))
    case hd => rfl
    case hi => kernel_rfl
  · refine below_setRow5 ?_ (Nat.le_refl _) _
    repeat (first | exact B2.out | refine below_drewN ?_ _ | refine Below.setCell ?_ (Nat.le_of_lt Z2) _)
set_option maxHeartbeats 2000000 in
theorem l2Read_8 (k : Nat) (h1 : 1 ≤ k) (h2 : k ≤ 47) (HF : Hid (Pl.fmN k = 8)) (n : Int) (w : World) :
    Calls Try.prog 95 #[.int .i64 (k : Int), .int .i64 n] w fun e w' => e = .returned (.agg #[.int .i64 (k : Int), .int .i64 (0), .int .i64 (0), .int .i64 (0), .int .i64 (0)]) ∧ Below w.heap.size w w' := by
  go_enter Try.func95, Try.ntmps95
  go_wp2_with (first | (go_at_call 84; refine (form_any k h1 h2 _).mono ?_; rintro e w' ⟨rfl, rfl⟩; rw [HF.out]) )
  refine calls_at5 fun u0 hu0 => ?_
  have X0 : Hid (u0.heap[w.heap.size]? = some (.cells #[.int .i64 0, .int .i64 0, .int .i64 0, .int .i64 0, .int .i64 0] 105)) := by show u0.heap[w.heap.size]? = _; rw [hu0]; exact heap_alloc_new w _
  have B0 : Hid (Below w.heap.size w u0) := by show Below w.heap.size w u0; rw [hu0]; exact below_alloc w _
  have Z0 : Hid (w.heap.size < u0.heap.size) := by show w.heap.size < u0.heap.size; rw [hu0]; simp
  clear hu0
  refine (parts_b 8 (by decide) (by decide) u0).mono ?_
  rintro e u1 ⟨rfl, d1⟩
  have X1 : Hid (u1.heap[w.heap.size]? = some (.cells #[.int .i64 0, .int .i64 0, .int .i64 0, .int .i64 0, .int .i64 0] 105)) := (d1.block _ Z0.out).trans X0.out
  have B1 : Hid (Below w.heap.size w u1) := B0.out.trans (d1.mono (Nat.le_of_lt Z0.out))
  have Z1 : Hid (w.heap.size < u1.heap.size) := Nat.lt_of_lt_of_le Z0.out d1.size
  clear d1 X0 B0 Z0
  rw [show Pl.pts 8 = 0 from rfl]
  go_wp2_with (refine wpList_store_row rfl 105 _ _ rfl (u1.heap.size) #[.int .i64 (k : Int), .int .i64 0, .int .i64 0, .int .i64 0, .int .i64 0] ?hx ?hy 105 #[.int .i64 0, .int .i64 0, .int .i64 0, .int .i64 0, .int .i64 0] ?hg ?hi ?ho ?h1 ?_; (case hx => rfl); (case hy => rfl); (case hg => exact heap_alloc_new u1 _); (case hi => kernel_rfl); (case ho => kernel_rfl); (case h1 => kernel_rfl); refine Hid.out ?_)
  unfold Hid
  rw [World.setRow_alloc_new]
  refine wpList_at fun u2 hu2 => ?_
  have d2 : Below u1.heap.size u1 u2 := by rw [hu2]; exact below_alloc u1 _
  have Y2 : Hid (u2.heap[u1.heap.size]? = some (.cells #[.int .i64 (k : Int), .int .i64 0, .int .i64 0, .int .i64 0, .int .i64 0] 105)) := by show u2.heap[u1.heap.size]? = _; rw [hu2]; exact heap_alloc_new u1 _
  have X2 : Hid (u2.heap[w.heap.size]? = some (.cells #[.int .i64 0, .int .i64 0, .int .i64 0, .int .i64 0, .int .i64 0] 105)) := (d2.block _ Z1.out).trans X1.out
  have B2 : Hid (Below w.heap.size w u2) := B1.out.trans (d2.mono (Nat.le_of_lt Z1.out))
  clear d2 hu2 X1 B1
  obtain ⟨g, hg⟩ : ∃ g, g = u1.heap.size := ⟨_, rfl⟩
  rw [← hg] at Z1 Y2 ⊢
  have Z2 : w.heap.size < g := Z1.out
  clear hg Z1
  have ky : ∀ j, u2.cell? ⟨g, j, none⟩ = (#[.int .i64 (k : Int), .int .i64 0, .int .i64 0, .int .i64 0, .int .i64 0] : Array Value)[j]? := fun j => cell_of_row u2 g j _ 105 (0, 0) Y2.out
  have kf : ∀ j, u2.frozen? ⟨g, j, none⟩ = false := fun j => frozen_of_row u2 g j _ 105 Y2.out
  go_wp2_with (first | (go_at_call 101; refine (l2Bits_is _ _ _ (by decide) _).mono ?_; rintro e u3 ⟨rfl, mm, rfl⟩) | (go_at_call 102; refine (l2Wide_is _ _ (by decide) (by omega) _).mono ?_; rintro e u3 ⟨rfl, rfl⟩) | (refine wpList_load_row rfl 105 _ rfl g ?hx 105 #[.int .i64 (k : Int), .int .i64 (0), .int .i64 (0), .int .i64 (0), .int .i64 (0)] (0, 0) _ ?hg Try.underlying105 ?hd ?hi ?_; (case hx => rfl); (case hg => exact Y2.out); (case hd => rfl); (case hi => kernel_rfl)) | (refine wpList_store_row rfl 105 _ _ rfl (w.heap.size) #[.int .i64 (k : Int), .int .i64 (0), .int .i64 (0), .int .i64 (0), .int .i64 (0)] ?hx ?hy 105 #[.int .i64 0, .int .i64 0, .int .i64 0, .int .i64 0, .int .i64 0] ?hg ?hi ?ho ?h1 ?_; (case hx => rfl); (case hy => rfl); (case hg => exact X2.out); (case hi => kernel_rfl); (case ho => kernel_rfl); (case h1 => kernel_rfl); refine Hid.out ?_))
  unfold Hid
  go_wp2_with fail
  refine bodyPost_ret (v := .agg #[.int .i64 (k : Int), .int .i64 (0), .int .i64 (0), .int .i64 (0), .int .i64 (0)]) ?_ rfl ⟨rfl, ?_⟩
  · refine results_cell_row Try.results95 _ _ (w.heap.size) 105 #[.int .i64 (k : Int), .int .i64 (0), .int .i64 (0), .int .i64 (0), .int .i64 (0)] (0, 0) _ ?hp ?hg Try.underlying105 ?hd ?hi
    case hp => rfl
    case hg => exact setRow_heap _ _ _ _ _ _ (X2.out)
    case hd => rfl
    case hi => kernel_rfl
  · refine below_setRow5 ?_ (Nat.le_refl _) _
    repeat (first | exact B2.out | refine below_drewN ?_ _ | refine Below.setCell ?_ (Nat.le_of_lt Z2) _)
end Go.Proofs.Ytfcfnbncgadomaa.W
namespace Go.Proofs.Ytfcfnbncgadomaa.W
open Go.RowKit
theorem part_byte (xs : Array Value) (j : Nat) (v : Value) (h : xs[j]? = some v) (w : World) : (part 5 xs j).run Try.prog w = .ok v w := by
  obtain ⟨i0, hi, hz0, hz1, hz2⟩ := info_parts Try.infou8
  simp [part, sizeOf, typeInfo, hi, hz1, h]
theorem fits_eq (k : Nat) (n : Int) : (Pl.cc k 0 == Pl.rf (Pl.fmN k) n 0 && (Pl.cc k 1 == Pl.rf (Pl.fmN k) n 1 && (Pl.cc k 2 == Pl.rf (Pl.fmN k) n 2 && Pl.cc k 3 == Pl.rf (Pl.fmN k) n 3))) = Pl.fits k n := by
  unfold Pl.fits
  simp only [Bool.and_assoc]
  rfl
end Go.Proofs.Ytfcfnbncgadomaa.W
namespace Go.Proofs.Ytfcfnbncgadomaa.W
open Go.RowKit
theorem ret_dec {n : Int} {cs : Array Value} {b : Bool} (h : Pl.decV n = cs) (hb : (Pl.dec n != 0) = b) : Ending.returned (.tuple #[.agg cs, .bool b]) = Ending.returned (.tuple #[.agg (Pl.decV n), .bool (Pl.dec n != 0)]) := by rw [h, hb]
end Go.Proofs.Ytfcfnbncgadomaa.W
namespace Go.Proofs.Ytfcfnbncgadomaa.Pl
theorem wd_id {n : Int} (h : 0 ≤ n ∧ n ≤ 4294967295) : wd n = n := by
  have e : wd n = n % 4294967296 := rfl
  rw [e]; omega
theorem bt_id {n : Int} (h : 0 ≤ n ∧ n ≤ 4294967295) (x y : Int) : bt n x y = n / pw y.toNat % pw (x.toNat - y.toNat + 1) := by
  unfold bt
  rw [wd_id h]
theorem mod_pw0 (x : Int) : x % pw 0 = 0 := by
  rw [show pw 0 = 1 from by decide]; omega
theorem im_1 {n : Int} (h : 0 ≤ n ∧ n ≤ 4294967295) : gIm 1 n = 0 := by
  unfold gIm rim
  simp only [mod_pw0]
  have l1 : lo 1 = 0 := by decide
  have l2 : hi 1 = 0 := by decide
  have l3 : st 1 = 1 := by decide
  rw [l1, l2, l3]
  split <;> (try split) <;> omega
theorem im_2 {n : Int} (h : 0 ≤ n ∧ n ≤ 4294967295) : gIm 2 n = wde (bt n 31 20) 12 := by
  have a0 : bt n 31 20 = n / pw 20 % pw 12 := bt_id h 31 20
  have b0 := bt_bd n 31 20
  rw [show pw (Int.toNat 31 - Int.toNat 20 + 1) = 4096 from by decide] at b0
  unfold gIm rim
  simp only [mod_pw0, ← a0]
  unfold wde
  rw [show pw (Int.toNat 12 - 1) = 2048 from by decide, show pw (Int.toNat 12) = 4096 from by decide]
  have l1 : lo 2 = -2048 := by decide
  have l2 : hi 2 = 2047 := by decide
  have l3 : st 2 = 1 := by decide
  rw [l1, l2, l3]
  split <;> (try split) <;> omega
theorem im_3 {n : Int} (h : 0 ≤ n ∧ n ≤ 4294967295) : gIm 3 n = bt n 24 20 := by
  have a0 : bt n 24 20 = n / pw 20 % pw 5 := bt_id h 24 20
  have b0 := bt_bd n 24 20
  rw [show pw (Int.toNat 24 - Int.toNat 20 + 1) = 32 from by decide] at b0
  unfold gIm rim
  simp only [mod_pw0, ← a0]
  have l1 : lo 3 = 0 := by decide
  have l2 : hi 3 = 31 := by decide
  have l3 : st 3 = 1 := by decide
  rw [l1, l2, l3]
  split <;> (try split) <;> omega
theorem im_4 {n : Int} (h : 0 ≤ n ∧ n ≤ 4294967295) : gIm 4 n = wde (bt n 31 25 * 32 + bt n 11 7) 12 := by
  have a0 : bt n 31 25 = n / pw 25 % pw 7 := bt_id h 31 25
  have a1 : bt n 11 7 = n / pw 7 % pw 5 := bt_id h 11 7
  have b0 := bt_bd n 31 25
  rw [show pw (Int.toNat 31 - Int.toNat 25 + 1) = 128 from by decide] at b0
  have b1 := bt_bd n 11 7
  rw [show pw (Int.toNat 11 - Int.toNat 7 + 1) = 32 from by decide] at b1
  unfold gIm rim
  simp only [mod_pw0, ← a0, ← a1]
  unfold wde
  rw [show pw (Int.toNat 12 - 1) = 2048 from by decide, show pw (Int.toNat 12) = 4096 from by decide]
  have l1 : lo 4 = -2048 := by decide
  have l2 : hi 4 = 2047 := by decide
  have l3 : st 4 = 1 := by decide
  rw [l1, l2, l3]
  split <;> (try split) <;> omega
theorem im_5 {n : Int} (h : 0 ≤ n ∧ n ≤ 4294967295) : gIm 5 n = wde (bt n 31 31 * 4096 + bt n 7 7 * 2048 + bt n 30 25 * 32 + bt n 11 8 * 2) 13 := by
  have a0 : bt n 31 31 = n / pw 31 % pw 1 := bt_id h 31 31
  have a1 : bt n 7 7 = n / pw 7 % pw 1 := bt_id h 7 7
  have a2 : bt n 30 25 = n / pw 25 % pw 6 := bt_id h 30 25
  have a3 : bt n 11 8 = n / pw 8 % pw 4 := bt_id h 11 8
  have b0 := bt_bd n 31 31
  rw [show pw (Int.toNat 31 - Int.toNat 31 + 1) = 2 from by decide] at b0
  have b1 := bt_bd n 7 7
  rw [show pw (Int.toNat 7 - Int.toNat 7 + 1) = 2 from by decide] at b1
  have b2 := bt_bd n 30 25
  rw [show pw (Int.toNat 30 - Int.toNat 25 + 1) = 64 from by decide] at b2
  have b3 := bt_bd n 11 8
  rw [show pw (Int.toNat 11 - Int.toNat 8 + 1) = 16 from by decide] at b3
  unfold gIm rim
  simp only [← a0, ← a1, ← a2, ← a3]
  unfold wde
  rw [show pw (Int.toNat 13 - 1) = 4096 from by decide, show pw (Int.toNat 13) = 8192 from by decide]
  have l1 : lo 5 = -4096 := by decide
  have l2 : hi 5 = 4094 := by decide
  have l3 : st 5 = 2 := by decide
  rw [l1, l2, l3]
  split <;> (try split) <;> omega
theorem im_6 {n : Int} (h : 0 ≤ n ∧ n ≤ 4294967295) : gIm 6 n = bt n 31 12 := by
  have a0 : bt n 31 12 = n / pw 12 % pw 20 := bt_id h 31 12
  have b0 := bt_bd n 31 12
  rw [show pw (Int.toNat 31 - Int.toNat 12 + 1) = 1048576 from by decide] at b0
  unfold gIm rim
  simp only [mod_pw0, ← a0]
  have l1 : lo 6 = 0 := by decide
  have l2 : hi 6 = 1048575 := by decide
  have l3 : st 6 = 1 := by decide
  rw [l1, l2, l3]
  split <;> (try split) <;> omega
theorem im_7 {n : Int} (h : 0 ≤ n ∧ n ≤ 4294967295) : gIm 7 n = wde (bt n 31 31 * 1048576 + bt n 19 12 * 4096 + bt n 20 20 * 2048 + bt n 30 21 * 2) 21 := by
  have a0 : bt n 31 31 = n / pw 31 % pw 1 := bt_id h 31 31
  have a1 : bt n 19 12 = n / pw 12 % pw 8 := bt_id h 19 12
  have a2 : bt n 20 20 = n / pw 20 % pw 1 := bt_id h 20 20
  have a3 : bt n 30 21 = n / pw 21 % pw 10 := bt_id h 30 21
  have b0 := bt_bd n 31 31
  rw [show pw (Int.toNat 31 - Int.toNat 31 + 1) = 2 from by decide] at b0
  have b1 := bt_bd n 19 12
  rw [show pw (Int.toNat 19 - Int.toNat 12 + 1) = 256 from by decide] at b1
  have b2 := bt_bd n 20 20
  rw [show pw (Int.toNat 20 - Int.toNat 20 + 1) = 2 from by decide] at b2
  have b3 := bt_bd n 30 21
  rw [show pw (Int.toNat 30 - Int.toNat 21 + 1) = 1024 from by decide] at b3
  unfold gIm rim
  simp only [← a0, ← a1, ← a2, ← a3]
  unfold wde
  rw [show pw (Int.toNat 21 - 1) = 1048576 from by decide, show pw (Int.toNat 21) = 2097152 from by decide]
  have l1 : lo 7 = -1048576 := by decide
  have l2 : hi 7 = 1048574 := by decide
  have l3 : st 7 = 2 := by decide
  rw [l1, l2, l3]
  split <;> (try split) <;> omega
theorem im_8 {n : Int} (h : 0 ≤ n ∧ n ≤ 4294967295) : gIm 8 n = 0 := by
  unfold gIm rim
  simp only [mod_pw0]
  have l1 : lo 8 = 0 := by decide
  have l2 : hi 8 = 0 := by decide
  have l3 : st 8 = 1 := by decide
  rw [l1, l2, l3]
  split <;> (try split) <;> omega
end Go.Proofs.Ytfcfnbncgadomaa.Pl
namespace Go.Proofs.Ytfcfnbncgadomaa.W
open Go.RowKit
theorem l2Read_any (k : Nat) (h1 : 1 ≤ k) (h2 : k ≤ 47) (n : Int) (hn : 0 ≤ n ∧ n ≤ 4294967295) (w : World) :
    Calls Try.prog 95 #[.int .i64 (k : Int), .int .i64 n] w fun e w' => e = .returned (.agg #[.int .i64 (k : Int), .int .i64 (Pl.fRd (Pl.fmN k) n), .int .i64 (Pl.fR1 (Pl.fmN k) n), .int .i64 (Pl.fR2 (Pl.fmN k) n), .int .i64 (Pl.gIm (Pl.fmN k) n)]) ∧ Below w.heap.size w w' := by
  obtain ⟨f1, f2, f3⟩ := fm_at k h1 h2
  have e0 := Pl.bt_id hn 11 7
  have e1 := Pl.bt_id hn 19 15
  have e2 := Pl.bt_id hn 24 20
  rcases Pl.form_cases (Pl.fmN k) f1 f2 with q | q | q | q | q | q | q | q
  · have r0 : Pl.fRd 1 n = Pl.bt n 11 7 := e0.symm
    have r1 : Pl.fR1 1 n = Pl.bt n 19 15 := e1.symm
    have r2 : Pl.fR2 1 n = Pl.bt n 24 20 := e2.symm
    rw [q, r0, r1, r2, Pl.im_1 hn]
    exact l2Read_1 k h1 h2 q n w
  · have r0 : Pl.fRd 2 n = Pl.bt n 11 7 := e0.symm
    have r1 : Pl.fR1 2 n = Pl.bt n 19 15 := e1.symm
    have r2 : Pl.fR2 2 n = 0 := rfl
    rw [q, r0, r1, r2, Pl.im_2 hn]
    exact l2Read_2 k h1 h2 q n w
  · have r0 : Pl.fRd 3 n = Pl.bt n 11 7 := e0.symm
    have r1 : Pl.fR1 3 n = Pl.bt n 19 15 := e1.symm
    have r2 : Pl.fR2 3 n = 0 := rfl
    rw [q, r0, r1, r2, Pl.im_3 hn]
    exact l2Read_3 k h1 h2 q n w
  · have r0 : Pl.fRd 4 n = 0 := rfl
    have r1 : Pl.fR1 4 n = Pl.bt n 19 15 := e1.symm
    have r2 : Pl.fR2 4 n = Pl.bt n 24 20 := e2.symm
    rw [q, r0, r1, r2, Pl.im_4 hn]
    exact l2Read_4 k h1 h2 q n w
  · have r0 : Pl.fRd 5 n = 0 := rfl
    have r1 : Pl.fR1 5 n = Pl.bt n 19 15 := e1.symm
    have r2 : Pl.fR2 5 n = Pl.bt n 24 20 := e2.symm
    rw [q, r0, r1, r2, Pl.im_5 hn]
    exact l2Read_5 k h1 h2 q n w
  · have r0 : Pl.fRd 6 n = Pl.bt n 11 7 := e0.symm
    have r1 : Pl.fR1 6 n = 0 := rfl
    have r2 : Pl.fR2 6 n = 0 := rfl
    rw [q, r0, r1, r2, Pl.im_6 hn]
    exact l2Read_6 k h1 h2 q n w
  · have r0 : Pl.fRd 7 n = Pl.bt n 11 7 := e0.symm
    have r1 : Pl.fR1 7 n = 0 := rfl
    have r2 : Pl.fR2 7 n = 0 := rfl
    rw [q, r0, r1, r2, Pl.im_7 hn]
    exact l2Read_7 k h1 h2 q n w
  · have r0 : Pl.fRd 8 n = 0 := rfl
    have r1 : Pl.fR1 8 n = 0 := rfl
    have r2 : Pl.fR2 8 n = 0 := rfl
    rw [q, r0, r1, r2, Pl.im_8 hn]
    exact l2Read_8 k h1 h2 q n w
theorem c_all (k : Nat) (h1 : 1 ≤ k) (h2 : k ≤ 47) (w : World) : Calls Try.prog 91 #[.int .i64 (k : Int)] w fun e w' => e = .returned (.int .i64 (Pl.cc k 0)) ∧ Below w.heap.size w w' := by
  by_cases h : k ≤ 42
  · refine (c_any k h1 h w).mono ?_
    rintro e w' ⟨rfl, rfl⟩
    exact ⟨rfl, Below.refl _ _⟩
  rcases (show k = 43 ∨ k = 44 ∨ k = 45 ∨ k = 46 ∨ k = 47 by omega) with rfl | rfl | rfl | rfl | rfl
  · exact c_43 w
  · exact c_44 w
  · exact c_45 w
  · exact c_46 w
  · exact c_47 w
set_option maxHeartbeats 4000000 in
theorem specDec_any (n : Int) (w : World) :
    Calls Try.prog 86 #[.int .i64 n] w fun e w' => e = .returned (.tuple #[.agg (Pl.decV n), .bool (Pl.dec n != 0)]) ∧ Below w.heap.size w w' := by
  by_cases hn : 0 ≤ n ∧ n ≤ 4294967295
  rotate_left
  · have HD : Hid (Pl.dec n = 0) := Pl.dec_none (fun j h1 h2 => by
      cases hh : Pl.hit j n
      · rfl
      · exact absurd (Pl.hit_fits h1 h2 hh).2 hn)
    have X0 : Hid ((w.alloc (.cells #[.int .i64 0, .int .i64 0, .int .i64 0, .int .i64 0, .int .i64 0] 105)).heap[w.heap.size]? = some (.cells #[.int .i64 0, .int .i64 0, .int .i64 0, .int .i64 0, .int .i64 0] 105)) := heap_alloc_new w _
    rcases (show n < 0 ∨ (0 ≤ n ∧ 4294967295 < n) by omega) with hlt | ⟨hge, hgt⟩
    all_goals
      clear hn
      go_enter Try.func86, Try.ntmps86
      go_wp2_with (refine wpList_store_row rfl 105 _ _ rfl (w.heap.size) #[.int .i64 0, .int .i64 0, .int .i64 0, .int .i64 0, .int .i64 0] ?hx ?hy 105 #[.int .i64 0, .int .i64 0, .int .i64 0, .int .i64 0, .int .i64 0] ?hg ?hi ?ho ?h1 ?_; (case hx => rfl); (case hy => rfl); (case hg => exact X0.out); (case hi => kernel_rfl); (case ho => kernel_rfl); (case h1 => kernel_rfl); refine Hid.out ?_)
      unfold Hid
      go_wp2_with fail
      refine bodyPost_ret (v := .tuple #[.agg #[.int .i64 0, .int .i64 0, .int .i64 0, .int .i64 0, .int .i64 0], .bool false]) ?_ rfl ⟨ret_dec (Pl.decV_none HD.out) (by rw [HD.out]; rfl), below_setRow5 (below_alloc w _) (Nat.le_refl _) _⟩
      refine results_cell_tmp Try.results86 _ _ (w.heap.size) 105 #[.int .i64 0, .int .i64 0, .int .i64 0, .int .i64 0, .int .i64 0] (0, 0) _ (.bool false) ?hp ?hq ?hg Try.underlying105 ?hd ?hi
      case hp => rfl
      case hq => rfl
      case hg => exact setRow_heap _ _ _ _ _ _ X0.out
      case hd => rfl
      case hi => kernel_rfl
  obtain ⟨n1, n2⟩ := hn
  have HN : Hid (0 ≤ n ∧ n ≤ 4294967295) := ⟨n1, n2⟩
  go_enter Try.func86, Try.ntmps86
  go_wp2_with fail
  go_loopw [4] (fun i wr => ∃ k : Nat, 1 ≤ k ∧ k ≤ 48 ∧ i = .int .i64 k ∧ (∀ j, 1 ≤ j → j < k → Pl.hit j n = false) ∧ wr.heap[w.heap.size]? = some (.cells #[.int .i64 0, .int .i64 0, .int .i64 0, .int .i64 0, .int .i64 0] 105) ∧ Below w.heap.size w wr) (fun i _ => 48 - (intOf i).toNat)
  case atStart => exact ⟨1, Nat.le_refl _, by decide, rfl, fun j h1 h2 => absurd h2 (by omega), heap_alloc_new w _, below_alloc w _⟩
  case round =>
    obtain ⟨k, h1, h2, rfl, hall, hx, hb⟩ := hrel
    have HA : Hid (∀ j, 1 ≤ j → j < k → Pl.hit j n = false) := hall
    have X0 : Hid (wr.heap[w.heap.size]? = some (.cells #[.int .i64 0, .int .i64 0, .int .i64 0, .int .i64 0, .int .i64 0] 105)) := hx
    have B0 : Hid (Below w.heap.size w wr) := hb
    have Z0 : Hid (w.heap.size < wr.heap.size) := (Array.getElem?_eq_some_iff.1 hx).1
    clear hall hx hb
    by_cases hk : k ≤ 47
    · go_wp2_with fail
      refine (c_all k h1 hk wr).mono ?_
      rintro e u1 ⟨rfl, d1⟩
      have X1 : Hid (u1.heap[w.heap.size]? = some (.cells #[.int .i64 0, .int .i64 0, .int .i64 0, .int .i64 0, .int .i64 0] 105)) := (d1.block _ Z0.out).trans X0.out
      have B1 : Hid (Below w.heap.size w u1) := B0.out.trans (d1.mono (Nat.le_of_lt Z0.out))
      have Z1 : Hid (w.heap.size < u1.heap.size) := Nat.lt_of_lt_of_le Z0.out d1.size
      clear d1 X0 B0 Z0
      obtain ⟨x, hx⟩ : ∃ x, x = Pl.cc k 0 := ⟨_, rfl⟩
      rw [← hx]
      have HX : Hid (x = Pl.cc k 0) := hx
      clear hx
      by_cases hc : x = n % 128
      rotate_left
      · have hit : Pl.hit k n = false := by
          cases hh : Pl.hit k n
          · rfl
          · have := ((Pl.fits_iff k n).1 (Pl.hit_fits h1 hk hh).1).1
            exact absurd (HX.out.trans this) hc
        have hc' : (x != n % 128) = true := by simpa using hc
        go_wp2
        go_roundw
        case rel =>
          refine ⟨k + 1, by omega, by omega, by go_num, fun j j1 j2 => ?_, X1.out, B1.out⟩
          by_cases hj : j < k
          · exact HA.out j j1 hj
          · have : j = k := by omega
            subst this; exact hit
        case measure => simp [intOf]; omega
      subst hc
      go_wp2_with fail
      refine (l2Read_any k h1 hk n HN.out u1).mono ?_
      rintro e u2 ⟨rfl, d2⟩
      have X2 : Hid (u2.heap[w.heap.size]? = some (.cells #[.int .i64 0, .int .i64 0, .int .i64 0, .int .i64 0, .int .i64 0] 105)) := (d2.block _ Z1.out).trans X1.out
      have B2 : Hid (Below w.heap.size w u2) := B1.out.trans (d2.mono (Nat.le_of_lt Z1.out))
      have Z2 : Hid (w.heap.size < u2.heap.size) := Nat.lt_of_lt_of_le Z1.out d2.size
      clear d2 X1 B1 Z1
      obtain ⟨a, ha⟩ : ∃ a, a = Pl.fRd (Pl.fmN k) n := ⟨_, rfl⟩
      obtain ⟨b, hb⟩ : ∃ a, a = Pl.fR1 (Pl.fmN k) n := ⟨_, rfl⟩
      obtain ⟨c, hc⟩ : ∃ a, a = Pl.fR2 (Pl.fmN k) n := ⟨_, rfl⟩
      obtain ⟨d, hd⟩ : ∃ a, a = Pl.gIm (Pl.fmN k) n := ⟨_, rfl⟩
      rw [← ha, ← hb, ← hc, ← hd]
      have HV : Hid (a = Pl.fRd (Pl.fmN k) n ∧ b = Pl.fR1 (Pl.fmN k) n ∧ c = Pl.fR2 (Pl.fmN k) n ∧ d = Pl.gIm (Pl.fmN k) n) := ⟨ha, hb, hc, hd⟩
      clear ha hb hc hd
      go_wp2_with (refine wpList_store_row rfl 105 _ _ rfl (u2.heap.size) #[.int .i64 (k : Int), .int .i64 a, .int .i64 b, .int .i64 c, .int .i64 d] ?hx ?hy 105 #[.int .i64 0, .int .i64 0, .int .i64 0, .int .i64 0, .int .i64 0] ?hg ?hi ?ho ?h1 ?_; (case hx => rfl); (case hy => rfl); (case hg => exact heap_alloc_new u2 _); (case hi => kernel_rfl); (case ho => kernel_rfl); (case h1 => kernel_rfl); refine Hid.out ?_)
      unfold Hid
      rw [World.setRow_alloc_new]
      refine wpList_at fun u3 hu3 => ?_
      have d3 : Below u2.heap.size u2 u3 := by rw [hu3]; exact below_alloc u2 _
      have Y3 : Hid (u3.heap[u2.heap.size]? = some (.cells #[.int .i64 (k : Int), .int .i64 a, .int .i64 b, .int .i64 c, .int .i64 d] 105)) := by show u3.heap[u2.heap.size]? = _; rw [hu3]; exact heap_alloc_new u2 _
      have G3 : Hid (u2.heap.size < u3.heap.size) := by show u2.heap.size < u3.heap.size; rw [hu3]; simp
      have X3 : Hid (u3.heap[w.heap.size]? = some (.cells #[.int .i64 0, .int .i64 0, .int .i64 0, .int .i64 0, .int .i64 0] 105)) := (d3.block _ Z2.out).trans X2.out
      have B3 : Hid (Below w.heap.size w u3) := B2.out.trans (d3.mono (Nat.le_of_lt Z2.out))
      have Z3 : Hid (w.heap.size < u3.heap.size) := Nat.lt_of_lt_of_le Z2.out d3.size
      clear d3 hu3 X2 B2 Z2
      obtain ⟨g, hg⟩ : ∃ g, g = u2.heap.size := ⟨_, rfl⟩
      rw [← hg] at Y3 G3 ⊢
      clear hg
      go_wp2_with (refine wpList_load_row rfl 105 _ rfl (g) ?hx 105 #[.int .i64 (k : Int), .int .i64 a, .int .i64 b, .int .i64 c, .int .i64 d] (0, 0) _ ?hg Try.underlying105 ?hd ?hi ?_; (case hx => rfl); (case hg => exact Y3.out); (case hd => rfl); (case hi => kernel_rfl))
      cases hit : Pl.hit k n
      · cases hok : iok (k : Int) a b c d
        · refine (specEnc_no _ _ _ _ _ hok u3).mono ?_
          rintro e u4 ⟨rfl, d4⟩
          have X4 : Hid (u4.heap[w.heap.size]? = some (.cells #[.int .i64 0, .int .i64 0, .int .i64 0, .int .i64 0, .int .i64 0] 105)) := (d4.block _ Z3.out).trans X3.out
          have B4 : Hid (Below w.heap.size w u4) := B3.out.trans (d4.mono (Nat.le_of_lt Z3.out))
          clear d4
          go_wp2
          go_roundw
          case rel =>
            refine ⟨k + 1, by omega, by omega, by go_num, fun j j1 j2 => ?_, X4.out, B4.out⟩
            by_cases hj : j < k
            · exact HA.out j j1 hj
            · have : j = k := by omega
              subst this; exact hit
          case measure => simp [intOf]; omega
        · have hne : Pl.enc k a b c d ≠ n := by
            intro he
            obtain ⟨ea, eb, ec, ed⟩ := HV.out
            rw [iok_eq k h1 hk, ea, eb, ec, ed] at hok
            rw [ea, eb, ec, ed] at he
            rw [(Pl.hit_iff k n).2 ⟨hok, he⟩] at hit
            cases hit
          refine (specEnc_yes k h1 hk _ _ _ _ hok u3).mono ?_
          rintro e u4 ⟨rfl, d4⟩
          have X4 : Hid (u4.heap[w.heap.size]? = some (.cells #[.int .i64 0, .int .i64 0, .int .i64 0, .int .i64 0, .int .i64 0] 105)) := (d4.block _ Z3.out).trans X3.out
          have B4 : Hid (Below w.heap.size w u4) := B3.out.trans (d4.mono (Nat.le_of_lt Z3.out))
          clear d4
          obtain ⟨m, hm⟩ : ∃ m, m = Pl.enc k a b c d := ⟨_, rfl⟩
          rw [← hm] at hne ⊢
          have hne' : (m == n) = false := by simpa using hne
          clear hm
          go_wp2
          go_roundw
          case rel =>
            refine ⟨k + 1, by omega, by omega, by go_num, fun j j1 j2 => ?_, X4.out, B4.out⟩
            by_cases hj : j < k
            · exact HA.out j j1 hj
            · have : j = k := by omega
              subst this; exact hit
          case measure => simp [intOf]; omega
      · have HD : Hid (Pl.dec n = k) := Pl.dec_hit h1 hk hit
        obtain ⟨q1, q2⟩ := (Pl.hit_iff k n).1 hit
        obtain ⟨ea, eb, ec, ed⟩ := HV.out
        rw [← ea, ← eb, ← ec, ← ed] at q1 q2
        have hok : iok (k : Int) a b c d = true := by rw [iok_eq k h1 hk]; exact q1
        refine (specEnc_yes k h1 hk _ _ _ _ hok u3).mono ?_
        rintro e u4 ⟨rfl, d4⟩
        have X4 : Hid (u4.heap[w.heap.size]? = some (.cells #[.int .i64 0, .int .i64 0, .int .i64 0, .int .i64 0, .int .i64 0] 105)) := (d4.block _ Z3.out).trans X3.out
        have Y4 : Hid (u4.heap[g]? = some (.cells #[.int .i64 (k : Int), .int .i64 a, .int .i64 b, .int .i64 c, .int .i64 d] 105)) := (d4.block _ G3.out).trans Y3.out
        have B4 : Hid (Below w.heap.size w u4) := B3.out.trans (d4.mono (Nat.le_of_lt Z3.out))
        have HE : Hid (Pl.decV n = #[.int .i64 (k : Int), .int .i64 a, .int .i64 b, .int .i64 c, .int .i64 d]) := by
          show Pl.decV n = #[.int .i64 (k : Int), .int .i64 a, .int .i64 b, .int .i64 c, .int .i64 d]
          rw [Pl.decV_hit h1 HD.out, ea, eb, ec, ed]
        clear d4 q1 ea eb ec ed
        rw [q2]
        clear q2
        go_wp2_with (first | (refine wpList_load_row rfl 105 _ rfl (g) ?hx 105 #[.int .i64 (k : Int), .int .i64 a, .int .i64 b, .int .i64 c, .int .i64 d] (0, 0) _ ?hg Try.underlying105 ?hd ?hi ?_; (case hx => rfl); (case hg => exact Y4.out); (case hd => rfl); (case hi => kernel_rfl)) | (refine wpList_store_row rfl 105 _ _ rfl (w.heap.size) #[.int .i64 (k : Int), .int .i64 a, .int .i64 b, .int .i64 c, .int .i64 d] ?hx ?hy 105 #[.int .i64 0, .int .i64 0, .int .i64 0, .int .i64 0, .int .i64 0] ?hg ?hi ?ho ?h1 ?_; (case hx => rfl); (case hy => rfl); (case hg => exact X4.out); (case hi => kernel_rfl); (case ho => kernel_rfl); (case h1 => kernel_rfl); refine Hid.out ?_))
        unfold Hid
        go_wp2_with fail
        refine bodyPost_ret (v := .tuple #[.agg #[.int .i64 (k : Int), .int .i64 a, .int .i64 b, .int .i64 c, .int .i64 d], .bool true]) ?_ rfl ⟨ret_dec HE.out (by rw [HD.out]; simp; omega), below_setRow5 B4.out (Nat.le_refl _) _⟩
        refine results_cell_tmp Try.results86 _ _ (w.heap.size) 105 #[.int .i64 (k : Int), .int .i64 a, .int .i64 b, .int .i64 c, .int .i64 d] (0, 0) _ (.bool true) ?hp ?hq ?hg Try.underlying105 ?hd ?hi
        case hp => rfl
        case hq => rfl
        case hg => exact setRow_heap _ _ _ _ _ _ X4.out
        case hd => rfl
        case hi => kernel_rfl
    · have hke : k = 48 := by omega
      subst hke
      have HD : Hid (Pl.dec n = 0) := Pl.dec_none (fun j j1 j2 => HA.out j j1 (by omega))
      go_wp2_with (refine wpList_store_row rfl 105 _ _ rfl (w.heap.size) #[.int .i64 0, .int .i64 0, .int .i64 0, .int .i64 0, .int .i64 0] ?hx ?hy 105 #[.int .i64 0, .int .i64 0, .int .i64 0, .int .i64 0, .int .i64 0] ?hg ?hi ?ho ?h1 ?_; (case hx => rfl); (case hy => rfl); (case hg => exact X0.out); (case hi => kernel_rfl); (case ho => kernel_rfl); (case h1 => kernel_rfl); refine Hid.out ?_)
      unfold Hid
      go_wp2_with fail
      refine bodyPost_ret (v := .tuple #[.agg #[.int .i64 0, .int .i64 0, .int .i64 0, .int .i64 0, .int .i64 0], .bool false]) ?_ rfl ⟨ret_dec (Pl.decV_none HD.out) (by rw [HD.out]; rfl), below_setRow5 B0.out (Nat.le_refl _) _⟩
      refine results_cell_tmp Try.results86 _ _ (w.heap.size) 105 #[.int .i64 0, .int .i64 0, .int .i64 0, .int .i64 0, .int .i64 0] (0, 0) _ (.bool false) ?hp ?hq ?hg Try.underlying105 ?hd ?hi
      case hp => rfl
      case hq => rfl
      case hg => exact setRow_heap _ _ _ _ _ _ X0.out
      case hd => rfl
      case hi => kernel_rfl
end Go.Proofs.Ytfcfnbncgadomaa.W
namespace Go.Proofs.Ytfcfnbncgadomaa.W
open Go.RowKit
/-- the word of an instruction, 0 of none -/
def ew (n rd r1 r2 im : Int) : Int := if iok n rd r1 r2 im then Pl.enc n.toNat rd r1 r2 im else 0
theorem iok_nat {n rd r1 r2 im : Int} (h : iok n rd r1 r2 im = true) : ∃ k : Nat, n = k ∧ 1 ≤ k ∧ k ≤ 47 ∧ Pl.okF (Pl.fmN k) rd r1 r2 im = true := by
  unfold iok at h
  rw [Bool.and_eq_true, decide_eq_true_eq] at h
  exact ⟨n.toNat, by omega, by omega, by omega, h.2⟩
theorem specEnc_all (n rd r1 r2 im : Int) (w : World) : Calls Try.prog 85 #[.agg #[.int .i64 n, .int .i64 rd, .int .i64 r1, .int .i64 r2, .int .i64 im]] w fun e w' => e = .returned (.tuple #[.int .i64 (ew n rd r1 r2 im), .bool (iok n rd r1 r2 im)]) ∧ Below w.heap.size w w' := by
  cases h : iok n rd r1 r2 im
  · have e : ew n rd r1 r2 im = 0 := by unfold ew; rw [h]; rfl
    rw [e]
    exact specEnc_no n rd r1 r2 im h w
  · have e : ew n rd r1 r2 im = Pl.enc n.toNat rd r1 r2 im := by unfold ew; rw [h]; rfl
    rw [e]
    obtain ⟨k, rfl, k1, k2, _⟩ := iok_nat h
    exact specEnc_yes k k1 k2 rd r1 r2 im h w
theorem IsBytes.below {w w' : World} {a : Option Addr} {len cap : Nat} (h : IsBytes w a len cap) (hb : Below w.heap.size w w') : IsBytes w' a len cap := by
  obtain ⟨h1, h2, h3⟩ := h
  refine ⟨h1, h2, ?_⟩
  rcases h3 with h3 | ⟨b, off, ha, hlt, hby⟩
  · exact .inl h3
  · refine .inr ⟨b, off, ha, Nat.lt_of_lt_of_le hlt hb.size, fun i hi => ?_⟩
    obtain ⟨v, hv, hc⟩ := hby i hi
    exact ⟨v, hv, (hb.cell (p := ⟨b, off + i, none⟩) hlt).trans hc⟩
theorem RdOk.below {w w' : World} {c : Nat} (h : RdOk w c) (hb : Below w.heap.size w w') : RdOk w' c := by
  have hlt := h.lt
  obtain ⟨a, len, cap, p, hrow, hl, hp, hby⟩ := h
  refine ⟨a, len, cap, p, (hb.block c hlt).trans hrow, hl, hp, ?_⟩
  rcases hby with h0 | ⟨b, off, ha, hbc, hby⟩
  · exact .inl h0
  · refine .inr ⟨b, off, ha, hbc, fun i hi => ?_⟩
    obtain ⟨v, hv, hc⟩ := hby i hi
    exact ⟨v, hv, (hb.cell (p := ⟨b, off + i, none⟩) (by show b < w.heap.size; omega)).trans hc⟩
end Go.Proofs.Ytfcfnbncgadomaa.W
