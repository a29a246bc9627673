import Derived.Test.YtjdfffdeljgenaaGreatDoorS28
set_option linter.unusedVariables false
namespace Go.Proofs.YtjdfffdeljgenaaGreatDoor.Pl
def bt (n x y : Int) : Int := wd n / pw y.toNat % pw (x.toNat - y.toNat + 1)
theorem bt_bd (n x y : Int) : 0 ≤ bt n x y ∧ bt n x y ≤ pw (x.toNat - y.toNat + 1) - 1 := by
  have h := Int.emod_nonneg (wd n / pw y.toNat) (Int.ne_of_gt (pw_pos (x.toNat - y.toNat + 1)))
  have h' := Int.emod_lt_of_pos (wd n / pw y.toNat) (pw_pos (x.toNat - y.toNat + 1))
  unfold bt
  omega
def wde (v m : Int) : Int := if pw (m.toNat - 1) ≤ v then v - pw m.toNat else v
end Go.Proofs.YtjdfffdeljgenaaGreatDoor.Pl
namespace Go.Proofs.YtjdfffdeljgenaaGreatDoor.W
open Go.RowKit
theorem l2Bits_is (n x y : Int) (h : 0 ≤ y ∧ y ≤ x ∧ x ≤ 31) (w : World) : Calls Tryz.prog 91 #[.int .i64 n, .int .i64 x, .int .i64 y] w fun e w' => e = .returned (.int .i64 (Pl.bt n x y)) ∧ ∃ m, w' = w.drewN m :=
  l2Bits_any n x y x.toNat y.toNat (by omega) (by omega) (by omega) (by omega) w
theorem power_is (x : Int) (h : 0 ≤ x ∧ x ≤ 32) (w : World) : Calls Tryz.prog 118 #[.int .i64 x] w fun e w' => e = .returned (.int .i64 (Pl.pw x.toNat)) ∧ w' = w := specPower_any x x.toNat (by omega) (by omega) w
theorem l2Wide_is (v m : Int) (hm : m = 12 ∨ m = 13 ∨ m = 21) (hv : 0 ≤ v ∧ v ≤ 8589934592) (w : World) : Calls Tryz.prog 92 #[.int .i64 v, .int .i64 m] w fun e w' => e = .returned (.int .i64 (Pl.wde v m)) ∧ w' = w := by
  rcases hm with rfl | rfl | rfl
  · have e1 : Pl.pw 11 = 2048 := by decide
    have e2 : Pl.pw 12 = 4096 := by decide
    by_cases h : 2048 ≤ v
    · have HP : Hid (Pl.wde v 12 = v - 4096) := by show Pl.wde v 12 = _; unfold Pl.wde; rw [show (Int.toNat 12 - 1) = 11 from rfl, show Int.toNat 12 = 12 from rfl, e1, e2, if_pos h]
      go_enter Tryz.func92, Tryz.ntmps92
      go_wp2_with (first | (go_at_call 118; refine (power_is _ (by decide) _).mono ?_; rintro e w' ⟨rfl, rfl⟩))
      go_ret
      exact ⟨ret_int (HP.out.trans (by first | rfl | simp only [e2])).symm, rfl⟩
    · have HP : Hid (Pl.wde v 12 = v) := by show Pl.wde v 12 = _; unfold Pl.wde; rw [show (Int.toNat 12 - 1) = 11 from rfl, e1, if_neg h]
      go_enter Tryz.func92, Tryz.ntmps92
      go_wp2_with (first | (go_at_call 118; refine (power_is _ (by decide) _).mono ?_; rintro e w' ⟨rfl, rfl⟩))
      go_ret
      exact ⟨ret_int HP.out.symm, rfl⟩
  · have e1 : Pl.pw 12 = 4096 := by decide
    have e2 : Pl.pw 13 = 8192 := by decide
    by_cases h : 4096 ≤ v
    · have HP : Hid (Pl.wde v 13 = v - 8192) := by show Pl.wde v 13 = _; unfold Pl.wde; rw [show (Int.toNat 13 - 1) = 12 from rfl, show Int.toNat 13 = 13 from rfl, e1, e2, if_pos h]
      go_enter Tryz.func92, Tryz.ntmps92
      go_wp2_with (first | (go_at_call 118; refine (power_is _ (by decide) _).mono ?_; rintro e w' ⟨rfl, rfl⟩))
      go_ret
      exact ⟨ret_int (HP.out.trans (by first | rfl | simp only [e2])).symm, rfl⟩
    · have HP : Hid (Pl.wde v 13 = v) := by show Pl.wde v 13 = _; unfold Pl.wde; rw [show (Int.toNat 13 - 1) = 12 from rfl, e1, if_neg h]
      go_enter Tryz.func92, Tryz.ntmps92
      go_wp2_with (first | (go_at_call 118; refine (power_is _ (by decide) _).mono ?_; rintro e w' ⟨rfl, rfl⟩))
      go_ret
      exact ⟨ret_int HP.out.symm, rfl⟩
  · have e1 : Pl.pw 20 = 1048576 := by decide
    have e2 : Pl.pw 21 = 2097152 := by decide
    by_cases h : 1048576 ≤ v
    · have HP : Hid (Pl.wde v 21 = v - 2097152) := by show Pl.wde v 21 = _; unfold Pl.wde; rw [show (Int.toNat 21 - 1) = 20 from rfl, show Int.toNat 21 = 21 from rfl, e1, e2, if_pos h]
      go_enter Tryz.func92, Tryz.ntmps92
      go_wp2_with (first | (go_at_call 118; refine (power_is _ (by decide) _).mono ?_; rintro e w' ⟨rfl, rfl⟩))
      go_ret
      exact ⟨ret_int (HP.out.trans (by first | rfl | simp only [e2])).symm, rfl⟩
    · have HP : Hid (Pl.wde v 21 = v) := by show Pl.wde v 21 = _; unfold Pl.wde; rw [show (Int.toNat 21 - 1) = 20 from rfl, e1, if_neg h]
      go_enter Tryz.func92, Tryz.ntmps92
      go_wp2_with (first | (go_at_call 118; refine (power_is _ (by decide) _).mono ?_; rintro e w' ⟨rfl, rfl⟩))
      go_ret
      exact ⟨ret_int HP.out.symm, rfl⟩
theorem parts_b (f : Nat) (h1 : 1 ≤ f) (h2 : f ≤ 8) (w : World) : Calls Tryz.prog 90 #[.int .i64 f] w fun e w' => e = .returned (.int .i64 (Pl.pts f)) ∧ Below w.heap.size w w' := by
  refine (parts_any f h1 h2 w).mono ?_
  rintro e w' ⟨rfl, rfl⟩
  exact ⟨rfl, below_alloc _ _⟩
set_option maxHeartbeats 2000000 in
theorem l2Read_1 (k : Nat) (h1 : 1 ≤ k) (h2 : k ≤ 47) (HF : Hid (Pl.fmN k = 1)) (n : Int) (w : World) :
    Calls Tryz.prog 68 #[.int .i64 (k : Int), .int .i64 n] w fun e w' => e = .returned (.agg #[.int .i64 (k : Int), .int .i64 (Pl.bt n 11 7), .int .i64 (Pl.bt n 19 15), .int .i64 (Pl.bt n 24 20), .int .i64 (0)]) ∧ Below w.heap.size w w' := by
  go_enter Tryz.func68, Tryz.ntmps68
  go_wp2_with (first | (go_at_call 89; refine (form_any k h1 h2 _).mono ?_; rintro e w' ⟨rfl, rfl⟩; rw [HF.out]) )
  refine calls_at5 fun u0 hu0 => ?_
  have X0 : Hid (u0.heap[w.heap.size]? = some (.cells #[.int .i64 0, .int .i64 0, .int .i64 0, .int .i64 0, .int .i64 0] 74)) := by show u0.heap[w.heap.size]? = _; rw [hu0]; exact heap_alloc_new w _
  have B0 : Hid (Below w.heap.size w u0) := by show Below w.heap.size w u0; rw [hu0]; exact below_alloc w _
  have Z0 : Hid (w.heap.size < u0.heap.size) := by show w.heap.size < u0.heap.size; rw [hu0]; simp
  clear hu0
  refine (parts_b 1 (by decide) (by decide) u0).mono ?_
  rintro e u1 ⟨rfl, d1⟩
  have X1 : Hid (u1.heap[w.heap.size]? = some (.cells #[.int .i64 0, .int .i64 0, .int .i64 0, .int .i64 0, .int .i64 0] 74)) := (d1.block _ Z0.out).trans X0.out
  have B1 : Hid (Below w.heap.size w u1) := B0.out.trans (d1.mono (Nat.le_of_lt Z0.out))
  have Z1 : Hid (w.heap.size < u1.heap.size) := Nat.lt_of_lt_of_le Z0.out d1.size
  clear d1 X0 B0 Z0
  rw [show Pl.pts 1 = 7 from rfl]
  go_wp2_with (refine wpList_store_row rfl 74 _ _ rfl (u1.heap.size) #[.int .i64 (k : Int), .int .i64 0, .int .i64 0, .int .i64 0, .int .i64 0] ?hx ?hy 74 #[.int .i64 0, .int .i64 0, .int .i64 0, .int .i64 0, .int .i64 0] ?hg ?hi ?ho ?h1 ?_; (case hx => rfl); (case hy => rfl); (case hg => exact heap_alloc_new u1 _); (case hi => kernel_rfl); (case ho => kernel_rfl); (case h1 => kernel_rfl); refine Hid.out ?_)
  unfold Hid
  rw [World.setRow_alloc_new]
  refine wpList_at fun u2 hu2 => ?_
  have d2 : Below u1.heap.size u1 u2 := by rw [hu2]; exact below_alloc u1 _
  have Y2 : Hid (u2.heap[u1.heap.size]? = some (.cells #[.int .i64 (k : Int), .int .i64 0, .int .i64 0, .int .i64 0, .int .i64 0] 74)) := by show u2.heap[u1.heap.size]? = _; rw [hu2]; exact heap_alloc_new u1 _
  have X2 : Hid (u2.heap[w.heap.size]? = some (.cells #[.int .i64 0, .int .i64 0, .int .i64 0, .int .i64 0, .int .i64 0] 74)) := (d2.block _ Z1.out).trans X1.out
  have B2 : Hid (Below w.heap.size w u2) := B1.out.trans (d2.mono (Nat.le_of_lt Z1.out))
  clear d2 hu2 X1 B1
  obtain ⟨g, hg⟩ : ∃ g, g = u1.heap.size := ⟨_, rfl⟩
  rw [← hg] at Z1 Y2 ⊢
  have Z2 : w.heap.size < g := Z1.out
  clear hg Z1
  have ky : ∀ j, u2.cell? ⟨g, j, none⟩ = (#[.int .i64 (k : Int), .int .i64 0, .int .i64 0, .int .i64 0, .int .i64 0] : Array Value)[j]? := fun j => cell_of_row u2 g j _ 74 (0, 0) Y2.out
  have kf : ∀ j, u2.frozen? ⟨g, j, none⟩ = false := fun j => frozen_of_row u2 g j _ 74 Y2.out
  go_wp2_with (first | (go_at_call 91; refine (l2Bits_is _ _ _ (by decide) _).mono ?_; rintro e u3 ⟨rfl, mm, rfl⟩) | (go_at_call 92; refine (l2Wide_is _ _ (by decide) (by omega) _).mono ?_; rintro e u3 ⟨rfl, rfl⟩) | (refine wpList_load_row rfl 74 _ rfl g ?hx 74 #[.int .i64 (k : Int), .int .i64 (Pl.bt n 11 7), .int .i64 (Pl.bt n 19 15), .int .i64 (Pl.bt n 24 20), .int .i64 (0)] (0, 0) _ ?hg Tryz.underlying74 ?hd ?hi ?_; (case hx => rfl); (case hg => exact row_put5 (row_put5 (row_put5 (Y2.out) _ _ rfl) _ _ rfl) _ _ rfl); (case hd => rfl); (case hi => kernel_rfl)) | (refine wpList_store_row rfl 74 _ _ rfl (w.heap.size) #[.int .i64 (k : Int), .int .i64 (Pl.bt n 11 7), .int .i64 (Pl.bt n 19 15), .int .i64 (Pl.bt n 24 20), .int .i64 (0)] ?hx ?hy 74 #[.int .i64 0, .int .i64 0, .int .i64 0, .int .i64 0, .int .i64 0] ?hg ?hi ?ho ?h1 ?_; (case hx => rfl); (case hy => rfl); (case hg => exact keep_other (keep_other (keep_other (X2.out) (Nat.ne_of_lt Z2)) (Nat.ne_of_lt Z2)) (Nat.ne_of_lt Z2)); (case hi => kernel_rfl); (case ho => kernel_rfl); (case h1 => kernel_rfl); refine Hid.out ?_))
  unfold Hid
  go_wp2_with fail
  refine bodyPost_ret (v := .agg #[.int .i64 (k : Int), .int .i64 (Pl.bt n 11 7), .int .i64 (Pl.bt n 19 15), .int .i64 (Pl.bt n 24 20), .int .i64 (0)]) ?_ rfl ⟨rfl, ?_⟩
  · refine results_cell_row Tryz.results68 _ _ (w.heap.size) 74 #[.int .i64 (k : Int), .int .i64 (Pl.bt n 11 7), .int .i64 (Pl.bt n 19 15), .int .i64 (Pl.bt n 24 20), .int .i64 (0)] (0, 0) _ ?hp ?hg Tryz.underlying74 ?hd ?hi
    case hp => rfl
    case hg => exact setRow_heap _ _ _ _ _ _ (keep_other (keep_other (keep_other (X2.out) (Nat.ne_of_lt Z2)) (Nat.ne_of_lt Z2)) (Nat.ne_of_lt Z2))
    case hd => rfl
    case hi => kernel_rfl
  · refine below_setRow5 ?_ (Nat.le_refl _) _
    repeat (first | exact B2.out | refine below_drewN ?_ _ | refine Below.setCell ?_ (Nat.le_of_lt Z2) _)
set_option maxHeartbeats 2000000 in
theorem l2Read_2 (k : Nat) (h1 : 1 ≤ k) (h2 : k ≤ 47) (HF : Hid (Pl.fmN k = 2)) (n : Int) (w : World) :
    Calls Tryz.prog 68 #[.int .i64 (k : Int), .int .i64 n] w fun e w' => e = .returned (.agg #[.int .i64 (k : Int), .int .i64 (Pl.bt n 11 7), .int .i64 (Pl.bt n 19 15), .int .i64 (0), .int .i64 (Pl.wde (Pl.bt n 31 20) 12)]) ∧ Below w.heap.size w w' := by
  have b0 : 0 ≤ Pl.bt n 31 20 ∧ Pl.bt n 31 20 ≤ 4095 := Pl.bt_bd n 31 20
  go_enter Tryz.func68, Tryz.ntmps68
  go_wp2_with (first | (go_at_call 89; refine (form_any k h1 h2 _).mono ?_; rintro e w' ⟨rfl, rfl⟩; rw [HF.out]) )
  refine calls_at5 fun u0 hu0 => ?_
  have X0 : Hid (u0.heap[w.heap.size]? = some (.cells #[.int .i64 0, .int .i64 0, .int .i64 0, .int .i64 0, .int .i64 0] 74)) := by show u0.heap[w.heap.size]? = _; rw [hu0]; exact heap_alloc_new w _
  have B0 : Hid (Below w.heap.size w u0) := by show Below w.heap.size w u0; rw [hu0]; exact below_alloc w _
  have Z0 : Hid (w.heap.size < u0.heap.size) := by show w.heap.size < u0.heap.size; rw [hu0]; simp
  clear hu0
  refine (parts_b 2 (by decide) (by decide) u0).mono ?_
  rintro e u1 ⟨rfl, d1⟩
  have X1 : Hid (u1.heap[w.heap.size]? = some (.cells #[.int .i64 0, .int .i64 0, .int .i64 0, .int .i64 0, .int .i64 0] 74)) := (d1.block _ Z0.out).trans X0.out
  have B1 : Hid (Below w.heap.size w u1) := B0.out.trans (d1.mono (Nat.le_of_lt Z0.out))
  have Z1 : Hid (w.heap.size < u1.heap.size) := Nat.lt_of_lt_of_le Z0.out d1.size
  clear d1 X0 B0 Z0
  rw [show Pl.pts 2 = 11 from rfl]
  go_wp2_with (refine wpList_store_row rfl 74 _ _ rfl (u1.heap.size) #[.int .i64 (k : Int), .int .i64 0, .int .i64 0, .int .i64 0, .int .i64 0] ?hx ?hy 74 #[.int .i64 0, .int .i64 0, .int .i64 0, .int .i64 0, .int .i64 0] ?hg ?hi ?ho ?h1 ?_; (case hx => rfl); (case hy => rfl); (case hg => exact heap_alloc_new u1 _); (case hi => kernel_rfl); (case ho => kernel_rfl); (case h1 => kernel_rfl); refine Hid.out ?_)
  unfold Hid
  rw [World.setRow_alloc_new]
  refine wpList_at fun u2 hu2 => ?_
  have d2 : Below u1.heap.size u1 u2 := by rw [hu2]; exact below_alloc u1 _
  have Y2 : Hid (u2.heap[u1.heap.size]? = some (.cells #[.int .i64 (k : Int), .int .i64 0, .int .i64 0, .int .i64 0, .int .i64 0] 74)) := by show u2.heap[u1.heap.size]? = _; rw [hu2]; exact heap_alloc_new u1 _
  have X2 : Hid (u2.heap[w.heap.size]? = some (.cells #[.int .i64 0, .int .i64 0, .int .i64 0, .int .i64 0, .int .i64 0] 74)) := (d2.block _ Z1.out).trans X1.out
  have B2 : Hid (Below w.heap.size w u2) := B1.out.trans (d2.mono (Nat.le_of_lt Z1.out))
  clear d2 hu2 X1 B1
  obtain ⟨g, hg⟩ : ∃ g, g = u1.heap.size := ⟨_, rfl⟩
  rw [← hg] at Z1 Y2 ⊢
  have Z2 : w.heap.size < g := Z1.out
  clear hg Z1
  have ky : ∀ j, u2.cell? ⟨g, j, none⟩ = (#[.int .i64 (k : Int), .int .i64 0, .int .i64 0, .int .i64 0, .int .i64 0] : Array Value)[j]? := fun j => cell_of_row u2 g j _ 74 (0, 0) Y2.out
  have kf : ∀ j, u2.frozen? ⟨g, j, none⟩ = false := fun j => frozen_of_row u2 g j _ 74 Y2.out
  go_wp2_with (first | (go_at_call 91; refine (l2Bits_is _ _ _ (by decide) _).mono ?_; rintro e u3 ⟨rfl, mm, rfl⟩) | (go_at_call 92; refine (l2Wide_is _ _ (by decide) (by omega) _).mono ?_; rintro e u3 ⟨rfl, rfl⟩) | (refine wpList_load_row rfl 74 _ rfl g ?hx 74 #[.int .i64 (k : Int), .int .i64 (Pl.bt n 11 7), .int .i64 (Pl.bt n 19 15), .int .i64 (0), .int .i64 (Pl.wde (Pl.bt n 31 20) 12)] (0, 0) _ ?hg Tryz.underlying74 ?hd ?hi ?_; (case hx => rfl); (case hg => exact row_put5 (row_put5 (row_put5 (Y2.out) _ _ rfl) _ _ rfl) _ _ rfl); (case hd => rfl); (case hi => kernel_rfl)) | (refine wpList_store_row rfl 74 _ _ rfl (w.heap.size) #[.int .i64 (k : Int), .int .i64 (Pl.bt n 11 7), .int .i64 (Pl.bt n 19 15), .int .i64 (0), .int .i64 (Pl.wde (Pl.bt n 31 20) 12)] ?hx ?hy 74 #[.int .i64 0, .int .i64 0, .int .i64 0, .int .i64 0, .int .i64 0] ?hg ?hi ?ho ?h1 ?_; (case hx => rfl); (case hy => rfl); (case hg => exact keep_other (keep_other (keep_other (X2.out) (Nat.ne_of_lt Z2)) (Nat.ne_of_lt Z2)) (Nat.ne_of_lt Z2)); (case hi => kernel_rfl); (case ho => kernel_rfl); (case h1 => kernel_rfl); refine Hid.out ?_))
  unfold Hid
  go_wp2_with fail
  refine bodyPost_ret (v := .agg #[.int .i64 (k : Int), .int .i64 (Pl.bt n 11 7), .int .i64 (Pl.bt n 19 15), .int .i64 (0), .int .i64 (Pl.wde (Pl.bt n 31 20) 12)]) ?_ rfl ⟨rfl, ?_⟩
  · refine results_cell_row Tryz.results68 _ _ (w.heap.size) 74 #[.int .i64 (k : Int), .int .i64 (Pl.bt n 11 7), .int .i64 (Pl.bt n 19 15), .int .i64 (0), .int .i64 (Pl.wde (Pl.bt n 31 20) 12)] (0, 0) _ ?hp ?hg Tryz.underlying74 ?hd ?hi
    case hp => rfl
    case hg => exact setRow_heap _ _ _ _ _ _ (keep_other (keep_other (keep_other (X2.out) (Nat.ne_of_lt Z2)) (Nat.ne_of_lt Z2)) (Nat.ne_of_lt Z2))
    case hd => rfl
    case hi => kernel_rfl
  · refine below_setRow5 ?_ (Nat.le_refl _) _
    repeat (first | exact B2.out | refine below_drewN ?_ _ | refine Below.setCell ?_ (Nat.le_of_lt Z2) _)
set_option maxHeartbeats 2000000 in
theorem l2Read_3 (k : Nat) (h1 : 1 ≤ k) (h2 : k ≤ 47) (HF : Hid (Pl.fmN k = 3)) (n : Int) (w : World) :
    Calls Tryz.prog 68 #[.int .i64 (k : Int), .int .i64 n] w fun e w' => e = .returned (.agg #[.int .i64 (k : Int), .int .i64 (Pl.bt n 11 7), .int .i64 (Pl.bt n 19 15), .int .i64 (0), .int .i64 (Pl.bt n 24 20)]) ∧ Below w.heap.size w w' := by
  have b0 : 0 ≤ Pl.bt n 24 20 ∧ Pl.bt n 24 20 ≤ 31 := Pl.bt_bd n 24 20
  go_enter Tryz.func68, Tryz.ntmps68
  go_wp2_with (first | (go_at_call 89; refine (form_any k h1 h2 _).mono ?_; rintro e w' ⟨rfl, rfl⟩; rw [HF.out]) )
  refine calls_at5 fun u0 hu0 => ?_
  have X0 : Hid (u0.heap[w.heap.size]? = some (.cells #[.int .i64 0, .int .i64 0, .int .i64 0, .int .i64 0, .int .i64 0] 74)) := by show u0.heap[w.heap.size]? = _; rw [hu0]; exact heap_alloc_new w _
  have B0 : Hid (Below w.heap.size w u0) := by show Below w.heap.size w u0; rw [hu0]; exact below_alloc w _
  have Z0 : Hid (w.heap.size < u0.heap.size) := by show w.heap.size < u0.heap.size; rw [hu0]; simp
  clear hu0
  refine (parts_b 3 (by decide) (by decide) u0).mono ?_
  rintro e u1 ⟨rfl, d1⟩
  have X1 : Hid (u1.heap[w.heap.size]? = some (.cells #[.int .i64 0, .int .i64 0, .int .i64 0, .int .i64 0, .int .i64 0] 74)) := (d1.block _ Z0.out).trans X0.out
  have B1 : Hid (Below w.heap.size w u1) := B0.out.trans (d1.mono (Nat.le_of_lt Z0.out))
  have Z1 : Hid (w.heap.size < u1.heap.size) := Nat.lt_of_lt_of_le Z0.out d1.size
  clear d1 X0 B0 Z0
  rw [show Pl.pts 3 = 11 from rfl]
  go_wp2_with (refine wpList_store_row rfl 74 _ _ rfl (u1.heap.size) #[.int .i64 (k : Int), .int .i64 0, .int .i64 0, .int .i64 0, .int .i64 0] ?hx ?hy 74 #[.int .i64 0, .int .i64 0, .int .i64 0, .int .i64 0, .int .i64 0] ?hg ?hi ?ho ?h1 ?_; (case hx => rfl); (case hy => rfl); (case hg => exact heap_alloc_new u1 _); (case hi => kernel_rfl); (case ho => kernel_rfl); (case h1 => kernel_rfl); refine Hid.out ?_)
  unfold Hid
  rw [World.setRow_alloc_new]
  refine wpList_at fun u2 hu2 => ?_
  have d2 : Below u1.heap.size u1 u2 := by rw [hu2]; exact below_alloc u1 _
  have Y2 : Hid (u2.heap[u1.heap.size]? = some (.cells #[.int .i64 (k : Int), .int .i64 0, .int .i64 0, .int .i64 0, .int .i64 0] 74)) := by show u2.heap[u1.heap.size]? = _; rw [hu2]; exact heap_alloc_new u1 _
  have X2 : Hid (u2.heap[w.heap.size]? = some (.cells #[.int .i64 0, .int .i64 0, .int .i64 0, .int .i64 0, .int .i64 0] 74)) := (d2.block _ Z1.out).trans X1.out
  have B2 : Hid (Below w.heap.size w u2) := B1.out.trans (d2.mono (Nat.le_of_lt Z1.out))
  clear d2 hu2 X1 B1
  obtain ⟨g, hg⟩ : ∃ g, g = u1.heap.size := ⟨_, rfl⟩
  rw [← hg] at Z1 Y2 ⊢
  have Z2 : w.heap.size < g := Z1.out
  clear hg Z1
  have ky : ∀ j, u2.cell? ⟨g, j, none⟩ = (#[.int .i64 (k : Int), .int .i64 0, .int .i64 0, .int .i64 0, .int .i64 0] : Array Value)[j]? := fun j => cell_of_row u2 g j _ 74 (0, 0) Y2.out
  have kf : ∀ j, u2.frozen? ⟨g, j, none⟩ = false := fun j => frozen_of_row u2 g j _ 74 Y2.out
  go_wp2_with (first | (go_at_call 91; refine (l2Bits_is _ _ _ (by decide) _).mono ?_; rintro e u3 ⟨rfl, mm, rfl⟩) | (go_at_call 92; refine (l2Wide_is _ _ (by decide) (by omega) _).mono ?_; rintro e u3 ⟨rfl, rfl⟩) | (refine wpList_load_row rfl 74 _ rfl g ?hx 74 #[.int .i64 (k : Int), .int .i64 (Pl.bt n 11 7), .int .i64 (Pl.bt n 19 15), .int .i64 (0), .int .i64 (Pl.bt n 24 20)] (0, 0) _ ?hg Tryz.underlying74 ?hd ?hi ?_; (case hx => rfl); (case hg => exact row_put5 (row_put5 (row_put5 (Y2.out) _ _ rfl) _ _ rfl) _ _ rfl); (case hd => rfl); (case hi => kernel_rfl)) | (refine wpList_store_row rfl 74 _ _ rfl (w.heap.size) #[.int .i64 (k : Int), .int .i64 (Pl.bt n 11 7), .int .i64 (Pl.bt n 19 15), .int .i64 (0), .int .i64 (Pl.bt n 24 20)] ?hx ?hy 74 #[.int .i64 0, .int .i64 0, .int .i64 0, .int .i64 0, .int .i64 0] ?hg ?hi ?ho ?h1 ?_; (case hx => rfl); (case hy => rfl); (case hg => exact keep_other (keep_other (keep_other (X2.out) (Nat.ne_of_lt Z2)) (Nat.ne_of_lt Z2)) (Nat.ne_of_lt Z2)); (case hi => kernel_rfl); (case ho => kernel_rfl); (case h1 => kernel_rfl); refine Hid.out ?_))
  unfold Hid
  go_wp2_with fail
  refine bodyPost_ret (v := .agg #[.int .i64 (k : Int), .int .i64 (Pl.bt n 11 7), .int .i64 (Pl.bt n 19 15), .int .i64 (0), .int .i64 (Pl.bt n 24 20)]) ?_ rfl ⟨rfl, ?_⟩
  · refine results_cell_row Tryz.results68 _ _ (w.heap.size) 74 #[.int .i64 (k : Int), .int .i64 (Pl.bt n 11 7), .int .i64 (Pl.bt n 19 15), .int .i64 (0), .int .i64 (Pl.bt n 24 20)] (0, 0) _ ?hp ?hg Tryz.underlying74 ?hd ?hi
    case hp => rfl
    case hg => exact setRow_heap _ _ _ _ _ _ (keep_other (keep_other (keep_other (X2.out) (Nat.ne_of_lt Z2)) (Nat.ne_of_lt Z2)) (Nat.ne_of_lt Z2))
    case hd => rfl
    case hi => kernel_rfl
  · refine below_setRow5 ?_ (Nat.le_refl _) _
    repeat (first | exact B2.out | refine below_drewN ?_ _ | refine Below.setCell ?_ (Nat.le_of_lt Z2) _)
set_option maxHeartbeats 2000000 in
theorem l2Read_4 (k : Nat) (h1 : 1 ≤ k) (h2 : k ≤ 47) (HF : Hid (Pl.fmN k = 4)) (n : Int) (w : World) :
    Calls Tryz.prog 68 #[.int .i64 (k : Int), .int .i64 n] w fun e w' => e = .returned (.agg #[.int .i64 (k : Int), .int .i64 (0), .int .i64 (Pl.bt n 19 15), .int .i64 (Pl.bt n 24 20), .int .i64 (Pl.wde (Pl.bt n 31 25 * 32 + Pl.bt n 11 7) 12)]) ∧ Below w.heap.size w w' := by
  have b0 : 0 ≤ Pl.bt n 31 25 ∧ Pl.bt n 31 25 ≤ 127 := Pl.bt_bd n 31 25
  have b1 : 0 ≤ Pl.bt n 11 7 ∧ Pl.bt n 11 7 ≤ 31 := Pl.bt_bd n 11 7
  go_enter Tryz.func68, Tryz.ntmps68
  go_wp2_with (first | (go_at_call 89; refine (form_any k h1 h2 _).mono ?_; rintro e w' ⟨rfl, rfl⟩; rw [HF.out]) )
  refine calls_at5 fun u0 hu0 => ?_
  have X0 : Hid (u0.heap[w.heap.size]? = some (.cells #[.int .i64 0, .int .i64 0, .int .i64 0, .int .i64 0, .int .i64 0] 74)) := by show u0.heap[w.heap.size]? = _; rw [hu0]; exact heap_alloc_new w _
  have B0 : Hid (Below w.heap.size w u0) := by show Below w.heap.size w u0; rw [hu0]; exact below_alloc w _
  have Z0 : Hid (w.heap.size < u0.heap.size) := by show w.heap.size < u0.heap.size; rw [hu0]; simp
  clear hu0
  refine (parts_b 4 (by decide) (by decide) u0).mono ?_
  rintro e u1 ⟨rfl, d1⟩
  have X1 : Hid (u1.heap[w.heap.size]? = some (.cells #[.int .i64 0, .int .i64 0, .int .i64 0, .int .i64 0, .int .i64 0] 74)) := (d1.block _ Z0.out).trans X0.out
  have B1 : Hid (Below w.heap.size w u1) := B0.out.trans (d1.mono (Nat.le_of_lt Z0.out))
  have Z1 : Hid (w.heap.size < u1.heap.size) := Nat.lt_of_lt_of_le Z0.out d1.size
  clear d1 X0 B0 Z0
  rw [show Pl.pts 4 = 14 from rfl]
  go_wp2_with (refine wpList_store_row rfl 74 _ _ rfl (u1.heap.size) #[.int .i64 (k : Int), .int .i64 0, .int .i64 0, .int .i64 0, .int .i64 0] ?hx ?hy 74 #[.int .i64 0, .int .i64 0, .int .i64 0, .int .i64 0, .int .i64 0] ?hg ?hi ?ho ?h1 ?_; (case hx => rfl); (case hy => rfl); (case hg => exact heap_alloc_new u1 _); (case hi => kernel_rfl); (case ho => kernel_rfl); (case h1 => kernel_rfl); refine Hid.out ?_)
  unfold Hid
  rw [World.setRow_alloc_new]
  refine wpList_at fun u2 hu2 => ?_
  have d2 : Below u1.heap.size u1 u2 := by rw [hu2]; exact below_alloc u1 _
  have Y2 : Hid (u2.heap[u1.heap.size]? = some (.cells #[.int .i64 (k : Int), .int .i64 0, .int .i64 0, .int .i64 0, .int .i64 0] 74)) := by show u2.heap[u1.heap.size]? = _; rw [hu2]; exact heap_alloc_new u1 _
  have X2 : Hid (u2.heap[w.heap.size]? = some (.cells #[.int .i64 0, .int .i64 0, .int .i64 0, .int .i64 0, .int .i64 0] 74)) := (d2.block _ Z1.out).trans X1.out
  have B2 : Hid (Below w.heap.size w u2) := B1.out.trans (d2.mono (Nat.le_of_lt Z1.out))
  clear d2 hu2 X1 B1
  obtain ⟨g, hg⟩ : ∃ g, g = u1.heap.size := ⟨_, rfl⟩
  rw [← hg] at Z1 Y2 ⊢
  have Z2 : w.heap.size < g := Z1.out
  clear hg Z1
  have ky : ∀ j, u2.cell? ⟨g, j, none⟩ = (#[.int .i64 (k : Int), .int .i64 0, .int .i64 0, .int .i64 0, .int .i64 0] : Array Value)[j]? := fun j => cell_of_row u2 g j _ 74 (0, 0) Y2.out
  have kf : ∀ j, u2.frozen? ⟨g, j, none⟩ = false := fun j => frozen_of_row u2 g j _ 74 Y2.out
  go_wp2_with (first | (go_at_call 91; refine (l2Bits_is _ _ _ (by decide) _).mono ?_; rintro e u3 ⟨rfl, mm, rfl⟩) | (go_at_call 92; refine (l2Wide_is _ _ (by decide) (by omega) _).mono ?_; rintro e u3 ⟨rfl, rfl⟩) | (refine wpList_load_row rfl 74 _ rfl g ?hx 74 #[.int .i64 (k : Int), .int .i64 (0), .int .i64 (Pl.bt n 19 15), .int .i64 (Pl.bt n 24 20), .int .i64 (Pl.wde (Pl.bt n 31 25 * 32 + Pl.bt n 11 7) 12)] (0, 0) _ ?hg Tryz.underlying74 ?hd ?hi ?_; (case hx => rfl); (case hg => exact row_put5 (row_put5 (row_put5 (Y2.out) _ _ rfl) _ _ rfl) _ _ rfl); (case hd => rfl); (case hi => kernel_rfl)) | (refine wpList_store_row rfl 74 _ _ rfl (w.heap.size) #[.int .i64 (k : Int), .int .i64 (0), .int .i64 (Pl.bt n 19 15), .int .i64 (Pl.bt n 24 20), .int .i64 (Pl.wde (Pl.bt n 31 25 * 32 + Pl.bt n 11 7) 12)] ?hx ?hy 74 #[.int .i64 0, .int .i64 0, .int .i64 0, .int .i64 0, .int .i64 0] ?hg ?hi ?ho ?h1 ?_; (case hx => rfl); (case hy => rfl); (case hg => exact keep_other (keep_other (keep_other (X2.out) (Nat.ne_of_lt Z2)) (Nat.ne_of_lt Z2)) (Nat.ne_of_lt Z2)); (case hi => kernel_rfl); (case ho => kernel_rfl); (case h1 => kernel_rfl); refine Hid.out ?_))
  unfold Hid
  go_wp2_with fail
  refine bodyPost_ret (v := .agg #[.int .i64 (k : Int), .int .i64 (0), .int .i64 (Pl.bt n 19 15), .int .i64 (Pl.bt n 24 20), .int .i64 (Pl.wde (Pl.bt n 31 25 * 32 + Pl.bt n 11 7) 12)]) ?_ rfl ⟨rfl, ?_⟩
  · refine results_cell_row Tryz.results68 _ _ (w.heap.size) 74 #[.int .i64 (k : Int), .int .i64 (0), .int .i64 (Pl.bt n 19 15), .int .i64 (Pl.bt n 24 20), .int .i64 (Pl.wde (Pl.bt n 31 25 * 32 + Pl.bt n 11 7) 12)] (0, 0) _ ?hp ?hg Tryz.underlying74 ?hd ?hi
    case hp => rfl
    case hg => exact setRow_heap _ _ _ _ _ _ (keep_other (keep_other (keep_other (X2.out) (Nat.ne_of_lt Z2)) (Nat.ne_of_lt Z2)) (Nat.ne_of_lt Z2))
    case hd => rfl
    case hi => kernel_rfl
  · refine below_setRow5 ?_ (Nat.le_refl _) _
    repeat (first | exact B2.out | refine below_drewN ?_ _ | refine Below.setCell ?_ (Nat.le_of_lt Z2) _)
set_option maxHeartbeats 2000000 in
theorem l2Read_5 (k : Nat) (h1 : 1 ≤ k) (h2 : k ≤ 47) (HF : Hid (Pl.fmN k = 5)) (n : Int) (w : World) :
    Calls Tryz.prog 68 #[.int .i64 (k : Int), .int .i64 n] w fun e w' => e = .returned (.agg #[.int .i64 (k : Int), .int .i64 (0), .int .i64 (Pl.bt n 19 15), .int .i64 (Pl.bt n 24 20), .int .i64 (Pl.wde (Pl.bt n 31 31 * 4096 + Pl.bt n 7 7 * 2048 + Pl.bt n 30 25 * 32 + Pl.bt n 11 8 * 2) 13)]) ∧ Below w.heap.size w w' := by
  have b0 : 0 ≤ Pl.bt n 31 31 ∧ Pl.bt n 31 31 ≤ 1 := Pl.bt_bd n 31 31
  have b1 : 0 ≤ Pl.bt n 7 7 ∧ Pl.bt n 7 7 ≤ 1 := Pl.bt_bd n 7 7
  have b2 : 0 ≤ Pl.bt n 30 25 ∧ Pl.bt n 30 25 ≤ 63 := Pl.bt_bd n 30 25
  have b3 : 0 ≤ Pl.bt n 11 8 ∧ Pl.bt n 11 8 ≤ 15 := Pl.bt_bd n 11 8
  go_enter Tryz.func68, Tryz.ntmps68
  go_wp2_with (first | (go_at_call 89; refine (form_any k h1 h2 _).mono ?_; rintro e w' ⟨rfl, rfl⟩; rw [HF.out]) )
  refine calls_at5 fun u0 hu0 => ?_
  have X0 : Hid (u0.heap[w.heap.size]? = some (.cells #[.int .i64 0, .int .i64 0, .int .i64 0, .int .i64 0, .int .i64 0] 74)) := by show u0.heap[w.heap.size]? = _; rw [hu0]; exact heap_alloc_new w _
  have B0 : Hid (Below w.heap.size w u0) := by show Below w.heap.size w u0; rw [hu0]; exact below_alloc w _
  have Z0 : Hid (w.heap.size < u0.heap.size) := by show w.heap.size < u0.heap.size; rw [hu0]; simp
  clear hu0
  refine (parts_b 5 (by decide) (by decide) u0).mono ?_
  rintro e u1 ⟨rfl, d1⟩
  have X1 : Hid (u1.heap[w.heap.size]? = some (.cells #[.int .i64 0, .int .i64 0, .int .i64 0, .int .i64 0, .int .i64 0] 74)) := (d1.block _ Z0.out).trans X0.out
  have B1 : Hid (Below w.heap.size w u1) := B0.out.trans (d1.mono (Nat.le_of_lt Z0.out))
  have Z1 : Hid (w.heap.size < u1.heap.size) := Nat.lt_of_lt_of_le Z0.out d1.size
  clear d1 X0 B0 Z0
  rw [show Pl.pts 5 = 14 from rfl]
  go_wp2_with (refine wpList_store_row rfl 74 _ _ rfl (u1.heap.size) #[.int .i64 (k : Int), .int .i64 0, .int .i64 0, .int .i64 0, .int .i64 0] ?hx ?hy 74 #[.int .i64 0, .int .i64 0, .int .i64 0, .int .i64 0, .int .i64 0] ?hg ?hi ?ho ?h1 ?_; (case hx => rfl); (case hy => rfl); (case hg => exact heap_alloc_new u1 _); (case hi => kernel_rfl); (case ho => kernel_rfl); (case h1 => kernel_rfl); refine Hid.out ?_)
  unfold Hid
  rw [World.setRow_alloc_new]
  refine wpList_at fun u2 hu2 => ?_
  have d2 : Below u1.heap.size u1 u2 := by rw [hu2]; exact below_alloc u1 _
  have Y2 : Hid (u2.heap[u1.heap.size]? = some (.cells #[.int .i64 (k : Int), .int .i64 0, .int .i64 0, .int .i64 0, .int .i64 0] 74)) := by show u2.heap[u1.heap.size]? = _; rw [hu2]; exact heap_alloc_new u1 _
  have X2 : Hid (u2.heap[w.heap.size]? = some (.cells #[.int .i64 0, .int .i64 0, .int .i64 0, .int .i64 0, .int .i64 0] 74)) := (d2.block _ Z1.out).trans X1.out
  have B2 : Hid (Below w.heap.size w u2) := B1.out.trans (d2.mono (Nat.le_of_lt Z1.out))
  clear d2 hu2 X1 B1
  obtain ⟨g, hg⟩ : ∃ g, g = u1.heap.size := ⟨_, rfl⟩
  rw [← hg] at Z1 Y2 ⊢
  have Z2 : w.heap.size < g := Z1.out
  clear hg Z1
  have ky : ∀ j, u2.cell? ⟨g, j, none⟩ = (#[.int .i64 (k : Int), .int .i64 0, .int .i64 0, .int .i64 0, .int .i64 0] : Array Value)[j]? := fun j => cell_of_row u2 g j _ 74 (0, 0) Y2.out
  have kf : ∀ j, u2.frozen? ⟨g, j, none⟩ = false := fun j => frozen_of_row u2 g j _ 74 Y2.out
  go_wp2_with (first | (go_at_call 91; refine (l2Bits_is _ _ _ (by decide) _).mono ?_; rintro e u3 ⟨rfl, mm, rfl⟩) | (go_at_call 92; refine (l2Wide_is _ _ (by decide) (by omega) _).mono ?_; rintro e u3 ⟨rfl, rfl⟩) | (refine wpList_load_row rfl 74 _ rfl g ?hx 74 #[.int .i64 (k : Int), .int .i64 (0), .int .i64 (Pl.bt n 19 15), .int .i64 (Pl.bt n 24 20), .int .i64 (Pl.wde (Pl.bt n 31 31 * 4096 + Pl.bt n 7 7 * 2048 + Pl.bt n 30 25 * 32 + Pl.bt n 11 8 * 2) 13)] (0, 0) _ ?hg Tryz.underlying74 ?hd ?hi ?_; (case hx => rfl); (case hg => exact row_put5 (row_put5 (row_put5 (Y2.out) _ _ rfl) _ _ rfl) _ _ rfl); (case hd => rfl); (case hi => kernel_rfl)) | (refine wpList_store_row rfl 74 _ _ rfl (w.heap.size) #[.int .i64 (k : Int), .int .i64 (0), .int .i64 (Pl.bt n 19 15), .int .i64 (Pl.bt n 24 20), .int .i64 (Pl.wde (Pl.bt n 31 31 * 4096 + Pl.bt n 7 7 * 2048 + Pl.bt n 30 25 * 32 + Pl.bt n 11 8 * 2) 13)] ?hx ?hy 74 #[.int .i64 0, .int .i64 0, .int .i64 0, .int .i64 0, .int .i64 0] ?hg ?hi ?ho ?h1 ?_; (case hx => rfl); (case hy => rfl); (case hg => exact keep_other (keep_other (keep_other (X2.out) (Nat.ne_of_lt Z2)) (Nat.ne_of_lt Z2)) (Nat.ne_of_lt Z2)); (case hi => kernel_rfl); (case ho => kernel_rfl); (case h1 => kernel_rfl); refine Hid.out ?_))
  unfold Hid
  go_wp2_with fail
  refine bodyPost_ret (v := .agg #[.int .i64 (k : Int), .int .i64 (0), .int .i64 (Pl.bt n 19 15), .int .i64 (Pl.bt n 24 20), .int .i64 (Pl.wde (Pl.bt n 31 31 * 4096 + Pl.bt n 7 7 * 2048 + Pl.bt n 30 25 * 32 + Pl.bt n 11 8 * 2) 13)]) ?_ rfl ⟨rfl, ?_⟩
  · refine results_cell_row Tryz.results68 _ _ (w.heap.size) 74 #[.int .i64 (k : Int), .int .i64 (0), .int .i64 (Pl.bt n 19 15), .int .i64 (Pl.bt n 24 20), .int .i64 (Pl.wde (Pl.bt n 31 31 * 4096 + Pl.bt n 7 7 * 2048 + Pl.bt n 30 25 * 32 + Pl.bt n 11 8 * 2) 13)] (0, 0) _ ?hp ?hg Tryz.underlying74 ?hd ?hi
    case hp => rfl
    case hg => exact setRow_heap _ _ _ _ _ _ (keep_other (keep_other (keep_other (X2.out) (Nat.ne_of_lt Z2)) (Nat.ne_of_lt Z2)) (Nat.ne_of_lt Z2))
    case hd => rfl
    case hi => kernel_rfl
  · refine below_setRow5 ?_ (Nat.le_refl _) _
    repeat (first | exact B2.out | refine below_drewN ?_ _ | refine Below.setCell ?_ (Nat.le_of_lt Z2) _)
set_option maxHeartbeats 2000000 in
theorem l2Read_6 (k : Nat) (h1 : 1 ≤ k) (h2 : k ≤ 47) (HF : Hid (Pl.fmN k = 6)) (n : Int) (w : World) :
    Calls Tryz.prog 68 #[.int .i64 (k : Int), .int .i64 n] w fun e w' => e = .returned (.agg #[.int .i64 (k : Int), .int .i64 (Pl.bt n 11 7), .int .i64 (0), .int .i64 (0), .int .i64 (Pl.bt n 31 12)]) ∧ Below w.heap.size w w' := by
  have b0 : 0 ≤ Pl.bt n 31 12 ∧ Pl.bt n 31 12 ≤ 1048575 := Pl.bt_bd n 31 12
  go_enter Tryz.func68, Tryz.ntmps68
  go_wp2_with (first | (go_at_call 89; refine (form_any k h1 h2 _).mono ?_; rintro e w' ⟨rfl, rfl⟩; rw [HF.out]) )
  refine calls_at5 fun u0 hu0 => ?_
  have X0 : Hid (u0.heap[w.heap.size]? = some (.cells #[.int .i64 0, .int .i64 0, .int .i64 0, .int .i64 0, .int .i64 0] 74)) := by show u0.heap[w.heap.size]? = _; rw [hu0]; exact heap_alloc_new w _
  have B0 : Hid (Below w.heap.size w u0) := by show Below w.heap.size w u0; rw [hu0]; exact below_alloc w _
  have Z0 : Hid (w.heap.size < u0.heap.size) := by show w.heap.size < u0.heap.size; rw [hu0]; simp
  clear hu0
  refine (parts_b 6 (by decide) (by decide) u0).mono ?_
  rintro e u1 ⟨rfl, d1⟩
  have X1 : Hid (u1.heap[w.heap.size]? = some (.cells #[.int .i64 0, .int .i64 0, .int .i64 0, .int .i64 0, .int .i64 0] 74)) := (d1.block _ Z0.out).trans X0.out
  have B1 : Hid (Below w.heap.size w u1) := B0.out.trans (d1.mono (Nat.le_of_lt Z0.out))
  have Z1 : Hid (w.heap.size < u1.heap.size) := Nat.lt_of_lt_of_le Z0.out d1.size
  clear d1 X0 B0 Z0
  rw [show Pl.pts 6 = 9 from rfl]
  go_wp2_with (refine wpList_store_row rfl 74 _ _ rfl (u1.heap.size) #[.int .i64 (k : Int), .int .i64 0, .int .i64 0, .int .i64 0, .int .i64 0] ?hx ?hy 74 #[.int .i64 0, .int .i64 0, .int .i64 0, .int .i64 0, .int .i64 0] ?hg ?hi ?ho ?h1 ?_; (case hx => rfl); (case hy => rfl); (case hg => exact heap_alloc_new u1 _); (case hi => kernel_rfl); (case ho => kernel_rfl); (case h1 => kernel_rfl); refine Hid.out ?_)
  unfold Hid
  rw [World.setRow_alloc_new]
  refine wpList_at fun u2 hu2 => ?_
  have d2 : Below u1.heap.size u1 u2 := by rw [hu2]; exact below_alloc u1 _
  have Y2 : Hid (u2.heap[u1.heap.size]? = some (.cells #[.int .i64 (k : Int), .int .i64 0, .int .i64 0, .int .i64 0, .int .i64 0] 74)) := by show u2.heap[u1.heap.size]? = _; rw [hu2]; exact heap_alloc_new u1 _
  have X2 : Hid (u2.heap[w.heap.size]? = some (.cells #[.int .i64 0, .int .i64 0, .int .i64 0, .int .i64 0, .int .i64 0] 74)) := (d2.block _ Z1.out).trans X1.out
  have B2 : Hid (Below w.heap.size w u2) := B1.out.trans (d2.mono (Nat.le_of_lt Z1.out))
  clear d2 hu2 X1 B1
  obtain ⟨g, hg⟩ : ∃ g, g = u1.heap.size := ⟨_, rfl⟩
  rw [← hg] at Z1 Y2 ⊢
  have Z2 : w.heap.size < g := Z1.out
  clear hg Z1
  have ky : ∀ j, u2.cell? ⟨g, j, none⟩ = (#[.int .i64 (k : Int), .int .i64 0, .int .i64 0, .int .i64 0, .int .i64 0] : Array Value)[j]? := fun j => cell_of_row u2 g j _ 74 (0, 0) Y2.out
  have kf : ∀ j, u2.frozen? ⟨g, j, none⟩ = false := fun j => frozen_of_row u2 g j _ 74 Y2.out
  go_wp2_with (first | (go_at_call 91; refine (l2Bits_is _ _ _ (by decide) _).mono ?_; rintro e u3 ⟨rfl, mm, rfl⟩) | (go_at_call 92; refine (l2Wide_is _ _ (by decide) (by omega) _).mono ?_; rintro e u3 ⟨rfl, rfl⟩) | (refine wpList_load_row rfl 74 _ rfl g ?hx 74 #[.int .i64 (k : Int), .int .i64 (Pl.bt n 11 7), .int .i64 (0), .int .i64 (0), .int .i64 (Pl.bt n 31 12)] (0, 0) _ ?hg Tryz.underlying74 ?hd ?hi ?_; (case hx => rfl); (case hg => exact row_put5 (row_put5 (Y2.out) _ _ rfl) _ _ rfl); (case hd => rfl); (case hi => kernel_rfl)) | (refine wpList_store_row rfl 74 _ _ rfl (w.heap.size) #[.int .i64 (k : Int), .int .i64 (Pl.bt n 11 7), .int .i64 (0), .int .i64 (0), .int .i64 (Pl.bt n 31 12)] ?hx ?hy 74 #[.int .i64 0, .int .i64 0, .int .i64 0, .int .i64 0, .int .i64 0] ?hg ?hi ?ho ?h1 ?_; (case hx => rfl); (case hy => rfl); (case hg => exact keep_other (keep_other (X2.out) (Nat.ne_of_lt Z2)) (Nat.ne_of_lt Z2)); (case hi => kernel_rfl); (case ho => kernel_rfl); (case h1 => kernel_rfl); refine Hid.out ?_))
  unfold Hid
  go_wp2_with fail
  refine bodyPost_ret (v := .agg #[.int .i64 (k : Int), .int .i64 (Pl.bt n 11 7), .int .i64 (0), .int .i64 (0), .int .i64 (Pl.bt n 31 12)]) ?_ rfl ⟨rfl, ?_⟩
  · refine results_cell_row Tryz.results68 _ _ (w.heap.size) 74 #[.int .i64 (k : Int), .int .i64 (Pl.bt n 11 7), .int .i64 (0), .int .i64 (0), .int .i64 (Pl.bt n 31 12)] (0, 0) _ ?hp ?hg Tryz.underlying74 ?hd ?hi
    case hp => rfl
    case hg => exact setRow_heap _ _ _ _ _ _ (keep_other (keep_other (X2.out) (Nat.ne_of_lt Z2)) (Nat.ne_of_lt Z2))
    case hd => rfl
    case hi => kernel_rfl
  · refine below_setRow5 ?_ (Nat.le_refl _) _
    repeat (first | exact B2.out | refine below_drewN ?_ _ | refine Below.setCell ?_ (Nat.le_of_lt Z2) _)
set_option maxHeartbeats 2000000 in
theorem l2Read_7 (k : Nat) (h1 : 1 ≤ k) (h2 : k ≤ 47) (HF : Hid (Pl.fmN k = 7)) (n : Int) (w : World) :
    Calls Tryz.prog 68 #[.int .i64 (k : Int), .int .i64 n] w fun e w' => e = .returned (.agg #[.int .i64 (k : Int), .int .i64 (Pl.bt n 11 7), .int .i64 (0), .int .i64 (0), .int .i64 (Pl.wde (Pl.bt n 31 31 * 1048576 + Pl.bt n 19 12 * 4096 + Pl.bt n 20 20 * 2048 + Pl.bt n 30 21 * 2) 21)]) ∧ Below w.heap.size w w' := by
  have b0 : 0 ≤ Pl.bt n 31 31 ∧ Pl.bt n 31 31 ≤ 1 := Pl.bt_bd n 31 31
  have b1 : 0 ≤ Pl.bt n 19 12 ∧ Pl.bt n 19 12 ≤ 255 := Pl.bt_bd n 19 12
  have b2 : 0 ≤ Pl.bt n 20 20 ∧ Pl.bt n 20 20 ≤ 1 := Pl.bt_bd n 20 20
  have b3 : 0 ≤ Pl.bt n 30 21 ∧ Pl.bt n 30 21 ≤ 1023 := Pl.bt_bd n 30 21
  go_enter Tryz.func68, Tryz.ntmps68
  go_wp2_with (first | (go_at_call 89; refine (form_any k h1 h2 _).mono ?_; rintro e w' ⟨rfl, rfl⟩; rw [HF.out]) )
  refine calls_at5 fun u0 hu0 => ?_
  have X0 : Hid (u0.heap[w.heap.size]? = some (.cells #[.int .i64 0, .int .i64 0, .int .i64 0, .int .i64 0, .int .i64 0] 74)) := by show u0.heap[w.heap.size]? = _; rw [hu0]; exact heap_alloc_new w _
  have B0 : Hid (Below w.heap.size w u0) := by show Below w.heap.size w u0; rw [hu0]; exact below_alloc w _
  have Z0 : Hid (w.heap.size < u0.heap.size) := by show w.heap.size < u0.heap.size; rw [hu0]; simp
  clear hu0
  refine (parts_b 7 (by decide) (by decide) u0).mono ?_
  rintro e u1 ⟨rfl, d1⟩
  have X1 : Hid (u1.heap[w.heap.size]? = some (.cells #[.int .i64 0, .int .i64 0, .int .i64 0, .int .i64 0, .int .i64 0] 74)) := (d1.block _ Z0.out).trans X0.out
  have B1 : Hid (Below w.heap.size w u1) := B0.out.trans (d1.mono (Nat.le_of_lt Z0.out))
  have Z1 : Hid (w.heap.size < u1.heap.size) := Nat.lt_of_lt_of_le Z0.out d1.size
  clear d1 X0 B0 Z0
  rw [show Pl.pts 7 = 9 from rfl]
  go_wp2_with (refine wpList_store_row rfl 74 _ _ rfl (u1.heap.size) #[.int .i64 (k : Int), .int .i64 0, .int .i64 0, .int .i64 0, .int .i64 0] ?hx ?hy 74 #[.int .i64 0, .int .i64 0, .int .i64 0, .int .i64 0, .int .i64 0] ?hg ?hi ?ho ?h1 ?_; (case hx => rfl); (case hy => rfl); (case hg => exact heap_alloc_new u1 _); (case hi => kernel_rfl); (case ho => kernel_rfl); (case h1 => kernel_rfl); refine Hid.out ?_)
  unfold Hid
  rw [World.setRow_alloc_new]
  refine wpList_at fun u2 hu2 => ?_
  have d2 : Below u1.heap.size u1 u2 := by rw [hu2]; exact below_alloc u1 _
  have Y2 : Hid (u2.heap[u1.heap.size]? = some (.cells #[.int .i64 (k : Int), .int .i64 0, .int .i64 0, .int .i64 0, .int .i64 0] 74)) := by show u2.heap[u1.heap.size]? = _; rw [hu2]; exact heap_alloc_new u1 _
  have X2 : Hid (u2.heap[w.heap.size]? = some (.cells #[.int .i64 0, .int .i64 0, .int .i64 0, .int .i64 0, .int .i64 0] 74)) := (d2.block _ Z1.out).trans X1.out
  have B2 : Hid (Below w.heap.size w u2) := B1.out.trans (d2.mono (Nat.le_of_lt Z1.out))
  clear d2 hu2 X1 B1
  obtain ⟨g, hg⟩ : ∃ g, g = u1.heap.size := ⟨_, rfl⟩
  rw [← hg] at Z1 Y2 ⊢
  have Z2 : w.heap.size < g := Z1.out
  clear hg Z1
  have ky : ∀ j, u2.cell? ⟨g, j, none⟩ = (#[.int .i64 (k : Int), .int .i64 0, .int .i64 0, .int .i64 0, .int .i64 0] : Array Value)[j]? := fun j => cell_of_row u2 g j _ 74 (0, 0) Y2.out
  have kf : ∀ j, u2.frozen? ⟨g, j, none⟩ = false := fun j => frozen_of_row u2 g j _ 74 Y2.out
  go_wp2_with (first | (go_at_call 91; refine (l2Bits_is _ _ _ (by decide) _).mono ?_; rintro e u3 ⟨rfl, mm, rfl⟩) | (go_at_call 92; refine (l2Wide_is _ _ (by decide) (by omega) _).mono ?_; rintro e u3 ⟨rfl, rfl⟩) | (refine wpList_load_row rfl 74 _ rfl g ?hx 74 #[.int .i64 (k : Int), .int .i64 (Pl.bt n 11 7), .int .i64 (0), .int .i64 (0), .int .i64 (Pl.wde (Pl.bt n 31 31 * 1048576 + Pl.bt n 19 12 * 4096 + Pl.bt n 20 20 * 2048 + Pl.bt n 30 21 * 2) 21)] (0, 0) _ ?hg Tryz.underlying74 ?hd ?hi ?_; (case hx => rfl); (case hg => exact row_put5 (row_put5 (Y2.out) _ _ rfl) _ _ rfl); (case hd => rfl); (case hi => kernel_rfl)) | (refine wpList_store_row rfl 74 _ _ rfl (w.heap.size) #[.int .i64 (k : Int), .int .i64 (Pl.bt n 11 7), .int .i64 (0), .int .i64 (0), .int .i64 (Pl.wde (Pl.bt n 31 31 * 1048576 + Pl.bt n 19 12 * 4096 + Pl.bt n 20 20 * 2048 + Pl.bt n 30 21 * 2) 21)] ?hx ?hy 74 #[.int .i64 0, .int .i64 0, .int .i64 0, .int .i64 0, .int .i64 0] ?hg ?hi ?ho ?h1 ?_; (case hx => rfl); (case hy => rfl); (case hg => exact keep_other (keep_other (X2.out) (Nat.ne_of_lt Z2)) (Nat.ne_of_lt Z2)); (case hi => kernel_rfl); (case ho => kernel_rfl); (case h1 => kernel_rfl); refine Hid.out ?_))
  unfold Hid
  go_wp2_with fail
  refine bodyPost_ret (v := .agg #[.int .i64 (k : Int), .int .i64 (Pl.bt n 11 7), .int .i64 (0), .int .i64 (0), .int .i64 (Pl.wde (Pl.bt n 31 31 * 1048576 + Pl.bt n 19 12 * 4096 + Pl.bt n 20 20 * 2048 + Pl.bt n 30 21 * 2) 21)]) ?_ rfl ⟨rfl, ?_⟩
  · refine results_cell_row Tryz.results68 _ _ (w.heap.size) 74 #[.int .i64 (k : Int), .int .i64 (Pl.bt n 11 7), .int .i64 (0), .int .i64 (0), .int .i64 (Pl.wde (Pl.bt n 31 31 * 1048576 + Pl.bt n 19 12 * 4096 + Pl.bt n 20 20 * 2048 + Pl.bt n 30 21 * 2) 21)] (0, 0) _ ?hp ?hg Tryz.underlying74 ?hd ?hi
    case hp => rfl
    case hg => exact setRow_heap _ _ _ _ _ _ (keep_other (keep_other (X2.out) (Nat.ne_of_lt Z2)) (Nat.ne_of_lt Z2))
    case hd => rfl
    case hi => kernel_rfl
  · refine below_setRow5 ?_ (Nat.le_refl _) _
    repeat (first | exact B2.out | refine below_drewN ?_ _ | refine Below.setCell ?_ (Nat.le_of_lt Z2) _)
set_option maxHeartbeats 2000000 in
theorem l2Read_8 (k : Nat) (h1 : 1 ≤ k) (h2 : k ≤ 47) (HF : Hid (Pl.fmN k = 8)) (n : Int) (w : World) :
    Calls Tryz.prog 68 #[.int .i64 (k : Int), .int .i64 n] w fun e w' => e = .returned (.agg #[.int .i64 (k : Int), .int .i64 (0), .int .i64 (0), .int .i64 (0), .int .i64 (0)]) ∧ Below w.heap.size w w' := by
  go_enter Tryz.func68, Tryz.ntmps68
  go_wp2_with (first | (go_at_call 89; refine (form_any k h1 h2 _).mono ?_; rintro e w' ⟨rfl, rfl⟩; rw [HF.out]) )
  refine calls_at5 fun u0 hu0 => ?_
  have X0 : Hid (u0.heap[w.heap.size]? = some (.cells #[.int .i64 0, .int .i64 0, .int .i64 0, .int .i64 0, .int .i64 0] 74)) := by show u0.heap[w.heap.size]? = _; rw [hu0]; exact heap_alloc_new w _
  have B0 : Hid (Below w.heap.size w u0) := by show Below w.heap.size w u0; rw [hu0]; exact below_alloc w _
  have Z0 : Hid (w.heap.size < u0.heap.size) := by show w.heap.size < u0.heap.size; rw [hu0]; simp
  clear hu0
  refine (parts_b 8 (by decide) (by decide) u0).mono ?_
  rintro e u1 ⟨rfl, d1⟩
  have X1 : Hid (u1.heap[w.heap.size]? = some (.cells #[.int .i64 0, .int .i64 0, .int .i64 0, .int .i64 0, .int .i64 0] 74)) := (d1.block _ Z0.out).trans X0.out
  have B1 : Hid (Below w.heap.size w u1) := B0.out.trans (d1.mono (Nat.le_of_lt Z0.out))
  have Z1 : Hid (w.heap.size < u1.heap.size) := Nat.lt_of_lt_of_le Z0.out d1.size
  clear d1 X0 B0 Z0
  rw [show Pl.pts 8 = 0 from rfl]
  go_wp2_with (refine wpList_store_row rfl 74 _ _ rfl (u1.heap.size) #[.int .i64 (k : Int), .int .i64 0, .int .i64 0, .int .i64 0, .int .i64 0] ?hx ?hy 74 #[.int .i64 0, .int .i64 0, .int .i64 0, .int .i64 0, .int .i64 0] ?hg ?hi ?ho ?h1 ?_; (case hx => rfl); (case hy => rfl); (case hg => exact heap_alloc_new u1 _); (case hi => kernel_rfl); (case ho => kernel_rfl); (case h1 => kernel_rfl); refine Hid.out ?_)
  unfold Hid
  rw [World.setRow_alloc_new]
  refine wpList_at fun u2 hu2 => ?_
  have d2 : Below u1.heap.size u1 u2 := by rw [hu2]; exact below_alloc u1 _
  have Y2 : Hid (u2.heap[u1.heap.size]? = some (.cells #[.int .i64 (k : Int), .int .i64 0, .int .i64 0, .int .i64 0, .int .i64 0] 74)) := by show u2.heap[u1.heap.size]? = _; rw [hu2]; exact heap_alloc_new u1 _
  have X2 : Hid (u2.heap[w.heap.size]? = some (.cells #[.int .i64 0, .int .i64 0, .int .i64 0, .int .i64 0, .int .i64 0] 74)) := (d2.block _ Z1.out).trans X1.out
  have B2 : Hid (Below w.heap.size w u2) := B1.out.trans (d2.mono (Nat.le_of_lt Z1.out))
  clear d2 hu2 X1 B1
  obtain ⟨g, hg⟩ : ∃ g, g = u1.heap.size := ⟨_, rfl⟩
  rw [← hg] at Z1 Y2 ⊢
  have Z2 : w.heap.size < g := Z1.out
  clear hg Z1
  have ky : ∀ j, u2.cell? ⟨g, j, none⟩ = (#[.int .i64 (k : Int), .int .i64 0, .int .i64 0, .int .i64 0, .int .i64 0] : Array Value)[j]? := fun j => cell_of_row u2 g j _ 74 (0, 0) Y2.out
  have kf : ∀ j, u2.frozen? ⟨g, j, none⟩ = false := fun j => frozen_of_row u2 g j _ 74 Y2.out
  go_wp2_with (first | (go_at_call 91; refine (l2Bits_is _ _ _ (by decide) _).mono ?_; rintro e u3 ⟨rfl, mm, rfl⟩) | (go_at_call 92; refine (l2Wide_is _ _ (by decide) (by omega) _).mono ?_; rintro e u3 ⟨rfl, rfl⟩) | (refine wpList_load_row rfl 74 _ rfl g ?hx 74 #[.int .i64 (k : Int), .int .i64 (0), .int .i64 (0), .int .i64 (0), .int .i64 (0)] (0, 0) _ ?hg Tryz.underlying74 ?hd ?hi ?_; (case hx => rfl); (case hg => exact Y2.out); (case hd => rfl); (case hi => kernel_rfl)) | (refine wpList_store_row rfl 74 _ _ rfl (w.heap.size) #[.int .i64 (k : Int), .int .i64 (0), .int .i64 (0), .int .i64 (0), .int .i64 (0)] ?hx ?hy 74 #[.int .i64 0, .int .i64 0, .int .i64 0, .int .i64 0, .int .i64 0] ?hg ?hi ?ho ?h1 ?_; (case hx => rfl); (case hy => rfl); (case hg => exact X2.out); (case hi => kernel_rfl); (case ho => kernel_rfl); (case h1 => kernel_rfl); refine Hid.out ?_))
  unfold Hid
  go_wp2_with fail
  refine bodyPost_ret (v := .agg #[.int .i64 (k : Int), .int .i64 (0), .int .i64 (0), .int .i64 (0), .int .i64 (0)]) ?_ rfl ⟨rfl, ?_⟩
  · refine results_cell_row Tryz.results68 _ _ (w.heap.size) 74 #[.int .i64 (k : Int), .int .i64 (0), .int .i64 (0), .int .i64 (0), .int .i64 (0)] (0, 0) _ ?hp ?hg Tryz.underlying74 ?hd ?hi
    case hp => rfl
    case hg => exact setRow_heap _ _ _ _ _ _ (X2.out)
    case hd => rfl
    case hi => kernel_rfl
  · refine below_setRow5 ?_ (Nat.le_refl _) _
    repeat (first | exact B2.out | refine below_drewN ?_ _ | refine Below.setCell ?_ (Nat.le_of_lt Z2) _)
end Go.Proofs.YtjdfffdeljgenaaGreatDoor.W
