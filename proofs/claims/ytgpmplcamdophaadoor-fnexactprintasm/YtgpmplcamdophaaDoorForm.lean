import Derived.Test.YtgpmplcamdophaaDoorFormMath
namespace Go.Proofs.YtgpmplcamdophaaDoor.W
open Go.RowKit
theorem regOk_any (r : Int) (u : Bool) (w : World) : Calls Tryd.prog 43 #[.int .i64 r, .bool u] w fun e w' => e = .returned (.bool (Pl.rg r u)) ∧ w' = w := by
  by_cases h0 : r = 0
  · subst h0
    cases u
    all_goals
      go_enter Tryd.func43, Tryd.ntmps43
      go_wp2
      go_ret
      exact ⟨ret_bool (by simp [Pl.rg]), rfl⟩
  · have h1 : (r == 0) = false := by simpa using h0
    cases u
    · have e : Pl.rg r false = false := by simp [Pl.rg, h0]
      rw [e]
      go_enter Tryd.func43, Tryd.ntmps43
      go_wp2
      go_ret
      exact ⟨rfl, rfl⟩
    · by_cases h2 : 0 ≤ r
      · by_cases h3 : r ≤ 31
        · have e : Pl.rg r true = true := by simp [Pl.rg, h2, h3]
          rw [e]
          go_enter Tryd.func43, Tryd.ntmps43
          go_wp2
          go_ret
          exact ⟨ret_bool (by simp), rfl⟩
        · have e : Pl.rg r true = false := by simp [Pl.rg]; omega
          rw [e]
          go_enter Tryd.func43, Tryd.ntmps43
          go_wp2
          go_ret
          exact ⟨ret_bool (by simp), rfl⟩
      · have e : Pl.rg r true = false := by simp [Pl.rg]; omega
        rw [e]
        have h3 : decide (0 ≤ r) = false := by simpa using h2
        go_enter Tryd.func43, Tryd.ntmps43
        go_wp2
        go_ret
        exact ⟨ret_bool (by simp), rfl⟩
set_option maxHeartbeats 400000 in
theorem ruleOf_1 (w : World) : Calls Tryd.prog 59 #[.int .i64 1] w fun e w' => e = .returned (.agg (Pl.ruleV 1)) ∧ w' = w.alloc (.cells (Pl.ruleV 1) 87) := by
  go_enter Tryd.func59, Tryd.ntmps59
  go_wp2_with (refine Kit.wpList_builds_store 1 _ _ rfl _ _ rfl rfl 87 2 _ rfl rfl w.heap.size (Pl.ruleV 1) (by kernel_rfl) 87 _ (heap_alloc_new w _) (by kernel_rfl) (by kernel_rfl) (by kernel_rfl) ?_; intro a' hp hdf)
  rw [World.setRow_alloc_new]
  exact bodyPost_ret (v := .agg (Pl.ruleV 1)) (results_cell_row Tryd.results59 _ _ w.heap.size 87 (Pl.ruleV 1) (0, 0) _ hp (heap_alloc_new w _) Tryd.underlying87 rfl (by kernel_rfl)) hdf ⟨rfl, rfl⟩
set_option maxHeartbeats 400000 in
theorem ruleOf_2 (w : World) : Calls Tryd.prog 59 #[.int .i64 2] w fun e w' => e = .returned (.agg (Pl.ruleV 2)) ∧ w' = w.alloc (.cells (Pl.ruleV 2) 87) := by
  go_enter Tryd.func59, Tryd.ntmps59
  go_wp2_with (refine Kit.wpList_builds_store 3 _ _ rfl _ _ rfl rfl 87 2 _ rfl rfl w.heap.size (Pl.ruleV 2) (by kernel_rfl) 87 _ (heap_alloc_new w _) (by kernel_rfl) (by kernel_rfl) (by kernel_rfl) ?_; intro a' hp hdf)
  rw [World.setRow_alloc_new]
  exact bodyPost_ret (v := .agg (Pl.ruleV 2)) (results_cell_row Tryd.results59 _ _ w.heap.size 87 (Pl.ruleV 2) (0, 0) _ hp (heap_alloc_new w _) Tryd.underlying87 rfl (by kernel_rfl)) hdf ⟨rfl, rfl⟩
set_option maxHeartbeats 400000 in
theorem ruleOf_3 (w : World) : Calls Tryd.prog 59 #[.int .i64 3] w fun e w' => e = .returned (.agg (Pl.ruleV 3)) ∧ w' = w.alloc (.cells (Pl.ruleV 3) 87) := by
  go_enter Tryd.func59, Tryd.ntmps59
  go_wp2_with (refine Kit.wpList_builds_store 3 _ _ rfl _ _ rfl rfl 87 2 _ rfl rfl w.heap.size (Pl.ruleV 3) (by kernel_rfl) 87 _ (heap_alloc_new w _) (by kernel_rfl) (by kernel_rfl) (by kernel_rfl) ?_; intro a' hp hdf)
  rw [World.setRow_alloc_new]
  exact bodyPost_ret (v := .agg (Pl.ruleV 3)) (results_cell_row Tryd.results59 _ _ w.heap.size 87 (Pl.ruleV 3) (0, 0) _ hp (heap_alloc_new w _) Tryd.underlying87 rfl (by kernel_rfl)) hdf ⟨rfl, rfl⟩
set_option maxHeartbeats 400000 in
theorem ruleOf_4 (w : World) : Calls Tryd.prog 59 #[.int .i64 4] w fun e w' => e = .returned (.agg (Pl.ruleV 4)) ∧ w' = w.alloc (.cells (Pl.ruleV 4) 87) := by
  go_enter Tryd.func59, Tryd.ntmps59
  go_wp2_with (refine Kit.wpList_builds_store 4 _ _ rfl _ _ rfl rfl 87 2 _ rfl rfl w.heap.size (Pl.ruleV 4) (by kernel_rfl) 87 _ (heap_alloc_new w _) (by kernel_rfl) (by kernel_rfl) (by kernel_rfl) ?_; intro a' hp hdf)
  rw [World.setRow_alloc_new]
  exact bodyPost_ret (v := .agg (Pl.ruleV 4)) (results_cell_row Tryd.results59 _ _ w.heap.size 87 (Pl.ruleV 4) (0, 0) _ hp (heap_alloc_new w _) Tryd.underlying87 rfl (by kernel_rfl)) hdf ⟨rfl, rfl⟩
set_option maxHeartbeats 400000 in
theorem ruleOf_5 (w : World) : Calls Tryd.prog 59 #[.int .i64 5] w fun e w' => e = .returned (.agg (Pl.ruleV 5)) ∧ w' = w.alloc (.cells (Pl.ruleV 5) 87) := by
  go_enter Tryd.func59, Tryd.ntmps59
  go_wp2_with (refine Kit.wpList_builds_store 6 _ _ rfl _ _ rfl rfl 87 2 _ rfl rfl w.heap.size (Pl.ruleV 5) (by kernel_rfl) 87 _ (heap_alloc_new w _) (by kernel_rfl) (by kernel_rfl) (by kernel_rfl) ?_; intro a' hp hdf)
  rw [World.setRow_alloc_new]
  exact bodyPost_ret (v := .agg (Pl.ruleV 5)) (results_cell_row Tryd.results59 _ _ w.heap.size 87 (Pl.ruleV 5) (0, 0) _ hp (heap_alloc_new w _) Tryd.underlying87 rfl (by kernel_rfl)) hdf ⟨rfl, rfl⟩
set_option maxHeartbeats 400000 in
theorem ruleOf_6 (w : World) : Calls Tryd.prog 59 #[.int .i64 6] w fun e w' => e = .returned (.agg (Pl.ruleV 6)) ∧ w' = w.alloc (.cells (Pl.ruleV 6) 87) := by
  go_enter Tryd.func59, Tryd.ntmps59
  go_wp2_with (refine Kit.wpList_builds_store 3 _ _ rfl _ _ rfl rfl 87 2 _ rfl rfl w.heap.size (Pl.ruleV 6) (by kernel_rfl) 87 _ (heap_alloc_new w _) (by kernel_rfl) (by kernel_rfl) (by kernel_rfl) ?_; intro a' hp hdf)
  rw [World.setRow_alloc_new]
  exact bodyPost_ret (v := .agg (Pl.ruleV 6)) (results_cell_row Tryd.results59 _ _ w.heap.size 87 (Pl.ruleV 6) (0, 0) _ hp (heap_alloc_new w _) Tryd.underlying87 rfl (by kernel_rfl)) hdf ⟨rfl, rfl⟩
set_option maxHeartbeats 400000 in
theorem ruleOf_7 (w : World) : Calls Tryd.prog 59 #[.int .i64 7] w fun e w' => e = .returned (.agg (Pl.ruleV 7)) ∧ w' = w.alloc (.cells (Pl.ruleV 7) 87) := by
  go_enter Tryd.func59, Tryd.ntmps59
  go_wp2_with (refine Kit.wpList_builds_store 6 _ _ rfl _ _ rfl rfl 87 2 _ rfl rfl w.heap.size (Pl.ruleV 7) (by kernel_rfl) 87 _ (heap_alloc_new w _) (by kernel_rfl) (by kernel_rfl) (by kernel_rfl) ?_; intro a' hp hdf)
  rw [World.setRow_alloc_new]
  exact bodyPost_ret (v := .agg (Pl.ruleV 7)) (results_cell_row Tryd.results59 _ _ w.heap.size 87 (Pl.ruleV 7) (0, 0) _ hp (heap_alloc_new w _) Tryd.underlying87 rfl (by kernel_rfl)) hdf ⟨rfl, rfl⟩
set_option maxHeartbeats 400000 in
theorem ruleOf_8 (w : World) : Calls Tryd.prog 59 #[.int .i64 8] w fun e w' => e = .returned (.agg (Pl.ruleV 8)) ∧ w' = w.alloc (.cells (Pl.ruleV 8) 87) := by
  go_enter Tryd.func59, Tryd.ntmps59
  go_wp2_with (refine Kit.wpList_builds_store 1 _ _ rfl _ _ rfl rfl 87 2 _ rfl rfl w.heap.size (Pl.ruleV 8) (by kernel_rfl) 87 _ (heap_alloc_new w _) (by kernel_rfl) (by kernel_rfl) (by kernel_rfl) ?_; intro a' hp hdf)
  rw [World.setRow_alloc_new]
  exact bodyPost_ret (v := .agg (Pl.ruleV 8)) (results_cell_row Tryd.results59 _ _ w.heap.size 87 (Pl.ruleV 8) (0, 0) _ hp (heap_alloc_new w _) Tryd.underlying87 rfl (by kernel_rfl)) hdf ⟨rfl, rfl⟩
theorem ruleOf_any (n : Int) (f : Nat) (hn : n = f) (h1 : 1 ≤ f) (h2 : f ≤ 8) (w : World) : Calls Tryd.prog 59 #[.int .i64 n] w fun e w' => e = .returned (.agg (Pl.ruleV f)) ∧ w' = w.alloc (.cells (Pl.ruleV f) 87) := by
  subst hn
  rcases Pl.form_cases f h1 h2 with rfl | rfl | rfl | rfl | rfl | rfl | rfl | rfl
  · exact ruleOf_1 w
  · exact ruleOf_2 w
  · exact ruleOf_3 w
  · exact ruleOf_4 w
  · exact ruleOf_5 w
  · exact ruleOf_6 w
  · exact ruleOf_7 w
  · exact ruleOf_8 w
end Go.Proofs.YtgpmplcamdophaaDoor.W
