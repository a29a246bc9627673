import Derived.Test.YtgopdicmmglakaaDecT
set_option linter.unusedVariables false
namespace Go.Proofs.Ytgopdicmmglakaa.W
open Go.RowKit
set_option maxHeartbeats 1000000 in
theorem eqInst_same (x0 x1 x2 x3 x4 : Int) (w : World) : Calls Try.prog 19 #[.agg #[.int .i64 x0, .int .i64 x1, .int .i64 x2, .int .i64 x3, .int .i64 x4], .agg #[.int .i64 x0, .int .i64 x1, .int .i64 x2, .int .i64 x3, .int .i64 x4]] w fun e w' => e = .returned (.bool true) ∧ Below w.heap.size w w' := by
  go_enter Try.func19, Try.ntmps19
  go_wp2
  go_ret
  exact ⟨rfl, ((Below.refl _ _).alloc (Nat.le_refl _) _).alloc (by simp) _⟩
set_option maxHeartbeats 2000000 in
theorem fnExactDecodeInst_walk (a0 : Int) (w0 : (Lit.int .i64 a0).wf = true) (w : World) :
    Calls Try.prog 5 #[.int .i64 a0] w fun e w' => e = .returned (.bool true) ∧ Below w.heap.size w w' := by
  clear w0
  obtain ⟨x0, h0⟩ : ∃ x, x = (Pl.dec a0 : Int) := ⟨_, rfl⟩
  obtain ⟨x1, h1⟩ : ∃ x, x = Pl.dRd a0 := ⟨_, rfl⟩
  obtain ⟨x2, h2⟩ : ∃ x, x = Pl.dR1 a0 := ⟨_, rfl⟩
  obtain ⟨x3, h3⟩ : ∃ x, x = Pl.dR2 a0 := ⟨_, rfl⟩
  obtain ⟨x4, h4⟩ : ∃ x, x = Pl.dIm a0 := ⟨_, rfl⟩
  obtain ⟨r, hr⟩ : ∃ r, r = (Pl.dec a0 != 0) := ⟨_, rfl⟩
  have hV : Pl.decV a0 = #[.int .i64 x0, .int .i64 x1, .int .i64 x2, .int .i64 x3, .int .i64 x4] := by rw [h0, h1, h2, h3, h4]; rfl
  have HS : Hid (∀ W, Calls Try.prog 17 #[.int .i64 a0] W fun e w' => e = .returned (.tuple #[.agg #[.int .i64 x0, .int .i64 x1, .int .i64 x2, .int .i64 x3, .int .i64 x4], .bool r]) ∧ Below W.heap.size W w') := by
    intro W
    rw [← hV, hr]
    exact specDec_any a0 W
  have HI : Hid (∀ W, Calls Try.prog 18 #[.int .i64 a0] W fun e w' => e = .returned (.tuple #[.agg #[.int .i64 x0, .int .i64 x1, .int .i64 x2, .int .i64 x3, .int .i64 x4], .bool r]) ∧ Below W.heap.size W w') := by
    intro W
    rw [← hV, hr]
    exact implDec_any a0 W
  clear hV h0 h1 h2 h3 h4 hr
  go_enter Try.func5, Try.ntmps5
  go_wp2_with fail
  refine (HS.out w).mono ?_
  rintro e u1 ⟨rfl, d1⟩
  have B1 : Hid (Below w.heap.size w u1) := d1
  clear d1 HS
  go_wp2_with (refine wpList_store_row rfl 41 _ _ rfl (u1.heap.size) #[.int .i64 x0, .int .i64 x1, .int .i64 x2, .int .i64 x3, .int .i64 x4] ?hx ?hy 41 #[.int .i64 0, .int .i64 0, .int .i64 0, .int .i64 0, .int .i64 0] ?hg ?hi ?ho ?h1 ?_; (case hx => rfl); (case hy => rfl); (case hg => exact heap_alloc_new u1 _); (case hi => kernel_rfl); (case ho => kernel_rfl); (case h1 => kernel_rfl); refine Hid.out ?_)
  unfold Hid
  rw [World.setRow_alloc_new]
  refine wpList_at fun u2 hu2 => ?_
  have X2 : Hid (u2.heap[u1.heap.size]? = some (.cells #[.int .i64 x0, .int .i64 x1, .int .i64 x2, .int .i64 x3, .int .i64 x4] 41)) := by show u2.heap[u1.heap.size]? = _; rw [hu2]; exact heap_alloc_new u1 _
  have G2 : Hid (u1.heap.size < u2.heap.size) := by show u1.heap.size < u2.heap.size; rw [hu2]; simp
  have B2 : Hid (Below w.heap.size w u2) := by show Below w.heap.size w u2; rw [hu2]; exact B1.out.alloc B1.out.size _
  clear hu2
  obtain ⟨g, hg⟩ : ∃ g, g = u1.heap.size := ⟨_, rfl⟩
  rw [← hg] at X2 G2 ⊢
  clear hg B1
  go_wp2_with fail
  refine (HI.out u2).mono ?_
  rintro e u3 ⟨rfl, d3⟩
  have X3 : Hid (u3.heap[g]? = some (.cells #[.int .i64 x0, .int .i64 x1, .int .i64 x2, .int .i64 x3, .int .i64 x4] 41)) := (d3.block _ G2.out).trans X2.out
  have G3 : Hid (g < u3.heap.size) := Nat.lt_of_lt_of_le G2.out d3.size
  have B3 : Hid (Below w.heap.size w u3) := B2.out.trans (d3.mono B2.out.size)
  clear d3 HI X2 G2 B2
  go_wp2_with (refine wpList_store_row rfl 41 _ _ rfl (u3.heap.size) #[.int .i64 x0, .int .i64 x1, .int .i64 x2, .int .i64 x3, .int .i64 x4] ?hx ?hy 41 #[.int .i64 0, .int .i64 0, .int .i64 0, .int .i64 0, .int .i64 0] ?hg ?hi ?ho ?h1 ?_; (case hx => rfl); (case hy => rfl); (case hg => exact heap_alloc_new u3 _); (case hi => kernel_rfl); (case ho => kernel_rfl); (case h1 => kernel_rfl); refine Hid.out ?_)
  unfold Hid
  rw [World.setRow_alloc_new]
  refine wpList_at fun u4 hu4 => ?_
  have Y4 : Hid (u4.heap[u3.heap.size]? = some (.cells #[.int .i64 x0, .int .i64 x1, .int .i64 x2, .int .i64 x3, .int .i64 x4] 41)) := by show u4.heap[u3.heap.size]? = _; rw [hu4]; exact heap_alloc_new u3 _
  have X4 : Hid (u4.heap[g]? = some (.cells #[.int .i64 x0, .int .i64 x1, .int .i64 x2, .int .i64 x3, .int .i64 x4] 41)) := by show u4.heap[g]? = _; rw [hu4]; exact (Below.heap_alloc _ _ _ G3.out).trans X3.out
  have B4 : Hid (Below w.heap.size w u4) := by show Below w.heap.size w u4; rw [hu4]; exact B3.out.alloc B3.out.size _
  clear hu4
  obtain ⟨g', hg'⟩ : ∃ g, g = u3.heap.size := ⟨_, rfl⟩
  rw [← hg'] at Y4 ⊢
  have hne : ¬ g = g' := by have := G3.out; omega
  clear hg' B3 X3 G3
  go_wp2_with (first | (refine wpList_load_row rfl 41 _ rfl (g') ?hx 41 #[.int .i64 x0, .int .i64 x1, .int .i64 x2, .int .i64 x3, .int .i64 x4] (0, 0) _ ?hg Try.underlying41 ?hd ?hi ?_; (case hx => rfl); (case hg => exact Y4.out); (case hd => rfl); (case hi => kernel_rfl)) | (refine wpList_load_row rfl 41 _ rfl (g) ?hx 41 #[.int .i64 x0, .int .i64 x1, .int .i64 x2, .int .i64 x3, .int .i64 x4] (0, 0) _ ?hg Try.underlying41 ?hd ?hi ?_; (case hx => rfl); (case hg => exact X4.out); (case hd => rfl); (case hi => kernel_rfl)) | (go_at_call 19; refine (eqInst_same _ _ _ _ _ _).mono ?_; rintro e u5 ⟨rfl, d5⟩))
  go_ret
  exact ⟨rfl, B4.out.trans (d5.mono B4.out.size)⟩
end Go.Proofs.Ytgopdicmmglakaa.W
