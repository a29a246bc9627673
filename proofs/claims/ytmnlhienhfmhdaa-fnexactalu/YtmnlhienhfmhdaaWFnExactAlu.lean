import Derived.Test.YtmnlhienhfmhdaaAluE
namespace Go.Proofs.Ytmnlhienhfmhdaa.W
open Go.RowKit
set_option linter.unusedVariables false
set_option maxHeartbeats 400000 in
theorem fnExactAlu_walk (a0 : Int) (a1 : Int) (a2 : Int) (w0 : (Lit.int .i64 a0).wf = true) (w1 : (Lit.int .i64 a1).wf = true) (w2 : (Lit.int .i64 a2).wf = true) (w : World) :
    Calls Try.prog 11 #[.int .i64 a0, .int .i64 a1, .int .i64 a2] w fun e w' => e = .returned (.bool true) ∧ Below w.heap.size w w' := by
  clear w0 w1 w2
  by_cases h : 1 ≤ a0 ∧ a0 ≤ 18
  · obtain ⟨h1, h2⟩ := h
    go_enter Try.func11, Try.ntmps11
    go_wp2_with (first | (go_at_call 31; refine (specAlu_yes _ _ _ h1 h2 _).mono ?_; rintro e u1 ⟨rfl, m, rfl⟩) | (go_at_call 32; refine (implAlu_yes _ _ _ h1 h2 _).mono ?_; rintro e u2 ⟨rfl, hb⟩))
    go_ret
    exact ⟨rfl, (below_drewN (Below.refl _ _) _).trans hb⟩
  · have h' : a0 < 1 ∨ 18 < a0 := by omega
    clear h
    go_enter Try.func11, Try.ntmps11
    go_wp2_with (first | (go_at_call 31; refine (specAlu_no _ _ _ h' _).mono ?_; rintro e u1 ⟨rfl, m, rfl⟩) | (go_at_call 32; refine (implAlu_no _ _ _ h' _).mono ?_; rintro e u2 ⟨rfl, hb⟩))
    go_ret
    exact ⟨rfl, (below_drewN (Below.refl _ _) _).trans hb⟩
end Go.Proofs.Ytmnlhienhfmhdaa.W
