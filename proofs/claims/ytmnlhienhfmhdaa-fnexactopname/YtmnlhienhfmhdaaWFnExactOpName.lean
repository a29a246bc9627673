import Derived.Test.YtmnlhienhfmhdaaRows2
namespace Go.Proofs.Ytmnlhienhfmhdaa.W
open Go.RowKit
set_option linter.unusedVariables false
set_option maxHeartbeats 400000 in
theorem fnExactOpName_walk (a0 : Int) (w0 : (Lit.int .i64 a0).wf = true) (w : World) :
    Calls Try.prog 6 #[.int .i64 a0] w fun e w' => e = .returned (.bool true) ∧ Below w.heap.size w w' := by
  by_cases h : 1 ≤ a0 ∧ a0 ≤ 47
  · obtain ⟨k, rfl⟩ : ∃ k : Nat, a0 = k := ⟨a0.toNat, by omega⟩
    have h1 : 1 ≤ k := by omega
    have h2 : k ≤ 47 := by omega
    clear h w0
    go_enter Try.func6, Try.ntmps6
    go_wp2_with (first | (go_at_call 21; refine (specOpName_yes k h1 h2 _).mono ?_; rintro e w1 ⟨rfl, hb1⟩) | (go_at_call 22; refine (implOpName_yes k h1 h2 _).mono ?_; rintro e w2 ⟨rfl, hb2⟩))
    go_ret
    exact ⟨rfl, hb1.trans (hb2.mono hb1.size)⟩
  · have h' : a0 < 1 ∨ 47 < a0 := by omega
    clear h w0
    go_enter Try.func6, Try.ntmps6
    go_wp2_with (first | (go_at_call 21; refine (specOpName_no a0 h' _).mono ?_; rintro e w1 ⟨rfl, hb1⟩) | (go_at_call 22; refine (implOpName_no a0 h' _).mono ?_; rintro e w2 ⟨rfl, hb2⟩))
    go_ret
    exact ⟨rfl, hb1.trans (hb2.mono hb1.size)⟩
end Go.Proofs.Ytmnlhienhfmhdaa.W
