import Derived.Test.YtmnlhienhfmhdaaOpNum
namespace Go.Proofs.Ytmnlhienhfmhdaa.W
open Go.RowKit
set_option linter.unusedVariables false
set_option maxHeartbeats 400000 in
theorem fnExactOpNumber_walk (a0 : ByteArray) (w0 : a0.size ≤ maxLen) (w : World) :
    Calls Try.prog 7 #[.string a0] w fun e w' => e = .returned (.bool true) ∧ Below w.heap.size w w' := by
  have HS : Hid (a0.size ≤ maxLen) := w0
  unfold maxLen at w0
  by_cases hl : 1048576 < a0.size
  · go_enter Try.func7, Try.ntmps7
    go_wp2
    go_ret
    exact ⟨rfl, Below.refl _ _⟩
  · go_enter Try.func7, Try.ntmps7
    go_wp2_with fail
    refine (specOpNumber_any _ _).mono ?_
    rintro e u1 ⟨m, rfl, hm, hb1⟩
    go_wp2_with fail
    refine (implOpNumber_any _ HS.out _).mono ?_
    rintro e u2 ⟨m', rfl, hm', hb2⟩
    obtain rfl := hm.uniq hm'
    go_wp2
    go_ret
    exact ⟨rfl, hb1.trans (hb2.mono hb1.size)⟩
end Go.Proofs.Ytmnlhienhfmhdaa.W
