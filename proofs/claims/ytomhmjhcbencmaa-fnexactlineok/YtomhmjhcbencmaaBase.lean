import Derived.Test.YtomhmjhcbencmaaChecked
import Derived.Test.YtomhmjhcbencmaaMath
import Derived.WalkKit
import Derived.Below
namespace Go.Proofs.Ytomhmjhcbencmaa.W
open Go.RowKit
theorem ret_int {k : IntKind} {a b : Int} (h : a = b) : Ending.returned (.int k a) = .returned (.int k b) := by rw [h]
theorem ret_int_bool {k : IntKind} {a b : Int} {p : Bool} (h : a = b) : Ending.returned (.tuple #[.int k a, .bool p]) = .returned (.tuple #[.int k b, .bool p]) := by rw [h]
theorem ret_bool {a b : Bool} (h : a = b) : Ending.returned (.bool a) = .returned (.bool b) := by rw [h]
theorem implWord_any (n : Int) (w : World) : Calls Try.prog 102 #[.int .i64 n] w fun e w' => e = .returned (.int .i64 (Pl.wd n)) ∧ w' = w := by
  go_enter Try.func102, Try.ntmps102
  go_wp2
  go_ret
  exact ⟨ret_int rfl, rfl⟩
theorem specWord_any (n : Int) (w : World) : Calls Try.prog 64 #[.int .i64 n] w fun e w' => e = .returned (.int .i64 (Pl.wd n)) ∧ w' = w := by
  have h1 := Pl.word_tmod_bd n
  go_enter Try.func64, Try.ntmps64
  go_wp2
  go_ret
  exact ⟨ret_int (Pl.word_tmod n), rfl⟩
theorem specSigned_any (n : Int) (w : World) : Calls Try.prog 135 #[.int .i64 n] w fun e w' => e = .returned (.int .i64 (Pl.sg n)) ∧ w' = w := by
  have h1 := Pl.wd_bd n
  by_cases h : 2147483648 ≤ Pl.wd n
  all_goals
    go_enter Try.func135, Try.ntmps135
    go_wp2_with (go_at_call 64; refine (specWord_any _ _).mono ?_; rintro e w' ⟨rfl, rfl⟩)
    go_ret
  · exact ⟨ret_int (Pl.sg_high n h), rfl⟩
  · exact ⟨ret_int (Pl.sg_low n h), rfl⟩
/-- the bytes of a kind -/
theorem implKindSize_any (n : Int) (w : World) : Calls Try.prog 103 #[.int .i64 n] w fun e w' => e = .returned (.int .i64 (Pl.ks n)) ∧ w' = w := by
  rcases Pl.kind_cases n with rfl | rfl | rfl | rfl | rfl | ⟨h1, h2, h3, h4, h5⟩
  all_goals
    go_enter Try.func103, Try.ntmps103
    go_wp2
    go_ret
  iterate 5 exact ⟨rfl, rfl⟩
  exact ⟨ret_int (Pl.ks_none n h1 h2 h3 h4 h5), rfl⟩
theorem specKindSize_any (n : Int) (w : World) : Calls Try.prog 36 #[.int .i64 n] w fun e w' => e = .returned (.int .i64 (Pl.ks n)) ∧ w' = w := by
  rcases Pl.kind_cases n with rfl | rfl | rfl | rfl | rfl | ⟨h1, h2, h3, h4, h5⟩
  all_goals
    go_enter Try.func36, Try.ntmps36
    go_wp2
    go_ret
  iterate 5 exact ⟨rfl, rfl⟩
  exact ⟨ret_int (Pl.ks_none n h1 h2 h3 h4 h5), rfl⟩
end Go.Proofs.Ytomhmjhcbencmaa.W
