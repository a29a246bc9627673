import Derived.Test.YtgopdicmmglakaaChecked
import Derived.Test.YtgopdicmmglakaaMath
import Derived.WalkKit
import Derived.Below
namespace Go.Proofs.Ytgopdicmmglakaa.W
open Go.RowKit
theorem ret_int {k : IntKind} {a b : Int} (h : a = b) : Ending.returned (.int k a) = .returned (.int k b) := by rw [h]
theorem ret_int_bool {k : IntKind} {a b : Int} {p : Bool} (h : a = b) : Ending.returned (.tuple #[.int k a, .bool p]) = .returned (.tuple #[.int k b, .bool p]) := by rw [h]
theorem ret_bool {a b : Bool} (h : a = b) : Ending.returned (.bool a) = .returned (.bool b) := by rw [h]
theorem implWord_any (n : Int) (w : World) : Calls Try.prog 51 #[.int .i64 n] w fun e w' => e = .returned (.int .i64 (Pl.wd n)) ∧ w' = w := by
  go_enter Try.func51, Try.ntmps51
  go_wp2
  go_ret
  exact ⟨ret_int rfl, rfl⟩
theorem specWord_any (n : Int) (w : World) : Calls Try.prog 73 #[.int .i64 n] w fun e w' => e = .returned (.int .i64 (Pl.wd n)) ∧ w' = w := by
  have h1 := Pl.word_tmod_bd n
  go_enter Try.func73, Try.ntmps73
  go_wp2
  go_ret
  exact ⟨ret_int (Pl.word_tmod n), rfl⟩
/-- the bytes of a kind -/
theorem implKindSize_any (n : Int) (w : World) : Calls Try.prog 78 #[.int .i64 n] w fun e w' => e = .returned (.int .i64 (Pl.ks n)) ∧ w' = w := by
  rcases Pl.kind_cases n with rfl | rfl | rfl | rfl | rfl | ⟨h1, h2, h3, h4, h5⟩
  all_goals
    go_enter Try.func78, Try.ntmps78
    go_wp2
    go_ret
  iterate 5 exact ⟨rfl, rfl⟩
  exact ⟨ret_int (Pl.ks_none n h1 h2 h3 h4 h5), rfl⟩
theorem specKindSize_any (n : Int) (w : World) : Calls Try.prog 45 #[.int .i64 n] w fun e w' => e = .returned (.int .i64 (Pl.ks n)) ∧ w' = w := by
  rcases Pl.kind_cases n with rfl | rfl | rfl | rfl | rfl | ⟨h1, h2, h3, h4, h5⟩
  all_goals
    go_enter Try.func45, Try.ntmps45
    go_wp2
    go_ret
  iterate 5 exact ⟨rfl, rfl⟩
  exact ⟨ret_int (Pl.ks_none n h1 h2 h3 h4 h5), rfl⟩
end Go.Proofs.Ytgopdicmmglakaa.W
