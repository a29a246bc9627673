import Derived.Test.YtomhmjhcbencmaaDoorChecked
import Derived.Test.YtomhmjhcbencmaaDoorMath
import Derived.WalkKit
import Derived.Below
namespace Go.Proofs.YtomhmjhcbencmaaDoor.W
open Go.RowKit
theorem ret_int {k : IntKind} {a b : Int} (h : a = b) : Ending.returned (.int k a) = .returned (.int k b) := by rw [h]
theorem ret_int_bool {k : IntKind} {a b : Int} {p : Bool} (h : a = b) : Ending.returned (.tuple #[.int k a, .bool p]) = .returned (.tuple #[.int k b, .bool p]) := by rw [h]
theorem ret_bool {a b : Bool} (h : a = b) : Ending.returned (.bool a) = .returned (.bool b) := by rw [h]
theorem specWord_any (n : Int) (w : World) : Calls Tryd.prog 81 #[.int .i64 n] w fun e w' => e = .returned (.int .i64 (Pl.wd n)) ∧ w' = w := by
  have h1 := Pl.word_tmod_bd n
  go_enter Tryd.func81, Tryd.ntmps81
  go_wp2
  go_ret
  exact ⟨ret_int (Pl.word_tmod n), rfl⟩
end Go.Proofs.YtomhmjhcbencmaaDoor.W
