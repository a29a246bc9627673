import Derived.Test.YtgpmplcamdophaaDoorChecked
import Derived.Test.YtgpmplcamdophaaDoorMath
import Derived.WalkKit
import Derived.Below
namespace Go.Proofs.YtgpmplcamdophaaDoor.W
open Go.RowKit
theorem ret_int {k : IntKind} {a b : Int} (h : a = b) : Ending.returned (.int k a) = .returned (.int k b) := by rw [h]
theorem ret_int_bool {k : IntKind} {a b : Int} {p : Bool} (h : a = b) : Ending.returned (.tuple #[.int k a, .bool p]) = .returned (.tuple #[.int k b, .bool p]) := by rw [h]
theorem ret_bool {a b : Bool} (h : a = b) : Ending.returned (.bool a) = .returned (.bool b) := by rw [h]
end Go.Proofs.YtgpmplcamdophaaDoor.W
