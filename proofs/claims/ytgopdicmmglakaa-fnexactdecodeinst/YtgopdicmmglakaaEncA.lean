import Derived.Test.YtgopdicmmglakaaAluMath
import Derived.Test.YtgopdicmmglakaaForm
import Derived.Deep.QuietTactic
import Derived.BigQuiet
set_option linter.unusedVariables false
namespace Go.Proofs.Ytgopdicmmglakaa.Pl
open Go.RowKit
theorem bits_eq (n : Int) (a b : Nat) (hb : b ≤ 31) : bits .and .i64 (n / 2 ^ a) (wrap64 (wrap64 (2 ^ b) - 1)) = n / pw a % pw b := by
  have p1 := pw_pos b
  have p2 : pw b ≤ 2147483648 := pw_mono hb
  unfold pw at p1 p2
  have e1 : wrap64 (2 ^ b) = 2 ^ b := by
    generalize (2 : Int) ^ b = x at *
    unfold wrap64; omega
  have e2 : wrap64 (2 ^ b - 1) = 2 ^ b - 1 := by
    generalize (2 : Int) ^ b = x at *
    unfold wrap64; omega
  rw [e1, e2, mask64 _ b (by omega)]
  rfl
end Go.Proofs.Ytgopdicmmglakaa.Pl
namespace Go.Proofs.Ytgopdicmmglakaa.W
open Go.RowKit
set_option maxHeartbeats 400000 in
theorem bitsOf_any (n x y : Int) (a b : Nat) (hx : x = a) (hy : y = b) (ha : a ≤ 31) (hb : b ≤ 31) (n1 : -4611686018427387904 ≤ n) (n2 : n ≤ 4611686018427387904) (w : World) :
    Calls Try.prog 63 #[.int .i64 n, .int .i64 x, .int .i64 y] w fun e w' => e = .returned (.int .i64 (n / Pl.pw a % Pl.pw b)) ∧ ∃ m, w' = w.drewN m := by
  subst hx hy
  have p1 := Pl.pw_pos b
  have p2 : Pl.pw b ≤ 2147483648 := Pl.pw_mono hb
  go_enter Try.func63, Try.ntmps63
  go_wp2_with fail
  go_quiet (fail)
  go_wp2
  go_ret
  exact ⟨ret_int (Pl.bits_eq n a b hb), _, rfl⟩
theorem fixedWord_any (c0 c1 c2 c3 : Int) (h0 : 0 ≤ c0 ∧ c0 ≤ 255) (h1 : 0 ≤ c1 ∧ c1 ≤ 255) (h2 : 0 ≤ c2 ∧ c2 ≤ 255) (h3 : 0 ≤ c3 ∧ c3 ≤ 255) (w : World) :
    Calls Try.prog 65 #[.agg #[.int .u8 c0, .int .u8 c1, .int .u8 c2, .int .u8 c3]] w fun e w' => e = .returned (.int .i64 (c0 + c1 * 4096 + c2 * 33554432 + c3 * 1048576)) ∧ w' = w.alloc (.cells #[.int .u8 c0, .int .u8 c1, .int .u8 c2, .int .u8 c3] 61) := by
  go_enter Try.func65, Try.ntmps65
  go_wp2
  go_ret
  exact ⟨rfl, rfl⟩
end Go.Proofs.Ytgopdicmmglakaa.W
