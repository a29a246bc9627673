import Derived.Test.YtgpmplcamdophaaDoorQtA
import Derived.Laws.IdiomCopy
set_option linter.unusedVariables false
set_option linter.unusedSimpArgs false
namespace Go.Proofs.YtgpmplcamdophaaDoor.W
open Go.RowKit
/-- the one cell of the table of math/bits that base 8 comes to -/
def DbLies (w : World) : Prop := 5 < w.heap.size ∧ w.cell? ⟨5, 7, none⟩ = some (.int .u8 3)
theorem DbLies.below {w w' : World} (h : DbLies w) (hb : Below w.heap.size w w') : DbLies w' :=
  ⟨Nat.lt_of_lt_of_le h.1 hb.size, (hb.cell (p := ⟨5, 7, none⟩) h.1).trans h.2⟩
theorem tz_key : IntKind.u64.wrap (bits BinOp.and IntKind.u64 8 (IntKind.u64.wrap (-8)) * 285870213051353865) / 288230376151711744 = 7 := by decide +kernel
theorem tz64_8 (w : World) (h : DbLies w) : Calls Tryd.prog 90 #[.int .u64 8] w fun e w' => e = .returned (.int .i64 3) ∧ w' = w := by
  obtain ⟨_, hc⟩ := h
  have key := tz_key
  go_enter Tryd.func90, Tryd.ntmps90
  go_wp2_with (simp only [tz_key])
  go_ret
  exact ⟨rfl, rfl⟩
theorem tz_8 (w : World) (h : DbLies w) : Calls Tryd.prog 88 #[.int .u64 8] w fun e w' => e = .returned (.int .i64 3) ∧ w' = w := by
  go_enter Tryd.func88, Tryd.ntmps88
  go_wp2_with (go_at_call 90; refine (tz64_8 _ h).mono ?_; rintro e w' ⟨rfl, rfl⟩)
  go_ret
  exact ⟨rfl, rfl⟩
theorem pow2_key : bits BinOp.and IntKind.i64 8 7 = 0 := by decide +kernel
theorem pow2_8 (w : World) : Calls Tryd.prog 87 #[.int .i64 8] w fun e w' => e = .returned (.bool true) ∧ w' = w := by
  go_enter Tryd.func87, Tryd.ntmps87
  go_wp2_with (simp only [pow2_key])
  go_ret
  exact ⟨rfl, rfl⟩
end Go.Proofs.YtgpmplcamdophaaDoor.W
