import Derived.Test.YtgpmplcamdophaaDoorChecked
import Derived.WalkKit
import Derived.Below
import Derived.Laws.Rows
import Derived.Great.Walk
namespace Go.Proofs.YtgpmplcamdophaaDoor.Pl
/-- the names of the registers, their bytes -/
def regs : List (List UInt8) := [[122, 101, 114, 111], [114, 97], [115, 112], [103, 112], [116, 112], [116, 48], [116, 49], [116, 50], [115, 48], [115, 49], [97, 48], [97, 49], [97, 50], [97, 51], [97, 52], [97, 53], [97, 54], [97, 55], [115, 50], [115, 51], [115, 52], [115, 53], [115, 54], [115, 55], [115, 56], [115, 57], [115, 49, 48], [115, 49, 49], [116, 51], [116, 52], [116, 53], [116, 54]]
def rn (k : Nat) : ByteArray := ⟨(regs.getD k []).toArray⟩
def rnTab : Array Value := (regs.map fun r => Value.string ⟨r.toArray⟩).toArray
theorem rnTab_at (k : Nat) (h : k < 32) : rnTab[k]? = some (.string (rn k)) := by
  unfold rnTab rn
  have hl : regs.length = 32 := rfl
  rw [List.getElem?_toArray, List.getElem?_map, List.getD_eq_getElem?_getD, List.getElem?_eq_getElem (by omega)]
  rfl
end Go.Proofs.YtgpmplcamdophaaDoor.Pl
namespace Go.Proofs.YtgpmplcamdophaaDoor.W
open Go.RowKit
/-- the variable's cells -/
def RegsLie (w : World) : Prop := 1 < w.heap.size ∧ ∀ k, k < 32 → w.cell? ⟨1, k, none⟩ = some (.string (Pl.rn k))
theorem RegsLie.below {w w' : World} (h : RegsLie w) (hb : Below w.heap.size w w') : RegsLie w' :=
  ⟨Nat.lt_of_lt_of_le h.1 hb.size, fun k hk => (hb.cell (p := ⟨1, k, none⟩) h.1).trans (h.2 k hk)⟩
theorem regNames_any (w : World) : Calls Tryd.prog 56 #[] w fun e w' => e = .returned (.slice (some ⟨w.heap.size, 0, none⟩) 32 32) ∧ w' = w.alloc (.cells Pl.rnTab 9) := by
  go_enter Tryd.func56, Tryd.ntmps56
  go_wp2_with (refine Great.wpList_buildSliceTo rfl 58 9 32 _ rfl w.heap.size rfl _ rfl Tryd.underlying58 Pl.rnTab (by kernel_rfl) ?_)
  go_ret
  exact ⟨rfl, rfl⟩
set_option maxHeartbeats 400000 in
theorem specRegName_yes (k : Nat) (h2 : k ≤ 31) (w : World) : Calls Tryd.prog 35 #[.int .i64 k] w fun e w' => e = .returned (.string (Pl.rn k)) ∧ Below w.heap.size w w' := by
  have hc : (w.alloc (.cells Pl.rnTab 9)).cell? ⟨w.heap.size, k, none⟩ = some (.string (Pl.rn k)) := by
    rw [cell_of_row _ _ k Pl.rnTab 9 (0, 0) (heap_alloc_new w _)]; exact Pl.rnTab_at k (by omega)
  go_enter Tryd.func35, Tryd.ntmps35
  go_wp2_with (go_at_call 56; refine (regNames_any _).mono ?_; rintro e w' ⟨rfl, rfl⟩)
  go_ret
  exact ⟨rfl, (Below.refl _ _).alloc (Nat.le_refl _) _⟩
theorem specRegName_no (n : Int) (h : n < 0 ∨ 31 < n) (w : World) : Calls Tryd.prog 35 #[.int .i64 n] w fun e w' => e = .returned (.string ⟨#[]⟩) ∧ Below w.heap.size w w' := by
  rcases h with h | h
  · go_enter Tryd.func35, Tryd.ntmps35
    go_wp2
    go_ret
    exact ⟨rfl, Below.refl _ _⟩
  · have h' : ¬ n < 0 := by omega
    go_enter Tryd.func35, Tryd.ntmps35
    go_wp2
    go_ret
    exact ⟨rfl, Below.refl _ _⟩
theorem implRegName_yes (k : Nat) (h2 : k ≤ 31) (w : World) (hr : RegsLie w) : Calls Tryd.prog 62 #[.int .i64 k] w fun e w' => e = .returned (.string (Pl.rn k)) ∧ Below w.heap.size w w' := by
  have hc := hr.2 k (by omega)
  clear hr
  go_enter Tryd.func62, Tryd.ntmps62
  go_wp2
  go_ret
  exact ⟨rfl, Below.refl _ _⟩
theorem implRegName_no (n : Int) (h : n < 0 ∨ 31 < n) (w : World) : Calls Tryd.prog 62 #[.int .i64 n] w fun e w' => e = .returned (.string ⟨#[]⟩) ∧ Below w.heap.size w w' := by
  rcases h with h | h
  · go_enter Tryd.func62, Tryd.ntmps62
    go_wp2
    go_ret
    exact ⟨rfl, Below.refl _ _⟩
  · have h' : ¬ n < 0 := by omega
    go_enter Tryd.func62, Tryd.ntmps62
    go_wp2
    go_ret
    exact ⟨rfl, Below.refl _ _⟩
end Go.Proofs.YtgpmplcamdophaaDoor.W
