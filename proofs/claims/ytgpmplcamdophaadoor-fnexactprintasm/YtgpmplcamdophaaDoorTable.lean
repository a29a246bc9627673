import Derived.Test.YtgpmplcamdophaaDoorNarrow
import Derived.Test.YtgpmplcamdophaaDoorKit
namespace Go.Proofs.YtgpmplcamdophaaDoor.Pl
/-- a row of the table: the bytes of the name, the form, the fixed parts -/
def rows : List (List UInt8 × Int × List Int) := [
  ([], 0, [0, 0, 0, 0]),
  ([97, 100, 100], 1, [51, 0, 0, 0]),
  ([115, 117, 98], 1, [51, 0, 32, 0]),
  ([115, 108, 108], 1, [51, 1, 0, 0]),
  ([115, 108, 116], 1, [51, 2, 0, 0]),
  ([115, 108, 116, 117], 1, [51, 3, 0, 0]),
  ([120, 111, 114], 1, [51, 4, 0, 0]),
  ([115, 114, 108], 1, [51, 5, 0, 0]),
  ([115, 114, 97], 1, [51, 5, 32, 0]),
  ([111, 114], 1, [51, 6, 0, 0]),
  ([97, 110, 100], 1, [51, 7, 0, 0]),
  ([109, 117, 108], 1, [51, 0, 1, 0]),
  ([109, 117, 108, 104], 1, [51, 1, 1, 0]),
  ([109, 117, 108, 104, 115, 117], 1, [51, 2, 1, 0]),
  ([109, 117, 108, 104, 117], 1, [51, 3, 1, 0]),
  ([100, 105, 118], 1, [51, 4, 1, 0]),
  ([100, 105, 118, 117], 1, [51, 5, 1, 0]),
  ([114, 101, 109], 1, [51, 6, 1, 0]),
  ([114, 101, 109, 117], 1, [51, 7, 1, 0]),
  ([97, 100, 100, 105], 2, [19, 0, 0, 0]),
  ([115, 108, 116, 105], 2, [19, 2, 0, 0]),
  ([115, 108, 116, 105, 117], 2, [19, 3, 0, 0]),
  ([120, 111, 114, 105], 2, [19, 4, 0, 0]),
  ([111, 114, 105], 2, [19, 6, 0, 0]),
  ([97, 110, 100, 105], 2, [19, 7, 0, 0]),
  ([115, 108, 108, 105], 3, [19, 1, 0, 0]),
  ([115, 114, 108, 105], 3, [19, 5, 0, 0]),
  ([115, 114, 97, 105], 3, [19, 5, 32, 0]),
  ([108, 98], 2, [3, 0, 0, 0]),
  ([108, 104], 2, [3, 1, 0, 0]),
  ([108, 119], 2, [3, 2, 0, 0]),
  ([108, 98, 117], 2, [3, 4, 0, 0]),
  ([108, 104, 117], 2, [3, 5, 0, 0]),
  ([106, 97, 108, 114], 2, [103, 0, 0, 0]),
  ([115, 98], 4, [35, 0, 0, 0]),
  ([115, 104], 4, [35, 1, 0, 0]),
  ([115, 119], 4, [35, 2, 0, 0]),
  ([98, 101, 113], 5, [99, 0, 0, 0]),
  ([98, 110, 101], 5, [99, 1, 0, 0]),
  ([98, 108, 116], 5, [99, 4, 0, 0]),
  ([98, 103, 101], 5, [99, 5, 0, 0]),
  ([98, 108, 116, 117], 5, [99, 6, 0, 0]),
  ([98, 103, 101, 117], 5, [99, 7, 0, 0]),
  ([108, 117, 105], 6, [55, 0, 0, 0]),
  ([97, 117, 105, 112, 99], 6, [23, 0, 0, 0]),
  ([106, 97, 108], 7, [111, 0, 0, 0]),
  ([101, 99, 97, 108, 108], 8, [115, 0, 0, 0]),
  ([101, 98, 114, 101, 97, 107], 8, [115, 0, 0, 1])]

def rowCells (r : List UInt8 × Int × List Int) : List Value := .string ⟨r.1.toArray⟩ :: .int .i64 r.2.1 :: r.2.2.map (Value.int .u8 ·)
def instTab : Array Value := (rows.flatMap rowCells).toArray
def zeroRow : List Value := [.string ⟨#[]⟩, .int .i64 0, .int .u8 0, .int .u8 0, .int .u8 0, .int .u8 0]
def zeroTab : Array Value := (List.replicate 48 zeroRow).flatten.toArray
end Go.Proofs.YtgpmplcamdophaaDoor.Pl
namespace Go.Proofs.YtgpmplcamdophaaDoor.W
open Go.RowKit
set_option maxHeartbeats 1000000 in
theorem instTable_any (w : World) : Calls Tryd.prog 73 #[] w fun e w' => e = .returned (.agg Pl.instTab) ∧ w' = w.alloc (.cells Pl.instTab 101) := by
  go_enter Tryd.func73, Tryd.ntmps73
  iterate 3 go_step
  refine Kit.wpList_allocBig 101 rfl rfl Pl.zeroTab (by kernel_rfl) ?_
  iterate 4 go_step
  refine wp_region_lit ?_
  refine Kit.wpList_builds_store 95 _ _ rfl _ _ rfl rfl 101 0 _ rfl rfl w.heap.size Pl.instTab (by kernel_rfl) 101 _ (heap_alloc_new w _) (by kernel_rfl) (by kernel_rfl) (by kernel_rfl) ?_
  intro a' hp hdf
  rw [World.setRow_alloc_new]
  go_wp2
  exact bodyPost_ret (v := .agg Pl.instTab) (results_cell_row Tryd.results73 _ _ w.heap.size 101 Pl.instTab (0, 0) _ hp (heap_alloc_new w _) Tryd.underlying101 rfl (by kernel_rfl)) hdf ⟨rfl, rfl⟩
end Go.Proofs.YtgpmplcamdophaaDoor.W
