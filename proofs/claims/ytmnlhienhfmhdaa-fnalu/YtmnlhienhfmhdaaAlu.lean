import Derived.Test.YtmnlhienhfmhdaaNarrow
import Derived.Laws.ResultCell
import Derived.Deep.WholeRow
namespace Go.Proofs.Ytmnlhienhfmhdaa.W
open Go.RowKit
def opsTab : Array Value := #[.nilFunc, .func (.func 76) #[] #[], .func (.func 77) #[] #[], .func (.func 78) #[] #[], .func (.func 80) #[] #[], .func (.func 81) #[] #[], .func (.func 82) #[] #[], .func (.func 83) #[] #[], .func (.func 84) #[] #[], .func (.func 85) #[] #[], .func (.func 86) #[] #[], .func (.func 87) #[] #[], .func (.func 88) #[] #[], .func (.func 89) #[] #[], .func (.func 90) #[] #[], .func (.func 91) #[] #[], .func (.func 92) #[] #[], .func (.func 93) #[] #[], .func (.func 94) #[] #[]]
set_option maxHeartbeats 400000 in
theorem operations_any (w : World) : Calls Try.prog 63 #[] w fun e w' => e = .returned (.agg opsTab) ∧ w' = w.alloc (.cells opsTab 82) := by
  go_enter Try.func63, Try.ntmps63
  go_wp2_with (refine wpList_store_row rfl 82 _ _ rfl w.heap.size opsTab rfl rfl 82 _ (heap_alloc_new w _) (by kernel_rfl) (by kernel_rfl) (by kernel_rfl) ?_)
  rw [World.setRow_alloc_new]
  exact bodyPost_ret (v := .agg opsTab) (results_cell_row Try.results63 _ _ w.heap.size 82 opsTab (0, 0) _ rfl (heap_alloc_new w _) Try.underlying82 rfl (by kernel_rfl)) rfl ⟨rfl, rfl⟩
end Go.Proofs.Ytmnlhienhfmhdaa.W
