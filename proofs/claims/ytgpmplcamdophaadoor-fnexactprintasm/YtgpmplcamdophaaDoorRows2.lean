import Derived.Test.YtgpmplcamdophaaDoorTable
import Derived.Great.Walk
namespace Go.Proofs.YtgpmplcamdophaaDoor.Pl
def nm (k : Nat) : ByteArray := ⟨(rows.getD k ([], 0, [])).1.toArray⟩
def fm (k : Nat) : Int := (rows.getD k ([], 0, [])).2.1
def cc (k i : Nat) : Int := (rows.getD k ([], 0, [])).2.2.getD i 0
def rowV (k : Nat) : Array Value := #[.string (nm k), .int .i64 (fm k), .int .u8 (cc k 0), .int .u8 (cc k 1), .int .u8 (cc k 2), .int .u8 (cc k 3)]
def names : Array Value := (rows.map fun r => Value.string ⟨r.1.toArray⟩).toArray
theorem names_at (k : Nat) (h : k < 48) : names[k]? = some (.string (nm k)) := by
  unfold names nm
  have hl : rows.length = 48 := rfl
  rw [List.getElem?_toArray, List.getElem?_map, List.getD_eq_getElem?_getD, List.getElem?_eq_getElem (by omega)]
  rfl
end Go.Proofs.YtgpmplcamdophaaDoor.Pl
namespace Go.Proofs.YtgpmplcamdophaaDoor.W
open Go.RowKit
theorem tab_index (w : World) : ∀ k : Nat, k < 48 → (Instr.index 101 (.agg Pl.instTab) (.int .i64 (k : Int))).run Tryd.prog w = .ok (.agg (Pl.rowV k)) w
  | 0, _ => by kernel_rfl
  | 1, _ => by kernel_rfl
  | 2, _ => by kernel_rfl
  | 3, _ => by kernel_rfl
  | 4, _ => by kernel_rfl
  | 5, _ => by kernel_rfl
  | 6, _ => by kernel_rfl
  | 7, _ => by kernel_rfl
  | 8, _ => by kernel_rfl
  | 9, _ => by kernel_rfl
  | 10, _ => by kernel_rfl
  | 11, _ => by kernel_rfl
  | 12, _ => by kernel_rfl
  | 13, _ => by kernel_rfl
  | 14, _ => by kernel_rfl
  | 15, _ => by kernel_rfl
  | 16, _ => by kernel_rfl
  | 17, _ => by kernel_rfl
  | 18, _ => by kernel_rfl
  | 19, _ => by kernel_rfl
  | 20, _ => by kernel_rfl
  | 21, _ => by kernel_rfl
  | 22, _ => by kernel_rfl
  | 23, _ => by kernel_rfl
  | 24, _ => by kernel_rfl
  | 25, _ => by kernel_rfl
  | 26, _ => by kernel_rfl
  | 27, _ => by kernel_rfl
  | 28, _ => by kernel_rfl
  | 29, _ => by kernel_rfl
  | 30, _ => by kernel_rfl
  | 31, _ => by kernel_rfl
  | 32, _ => by kernel_rfl
  | 33, _ => by kernel_rfl
  | 34, _ => by kernel_rfl
  | 35, _ => by kernel_rfl
  | 36, _ => by kernel_rfl
  | 37, _ => by kernel_rfl
  | 38, _ => by kernel_rfl
  | 39, _ => by kernel_rfl
  | 40, _ => by kernel_rfl
  | 41, _ => by kernel_rfl
  | 42, _ => by kernel_rfl
  | 43, _ => by kernel_rfl
  | 44, _ => by kernel_rfl
  | 45, _ => by kernel_rfl
  | 46, _ => by kernel_rfl
  | 47, _ => by kernel_rfl
  | n + 48, h => absurd h (by omega)
theorem names_any (w : World) : Calls Tryd.prog 70 #[] w fun e w' => e = .returned (.slice (some ⟨w.heap.size, 0, none⟩) 48 48) ∧ w' = w.alloc (.cells Pl.names 9) := by
  go_enter Tryd.func70, Tryd.ntmps70
  go_wp2_with (refine Great.wpList_buildSliceTo rfl 58 9 48 _ rfl w.heap.size rfl _ rfl Tryd.underlying58 Pl.names (by kernel_rfl) ?_)
  go_ret
  exact ⟨rfl, rfl⟩
set_option maxHeartbeats 400000 in
theorem specOpName_yes (k : Nat) (h1 : 1 ≤ k) (h2 : k ≤ 47) (w : World) : Calls Tryd.prog 55 #[.int .i64 k] w fun e w' => e = .returned (.string (Pl.nm k)) ∧ Below w.heap.size w w' := by
  have hc : (w.alloc (.cells Pl.names 9)).cell? ⟨w.heap.size, k, none⟩ = some (.string (Pl.nm k)) := by
    rw [cell_of_row _ _ k Pl.names 9 (0, 0) (heap_alloc_new w _)]; exact Pl.names_at k (by omega)
  go_enter Tryd.func55, Tryd.ntmps55
  go_wp2_with (go_at_call 70; refine (names_any _).mono ?_; rintro e w' ⟨rfl, rfl⟩)
  go_ret
  exact ⟨rfl, (Below.refl _ _).alloc (Nat.le_refl _) _⟩
theorem specOpName_no (n : Int) (h : n < 1 ∨ 47 < n) (w : World) : Calls Tryd.prog 55 #[.int .i64 n] w fun e w' => e = .returned (.string ⟨#[]⟩) ∧ Below w.heap.size w w' := by
  rcases h with h | h
  · go_enter Tryd.func55, Tryd.ntmps55
    go_wp2
    go_ret
    exact ⟨rfl, Below.refl _ _⟩
  · have h' : ¬ n < 1 := by omega
    go_enter Tryd.func55, Tryd.ntmps55
    go_wp2
    go_ret
    exact ⟨rfl, Below.refl _ _⟩
set_option maxHeartbeats 400000 in
theorem rowOf_yes (k : Nat) (h1 : 1 ≤ k) (h2 : k ≤ 47) (w : World) : Calls Tryd.prog 58 #[.int .i64 k] w fun e w' => e = .returned (.tuple #[.agg (Pl.rowV k), .bool true]) ∧ Below w.heap.size w w' := by
  have hi := fun w => tab_index w k (by omega)
  unfold Pl.rowV at hi
  go_enter Tryd.func58, Tryd.ntmps58
  go_wp2_with (go_at_call 73; refine (instTable_any _).mono ?_; rintro e w' ⟨rfl, rfl⟩)
  exact bodyPost_ret (v := .tuple #[.agg (Pl.rowV k), .bool true]) (by simp [results, Tryd.results58, go_sem, Pl.rowV]) rfl ⟨rfl, ((Below.refl _ _).alloc (Nat.le_refl _) _).alloc (by simp) _⟩
def rowZ : Array Value := #[.string ⟨#[]⟩, .int .i64 0, .int .u8 0, .int .u8 0, .int .u8 0, .int .u8 0]
set_option maxHeartbeats 400000 in
theorem rowOf_no (n : Int) (h : n < 1 ∨ 47 < n) (w : World) : Calls Tryd.prog 58 #[.int .i64 n] w fun e w' => e = .returned (.tuple #[.agg rowZ, .bool false]) ∧ Below w.heap.size w w' := by
  rcases h with h | h
  · go_enter Tryd.func58, Tryd.ntmps58
    go_wp2
    exact bodyPost_ret (v := .tuple #[.agg rowZ, .bool false]) (by simp [results, Tryd.results58, go_sem, rowZ]) rfl ⟨rfl, (Below.refl _ _).alloc (Nat.le_refl _) _⟩
  · have h' : ¬ n < 1 := by omega
    go_enter Tryd.func58, Tryd.ntmps58
    go_wp2
    exact bodyPost_ret (v := .tuple #[.agg rowZ, .bool false]) (by simp [results, Tryd.results58, go_sem, rowZ]) rfl ⟨rfl, (Below.refl _ _).alloc (Nat.le_refl _) _⟩
/-- behind a callee that made memory alone: what was there reads as before -/
theorem bcell {W w1 : World} (hb : Below W.heap.size W w1) : (∀ b o, b < W.heap.size → w1.cell? ⟨b, o, none⟩ = W.cell? ⟨b, o, none⟩) ∧ (∀ b o, b < W.heap.size → w1.frozen? ⟨b, o, none⟩ = W.frozen? ⟨b, o, none⟩) :=
  ⟨fun b o h => hb.cell (p := ⟨b, o, none⟩) h, fun b o h => hb.frozen (p := ⟨b, o, none⟩) h⟩
set_option maxHeartbeats 400000 in
theorem implOpName_yes (k : Nat) (h1 : 1 ≤ k) (h2 : k ≤ 47) (w : World) : Calls Tryd.prog 65 #[.int .i64 k] w fun e w' => e = .returned (.string (Pl.nm k)) ∧ Below w.heap.size w w' := by
  go_enter Tryd.func65, Tryd.ntmps65
  go_wp2_with (go_at_call 58; refine (rowOf_yes k h1 h2 _).mono ?_; rintro e w' ⟨rfl, hb⟩; unfold Pl.rowV)
  go_ret
  exact ⟨rfl, hb.alloc hb.size _⟩
set_option maxHeartbeats 400000 in
theorem implOpName_no (n : Int) (h : n < 1 ∨ 47 < n) (w : World) : Calls Tryd.prog 65 #[.int .i64 n] w fun e w' => e = .returned (.string ⟨#[]⟩) ∧ Below w.heap.size w w' := by
  go_enter Tryd.func65, Tryd.ntmps65
  go_wp2_with (go_at_call 58; refine (rowOf_no n h _).mono ?_; rintro e w' ⟨rfl, hb⟩; unfold rowZ)
  go_ret
  exact ⟨rfl, hb.alloc hb.size _⟩
end Go.Proofs.YtgpmplcamdophaaDoor.W
