import Derived.Test.YtdplfflkmphpbaaGreatDoorT08
import Derived.Great.Walk
set_option linter.unusedVariables false
set_option linter.unusedSimpArgs false
namespace Go.Proofs.YtdplfflkmphpbaaGreatDoor.Pl
def kyTab : Array Value := (kyB.map fun r => Value.string ⟨r.toArray⟩).toArray
def sgTab : Array Value := (sgB.map fun r => Value.string ⟨r.toArray⟩).toArray
theorem tab_at (rs : List (List UInt8)) (k : Nat) (h : k < rs.length) : ((rs.map fun r => Value.string ⟨r.toArray⟩).toArray)[k]? = some (.string ⟨(rs.getD k []).toArray⟩) := by
  rw [List.getElem?_toArray, List.getElem?_map, List.getD_eq_getElem?_getD, List.getElem?_eq_getElem h]
  rfl
theorem any_yes {rs : List (List UInt8)} {s : ByteArray} {k : Nat} (hk : k < rs.length) (h : rs.getD k [] = s.toList) : (rs.any fun r => s.toList == r) = true := by
  rw [List.any_eq_true]
  refine ⟨rs.getD k [], ?_, by rw [h]; exact beq_self_eq_true _⟩
  rw [List.getD_eq_getElem?_getD, List.getElem?_eq_getElem hk]
  exact List.getElem_mem _
theorem any_no {rs : List (List UInt8)} {s : ByteArray} (h : ∀ k, k < rs.length → rs.getD k [] ≠ s.toList) : (rs.any fun r => s.toList == r) = false := by
  rw [List.any_eq_false]
  intro x hx
  obtain ⟨k, hk, rfl⟩ := List.mem_iff_getElem.1 hx
  have := h k hk
  rw [List.getD_eq_getElem?_getD, List.getElem?_eq_getElem hk] at this
  intro q
  exact this (eq_of_beq q).symm
theorem mk_toList (r : List UInt8) : (⟨r.toArray⟩ : ByteArray).toList = r := by rw [ByteArray.toList_eq]
end Go.Proofs.YtdplfflkmphpbaaGreatDoor.Pl
namespace Go.Proofs.YtdplfflkmphpbaaGreatDoor.W
open Go.RowKit
theorem l5Keys_is (w : World) : Calls Tryz.prog 44 #[] w fun e w' => e = .returned (.slice (some ⟨w.heap.size, 0, none⟩) 23 23) ∧ w' = w.alloc (.cells Pl.kyTab 9) := by
  go_enter Tryz.func44, Tryz.ntmps44
  go_wp2_with (refine Great.wpList_buildSliceTo rfl 59 9 23 _ rfl w.heap.size rfl _ rfl Tryz.underlying59 Pl.kyTab (by kernel_rfl) ?_)
  go_ret
  exact ⟨rfl, rfl⟩
theorem l5Signs_is (w : World) : Calls Tryz.prog 47 #[] w fun e w' => e = .returned (.slice (some ⟨w.heap.size, 0, none⟩) 45 45) ∧ w' = w.alloc (.cells Pl.sgTab 9) := by
  go_enter Tryz.func47, Tryz.ntmps47
  go_wp2_with (refine Great.wpList_buildSliceTo rfl 59 9 45 _ rfl w.heap.size rfl _ rfl Tryz.underlying59 Pl.sgTab (by kernel_rfl) ?_)
  go_ret
  exact ⟨rfl, rfl⟩
set_option maxHeartbeats 2000000 in
theorem l5In_tab (rs : List (List UInt8)) (g n : Nat) (hn : rs.length = n) (hn2 : n ≤ 100) (t : ByteArray) (w : World) (h : ∀ k, k < n → w.cell? ⟨g, k, none⟩ = some (.string ⟨(rs.getD k []).toArray⟩)) :
    Calls Tryz.prog 43 #[.slice (some ⟨g, 0, none⟩) n n, .string t] w fun e w' => e = .returned (.bool (rs.any fun r => t.toList == r)) ∧ w' = w := by
  have H : Hid (∀ k, k < n → w.cell? ⟨g, k, none⟩ = some (.string ⟨(rs.getD k []).toArray⟩)) := h
  have HN : Hid (rs.length = n) := hn
  clear h hn
  go_enter Tryz.func43, Tryz.ntmps43
  go_wp2_with fail
  go_loop [5] (fun i => ∃ k : Nat, k ≤ n ∧ i = .int .i64 k ∧ (∀ j, j < k → rs.getD j [] ≠ t.toList)) (fun i => n - (intOf i).toNat)
  case atStart => exact ⟨0, Nat.zero_le _, rfl, fun j hj => absurd hj (Nat.not_lt_zero _)⟩
  case round =>
    obtain ⟨k, hk, rfl, hall⟩ := hrel
    have HA : Hid (∀ j, j < k → rs.getD j [] ≠ t.toList) := hall
    clear hall
    by_cases hlt : k < n
    · have hc := H.out k hlt
      obtain ⟨x, hx⟩ : ∃ x : ByteArray, x = ⟨(rs.getD k []).toArray⟩ := ⟨_, rfl⟩
      rw [← hx] at hc
      have HX : Hid (x.toList = rs.getD k []) := by rw [hx]; exact Pl.mk_toList _
      clear hx
      have hi : (k : Int) < (n : Int) := by omega
      cases he : (x.toList == t.toList)
      · go_wp2_with fail
        go_round
        case rel => exact ⟨k + 1, by omega, by go_num, fun j hj => by
          by_cases e : j = k
          · rw [e, ← HX.out]; exact ne_of_beq_false he
          · exact HA.out j (by omega)⟩
        case measure => simp [intOf]; omega
      · go_wp2_with fail
        go_ret
        exact ⟨ret_bool (Pl.any_yes (k := k) (by rw [HN.out]; exact hlt) (by rw [← HX.out]; exact eq_of_beq he)).symm, rfl⟩
    · have hke : k = n := by omega
      have hi : ¬ ((k : Int) < (n : Int)) := by omega
      have HF : Hid ((rs.any fun r => t.toList == r) = false) := Pl.any_no (fun j hj => HA.out j (by rw [HN.out] at hj; omega))
      clear hke
      go_wp2
      go_ret
      exact ⟨ret_bool HF.out.symm, rfl⟩
theorem l5In_keys (t : ByteArray) (u : World) : Calls Tryz.prog 43 #[.slice (some ⟨u.heap.size, 0, none⟩) 23 23, .string t] (u.alloc (.cells Pl.kyTab 9)) fun e w' => e = .returned (.bool (Pl.isK t)) ∧ w' = u.alloc (.cells Pl.kyTab 9) :=
  l5In_tab Pl.kyB u.heap.size 23 rfl (by decide) t _ fun k hk => by
    rw [cell_of_row _ _ k Pl.kyTab 9 (0, 0) (heap_alloc_new u _)]
    exact Pl.tab_at Pl.kyB k hk
end Go.Proofs.YtdplfflkmphpbaaGreatDoor.W
