import Derived.Test.YtafcnijfoejboaaGreatDoorV02
import Derived.Deep.RegionWith
import Derived.Great.Walk
import Derived.Test.YtafcnijfoejboaaGreatDoorV09
import Derived.Lib.ConvBytes
set_option linter.unusedVariables false
set_option linter.unusedSimpArgs false
namespace Go.Proofs.YtafcnijfoejboaaGreatDoor.W
open Go.RowKit
def TMid (g len k : Nat) (wr : World) (xs : List Pl.Ty) : Prop := ∀ i, i < len → ∃ v s : SV, (∀ j, j < 4 → wr.cell? ⟨g, i * 4 + j, none⟩ = ((if i < k then xs.getD i Pl.Ty.zero else Pl.Ty.zero).cells v s)[j]?) ∧ Row .i64 (g + 1) wr v.a v.len v.cap (if i < k then xs.getD i Pl.Ty.zero else Pl.Ty.zero).of ∧ SRow (g + 1) wr s.a s.len s.cap (if i < k then xs.getD i Pl.Ty.zero else Pl.Ty.zero).names
theorem TMid.keep {g len k : Nat} {w w' : World} {xs : List Pl.Ty} (h : TMid g len k w xs) (hg : g < w.heap.size) (hb : Below w.heap.size w w') : TMid g len k w' xs := fun i hi => by
  obtain ⟨v, s, h1, h2, h3⟩ := h i hi
  exact ⟨v, s, fun j hj => (hb.cell (p := ⟨g, i * 4 + j, none⟩) hg).trans (h1 j hj), h2.keep hb, h3.keep hb⟩
theorem TMid.some {g len k : Nat} {w : World} {xs : List Pl.Ty} (h : TMid g len k w xs) {i : Nat} (hi : i < len) : ∀ j, j < 4 → (w.cell? ⟨g, i * 4 + j, none⟩).isSome = true := fun j hj => by
  obtain ⟨v, s, h1, _⟩ := h i hi
  rw [h1 j hj]
  rcases (show j = 0 ∨ j = 1 ∨ j = 2 ∨ j = 3 by omega) with rfl | rfl | rfl | rfl <;> rfl
theorem TMid.put {g len k : Nat} {w : World} {xs : List Pl.Ty} (h : TMid g len k w xs) (hk : k < len) (v s : SV) (hr : Row .i64 (g + 1) w v.a v.len v.cap (xs.getD k Pl.Ty.zero).of) (hs : SRow (g + 1) w s.a s.len s.cap (xs.getD k Pl.Ty.zero).names) : TMid g len (k + 1) (set4 w g (k * 4) (xs.getD k Pl.Ty.zero) v s) xs := fun i hi => by
  by_cases e : i = k
  · subst e
    rw [if_pos (Nat.lt_succ_self _)]
    exact ⟨v, s, fun j hj => set4_in _ _ _ (h.some hk) j hj, set4_row hr (Nat.lt_succ_self _) _ _ _ _, set4_srow hs (Nat.lt_succ_self _) _ _ _ _⟩
  · obtain ⟨v', s', h1, h2, h3⟩ := h i hi
    have e1 : (if i < k + 1 then xs.getD i Pl.Ty.zero else Pl.Ty.zero) = (if i < k then xs.getD i Pl.Ty.zero else Pl.Ty.zero) := by
      by_cases e' : i < k
      · rw [if_pos e', if_pos (by omega)]
      · rw [if_neg e', if_neg (by omega)]
    rw [e1]
    exact ⟨v', s', fun j hj => (set4_out _ _ _ (by omega)).trans (h1 j hj), set4_row h2 (Nat.lt_succ_self _) _ _ _ _, set4_srow h3 (Nat.lt_succ_self _) _ _ _ _⟩
end Go.Proofs.YtafcnijfoejboaaGreatDoor.W
namespace Go.Proofs.YtafcnijfoejboaaGreatDoor.W
open Go.RowKit
end Go.Proofs.YtafcnijfoejboaaGreatDoor.W
namespace Go.Proofs.YtafcnijfoejboaaGreatDoor.Pl
def within (a b c : Int) : Bool := decide (b ≤ a ∧ a ≤ c)
def scal (k : Int) : Bool := decide (2 ≤ k ∧ k ≤ 8)
def tagd (k : Int) : Bool := decide (k = 10 ∨ k = 11)
def Ty.whole (x : Ty) : Bool := scal x.k || (decide (x.k = 9) && decide (0 < x.n)) || (tagd x.k && decide (0 < x.of.length))
structure TRule where
  lowN : Int
  highN : Int
  least : Int
  most : Int
  names : Bool
def TRule.cells (r : TRule) : Array Value := #[.int .i64 r.lowN, .int .i64 r.highN, .int .i64 r.least, .int .i64 r.most, .bool r.names]
def tRule (k : Int) : Option TRule :=
  if 1 ≤ k ∧ k ≤ 7 then some ⟨0, 0, 0, 0, false⟩
  else if k = 8 then some ⟨0, 0, 1, 1, false⟩
  else if k = 9 then some ⟨1, 60000, 1, 1, false⟩
  else if k = 10 ∨ k = 11 then some ⟨0, 0, 0, 100, true⟩
  else if k = 12 then some ⟨0, 0, 1, 9, false⟩
  else none
end Go.Proofs.YtafcnijfoejboaaGreatDoor.Pl
namespace Go.Proofs.YtafcnijfoejboaaGreatDoor.W
open Go.RowKit
theorem isWithin_any (a b c : Int) (w : World) : Calls Tryz.prog 48 #[.int .i64 a, .int .i64 b, .int .i64 c] w fun e w' => e = .returned (.bool (Pl.within a b c)) ∧ w' = w := by
  go_enter Tryz.func48, Tryz.ntmps48
  go_wp2
  all_goals (go_ret; refine ⟨ret_bool ?_, rfl⟩; rw [Bool.eq_iff_iff]; simp [Pl.within] <;> omega)
theorem isScalar_any (k : Int) (w : World) : Calls Tryz.prog 68 #[.int .i64 k] w fun e w' => e = .returned (.bool (Pl.scal k)) ∧ w' = w := by
  go_enter Tryz.func68, Tryz.ntmps68
  go_wp2_with (go_at_call 48; refine (isWithin_any _ _ _ _).mono ?_; rintro e u1 ⟨rfl, rfl⟩)
  go_ret
  exact ⟨rfl, rfl⟩
theorem isRecord_any (k : Int) (w : World) : Calls Tryz.prog 51 #[.int .i64 k] w fun e w' => e = .returned (.bool (Pl.tagd k)) ∧ w' = w := by
  go_enter Tryz.func51, Tryz.ntmps51
  go_wp2
  all_goals (go_ret; refine ⟨ret_bool ?_, rfl⟩; rw [Bool.eq_iff_iff]; simp [Pl.tagd] <;> omega)
theorem l7Scalar_any (k : Int) (w : World) : Calls Tryz.prog 43 #[.int .i64 k] w fun e w' => e = .returned (.bool (Pl.scal k)) ∧ w' = w := by
  go_enter Tryz.func43, Tryz.ntmps43
  go_wp2
  all_goals (go_ret; refine ⟨ret_bool ?_, rfl⟩; rw [Bool.eq_iff_iff]; simp [Pl.scal] <;> omega)
theorem l7Tagged_any (k : Int) (w : World) : Calls Tryz.prog 31 #[.int .i64 k] w fun e w' => e = .returned (.bool (Pl.tagd k)) ∧ w' = w := by
  go_enter Tryz.func31, Tryz.ntmps31
  go_wp2
  all_goals (go_ret; refine ⟨ret_bool ?_, rfl⟩; rw [Bool.eq_iff_iff]; simp [Pl.tagd] <;> omega)
set_option maxHeartbeats 2000000 in
theorem isComplete_any (x : Pl.Ty) (v s : SV) (hv : x.of.length = v.len) (w : World) : Calls Tryz.prog 65 #[.agg #[.int .i64 x.k, .int .i64 x.n, .slice v.a v.len v.cap, .slice s.a s.len s.cap]] w fun e w' => e = .returned (.bool x.whole) ∧ Below w.heap.size w w' := by
  cases hs : Pl.scal x.k
  · have hn : ¬ (2 ≤ x.k ∧ x.k ≤ 8) := by simpa [Pl.scal] using hs
    cases ht : Pl.tagd x.k
    · have hn2 : ¬ (x.k = 10 ∨ x.k = 11) := by simpa [Pl.tagd] using ht
      by_cases h9 : x.k = 9
      · obtain ⟨k, n, zs, nms⟩ := x
        simp only at h9 hs ht hn hn2 hv
        subst h9
        by_cases hp : 0 < n
        · go_enter Tryz.func65, Tryz.ntmps65
          go_wp2_with (first | (go_at_call 68; refine (isScalar_any _ _).mono ?_; rintro e u1 ⟨rfl, rfl⟩; rw [hs]) | (go_at_call 51; refine (isRecord_any _ _).mono ?_; rintro e u1 ⟨rfl, rfl⟩; rw [ht]))
          go_ret; exact ⟨ret_bool (by simp [Pl.Ty.whole, hs, ht, hp]), below_alloc _ _⟩
        · go_enter Tryz.func65, Tryz.ntmps65
          go_wp2_with (first | (go_at_call 68; refine (isScalar_any _ _).mono ?_; rintro e u1 ⟨rfl, rfl⟩; rw [hs]) | (go_at_call 51; refine (isRecord_any _ _).mono ?_; rintro e u1 ⟨rfl, rfl⟩; rw [ht]))
          go_ret; exact ⟨ret_bool (by first | (simp [Pl.Ty.whole, hs, ht]; done) | (simp [Pl.Ty.whole, hs, ht]; omega)), below_alloc _ _⟩
      · go_enter Tryz.func65, Tryz.ntmps65
        go_wp2_with (first | (go_at_call 68; refine (isScalar_any _ _).mono ?_; rintro e u1 ⟨rfl, rfl⟩; rw [hs]) | (go_at_call 51; refine (isRecord_any _ _).mono ?_; rintro e u1 ⟨rfl, rfl⟩; rw [ht]))
        go_ret; exact ⟨ret_bool (by simp [Pl.Ty.whole, hs, ht, h9]), below_alloc _ _⟩
    · have hn2 : x.k = 10 ∨ x.k = 11 := by simpa [Pl.tagd] using ht
      have h9 : ¬ (x.k = 9) := by omega
      go_enter Tryz.func65, Tryz.ntmps65
      go_wp2_with (first | (go_at_call 68; refine (isScalar_any _ _).mono ?_; rintro e u1 ⟨rfl, rfl⟩; rw [hs]) | (go_at_call 51; refine (isRecord_any _ _).mono ?_; rintro e u1 ⟨rfl, rfl⟩; rw [ht]))
      all_goals (go_ret; refine ⟨ret_bool ?_, below_alloc _ _⟩; rw [Bool.eq_iff_iff]; simp [Pl.Ty.whole, hs, ht, h9, hv] <;> omega)
  · have hn : 2 ≤ x.k ∧ x.k ≤ 8 := by simpa [Pl.scal] using hs
    go_enter Tryz.func65, Tryz.ntmps65
    go_wp2_with (go_at_call 68; refine (isScalar_any _ _).mono ?_; rintro e u1 ⟨rfl, rfl⟩; rw [hs])
    all_goals (go_ret; refine ⟨ret_bool ?_, below_alloc _ _⟩; simp [Pl.Ty.whole, hs])
end Go.Proofs.YtafcnijfoejboaaGreatDoor.W
namespace Go.Proofs.YtafcnijfoejboaaGreatDoor.W
open Go.RowKit
set_option maxHeartbeats 1000000 in
theorem tyrule_1 (w : World) : Calls Tryz.prog 47 #[.int .i64 1] w fun e w' => e = .returned (.tuple #[.agg #[.int .i64 0, .int .i64 0, .int .i64 0, .int .i64 0, .bool false], .bool true]) ∧ Below w.heap.size w w' := by
  go_enter Tryz.func47, Tryz.ntmps47
  go_wp2
  exact bodyPost_ret (v := .tuple #[.agg #[.int .i64 0, .int .i64 0, .int .i64 0, .int .i64 0, .bool false], .bool true]) (by simp [results, Tryz.results47, go_sem]) rfl ⟨rfl, (by repeat (first | with_reducible exact Below.refl _ _ | refine Below.setCell ?_ (by simp <;> omega) _ | refine Below.alloc ?_ (by simp <;> omega) _))⟩
set_option maxHeartbeats 1000000 in
theorem tyrule_2 (w : World) : Calls Tryz.prog 47 #[.int .i64 2] w fun e w' => e = .returned (.tuple #[.agg #[.int .i64 0, .int .i64 0, .int .i64 0, .int .i64 0, .bool false], .bool true]) ∧ Below w.heap.size w w' := by
  go_enter Tryz.func47, Tryz.ntmps47
  go_wp2
  exact bodyPost_ret (v := .tuple #[.agg #[.int .i64 0, .int .i64 0, .int .i64 0, .int .i64 0, .bool false], .bool true]) (by simp [results, Tryz.results47, go_sem]) rfl ⟨rfl, (by repeat (first | with_reducible exact Below.refl _ _ | refine Below.setCell ?_ (by simp <;> omega) _ | refine Below.alloc ?_ (by simp <;> omega) _))⟩
set_option maxHeartbeats 1000000 in
theorem tyrule_3 (w : World) : Calls Tryz.prog 47 #[.int .i64 3] w fun e w' => e = .returned (.tuple #[.agg #[.int .i64 0, .int .i64 0, .int .i64 0, .int .i64 0, .bool false], .bool true]) ∧ Below w.heap.size w w' := by
  go_enter Tryz.func47, Tryz.ntmps47
  go_wp2
  exact bodyPost_ret (v := .tuple #[.agg #[.int .i64 0, .int .i64 0, .int .i64 0, .int .i64 0, .bool false], .bool true]) (by simp [results, Tryz.results47, go_sem]) rfl ⟨rfl, (by repeat (first | with_reducible exact Below.refl _ _ | refine Below.setCell ?_ (by simp <;> omega) _ | refine Below.alloc ?_ (by simp <;> omega) _))⟩
set_option maxHeartbeats 1000000 in
theorem tyrule_4 (w : World) : Calls Tryz.prog 47 #[.int .i64 4] w fun e w' => e = .returned (.tuple #[.agg #[.int .i64 0, .int .i64 0, .int .i64 0, .int .i64 0, .bool false], .bool true]) ∧ Below w.heap.size w w' := by
  go_enter Tryz.func47, Tryz.ntmps47
  go_wp2
  exact bodyPost_ret (v := .tuple #[.agg #[.int .i64 0, .int .i64 0, .int .i64 0, .int .i64 0, .bool false], .bool true]) (by simp [results, Tryz.results47, go_sem]) rfl ⟨rfl, (by repeat (first | with_reducible exact Below.refl _ _ | refine Below.setCell ?_ (by simp <;> omega) _ | refine Below.alloc ?_ (by simp <;> omega) _))⟩
set_option maxHeartbeats 1000000 in
theorem tyrule_5 (w : World) : Calls Tryz.prog 47 #[.int .i64 5] w fun e w' => e = .returned (.tuple #[.agg #[.int .i64 0, .int .i64 0, .int .i64 0, .int .i64 0, .bool false], .bool true]) ∧ Below w.heap.size w w' := by
  go_enter Tryz.func47, Tryz.ntmps47
  go_wp2
  exact bodyPost_ret (v := .tuple #[.agg #[.int .i64 0, .int .i64 0, .int .i64 0, .int .i64 0, .bool false], .bool true]) (by simp [results, Tryz.results47, go_sem]) rfl ⟨rfl, (by repeat (first | with_reducible exact Below.refl _ _ | refine Below.setCell ?_ (by simp <;> omega) _ | refine Below.alloc ?_ (by simp <;> omega) _))⟩
set_option maxHeartbeats 1000000 in
theorem tyrule_6 (w : World) : Calls Tryz.prog 47 #[.int .i64 6] w fun e w' => e = .returned (.tuple #[.agg #[.int .i64 0, .int .i64 0, .int .i64 0, .int .i64 0, .bool false], .bool true]) ∧ Below w.heap.size w w' := by
  go_enter Tryz.func47, Tryz.ntmps47
  go_wp2
  exact bodyPost_ret (v := .tuple #[.agg #[.int .i64 0, .int .i64 0, .int .i64 0, .int .i64 0, .bool false], .bool true]) (by simp [results, Tryz.results47, go_sem]) rfl ⟨rfl, (by repeat (first | with_reducible exact Below.refl _ _ | refine Below.setCell ?_ (by simp <;> omega) _ | refine Below.alloc ?_ (by simp <;> omega) _))⟩
set_option maxHeartbeats 1000000 in
theorem tyrule_7 (w : World) : Calls Tryz.prog 47 #[.int .i64 7] w fun e w' => e = .returned (.tuple #[.agg #[.int .i64 0, .int .i64 0, .int .i64 0, .int .i64 0, .bool false], .bool true]) ∧ Below w.heap.size w w' := by
  go_enter Tryz.func47, Tryz.ntmps47
  go_wp2
  exact bodyPost_ret (v := .tuple #[.agg #[.int .i64 0, .int .i64 0, .int .i64 0, .int .i64 0, .bool false], .bool true]) (by simp [results, Tryz.results47, go_sem]) rfl ⟨rfl, (by repeat (first | with_reducible exact Below.refl _ _ | refine Below.setCell ?_ (by simp <;> omega) _ | refine Below.alloc ?_ (by simp <;> omega) _))⟩
set_option maxHeartbeats 1000000 in
theorem tyrule_8 (w : World) : Calls Tryz.prog 47 #[.int .i64 8] w fun e w' => e = .returned (.tuple #[.agg #[.int .i64 0, .int .i64 0, .int .i64 1, .int .i64 1, .bool false], .bool true]) ∧ Below w.heap.size w w' := by
  go_enter Tryz.func47, Tryz.ntmps47
  go_wp2
  exact bodyPost_ret (v := .tuple #[.agg #[.int .i64 0, .int .i64 0, .int .i64 1, .int .i64 1, .bool false], .bool true]) (by simp [results, Tryz.results47, go_sem]) rfl ⟨rfl, (by repeat (first | with_reducible exact Below.refl _ _ | refine Below.setCell ?_ (by simp <;> omega) _ | refine Below.alloc ?_ (by simp <;> omega) _))⟩
set_option maxHeartbeats 1000000 in
theorem tyrule_9 (w : World) : Calls Tryz.prog 47 #[.int .i64 9] w fun e w' => e = .returned (.tuple #[.agg #[.int .i64 1, .int .i64 60000, .int .i64 1, .int .i64 1, .bool false], .bool true]) ∧ Below w.heap.size w w' := by
  go_enter Tryz.func47, Tryz.ntmps47
  go_wp2
  exact bodyPost_ret (v := .tuple #[.agg #[.int .i64 1, .int .i64 60000, .int .i64 1, .int .i64 1, .bool false], .bool true]) (by simp [results, Tryz.results47, go_sem]) rfl ⟨rfl, (by repeat (first | with_reducible exact Below.refl _ _ | refine Below.setCell ?_ (by simp <;> omega) _ | refine Below.alloc ?_ (by simp <;> omega) _))⟩
set_option maxHeartbeats 1000000 in
theorem tyrule_10 (w : World) : Calls Tryz.prog 47 #[.int .i64 10] w fun e w' => e = .returned (.tuple #[.agg #[.int .i64 0, .int .i64 0, .int .i64 0, .int .i64 100, .bool true], .bool true]) ∧ Below w.heap.size w w' := by
  go_enter Tryz.func47, Tryz.ntmps47
  go_wp2
  exact bodyPost_ret (v := .tuple #[.agg #[.int .i64 0, .int .i64 0, .int .i64 0, .int .i64 100, .bool true], .bool true]) (by simp [results, Tryz.results47, go_sem]) rfl ⟨rfl, (by repeat (first | with_reducible exact Below.refl _ _ | refine Below.setCell ?_ (by simp <;> omega) _ | refine Below.alloc ?_ (by simp <;> omega) _))⟩
set_option maxHeartbeats 1000000 in
theorem tyrule_11 (w : World) : Calls Tryz.prog 47 #[.int .i64 11] w fun e w' => e = .returned (.tuple #[.agg #[.int .i64 0, .int .i64 0, .int .i64 0, .int .i64 100, .bool true], .bool true]) ∧ Below w.heap.size w w' := by
  go_enter Tryz.func47, Tryz.ntmps47
  go_wp2
  exact bodyPost_ret (v := .tuple #[.agg #[.int .i64 0, .int .i64 0, .int .i64 0, .int .i64 100, .bool true], .bool true]) (by simp [results, Tryz.results47, go_sem]) rfl ⟨rfl, (by repeat (first | with_reducible exact Below.refl _ _ | refine Below.setCell ?_ (by simp <;> omega) _ | refine Below.alloc ?_ (by simp <;> omega) _))⟩
set_option maxHeartbeats 1000000 in
theorem tyrule_12 (w : World) : Calls Tryz.prog 47 #[.int .i64 12] w fun e w' => e = .returned (.tuple #[.agg #[.int .i64 0, .int .i64 0, .int .i64 1, .int .i64 9, .bool false], .bool true]) ∧ Below w.heap.size w w' := by
  go_enter Tryz.func47, Tryz.ntmps47
  go_wp2
  exact bodyPost_ret (v := .tuple #[.agg #[.int .i64 0, .int .i64 0, .int .i64 1, .int .i64 9, .bool false], .bool true]) (by simp [results, Tryz.results47, go_sem]) rfl ⟨rfl, (by repeat (first | with_reducible exact Below.refl _ _ | refine Below.setCell ?_ (by simp <;> omega) _ | refine Below.alloc ?_ (by simp <;> omega) _))⟩
set_option maxHeartbeats 1000000 in
theorem tyrule_no (k : Int) (h : k < 1 ∨ 12 < k) (w : World) : Calls Tryz.prog 47 #[.int .i64 k] w fun e w' => e = .returned (.tuple #[.agg #[.int .i64 0, .int .i64 0, .int .i64 0, .int .i64 0, .bool false], .bool false]) ∧ Below w.heap.size w w' := by
  have n1 : ¬ (k = 1) := by omega
  have n2 : ¬ (k = 2) := by omega
  have n3 : ¬ (k = 3) := by omega
  have n4 : ¬ (k = 4) := by omega
  have n5 : ¬ (k = 5) := by omega
  have n6 : ¬ (k = 6) := by omega
  have n7 : ¬ (k = 7) := by omega
  have n8 : ¬ (k = 8) := by omega
  have n9 : ¬ (k = 9) := by omega
  have n10 : ¬ (k = 10) := by omega
  have n11 : ¬ (k = 11) := by omega
  have n12 : ¬ (k = 12) := by omega
  clear h
  go_enter Tryz.func47, Tryz.ntmps47
  go_wp2
  exact bodyPost_ret (v := .tuple #[.agg #[.int .i64 0, .int .i64 0, .int .i64 0, .int .i64 0, .bool false], .bool false]) (by simp [results, Tryz.results47, go_sem]) rfl ⟨rfl, (by repeat (first | with_reducible exact Below.refl _ _ | refine Below.setCell ?_ (by simp <;> omega) _ | refine Below.alloc ?_ (by simp <;> omega) _))⟩
theorem ruleOfKind_any (k : Int) (w : World) : Calls Tryz.prog 47 #[.int .i64 k] w fun e w' => e = .returned (.tuple #[.agg ((Pl.tRule k).getD ⟨0, 0, 0, 0, false⟩).cells, .bool (Pl.tRule k).isSome]) ∧ Below w.heap.size w w' := by
  by_cases h : k < 1 ∨ 12 < k
  · have e : Pl.tRule k = none := by
      unfold Pl.tRule
      rw [if_neg (by omega), if_neg (by omega), if_neg (by omega), if_neg (by omega), if_neg (by omega)]
    rw [e]
    exact tyrule_no k h w
  · rcases (show k = 1 ∨ k = 2 ∨ k = 3 ∨ k = 4 ∨ k = 5 ∨ k = 6 ∨ k = 7 ∨ k = 8 ∨ k = 9 ∨ k = 10 ∨ k = 11 ∨ k = 12 by omega) with rfl | rfl | rfl | rfl | rfl | rfl | rfl | rfl | rfl | rfl | rfl | rfl
    · exact tyrule_1 w
    · exact tyrule_2 w
    · exact tyrule_3 w
    · exact tyrule_4 w
    · exact tyrule_5 w
    · exact tyrule_6 w
    · exact tyrule_7 w
    · exact tyrule_8 w
    · exact tyrule_9 w
    · exact tyrule_10 w
    · exact tyrule_11 w
    · exact tyrule_12 w
end Go.Proofs.YtafcnijfoejboaaGreatDoor.W
namespace Go.Proofs.YtafcnijfoejboaaGreatDoor.Pl
def ofAt (xs : List Ty) (i p : Nat) : Int := (xs.getD i Ty.zero).of.getD p 0
def fitP (k : Int) (i p : Nat) (z : Int) (y : Ty) : Bool :=
  if k = 8 then decide (z < i) || tagd y.k
  else if k = 9 then decide (z < i) && y.whole
  else if k = 12 then decide (z < i) && (scal y.k || (decide (p = 0) && decide (y.k = 1)))
  else y.whole
def fitPart (xs : List Ty) (i p : Nat) : Bool :=
  within (ofAt xs i p) 0 ((xs.length : Int) - 1) && fitP (xs.getD i Ty.zero).k i p (ofAt xs i p) (xs.getD (ofAt xs i p).toNat Ty.zero)
end Go.Proofs.YtafcnijfoejboaaGreatDoor.Pl
namespace Go.Proofs.YtafcnijfoejboaaGreatDoor.W
open Go.RowKit
set_option maxRecDepth 8000 in
set_option maxHeartbeats 4000000 in
theorem isFitPart_any {lo : Nat} (a : Option Addr) (len cap : Nat) (xs : List Pl.Ty) (i p : Nat) (hi : i < len) (hp : p < (xs.getD i Pl.Ty.zero).of.length) (w : World) (h : TRow lo w a len cap xs) :
    Calls Tryz.prog 49 #[.slice a len cap, .int .i64 i, .int .i64 p] w fun e w' => e = .returned (.bool (Pl.fitPart xs i p)) ∧ Below w.heap.size w w' := by
  have hm : (len : Int) ≤ 9223372036854775807 := by have := h.small; omega
  have hxl : xs.length = len := h.1
  have HR : Hid (TRow lo w a len cap xs) := h
  obtain ⟨b, off, v, s, rfl, hlo, hb1, hc, hrow, hs⟩ := h.at hi
  obtain ⟨va, vl, vc⟩ := v
  have hvl : vl ≤ 9223372036854775807 := hrow.small
  obtain ⟨hl1, _, _, _, hr1⟩ := hrow
  simp only at hl1 hr1 hvl
  have hpl : p < vl := by omega
  obtain ⟨b2, o2, rfl, _, hb2, hcp⟩ := hr1.resolve_left (by omega)
  have cz := hcp p hpl
  obtain ⟨z, hz⟩ : ∃ z, z = Pl.ofAt xs i p := ⟨_, rfl⟩
  have cz' : w.cell? ⟨b2, o2 + p, none⟩ = some (.int .i64 z) := by rw [hz]; exact cz
  obtain ⟨k, hk⟩ : ∃ k, k = (xs.getD i Pl.Ty.zero).k := ⟨_, rfl⟩
  obtain ⟨c0, _, c2, _⟩ := ty_cells hc
  rw [← hk] at c0
  have hii : (i : Int) < (len : Int) := by omega
  have hpp : (p : Int) < (vl : Int) := by omega
  have E : Pl.fitPart xs i p = (Pl.within z 0 ((len : Int) - 1) && Pl.fitP k i p z (xs.getD z.toNat Pl.Ty.zero)) := by unfold Pl.fitPart; rw [hz, hk, hxl]
  rw [E]
  clear E hk hz hc hs hl1 hr1 cz hcp hp
  cases hw : Pl.within z 0 ((len : Int) - 1)
  · go_enter Tryz.func49, Tryz.ntmps49
    go_wp2_with (go_at_call 48; refine (isWithin_any _ _ _ _).mono ?_; rintro e u1 ⟨rfl, rfl⟩; rw [hw])
    go_ret
    exact ⟨rfl, Below.refl _ _⟩
  have hz2 : 0 ≤ z ∧ z ≤ (len : Int) - 1 := by simpa [Pl.within] using hw
  obtain ⟨j, rfl⟩ : ∃ j : Nat, z = j := ⟨z.toNat, by omega⟩
  have hj : j < len := by omega
  have hjj : (j : Int) < (len : Int) := by omega
  obtain ⟨b', off', v2, s2, e, _, _, hc', hrow', hs'⟩ := HR.out.at hj
  injection e with e
  injection e with e1 e2 _
  subst e1
  subst e2
  rw [Int.toNat_natCast, Bool.true_and]
  obtain ⟨y, hy⟩ : ∃ y, y = xs.getD j Pl.Ty.zero := ⟨_, rfl⟩
  rw [← hy] at hc' hrow' ⊢
  obtain ⟨d0, d1, d2, d3⟩ := ty_cells hc'
  have hyl : y.of.length = v2.len := hrow'.1
  have hU := Tryz.underlying31
  clear hc' hrow' hs' hy HR
  by_cases k8 : k = 8
  · subst k8
    cases ht : Pl.tagd y.k <;> by_cases hlt : (j : Int) < (i : Int)
    all_goals
      go_enter Tryz.func49, Tryz.ntmps49
      go_wp2_with (first | (go_at_call 48; refine (isWithin_any _ _ _ _).mono ?_; rintro e u1 ⟨rfl, rfl⟩; rw [hw]) | (go_at_call 51; refine (isRecord_any _ _).mono ?_; rintro e u1 ⟨rfl, rfl⟩; rw [ht]))
      go_ret
      refine ⟨ret_bool ?_, below_alloc _ _⟩
      simp [Pl.fitP, ht] <;> omega
  by_cases k9 : k = 9
  · subst k9
    by_cases hlt : (j : Int) < (i : Int)
    · go_enter Tryz.func49, Tryz.ntmps49
      go_wp2_with (first | (go_at_call 48; refine (isWithin_any _ _ _ _).mono ?_; rintro e u1 ⟨rfl, rfl⟩; rw [hw]) | (go_at_call 65; refine (isComplete_any y v2 s2 hyl _).mono ?_; rintro e u1 ⟨rfl, g1⟩; have G1 : Hid _ := g1; clear g1))
      go_ret
      refine ⟨ret_bool ?_, (below_alloc _ _).trans (G1.out.mono (by simp))⟩
      simp [Pl.fitP] <;> omega
    · go_enter Tryz.func49, Tryz.ntmps49
      go_wp2_with (first | (go_at_call 48; refine (isWithin_any _ _ _ _).mono ?_; rintro e u1 ⟨rfl, rfl⟩; rw [hw]) | (go_at_call 65; refine (isComplete_any y v2 s2 hyl _).mono ?_; rintro e u1 ⟨rfl, g1⟩; have G1 : Hid _ := g1; clear g1))
      go_ret
      refine ⟨ret_bool ?_, below_alloc _ _⟩
      simp [Pl.fitP] <;> omega
  by_cases k12 : k = 12
  · subst k12
    cases hsc : Pl.scal y.k <;> by_cases hlt : (j : Int) < (i : Int)
    all_goals
      go_enter Tryz.func49, Tryz.ntmps49
      go_wp2_with (first | (go_at_call 48; refine (isWithin_any _ _ _ _).mono ?_; rintro e u1 ⟨rfl, rfl⟩; rw [hw]) | (go_at_call 68; refine (isScalar_any _ _).mono ?_; rintro e u1 ⟨rfl, rfl⟩; rw [hsc]))
      all_goals
        go_ret
        refine ⟨ret_bool ?_, below_alloc _ _⟩
        rw [Bool.eq_iff_iff]
        simp [Pl.fitP, hsc] <;> omega
  go_enter Tryz.func49, Tryz.ntmps49
  go_wp2_with (first | (go_at_call 48; refine (isWithin_any _ _ _ _).mono ?_; rintro e u1 ⟨rfl, rfl⟩; rw [hw]) | (go_at_call 65; refine (isComplete_any y v2 s2 hyl _).mono ?_; rintro e u1 ⟨rfl, g1⟩; have G1 : Hid _ := g1; clear g1))
  go_ret
  refine ⟨ret_bool ?_, (below_alloc _ _).trans (G1.out.mono (by simp))⟩
  simp [Pl.fitP, k8, k9, k12]
end Go.Proofs.YtafcnijfoejboaaGreatDoor.W
namespace Go.Proofs.YtafcnijfoejboaaGreatDoor.Pl
def inS (ss : List ByteArray) (s : ByteArray) : Bool := ss.any fun x => x.toList == s.toList
theorem inS_yes {ss : List ByteArray} {s : ByteArray} {k : Nat} (hk : k < ss.length) (h : (ss.getD k ⟨#[]⟩).toList = s.toList) : inS ss s = true := by
  unfold inS
  rw [List.any_eq_true]
  refine ⟨ss.getD k ⟨#[]⟩, ?_, by rw [h]; exact beq_self_eq_true _⟩
  rw [List.getD_eq_getElem?_getD, List.getElem?_eq_getElem hk]
  exact List.getElem_mem _
theorem inS_no {ss : List ByteArray} {s : ByteArray} (h : ∀ k, k < ss.length → (ss.getD k ⟨#[]⟩).toList ≠ s.toList) : inS ss s = false := by
  unfold inS
  rw [List.any_eq_false]
  intro x hx
  obtain ⟨k, hk, rfl⟩ := List.mem_iff_getElem.1 hx
  have := h k hk
  rw [List.getD_eq_getElem?_getD, List.getElem?_eq_getElem hk] at this
  simpa using this
end Go.Proofs.YtafcnijfoejboaaGreatDoor.Pl
namespace Go.Proofs.YtafcnijfoejboaaGreatDoor.W
open Go.RowKit
set_option maxHeartbeats 2000000 in
theorem l5In_any {lo : Nat} (a : Option Addr) (len cap : Nat) (ss : List ByteArray) (t : ByteArray) (w : World) (h : SRow lo w a len cap ss) :
    Calls Tryz.prog 72 #[.slice a len cap, .string t] w fun e w' => e = .returned (.bool (Pl.inS ss t)) ∧ Below w.heap.size w w' := by
  have hs1 : (len : Int) ≤ 9223372036854775807 := by have := h.small; omega
  have H : Hid (SRow lo w a len cap ss) := h
  clear h
  go_enter Tryz.func72, Tryz.ntmps72
  go_wp2_with fail
  go_loopw [5] (fun i wr => ∃ k : Nat, k ≤ len ∧ i = .int .i64 k ∧ (∀ j, j < k → (ss.getD j ⟨#[]⟩).toList ≠ t.toList) ∧ Below w.heap.size w wr) (fun i _ => len - (intOf i).toNat)
  case atStart => exact ⟨0, Nat.zero_le _, rfl, fun j hj => absurd hj (Nat.not_lt_zero _), Below.refl _ _⟩
  case round =>
    obtain ⟨k, hk, rfl, hall, hb⟩ := hrel
    have HA : Hid (∀ j, j < k → (ss.getD j ⟨#[]⟩).toList ≠ t.toList) := hall
    have HB : Hid (Below w.heap.size w wr) := hb
    clear hb hall
    by_cases hlt : k < len
    · obtain ⟨b1, o1, rfl, _, _, hc1, _⟩ := (H.out.keep HB.out).at hlt
      obtain ⟨x, hx⟩ : ∃ x, x = ss.getD k ⟨#[]⟩ := ⟨_, rfl⟩
      rw [← hx] at hc1
      have HX : Hid (x = ss.getD k ⟨#[]⟩) := hx
      clear hx
      have hi : (k : Int) < (len : Int) := by omega
      cases he : (x.toList == t.toList)
      rotate_left
      · go_wp2_with fail
        go_ret
        exact ⟨ret_bool (Pl.inS_yes (k := k) (by rw [H.out.1.1]; exact hlt) (by rw [← HX.out]; exact eq_of_beq he)).symm, HB.out⟩
      · go_wp2_with fail
        go_roundw
        case rel => exact ⟨k + 1, by omega, by go_num, fun j hj => by
          by_cases e : j = k
          · rw [e, ← HX.out]; exact ne_of_beq_false he
          · exact HA.out j (by omega), HB.out⟩
        case measure => simp [intOf]; omega
    · have hke : k = len := by omega
      have hi : ¬ ((k : Int) < (len : Int)) := by omega
      go_wp2
      go_ret
      exact ⟨ret_bool (Pl.inS_no (fun j hj => HA.out j (by rw [H.out.1.1] at hj; omega))).symm, HB.out⟩
theorem l5Word_any (c : Int) (w : World) : Calls Tryz.prog 80 #[.int .u8 c] w fun e w' => e = .returned (.bool (Pl.wch c)) ∧ w' = w := by
  cases hl : Pl.lt c <;> cases hd : Pl.dg c
  all_goals
    go_enter Tryz.func80, Tryz.ntmps80
    go_wp2_with (first | (go_at_call 86; refine (l4Letter_any _ _).mono ?_; rintro e u1 ⟨rfl, rfl⟩; rw [hl]) | (go_at_call 78; refine (l4Digit_any _ _).mono ?_; rintro e u1 ⟨rfl, rfl⟩; rw [hd]))
    all_goals (go_ret; refine ⟨ret_bool ?_, rfl⟩; rw [Bool.eq_iff_iff]; simp [Pl.wch, hl, hd] <;> omega)
end Go.Proofs.YtafcnijfoejboaaGreatDoor.W
namespace Go.Proofs.YtafcnijfoejboaaGreatDoor.Pl
def kwB : List (List UInt8) := [[98, 114, 101, 97, 107], [99, 97, 115, 101], [99, 104, 97, 114], [99, 111, 110, 116, 105, 110, 117, 101], [100, 101, 102, 97, 117, 108, 116], [100, 111], [101, 108, 115, 101], [101, 110, 117, 109], [102, 111, 114], [103, 111, 116, 111], [105, 102], [105, 110, 116], [114, 101, 116, 117, 114, 110], [115, 104, 111, 114, 116], [115, 105, 103, 110, 101, 100], [115, 105, 122, 101, 111, 102], [115, 116, 114, 117, 99, 116], [115, 119, 105, 116, 99, 104], [116, 121, 112, 101, 100, 101, 102], [117, 110, 105, 111, 110], [117, 110, 115, 105, 103, 110, 101, 100], [118, 111, 105, 100], [119, 104, 105, 108, 101]]
def kws : List ByteArray := kwB.map fun r => ⟨r.toArray⟩
def kwTab : Array Value := (kws.map fun r => Value.string r).toArray
theorem kwTab_at (k : Nat) (h : k < 23) : kwTab[k]? = some (.string (kws.getD k ⟨#[]⟩)) := by
  unfold kwTab
  have hl : kws.length = 23 := rfl
  rw [List.getElem?_toArray, List.getElem?_map, List.getD_eq_getElem?_getD, List.getElem?_eq_getElem (by omega)]
  rfl
def nam (s : ByteArray) : Bool := decide (1 ≤ s.size) && decide (s.size ≤ 40) && !dg (byt s 0) && !inS kws s && (List.range s.size).all fun i => wch (byt s i)
theorem nam_yes (s : ByteArray) (h1 : 0 < s.size) (h2 : s.size ≤ 40) (h3 : dg (byt s 0) = false) (h5 : inS kws s = false) (h4 : ∀ j, j < s.size → wch (byt s j) = true) : nam s = true := by
  unfold nam
  simp only [Bool.and_eq_true, decide_eq_true_eq, List.all_eq_true, List.mem_range, Bool.not_eq_true', h3, h5]
  exact ⟨⟨⟨⟨by omega, h2⟩, trivial⟩, trivial⟩, h4⟩
theorem nam_no (s : ByteArray) (k : Nat) (h1 : k < s.size) (h2 : wch (byt s k) = false) : nam s = false := by
  unfold nam
  rw [Bool.and_eq_false_iff]
  right
  rw [List.all_eq_false]
  exact ⟨k, List.mem_range.2 h1, by simp [h2]⟩
end Go.Proofs.YtafcnijfoejboaaGreatDoor.Pl
namespace Go.Proofs.YtafcnijfoejboaaGreatDoor.W
open Go.RowKit
theorem l5Keys_any (w : World) : Calls Tryz.prog 79 #[] w fun e w' => e = .returned (.slice (some ⟨w.heap.size, 0, none⟩) 23 23) ∧ w' = w.alloc (.cells Pl.kwTab 9) := by
  go_enter Tryz.func79, Tryz.ntmps79
  go_wp2_with (refine Great.wpList_buildSliceTo rfl 29 9 23 _ rfl w.heap.size rfl _ rfl Tryz.underlying29 Pl.kwTab (by kernel_rfl) ?_)
  go_ret
  exact ⟨rfl, rfl⟩
theorem kws_small : ∀ x ∈ Pl.kws, x.size ≤ maxLen := by
  intro x hx
  obtain ⟨r, hr, rfl⟩ := List.mem_map.1 hx
  have : ∀ r ∈ Pl.kwB, r.length ≤ 8 := by decide
  have h8 := this r hr
  have : (ByteArray.mk r.toArray).size = r.length := by simp [ByteArray.size]
  unfold maxLen
  omega
theorem kws_row (w : World) : SRow w.heap.size (w.alloc (.cells Pl.kwTab 9)) (some ⟨w.heap.size, 0, none⟩) 23 23 Pl.kws :=
  ⟨⟨rfl, kws_small⟩, Nat.le_refl _, by unfold maxLen; omega, .inr ⟨w.heap.size, 0, rfl, Nat.le_refl _, by simp, fun i hi => by
    rw [cell_of_row _ _ (0 + i) Pl.kwTab 9 (0, 0) (heap_alloc_new w _), Nat.zero_add]; exact Pl.kwTab_at i hi⟩⟩
set_option maxHeartbeats 4000000 in
theorem l6NameOk_any (s : ByteArray) (w : World) : Calls Tryz.prog 71 #[.string s] w fun e w' => e = .returned (.bool (Pl.nam s)) ∧ Below w.heap.size w w' := by
  by_cases he : s.size = 0
  · have hl : Pl.nam s = false := by simp [Pl.nam, he]
    rw [hl]
    have hz : (s.size : Int) < 1 := by omega
    clear hl
    go_enter Tryz.func71, Tryz.ntmps71
    go_wp2
    go_ret
    exact ⟨rfl, Below.refl _ _⟩
  have hpos : 0 < s.size := by omega
  have hge : ¬ ((s.size : Int) < 1) := by omega
  by_cases hb : 40 < s.size
  · have hl : Pl.nam s = false := by simp [Pl.nam]; omega
    rw [hl]
    have hz : (40 : Int) < (s.size : Int) := by omega
    clear hl he
    go_enter Tryz.func71, Tryz.ntmps71
    go_wp2
    go_ret
    exact ⟨rfl, Below.refl _ _⟩
  have h40 : (s.size : Int) ≤ 40 := by omega
  have hd40 : decide ((40 : Int) < (s.size : Int)) = false := by simpa using h40
  cases hd : Pl.dg (Pl.byt s 0)
  rotate_left
  · have hl : Pl.nam s = false := by simp [Pl.nam, hd]
    rw [hl]
    clear hl he
    go_enter Tryz.func71, Tryz.ntmps71
    go_wp2_with (go_at_call 78; refine (l4Digit_any _ _).mono ?_; rintro e u1 ⟨rfl, rfl⟩; rw [Pl.byt_get s 0 hpos, hd])
    go_ret
    exact ⟨rfl, Below.refl _ _⟩
  have HK : Hid (∀ u : World, SRow u.heap.size (u.alloc (.cells Pl.kwTab 9)) (some ⟨u.heap.size, 0, none⟩) 23 23 Pl.kws) := kws_row
  cases hin : Pl.inS Pl.kws s
  rotate_left
  · have hl : Pl.nam s = false := by simp [Pl.nam, hin]
    rw [hl]
    clear hl he
    go_enter Tryz.func71, Tryz.ntmps71
    go_wp2_with (first | (go_at_call 78; refine (l4Digit_any _ _).mono ?_; rintro e u1 ⟨rfl, rfl⟩; rw [Pl.byt_get s 0 hpos, hd]) | (go_at_call 79; refine (l5Keys_any _).mono ?_; rintro e u1 ⟨rfl, rfl⟩) | (go_at_call 72; refine (l5In_any _ _ _ Pl.kws s _ (HK.out _)).mono ?_; rintro e u2 ⟨rfl, g2⟩; rw [hin]; have G2 : Hid _ := g2; clear g2))
    go_ret
    exact ⟨rfl, (below_alloc _ _).trans (G2.out.mono (by simp))⟩
  go_enter Tryz.func71, Tryz.ntmps71
  go_wp2_with (first | (go_at_call 78; refine (l4Digit_any _ _).mono ?_; rintro e u1 ⟨rfl, hu⟩; have hu' := hu.symm; clear hu; subst hu'; rw [Pl.byt_get s 0 hpos, hd]) | (go_at_call 79; refine (l5Keys_any _).mono ?_; rintro e u1 ⟨rfl, rfl⟩) | (go_at_call 72; refine (l5In_any _ _ _ Pl.kws s _ (HK.out _)).mono ?_; rintro e u2 ⟨rfl, g2⟩; rw [hin]; have G2 : Hid _ := g2; clear g2))
  have G3 : Hid (Below w.heap.size w u2) := (below_alloc _ _).trans (G2.out.mono (by simp))
  clear he hb hd40
  go_loop [3] (fun x => ∃ k : Nat, k ≤ s.size ∧ x = .int .i64 k ∧ ∀ j, j < k → Pl.wch (Pl.byt s j) = true) (fun x => s.size - (intOf x).toNat)
  case atStart => exact ⟨0, Nat.zero_le _, rfl, fun j hj => absurd hj (Nat.not_lt_zero j)⟩
  case round =>
    obtain ⟨k, hk, rfl, hall⟩ := hrel
    have HA : Hid (∀ j, j < k → Pl.wch (Pl.byt s j) = true) := hall
    clear hall
    by_cases hlt : k < s.size
    · have hi : (k : Int) < (s.size : Int) := by omega
      cases hl1 : Pl.wch (Pl.byt s k)
      · go_wp2_with (go_at_call 80; refine (l5Word_any _ _).mono ?_; rintro e u1 ⟨rfl, rfl⟩; rw [Pl.byt_get s k hlt, hl1])
        go_ret
        exact ⟨ret_bool (Pl.nam_no s k hlt hl1).symm, G3.out⟩
      · go_wp2_with (go_at_call 80; refine (l5Word_any _ _).mono ?_; rintro e u1 ⟨rfl, rfl⟩; rw [Pl.byt_get s k hlt, hl1])
        go_round
        case rel => exact ⟨k + 1, by omega, by go_num, fun j hj => by
          by_cases e : j = k
          · rw [e]; exact hl1
          · exact HA.out j (by omega)⟩
        case measure => simp [intOf]; omega
    · have hkk : k = s.size := by omega
      have HL : Hid (Pl.nam s = true) := Pl.nam_yes s hpos (by omega) hd hin (by rw [← hkk]; exact HA.out)
      clear HA
      have hi : ¬ ((k : Int) < (s.size : Int)) := by omega
      go_wp2
      go_ret
      exact ⟨ret_bool HL.out.symm, G3.out⟩
end Go.Proofs.YtafcnijfoejboaaGreatDoor.W
namespace Go.Proofs.YtafcnijfoejboaaGreatDoor.Pl
def apart (ss : List ByteArray) : Bool := decide (∀ k, k < ss.length → nam (ss.getD k ⟨#[]⟩) = true ∧ inS (ss.take k) (ss.getD k ⟨#[]⟩) = false)
end Go.Proofs.YtafcnijfoejboaaGreatDoor.Pl
namespace Go.Proofs.YtafcnijfoejboaaGreatDoor.W
open Go.RowKit
theorem SRow.take {lo : Nat} {w : World} {b off : Nat} {len cap : Nat} {ss : List ByteArray} (h : SRow lo w (some ⟨b, off, none⟩) len cap ss) {k : Nat} (hk : k ≤ len) : SRow lo w (some ⟨b, off, none⟩) k cap (ss.take k) := by
  obtain ⟨⟨h1, h1'⟩, h2, h3, h4⟩ := h
  refine ⟨⟨by rw [List.length_take]; omega, fun x hx => h1' x (List.mem_of_mem_take hx)⟩, by omega, h3, ?_⟩
  rcases Nat.eq_zero_or_pos k with h0 | h0
  · exact .inl h0
  · rcases h4 with h4 | ⟨b', off', e, hlo, hlt, hc⟩
    · omega
    · refine .inr ⟨b', off', e, hlo, hlt, fun i hi => ?_⟩
      rw [hc i (by omega)]
      simp only [List.getD_eq_getElem?_getD, List.getElem?_take, hi, if_true]
def ApYMk (b o1 len cap k : Nat) (x : ByteArray) (q : Bool) (u2 u8 u9 u10 u11 u12 u13 u14 u15 u16 u17 u18 u19 u20 u21 u22 u23 u24 u25 : Value)  (L : Array Bool) : Act := { tmps := #[.slice (some ⟨b, o1, none⟩) len cap, undef, u2, .int .i64 (k : Int), .int .i64 (k : Int), .slice (some ⟨b, o1, none⟩) len cap, .int .i64 (len : Int), .bool true, u8, u9, sld u10 L 0 (.slice (some ⟨b, o1, none⟩) len cap), sld u11 L 1 (.int .i64 (k : Int)), sld u12 L 2 (.pointer (some ⟨b, o1 + k, none⟩)), sld u13 L 3 (.string x), sld u14 L 4 (.bool true), sld u15 L 5 (.bool false), sld u16 L 6 (.bool false), sld u17 L 7 (.slice (some ⟨b, o1, none⟩) len cap), sld u18 L 8 (.int .i64 (k : Int)), sld u19 L 9 (.slice (some ⟨b, o1, none⟩) k cap), sld u20 L 10 (.slice (some ⟨b, o1, none⟩) len cap), sld u21 L 11 (.int .i64 (k : Int)), sld u22 L 12 (.pointer (some ⟨b, o1 + k, none⟩)), sld u23 L 13 (.string x), sld u24 L 14 (.bool q), sld u25 L 15 (.bool q)], defers := [] }
def ApNMk (b o1 len cap k : Nat) (x : ByteArray) (q : Bool) (u2 u8 u9 u10 u11 u12 u13 u14 u15 u16 u17 u18 u19 u20 u21 u22 u23 u24 u25 : Value)  (L : Array Bool) : Act := { tmps := #[.slice (some ⟨b, o1, none⟩) len cap, undef, u2, .int .i64 (k : Int), .int .i64 (k : Int), .slice (some ⟨b, o1, none⟩) len cap, .int .i64 (len : Int), .bool true, u8, u9, sld u10 L 0 (.slice (some ⟨b, o1, none⟩) len cap), sld u11 L 1 (.int .i64 (k : Int)), sld u12 L 2 (.pointer (some ⟨b, o1 + k, none⟩)), sld u13 L 3 (.string x), sld u14 L 4 (.bool false), sld u15 L 5 (.bool true), sld u16 L 6 (.bool true), sld u17 L 7 (undef), sld u18 L 8 (undef), sld u19 L 9 (undef), sld u20 L 10 (undef), sld u21 L 11 (undef), sld u22 L 12 (undef), sld u23 L 13 (undef), sld u24 L 14 (undef), sld u25 L 15 (.bool true)], defers := [] }
set_option maxRecDepth 8000 in
set_option maxHeartbeats 4000000 in
theorem l7Apart_any {lo : Nat} (a : Option Addr) (len cap : Nat) (ss : List ByteArray) (w : World) (h : SRow lo w a len cap ss) :
    Calls Tryz.prog 53 #[.slice a len cap] w fun e w' => e = .returned (.bool (Pl.apart ss)) ∧ Below w.heap.size w w' := by
  have hs1 : (len : Int) ≤ 9223372036854775807 := by have := h.small; omega
  have H : Hid (SRow lo w a len cap ss) := h
  clear h
  go_enter Tryz.func53, Tryz.ntmps53
  go_wp2_with fail
  go_loopw [3] (fun i wr => ∃ k : Nat, k ≤ len ∧ i = .int .i64 k ∧ (∀ j, j < k → Pl.nam (ss.getD j ⟨#[]⟩) = true ∧ Pl.inS (ss.take j) (ss.getD j ⟨#[]⟩) = false) ∧ Below w.heap.size w wr) (fun i _ => len - (intOf i).toNat)
  case atStart => exact ⟨0, Nat.zero_le _, rfl, fun j hj => absurd hj (Nat.not_lt_zero _), Below.refl _ _⟩
  case round =>
    obtain ⟨k, hk, rfl, hall, hb⟩ := hrel
    have HA : Hid (∀ j, j < k → Pl.nam (ss.getD j ⟨#[]⟩) = true ∧ Pl.inS (ss.take j) (ss.getD j ⟨#[]⟩) = false) := hall
    have HB : Hid (Below w.heap.size w wr) := hb
    clear hb hall
    by_cases hlt : k < len
    · obtain ⟨b, o1, rfl, _, hbl, hc1, _⟩ := (H.out.keep HB.out).at hlt
      obtain ⟨x, hx⟩ : ∃ x, x = ss.getD k ⟨#[]⟩ := ⟨_, rfl⟩
      rw [← hx] at hc1
      have HX : Hid (x = ss.getD k ⟨#[]⟩) := hx
      clear hx
      have hi : (k : Int) < (len : Int) := by omega
      have hcap : k ≤ cap := by have := H.out.2.1; omega
      have HT : Hid (∀ u : World, Below wr.heap.size wr u → SRow lo u (some ⟨b, o1, none⟩) k cap (ss.take k)) := fun u hu => ((H.out.keep HB.out).keep hu).take (Nat.le_of_lt hlt)
      go_upto_region 4 with fail
      cases hnam : Pl.nam x
      · obtain ⟨q, hq⟩ : ∃ q : Bool, q = true := ⟨_, rfl⟩
        refine wp_region_any (by kernel_rfl) ?_
        change wpAny _ _ _ _ _ _ _ (World.drew _)
        obtain ⟨U, hU⟩ : ∃ U, U = wr.drew := ⟨_, rfl⟩
        have dU : Below wr.heap.size wr U := by rw [hU]; exact (Below.refl _ _).drew
        rw [← hU]
        refine wpAny_inw (fun L act w' => act = ApNMk b o1 len cap k x q u2 u8 u9 u10 u11 u12 u13 u14 u15 u16 u17 u18 u19 u20 u21 u22 u23 u24 u25 L ∧ Below wr.heap.size wr w') ?done (by kernel_rfl) ?step _ 16 _ _ (by kernel_rfl) ?init (by decide)
        case init => exact ⟨by simp only [ApNMk, sld_no (up_init _ _)], dU⟩
        case step =>
          intro L act w i o hI hlt hs nl hC hd ho K hK
          obtain ⟨rfl, hW⟩ := hI
          have hi_lt : i < 16 := (Array.getElem?_eq_some_iff.1 ho).1
          rcases (show i = 0 ∨ i = 1 ∨ i = 2 ∨ i = 3 ∨ i = 4 ∨ i = 5 ∨ i = 6 ∨ i = 7 ∨ i = 8 ∨ i = 9 ∨ i = 10 ∨ i = 11 ∨ i = 12 ∨ i = 13 ∨ i = 14 ∨ i = 15 by omega) with rfl | rfl | rfl | rfl | rfl | rfl | rfl | rfl | rfl | rfl | rfl | rfl | rfl | rfl | rfl | rfl
          · change some _ = some o at ho
            cases ho
            simp only [ApNMk]
            go_simp
            exact hK _ _ ⟨by simp only [ApNMk, sld_set hlt, reduceIte, Nat.reduceEqDiff]; try rfl, hW⟩
          · change some _ = some o at ho
            cases ho
            simp only [ApNMk]
            go_simp
            exact hK _ _ ⟨by simp only [ApNMk, sld_set hlt, reduceIte, Nat.reduceEqDiff]; try rfl, hW⟩
          · change some _ = some o at ho
            cases ho
            have q0 : up L 0 = true := (by first | exact hd { on := 0, ground := .data } (by simp) rfl | exact hd { on := 0, ground := .chain } (by simp) rfl | exact hd { on := 0, ground := .phase } (by simp) rfl)
            have q1 : up L 1 = true := (by first | exact hd { on := 1, ground := .data } (by simp) rfl | exact hd { on := 1, ground := .chain } (by simp) rfl | exact hd { on := 1, ground := .phase } (by simp) rfl)
            simp only [ApNMk, sld_yes q0, sld_yes q1]
            go_simp
            exact hK _ _ ⟨by simp only [ApNMk, sld_set hlt, sld_yes q0, sld_yes q1, reduceIte, Nat.reduceEqDiff]; try rfl, hW⟩
          · change some _ = some o at ho
            cases ho
            have q2 : up L 2 = true := (by first | exact hd { on := 2, ground := .data } (by simp) rfl | exact hd { on := 2, ground := .chain } (by simp) rfl | exact hd { on := 2, ground := .phase } (by simp) rfl)
            have kj := below_cell hW hc1
            simp only [ApNMk, sld_yes q2]
            go_simp
            exact hK _ _ ⟨by simp only [ApNMk, sld_set hlt, sld_yes q2, reduceIte, Nat.reduceEqDiff]; try rfl, hW⟩
          · change some _ = some o at ho
            cases ho
            have q3 : up L 3 = true := (by first | exact hd { on := 3, ground := .data } (by simp) rfl | exact hd { on := 3, ground := .chain } (by simp) rfl | exact hd { on := 3, ground := .phase } (by simp) rfl)
            simp only [ApNMk, sld_yes q3]
            go_simp
            refine (l6NameOk_any x w).mono ?_
            rintro e z ⟨rfl, dz⟩
            rw [hnam]
            go_simp
            exact hK _ _ ⟨by simp only [ApNMk, sld_set hlt, sld_yes q3, reduceIte, Nat.reduceEqDiff]; try rfl, hW.trans (dz.mono hW.size)⟩
          · change some _ = some o at ho
            cases ho
            have q4 : up L 4 = true := (by first | exact hd { on := 4, ground := .data } (by simp) rfl | exact hd { on := 4, ground := .chain } (by simp) rfl | exact hd { on := 4, ground := .phase } (by simp) rfl)
            simp only [ApNMk, sld_yes q4]
            go_simp
            exact hK _ _ ⟨by simp only [ApNMk, sld_set hlt, sld_yes q4, reduceIte, Nat.reduceEqDiff]; try rfl, hW⟩
          · change some _ = some o at ho
            cases ho
            have q5 : up L 5 = true := (by first | exact hd { on := 5, ground := .data } (by simp) rfl | exact hd { on := 5, ground := .chain } (by simp) rfl | exact hd { on := 5, ground := .phase } (by simp) rfl)
            simp only [ApNMk, sld_yes q5]
            go_simp
            exact hK _ _ ⟨by simp only [ApNMk, sld_set hlt, sld_yes q5, reduceIte, Nat.reduceEqDiff]; try rfl, hW⟩
          · change some _ = some o at ho
            cases ho
            have q6 : up L 6 = true := (hd { on := 6, ground := .guard } (by simp) rfl)
            simp only [ApNMk, sld_yes q6]
            go_simp
            exact hK _ _ ⟨by simp only [ApNMk, sld_set hlt, sld_yes q6, reduceIte, Nat.reduceEqDiff]; try rfl, hW⟩
          · change some _ = some o at ho
            cases ho
            have q6 : up L 6 = true := (hd { on := 6, ground := .guard } (by simp) rfl)
            simp only [ApNMk, sld_yes q6]
            go_simp
            exact hK _ _ ⟨by simp only [ApNMk, sld_set hlt, sld_yes q6, reduceIte, Nat.reduceEqDiff]; try rfl, hW⟩
          · change some _ = some o at ho
            cases ho
            have q6 : up L 6 = true := (hd { on := 6, ground := .guard } (by simp) rfl)
            have q7 : up L 7 = true := (by first | exact hd { on := 7, ground := .data } (by simp) rfl | exact hd { on := 7, ground := .chain } (by simp) rfl | exact hd { on := 7, ground := .phase } (by simp) rfl)
            have q8 : up L 8 = true := (by first | exact hd { on := 8, ground := .data } (by simp) rfl | exact hd { on := 8, ground := .chain } (by simp) rfl | exact hd { on := 8, ground := .phase } (by simp) rfl)
            simp only [ApNMk, sld_yes q6, sld_yes q7, sld_yes q8]
            go_simp
            exact hK _ _ ⟨by simp only [ApNMk, sld_set hlt, sld_yes q6, sld_yes q7, sld_yes q8, reduceIte, Nat.reduceEqDiff]; try rfl, hW⟩
          · change some _ = some o at ho
            cases ho
            have q6 : up L 6 = true := (hd { on := 6, ground := .guard } (by simp) rfl)
            simp only [ApNMk, sld_yes q6]
            go_simp
            exact hK _ _ ⟨by simp only [ApNMk, sld_set hlt, sld_yes q6, reduceIte, Nat.reduceEqDiff]; try rfl, hW⟩
          · change some _ = some o at ho
            cases ho
            have q6 : up L 6 = true := (hd { on := 6, ground := .guard } (by simp) rfl)
            simp only [ApNMk, sld_yes q6]
            go_simp
            exact hK _ _ ⟨by simp only [ApNMk, sld_set hlt, sld_yes q6, reduceIte, Nat.reduceEqDiff]; try rfl, hW⟩
          · change some _ = some o at ho
            cases ho
            have q6 : up L 6 = true := (hd { on := 6, ground := .guard } (by simp) rfl)
            have q10 : up L 10 = true := (by first | exact hd { on := 10, ground := .data } (by simp) rfl | exact hd { on := 10, ground := .chain } (by simp) rfl | exact hd { on := 10, ground := .phase } (by simp) rfl)
            have q11 : up L 11 = true := (by first | exact hd { on := 11, ground := .data } (by simp) rfl | exact hd { on := 11, ground := .chain } (by simp) rfl | exact hd { on := 11, ground := .phase } (by simp) rfl)
            simp only [ApNMk, sld_yes q6, sld_yes q10, sld_yes q11]
            go_simp
            exact hK _ _ ⟨by simp only [ApNMk, sld_set hlt, sld_yes q6, sld_yes q10, sld_yes q11, reduceIte, Nat.reduceEqDiff]; try rfl, hW⟩
          · change some _ = some o at ho
            cases ho
            have q6 : up L 6 = true := (hd { on := 6, ground := .guard } (by simp) rfl)
            have q12 : up L 12 = true := (by first | exact hd { on := 12, ground := .data } (by simp) rfl | exact hd { on := 12, ground := .chain } (by simp) rfl | exact hd { on := 12, ground := .phase } (by simp) rfl)
            have kj := below_cell hW hc1
            simp only [ApNMk, sld_yes q6, sld_yes q12]
            go_simp
            exact hK _ _ ⟨by simp only [ApNMk, sld_set hlt, sld_yes q6, sld_yes q12, reduceIte, Nat.reduceEqDiff]; try rfl, hW⟩
          · change some _ = some o at ho
            cases ho
            have q6 : up L 6 = true := (hd { on := 6, ground := .guard } (by simp) rfl)
            have q9 : up L 9 = true := (by first | exact hd { on := 9, ground := .data } (by simp) rfl | exact hd { on := 9, ground := .chain } (by simp) rfl | exact hd { on := 9, ground := .phase } (by simp) rfl)
            have q13 : up L 13 = true := (by first | exact hd { on := 13, ground := .data } (by simp) rfl | exact hd { on := 13, ground := .chain } (by simp) rfl | exact hd { on := 13, ground := .phase } (by simp) rfl)
            simp only [ApNMk, sld_yes q6, sld_yes q9, sld_yes q13]
            go_simp
            exact hK _ _ ⟨by simp only [ApNMk, sld_set hlt, sld_yes q6, sld_yes q9, sld_yes q13, reduceIte, Nat.reduceEqDiff]; try rfl, hW⟩
          · change some _ = some o at ho
            cases ho
            have q6 : up L 6 = true := (by first | exact hd { on := 6, ground := .data } (by simp) rfl | exact hd { on := 6, ground := .chain } (by simp) rfl | exact hd { on := 6, ground := .phase } (by simp) rfl)
            have q14 : up L 14 = true := (by first | exact hd { on := 14, ground := .data } (by simp) rfl | exact hd { on := 14, ground := .chain } (by simp) rfl | exact hd { on := 14, ground := .phase } (by simp) rfl)
            simp only [ApNMk, sld_yes q6, sld_yes q14]
            go_simp
            exact hK _ _ ⟨by simp only [ApNMk, sld_set hlt, sld_yes q6, sld_yes q14, reduceIte, Nat.reduceEqDiff]; try rfl, hW⟩
        case done =>
          rintro L act u9 ⟨rfl, hW⟩ hall
          have B9 : Hid (Below w.heap.size w u9) := HB.out.trans (hW.mono HB.out.size)
          clear hW
          simp only [ApNMk, sld_yes (hall 0 (by decide)), sld_yes (hall 1 (by decide)), sld_yes (hall 2 (by decide)), sld_yes (hall 3 (by decide)), sld_yes (hall 4 (by decide)), sld_yes (hall 5 (by decide)), sld_yes (hall 6 (by decide)), sld_yes (hall 7 (by decide)), sld_yes (hall 8 (by decide)), sld_yes (hall 9 (by decide)), sld_yes (hall 10 (by decide)), sld_yes (hall 11 (by decide)), sld_yes (hall 12 (by decide)), sld_yes (hall 13 (by decide)), sld_yes (hall 14 (by decide)), sld_yes (hall 15 (by decide))]
          go_wp2_with fail
          go_ret
          refine ⟨ret_bool (Eq.symm (decide_eq_false fun hc => ?_)), B9.out⟩
          have h1 := (hc k (by rw [H.out.1.1]; exact hlt)).1
          rw [← HX.out, hnam] at h1
          cases h1
      · obtain ⟨q, hq⟩ : ∃ q : Bool, q = Pl.inS (ss.take k) x := ⟨_, rfl⟩
        have HQ : Hid (q = Pl.inS (ss.take k) x) := hq
        clear hq
        refine wp_region_any (by kernel_rfl) ?_
        change wpAny _ _ _ _ _ _ _ (World.drew _)
        obtain ⟨U, hU⟩ : ∃ U, U = wr.drew := ⟨_, rfl⟩
        have dU : Below wr.heap.size wr U := by rw [hU]; exact (Below.refl _ _).drew
        rw [← hU]
        refine wpAny_inw (fun L act w' => act = ApYMk b o1 len cap k x q u2 u8 u9 u10 u11 u12 u13 u14 u15 u16 u17 u18 u19 u20 u21 u22 u23 u24 u25 L ∧ Below wr.heap.size wr w') ?done (by kernel_rfl) ?step _ 16 _ _ (by kernel_rfl) ?init (by decide)
        case init => exact ⟨by simp only [ApYMk, sld_no (up_init _ _)], dU⟩
        case step =>
          intro L act w i o hI hlt hs nl hC hd ho K hK
          obtain ⟨rfl, hW⟩ := hI
          have hi_lt : i < 16 := (Array.getElem?_eq_some_iff.1 ho).1
          rcases (show i = 0 ∨ i = 1 ∨ i = 2 ∨ i = 3 ∨ i = 4 ∨ i = 5 ∨ i = 6 ∨ i = 7 ∨ i = 8 ∨ i = 9 ∨ i = 10 ∨ i = 11 ∨ i = 12 ∨ i = 13 ∨ i = 14 ∨ i = 15 by omega) with rfl | rfl | rfl | rfl | rfl | rfl | rfl | rfl | rfl | rfl | rfl | rfl | rfl | rfl | rfl | rfl
          · change some _ = some o at ho
            cases ho
            simp only [ApYMk]
            go_simp
            exact hK _ _ ⟨by simp only [ApYMk, sld_set hlt, reduceIte, Nat.reduceEqDiff]; try rfl, hW⟩
          · change some _ = some o at ho
            cases ho
            simp only [ApYMk]
            go_simp
            exact hK _ _ ⟨by simp only [ApYMk, sld_set hlt, reduceIte, Nat.reduceEqDiff]; try rfl, hW⟩
          · change some _ = some o at ho
            cases ho
            have q0 : up L 0 = true := (by first | exact hd { on := 0, ground := .data } (by simp) rfl | exact hd { on := 0, ground := .chain } (by simp) rfl | exact hd { on := 0, ground := .phase } (by simp) rfl)
            have q1 : up L 1 = true := (by first | exact hd { on := 1, ground := .data } (by simp) rfl | exact hd { on := 1, ground := .chain } (by simp) rfl | exact hd { on := 1, ground := .phase } (by simp) rfl)
            simp only [ApYMk, sld_yes q0, sld_yes q1]
            go_simp
            exact hK _ _ ⟨by simp only [ApYMk, sld_set hlt, sld_yes q0, sld_yes q1, reduceIte, Nat.reduceEqDiff]; try rfl, hW⟩
          · change some _ = some o at ho
            cases ho
            have q2 : up L 2 = true := (by first | exact hd { on := 2, ground := .data } (by simp) rfl | exact hd { on := 2, ground := .chain } (by simp) rfl | exact hd { on := 2, ground := .phase } (by simp) rfl)
            have kj := below_cell hW hc1
            simp only [ApYMk, sld_yes q2]
            go_simp
            exact hK _ _ ⟨by simp only [ApYMk, sld_set hlt, sld_yes q2, reduceIte, Nat.reduceEqDiff]; try rfl, hW⟩
          · change some _ = some o at ho
            cases ho
            have q3 : up L 3 = true := (by first | exact hd { on := 3, ground := .data } (by simp) rfl | exact hd { on := 3, ground := .chain } (by simp) rfl | exact hd { on := 3, ground := .phase } (by simp) rfl)
            simp only [ApYMk, sld_yes q3]
            go_simp
            refine (l6NameOk_any x w).mono ?_
            rintro e z ⟨rfl, dz⟩
            rw [hnam]
            go_simp
            exact hK _ _ ⟨by simp only [ApYMk, sld_set hlt, sld_yes q3, reduceIte, Nat.reduceEqDiff]; try rfl, hW.trans (dz.mono hW.size)⟩
          · change some _ = some o at ho
            cases ho
            have q4 : up L 4 = true := (by first | exact hd { on := 4, ground := .data } (by simp) rfl | exact hd { on := 4, ground := .chain } (by simp) rfl | exact hd { on := 4, ground := .phase } (by simp) rfl)
            simp only [ApYMk, sld_yes q4]
            go_simp
            exact hK _ _ ⟨by simp only [ApYMk, sld_set hlt, sld_yes q4, reduceIte, Nat.reduceEqDiff]; try rfl, hW⟩
          · change some _ = some o at ho
            cases ho
            have q5 : up L 5 = true := (by first | exact hd { on := 5, ground := .data } (by simp) rfl | exact hd { on := 5, ground := .chain } (by simp) rfl | exact hd { on := 5, ground := .phase } (by simp) rfl)
            simp only [ApYMk, sld_yes q5]
            go_simp
            exact hK _ _ ⟨by simp only [ApYMk, sld_set hlt, sld_yes q5, reduceIte, Nat.reduceEqDiff]; try rfl, hW⟩
          · change some _ = some o at ho
            cases ho
            have q6 : up L 6 = true := (hd { on := 6, ground := .guard } (by simp) rfl)
            simp only [ApYMk, sld_yes q6]
            go_simp
            exact hK _ _ ⟨by simp only [ApYMk, sld_set hlt, sld_yes q6, reduceIte, Nat.reduceEqDiff]; try rfl, hW⟩
          · change some _ = some o at ho
            cases ho
            have q6 : up L 6 = true := (hd { on := 6, ground := .guard } (by simp) rfl)
            simp only [ApYMk, sld_yes q6]
            go_simp
            exact hK _ _ ⟨by simp only [ApYMk, sld_set hlt, sld_yes q6, reduceIte, Nat.reduceEqDiff]; try rfl, hW⟩
          · change some _ = some o at ho
            cases ho
            have q6 : up L 6 = true := (hd { on := 6, ground := .guard } (by simp) rfl)
            have q7 : up L 7 = true := (by first | exact hd { on := 7, ground := .data } (by simp) rfl | exact hd { on := 7, ground := .chain } (by simp) rfl | exact hd { on := 7, ground := .phase } (by simp) rfl)
            have q8 : up L 8 = true := (by first | exact hd { on := 8, ground := .data } (by simp) rfl | exact hd { on := 8, ground := .chain } (by simp) rfl | exact hd { on := 8, ground := .phase } (by simp) rfl)
            simp only [ApYMk, sld_yes q6, sld_yes q7, sld_yes q8]
            go_simp
            exact hK _ _ ⟨by simp only [ApYMk, sld_set hlt, sld_yes q6, sld_yes q7, sld_yes q8, reduceIte, Nat.reduceEqDiff]; try rfl, hW⟩
          · change some _ = some o at ho
            cases ho
            have q6 : up L 6 = true := (hd { on := 6, ground := .guard } (by simp) rfl)
            simp only [ApYMk, sld_yes q6]
            go_simp
            exact hK _ _ ⟨by simp only [ApYMk, sld_set hlt, sld_yes q6, reduceIte, Nat.reduceEqDiff]; try rfl, hW⟩
          · change some _ = some o at ho
            cases ho
            have q6 : up L 6 = true := (hd { on := 6, ground := .guard } (by simp) rfl)
            simp only [ApYMk, sld_yes q6]
            go_simp
            exact hK _ _ ⟨by simp only [ApYMk, sld_set hlt, sld_yes q6, reduceIte, Nat.reduceEqDiff]; try rfl, hW⟩
          · change some _ = some o at ho
            cases ho
            have q6 : up L 6 = true := (hd { on := 6, ground := .guard } (by simp) rfl)
            have q10 : up L 10 = true := (by first | exact hd { on := 10, ground := .data } (by simp) rfl | exact hd { on := 10, ground := .chain } (by simp) rfl | exact hd { on := 10, ground := .phase } (by simp) rfl)
            have q11 : up L 11 = true := (by first | exact hd { on := 11, ground := .data } (by simp) rfl | exact hd { on := 11, ground := .chain } (by simp) rfl | exact hd { on := 11, ground := .phase } (by simp) rfl)
            simp only [ApYMk, sld_yes q6, sld_yes q10, sld_yes q11]
            go_simp
            exact hK _ _ ⟨by simp only [ApYMk, sld_set hlt, sld_yes q6, sld_yes q10, sld_yes q11, reduceIte, Nat.reduceEqDiff]; try rfl, hW⟩
          · change some _ = some o at ho
            cases ho
            have q6 : up L 6 = true := (hd { on := 6, ground := .guard } (by simp) rfl)
            have q12 : up L 12 = true := (by first | exact hd { on := 12, ground := .data } (by simp) rfl | exact hd { on := 12, ground := .chain } (by simp) rfl | exact hd { on := 12, ground := .phase } (by simp) rfl)
            have kj := below_cell hW hc1
            simp only [ApYMk, sld_yes q6, sld_yes q12]
            go_simp
            exact hK _ _ ⟨by simp only [ApYMk, sld_set hlt, sld_yes q6, sld_yes q12, reduceIte, Nat.reduceEqDiff]; try rfl, hW⟩
          · change some _ = some o at ho
            cases ho
            have q6 : up L 6 = true := (hd { on := 6, ground := .guard } (by simp) rfl)
            have q9 : up L 9 = true := (by first | exact hd { on := 9, ground := .data } (by simp) rfl | exact hd { on := 9, ground := .chain } (by simp) rfl | exact hd { on := 9, ground := .phase } (by simp) rfl)
            have q13 : up L 13 = true := (by first | exact hd { on := 13, ground := .data } (by simp) rfl | exact hd { on := 13, ground := .chain } (by simp) rfl | exact hd { on := 13, ground := .phase } (by simp) rfl)
            simp only [ApYMk, sld_yes q6, sld_yes q9, sld_yes q13]
            go_simp
            refine (l5In_any _ _ _ (ss.take k) x w (HT.out w hW)).mono ?_
            rintro e z ⟨rfl, dz⟩
            rw [← HQ.out]
            go_simp
            exact hK _ _ ⟨by simp only [ApYMk, sld_set hlt, sld_yes q6, sld_yes q9, sld_yes q13, reduceIte, Nat.reduceEqDiff]; try rfl, hW.trans (dz.mono hW.size)⟩
          · change some _ = some o at ho
            cases ho
            have q6 : up L 6 = true := (by first | exact hd { on := 6, ground := .data } (by simp) rfl | exact hd { on := 6, ground := .chain } (by simp) rfl | exact hd { on := 6, ground := .phase } (by simp) rfl)
            have q14 : up L 14 = true := (by first | exact hd { on := 14, ground := .data } (by simp) rfl | exact hd { on := 14, ground := .chain } (by simp) rfl | exact hd { on := 14, ground := .phase } (by simp) rfl)
            simp only [ApYMk, sld_yes q6, sld_yes q14]
            go_simp
            exact hK _ _ ⟨by simp only [ApYMk, sld_set hlt, sld_yes q6, sld_yes q14, reduceIte, Nat.reduceEqDiff]; try rfl, hW⟩
        case done =>
          rintro L act u9 ⟨rfl, hW⟩ hall
          have B9 : Hid (Below w.heap.size w u9) := HB.out.trans (hW.mono HB.out.size)
          clear hW
          simp only [ApYMk, sld_yes (hall 0 (by decide)), sld_yes (hall 1 (by decide)), sld_yes (hall 2 (by decide)), sld_yes (hall 3 (by decide)), sld_yes (hall 4 (by decide)), sld_yes (hall 5 (by decide)), sld_yes (hall 6 (by decide)), sld_yes (hall 7 (by decide)), sld_yes (hall 8 (by decide)), sld_yes (hall 9 (by decide)), sld_yes (hall 10 (by decide)), sld_yes (hall 11 (by decide)), sld_yes (hall 12 (by decide)), sld_yes (hall 13 (by decide)), sld_yes (hall 14 (by decide)), sld_yes (hall 15 (by decide))]
          cases q
          · go_wp2_with fail
            go_roundw
            case rel => exact ⟨k + 1, by omega, by go_num, fun j hj => by
              by_cases e : j = k
              · rw [e, ← HX.out]; exact ⟨hnam, HQ.out.symm⟩
              · exact HA.out j (by omega), B9.out⟩
            case measure => simp [intOf]; omega
          · go_wp2_with fail
            go_ret
            refine ⟨ret_bool (Eq.symm (decide_eq_false fun hc => ?_)), B9.out⟩
            have h1 := (hc k (by rw [H.out.1.1]; exact hlt)).2
            rw [← HX.out, ← HQ.out] at h1
            cases h1
    · have hke : k = len := by omega
      have hi : ¬ ((k : Int) < (len : Int)) := by omega
      go_wp2
      go_ret
      exact ⟨ret_bool (Eq.symm (decide_eq_true fun j hj => HA.out j (by rw [H.out.1.1] at hj; omega))), HB.out⟩
end Go.Proofs.YtafcnijfoejboaaGreatDoor.W
namespace Go.Proofs.YtafcnijfoejboaaGreatDoor.Pl
def fitR (xs : List Ty) (i : Nat) (x : Ty) (r : TRule) : Bool :=
  within x.n r.lowN r.highN && within (x.of.length : Int) r.least r.most && decide (∀ p, p < x.of.length → fitPart xs i p = true) && (if r.names = true then decide (x.names.length = x.of.length) && apart x.names else decide (x.names.length = 0))
def fit (xs : List Ty) (i : Nat) : Bool := match tRule (xs.getD i Ty.zero).k with
  | none => false
  | some r => fitR xs i (xs.getD i Ty.zero) r
end Go.Proofs.YtafcnijfoejboaaGreatDoor.Pl
namespace Go.Proofs.YtafcnijfoejboaaGreatDoor.W
open Go.RowKit
def Errs (w : World) : Prop := (∃ ev, w.cell? ⟨0, 0, none⟩ = some ev ∧ (ev = .nilIface ∨ ∃ te pe, ev = .iface te pe)) ∧ (∃ ev, w.cell? ⟨1, 0, none⟩ = some ev ∧ (ev = .nilIface ∨ ∃ te pe, ev = .iface te pe))
theorem Errs.keep {w w' : World} (h : Errs w) (hb : Below w.heap.size w w') : Errs w' := by
  obtain ⟨⟨e1, h1, q1⟩, ⟨e2, h2, q2⟩⟩ := h
  exact ⟨⟨e1, (hb.cell (block_lt_of_cell h1)).trans h1, q1⟩, ⟨e2, (hb.cell (block_lt_of_cell h2)).trans h2, q2⟩⟩
def NamesSaid (P : Program) : Prop := ∀ (lo : Nat) (a : Option Addr) (len cap : Nat) (ss : List ByteArray) (w : World), SRow lo w a len cap ss → Errs w → (∀ j, j < ss.length → (ss.getD j ⟨#[]⟩).size ≤ 1048576) → Calls P 50 #[.slice a len cap] w fun e w' => e = .returned (.bool (Pl.apart ss)) ∧ Below w.heap.size w w'
set_option maxRecDepth 8000 in
set_option maxHeartbeats 8000000 in
theorem isFit_of (HNS : Hid (NamesSaid Tryz.prog)) {lo : Nat} (a : Option Addr) (len cap : Nat) (xs : List Pl.Ty) (i : Nat) (hi : i < len) (w : World) (h : TRow lo w a len cap xs) (hE : Errs w) (hsm : ∀ j, j < (xs.getD i Pl.Ty.zero).names.length → ((xs.getD i Pl.Ty.zero).names.getD j ⟨#[]⟩).size ≤ 1048576) :
    Calls Tryz.prog 28 #[.slice a len cap, .int .i64 i] w fun e w' => e = .returned (.bool (Pl.fit xs i)) ∧ Below w.heap.size w w' := by
  have hm : (len : Int) ≤ 9223372036854775807 := by have := h.small; omega
  have HR : Hid (TRow lo w a len cap xs) := h
  have HE : Hid (Errs w) := hE
  obtain ⟨b, off, v, s, rfl, hlo, hb1, hc, hrow, hs⟩ := h.at hi
  obtain ⟨x, hx⟩ : ∃ x, x = xs.getD i Pl.Ty.zero := ⟨_, rfl⟩
  rw [← hx] at hc hrow hs hsm
  obtain ⟨kk, nn, zs, nms⟩ := x
  have hvl : (v.len : Int) ≤ 9223372036854775807 := by have := hrow.small; omega
  have hsl : (s.len : Int) ≤ 9223372036854775807 := by have := hs.small; omega
  obtain ⟨c0, c1, c2, c3⟩ := ty_cells hc
  change w.cell? _ = some (.int .i64 kk) at c0
  change w.cell? _ = some (.int .i64 nn) at c1
  have HX : Hid (Pl.Ty.mk kk nn zs nms = xs.getD i Pl.Ty.zero) := hx
  have HS : Hid (SRow lo w s.a s.len s.cap nms) := hs
  have HOL : Hid (zs.length = v.len) := hrow.1
  have HSL : Hid (nms.length = s.len) := hs.1.1
  have hii : (i : Int) < (len : Int) := by omega
  have HSM : Hid (∀ j, j < nms.length → (nms.getD j ⟨#[]⟩).size ≤ 1048576) := hsm
  clear hx hs hrow hc h hE hsm
  go_enter Tryz.func28, Tryz.ntmps28
  go_wp2_with fail
  refine ty_at fun U1 hU1 => ?_
  have z1 : U1.heap.size = w.heap.size + 1 := by rw [hU1]; simp
  have q0 : U1.heap[w.heap.size]? = some (.cells #[.int .i64 kk, .int .i64 nn, .slice v.a v.len v.cap, .slice s.a s.len s.cap] 31) := by
    rw [hU1]; exact heap_alloc_new w _
  have b1 : Below w.heap.size w U1 := by rw [hU1]; exact below_alloc _ _
  clear hU1
  refine (ruleOfKind_any kk U1).mono ?_
  rintro e u1 ⟨rfl, d1⟩
  have Q0 := (d1.block w.heap.size (by omega)).trans q0
  have B1 : Hid (Below w.heap.size w u1) := b1.trans (d1.mono (by omega))
  have k0 : ∀ j, u1.cell? ⟨w.heap.size, j, none⟩ = (#[.int .i64 kk, .int .i64 nn, .slice v.a v.len v.cap, .slice s.a s.len s.cap] : Array Value)[j]? := fun j => cell_of_row u1 w.heap.size j _ 31 (0, 0) Q0
  have hzz : w.heap.size < u1.heap.size := by have := d1.size; omega
  have HQ0 : Hid (u1.heap[w.heap.size]? = some (.cells #[.int .i64 kk, .int .i64 nn, .slice v.a v.len v.cap, .slice s.a s.len s.cap] 31)) := Q0
  have e1 : u1.cell? ⟨w.heap.size, 1, none⟩ = some (.int .i64 nn) := k0 1
  have e2 : u1.cell? ⟨w.heap.size, 2, none⟩ = some (.slice v.a v.len v.cap) := k0 2
  have e3 : u1.cell? ⟨w.heap.size, 3, none⟩ = some (.slice s.a s.len s.cap) := k0 3
  clear q0 z1 b1 d1 Q0 c0 c1 c2 c3 k0
  cases hr : Pl.tRule kk with
  | none =>
    have HK : Hid (Pl.fit xs i = false) := by
      show Pl.fit xs i = false
      unfold Pl.fit; rw [← HX.out]; simp only [hr]
    simp only [Option.getD_none, Option.isSome_none, Pl.TRule.cells]
    go_wp2_with fail
    go_ret
    exact ⟨ret_bool HK.out.symm, B1.out.trans ((below_alloc _ _).mono B1.out.size)⟩
  | some r =>
    obtain ⟨lN, hN, le, mo, nm⟩ := r
    have HK : Hid (Pl.fit xs i = (Pl.within nn lN hN && Pl.within (v.len : Int) le mo && decide (∀ p, p < v.len → Pl.fitPart xs i p = true) && (if nm = true then decide (s.len = v.len) && Pl.apart nms else decide (s.len = 0)))) := by
      show Pl.fit xs i = _
      unfold Pl.fit; rw [← HX.out]; simp only [hr, Pl.fitR, HOL.out, HSL.out]
    simp only [Option.getD_some, Option.isSome_some, Pl.TRule.cells]
    clear hr
    cases hw1 : Pl.within nn lN hN
    · go_wp2_with (go_at_call 48; refine (isWithin_any _ _ _ _).mono ?_; rintro e u2 ⟨rfl, rfl⟩; first | rw [hw1] | rw [hw2])
      go_ret
      exact ⟨ret_bool (by rw [HK.out, hw1]; rfl), B1.out.trans ((below_alloc _ _).mono B1.out.size)⟩
    cases hw2 : Pl.within (v.len : Int) le mo
    · go_wp2_with (go_at_call 48; refine (isWithin_any _ _ _ _).mono ?_; rintro e u2 ⟨rfl, rfl⟩; first | rw [hw1] | rw [hw2])
      go_ret
      exact ⟨ret_bool (by rw [HK.out, hw1, hw2]; rfl), B1.out.trans ((below_alloc _ _).mono B1.out.size)⟩
    go_wp2_with (go_at_call 48; refine (isWithin_any _ _ _ _).mono ?_; rintro e u2 ⟨rfl, rfl⟩; first | rw [hw1] | rw [hw2])
    obtain ⟨U2, hU2⟩ : ∃ U2, U2 = u1.alloc (.cells #[.int .i64 lN, .int .i64 hN, .int .i64 le, .int .i64 mo, .bool nm] 84) := ⟨_, rfl⟩
    rw [← hU2]
    have r4 : U2.cell? ⟨u1.heap.size, 4, none⟩ = some (.bool nm) := by
      rw [hU2]; exact cell_of_row _ _ 4 _ 84 (0, 0) (heap_alloc_new u1 _)
    have d2 : Below u1.heap.size u1 U2 := by rw [hU2]; exact below_alloc _ _
    have g2 : U2.cell? ⟨w.heap.size, 2, none⟩ = some (.slice v.a v.len v.cap) := (d2.cell (p := ⟨w.heap.size, 2, none⟩) hzz).trans e2
    have g3 : U2.cell? ⟨w.heap.size, 3, none⟩ = some (.slice s.a s.len s.cap) := (d2.cell (p := ⟨w.heap.size, 3, none⟩) hzz).trans e3
    have B2 : Hid (Below w.heap.size w U2) := B1.out.trans (d2.mono B1.out.size)
    have Z2 : Hid (u1.heap.size < U2.heap.size) := by rw [hU2]; show _ < _; simp
    clear hU2 d2 e1 e2 e3 HQ0 B1
    have HK2 : Hid (Pl.fit xs i = (decide (∀ p, p < v.len → Pl.fitPart xs i p = true) && (if nm = true then decide (s.len = v.len) && Pl.apart nms else decide (s.len = 0)))) := by
      show Pl.fit xs i = _
      rw [HK.out, hw1, hw2]; rfl
    clear HK hw1 hw2
    go_loopw [45] (fun j wr => ∃ p : Nat, p ≤ v.len ∧ j = .int .i64 p ∧ (∀ q, q < p → Pl.fitPart xs i q = true) ∧ Below U2.heap.size U2 wr) (fun j _ => v.len - (intOf j).toNat)
    case atStart => exact ⟨0, Nat.zero_le _, rfl, fun q hq => absurd hq (Nat.not_lt_zero _), Below.refl _ _⟩
    case round =>
      obtain ⟨p, hp, rfl, hall, hb⟩ := hrel
      have HP : Hid (∀ q, q < p → Pl.fitPart xs i q = true) := hall
      have HB : Hid (Below U2.heap.size U2 wr) := hb
      have HB' : Hid (Below w.heap.size w wr) := B2.out.trans (hb.mono B2.out.size)
      clear hall hb
      by_cases hlt : p < v.len
      · have hj : (p : Int) < (v.len : Int) := by omega
        cases hf : Pl.fitPart xs i p
        · go_wp2_with (go_at_call 49; refine (isFitPart_any _ _ _ xs i p hi (by rw [← HX.out]; show p < zs.length; rw [HOL.out]; exact hlt) _ (HR.out.keep HB'.out)).mono ?_; rintro e u2 ⟨rfl, g1⟩; rw [hf]; have G1 : Hid _ := g1; clear g1)
          go_ret
          refine ⟨ret_bool ?_, HB'.out.trans (G1.out.mono HB'.out.size)⟩
          rw [HK2.out, decide_eq_false (fun hc => by have := hc p hlt; rw [hf] at this; cases this)]
          rfl
        · go_wp2_with (go_at_call 49; refine (isFitPart_any _ _ _ xs i p hi (by rw [← HX.out]; show p < zs.length; rw [HOL.out]; exact hlt) _ (HR.out.keep HB'.out)).mono ?_; rintro e u2 ⟨rfl, g1⟩; rw [hf]; have G1 : Hid _ := g1; clear g1)
          go_roundw
          case rel => exact ⟨p + 1, by omega, by go_num, fun q hq => by
            by_cases e : q = p
            · rw [e]; exact hf
            · exact HP.out q (by omega), HB.out.trans (G1.out.mono HB.out.size)⟩
          case measure => simp [intOf]; omega
      · have hpe : p = v.len := by omega
        have hj : ¬ ((p : Int) < (v.len : Int)) := by omega
        have R4 : wr.cell? ⟨u1.heap.size, 4, none⟩ = some (.bool nm) := (HB.out.cell (p := ⟨u1.heap.size, 4, none⟩) Z2.out).trans r4
        have G2 : wr.cell? ⟨w.heap.size, 2, none⟩ = some (.slice v.a v.len v.cap) := (HB.out.cell (p := ⟨w.heap.size, 2, none⟩) (Nat.lt_trans hzz Z2.out)).trans g2
        have G3 : wr.cell? ⟨w.heap.size, 3, none⟩ = some (.slice s.a s.len s.cap) := (HB.out.cell (p := ⟨w.heap.size, 3, none⟩) (Nat.lt_trans hzz Z2.out)).trans g3
        have HK3 : Hid (Pl.fit xs i = (if nm = true then decide (s.len = v.len) && Pl.apart nms else decide (s.len = 0))) := by
          show Pl.fit xs i = _
          rw [HK2.out, decide_eq_true (fun q hq => HP.out q (by omega)), Bool.true_and]
        clear HK2 r4 g2 g3 HP
        cases nm
        · go_wp2_with fail
          all_goals (go_ret; refine ⟨ret_bool ?_, HB'.out⟩; rw [HK3.out, Bool.eq_iff_iff]; simp <;> omega)
        · by_cases hsv : (s.len : Int) = (v.len : Int)
          · go_wp2_with (go_at_call 50; refine (HNS.out lo s.a s.len s.cap nms _ (HS.out.keep HB'.out) (HE.out.keep HB'.out) HSM.out).mono ?_; rintro e u2 ⟨rfl, g1⟩; have G1 : Hid _ := g1; clear g1)
            go_ret
            refine ⟨ret_bool ?_, HB'.out.trans (G1.out.mono HB'.out.size)⟩
            rw [HK3.out, Bool.eq_iff_iff]; simp <;> omega
          · go_wp2_with fail
            all_goals (go_ret; refine ⟨ret_bool ?_, HB'.out⟩; rw [HK3.out, Bool.eq_iff_iff]; simp <;> omega)
end Go.Proofs.YtafcnijfoejboaaGreatDoor.W
namespace Go.Proofs.YtafcnijfoejboaaGreatDoor.W
open Go.RowKit
set_option maxRecDepth 8000 in
set_option maxHeartbeats 4000000 in
theorem isKey_any (s : ByteArray) (w : World) : Calls Tryz.prog 85 #[.string s] w fun e w' => e = .returned (.bool (Pl.inS Pl.kws s)) ∧ w' = w := by
  have HE : Hid (Pl.inS Pl.kws s = (Pl.kwB.any fun r => s.toList == r)) := by
    show Pl.inS Pl.kws s = _
    unfold Pl.inS Pl.kws
    rw [List.any_map]
    congr 1
    funext r
    simp only [Function.comp, ByteArray.toList_eq]
    exact Bool.beq_comm
  go_enter Tryz.func85, Tryz.ntmps85
  go_wp2
  all_goals (go_ret; refine ⟨ret_bool ?_, rfl⟩; rw [HE.out]; simp only [Pl.kwB, List.any_cons, List.any_nil]; simp_all)
end Go.Proofs.YtafcnijfoejboaaGreatDoor.W
namespace Go.Proofs.YtafcnijfoejboaaGreatDoor.W
open Go.RowKit
theorem isDigitR_any (c : Int) (w : World) : Calls Tryz.prog 87 #[.int .i32 c] w fun e w' => e = .returned (.bool (Pl.dg c)) ∧ w' = w := by
  go_enter Tryz.func87, Tryz.ntmps87
  go_wp2
  all_goals (go_ret; refine ⟨ret_bool ?_, rfl⟩; rw [Bool.eq_iff_iff]; simp [Pl.dg] <;> omega)
set_option maxHeartbeats 1000000 in
theorem inWordR_any (c : Int) (w : World) : Calls Tryz.prog 82 #[.int .i32 c] w fun e w' => e = .returned (.bool (Pl.wch c)) ∧ w' = w := by
  cases hd : Pl.dg c
  · have hn : ¬ (48 ≤ c ∧ c ≤ 57) := by simpa [Pl.dg] using hd
    go_enter Tryz.func82, Tryz.ntmps82
    go_wp2_with (go_at_call 87; refine (isDigitR_any _ _).mono ?_; rintro e u1 ⟨rfl, rfl⟩; rw [hd])
    all_goals (go_ret; refine ⟨ret_bool ?_, rfl⟩; rw [Bool.eq_iff_iff]; simp [Pl.dg, Pl.lt, Pl.wch] <;> omega)
  · have hn : 48 ≤ c ∧ c ≤ 57 := by simpa [Pl.dg] using hd
    go_enter Tryz.func82, Tryz.ntmps82
    go_wp2_with (go_at_call 87; refine (isDigitR_any _ _).mono ?_; rintro e u1 ⟨rfl, rfl⟩; rw [hd])
    all_goals (go_ret; refine ⟨ret_bool ?_, rfl⟩; rw [Bool.eq_iff_iff]; simp [Pl.dg, Pl.lt, Pl.wch] <;> omega)
end Go.Proofs.YtafcnijfoejboaaGreatDoor.W
namespace Go.Proofs.YtafcnijfoejboaaGreatDoor.W
open Go.RowKit
set_option maxHeartbeats 2000000 in
theorem readWord_nd (s : ByteArray) (hpos : 0 < s.size) (hd : Pl.dg (Pl.byt s 0) = false) (w : World) : Calls Tryz.prog 77 #[.string s] w fun e w' => ∃ (kd code : Int) (t : ByteArray), e = .returned (.tuple #[.agg #[.int .i64 kd, .string t, .int .i64 0, .int .i64 0, .int .i64 0], .int .i64 code]) ∧ ((code = 0 ∧ kd = 1) ↔ (s.size ≤ 40 ∧ Pl.inS Pl.kws s = false)) ∧ Below w.heap.size w w' := by
  by_cases hb : (40 : Int) < (s.size : Int)
  · go_enter Tryz.func77, Tryz.ntmps77
    go_wp2_with (go_at_call 83; refine (isDigit_any _ _).mono ?_; rintro e u1 ⟨rfl, rfl⟩; rw [Pl.byt_get s 0 hpos, hd])
    exact bodyPost_ret (v := .tuple #[.agg #[.int .i64 0, .string ⟨#[]⟩, .int .i64 0, .int .i64 0, .int .i64 0], .int .i64 8]) (by simp [results, Tryz.results77, go_sem]) rfl ⟨0, 8, ⟨#[]⟩, rfl, by omega, below_alloc _ _⟩
  · cases hk : Pl.inS Pl.kws s
    · go_enter Tryz.func77, Tryz.ntmps77
      go_wp2_with (first | (go_at_call 83; refine (isDigit_any _ _).mono ?_; rintro e u1 ⟨rfl, rfl⟩; rw [Pl.byt_get s 0 hpos, hd]) | (go_at_call 85; refine (isKey_any s _).mono ?_; rintro e u1 ⟨rfl, rfl⟩; rw [hk]))
      exact bodyPost_ret (v := .tuple #[.agg #[.int .i64 1, .string s, .int .i64 0, .int .i64 0, .int .i64 0], .int .i64 0]) (by simp [results, Tryz.results77, go_sem]) rfl ⟨1, 0, s, rfl, ⟨fun _ => ⟨by omega, by first | rfl | trivial⟩, fun _ => ⟨rfl, rfl⟩⟩, below_alloc _ _⟩
    · go_enter Tryz.func77, Tryz.ntmps77
      go_wp2_with (first | (go_at_call 83; refine (isDigit_any _ _).mono ?_; rintro e u1 ⟨rfl, rfl⟩; rw [Pl.byt_get s 0 hpos, hd]) | (go_at_call 85; refine (isKey_any s _).mono ?_; rintro e u1 ⟨rfl, rfl⟩; rw [hk]))
      exact bodyPost_ret (v := .tuple #[.agg #[.int .i64 2, .string s, .int .i64 0, .int .i64 0, .int .i64 0], .int .i64 0]) (by simp [results, Tryz.results77, go_sem]) rfl ⟨2, 0, s, rfl, ⟨fun h => absurd h.2 (by decide), fun h => by simp at h⟩, below_alloc _ _⟩
end Go.Proofs.YtafcnijfoejboaaGreatDoor.W
namespace Go.Proofs.YtafcnijfoejboaaGreatDoor.Pl
theorem wch_high (c : Int) (h : 128 ≤ c) : wch c = false := by
  rw [Bool.eq_false_iff]
  simp [wch, lt, dg]
  omega
theorem wch_decode (s : ByteArray) (pos : Nat) (h : pos < s.size) : wch ((Utf8.decode s pos).1 : Nat) = wch (byt s pos) := by
  by_cases ha : (s[pos]'h).toNat < 128
  · rw [decode_ascii s pos h ha, ← byt_get s pos h]
  · rw [wch_high _ (by have := (decode_high s pos h (by omega)).1; omega), wch_high _ (by rw [← byt_get s pos h]; omega)]
theorem step_decode (s : ByteArray) (pos : Nat) (h : pos < s.size) (hw : wch (byt s pos) = true) : (Utf8.decode s pos).2 = 1 := by
  by_cases ha : (s[pos]'h).toNat < 128
  · rw [decode_ascii s pos h ha]
  · rw [wch_high _ (by rw [← byt_get s pos h]; omega)] at hw
    cases hw
end Go.Proofs.YtafcnijfoejboaaGreatDoor.Pl
namespace Go.Proofs.YtafcnijfoejboaaGreatDoor.W
open Go.RowKit
theorem below_iter (w : World) (s : ByteArray) (pos : Nat) : Below w.heap.size w (w.iter s pos) := below_alloc w _
set_option maxRecDepth 100000 in
set_option maxHeartbeats 2000000 in
theorem wordOf_any (s : ByteArray) (hs : s.size ≤ 9223372036854775807) (w : World) : Calls Tryz.prog 76 #[.string s] w fun e w' => ∃ n, n ≤ s.size ∧ (∀ j, j < n → Pl.wch (Pl.byt s j) = true) ∧ (n = s.size ∨ Pl.wch (Pl.byt s n) = false) ∧ e = .returned (.string (s.extract 0 n)) ∧ Below w.heap.size w w' := by
  go_enter Tryz.func76, Tryz.ntmps76
  go_wp2
  go_loopw [3] (fun _ w' => ∃ pos : Nat, pos ≤ s.size ∧ w' = w.iter s pos ∧ (∀ j, j < pos → Pl.wch (Pl.byt s j) = true)) (fun _ w' => s.size - w'.iterPos w.heap.size)
  case atStart => exact ⟨0, Nat.zero_le _, rfl, fun j hj => absurd hj (Nat.not_lt_zero _)⟩
  case round =>
    obtain ⟨pos, hps, rfl, hall⟩ := hrel
    have HA : Hid (∀ j, j < pos → Pl.wch (Pl.byt s j) = true) := hall
    clear hall
    by_cases hp : pos < s.size
    · have hnx : ∀ ty, (Instr.next (.pointer (some ⟨w.heap.size, 0, none⟩)) true ty).run Tryz.prog (w.iter s pos) = _ := fun ty => run_next_any w s pos ty hp
      have hpi : (pos : Int) ≤ (s.size : Int) := by omega
      cases hc : Pl.wch (Pl.byt s pos)
      · go_wp2_with (go_at_call 82; refine (inWordR_any _ _).mono ?_; rintro e u1 ⟨rfl, rfl⟩; rw [Pl.wch_decode s pos hp, hc])
        go_ret
        exact ⟨pos, hps, HA.out, .inr hc, rfl, below_iter _ _ _⟩
      · have hd2 := Pl.step_decode s pos hp hc
        have HD : Hid ((Utf8.decode s pos).2 = 1) := hd2
        clear hd2
        go_wp2_with (go_at_call 82; refine (inWordR_any _ _).mono ?_; rintro e u1 ⟨rfl, rfl⟩; rw [Pl.wch_decode s pos hp, hc])
        go_roundw
        case rel => exact ⟨pos + 1, by omega, by rw [HD.out], fun j hj => by
          by_cases e : j = pos
          · rw [e]; exact hc
          · exact HA.out j (by omega)⟩
        case measure => rw [HD.out]; simp; omega
    · have hnx : ∀ ty, (Instr.next (.pointer (some ⟨w.heap.size, 0, none⟩)) true ty).run Tryz.prog (w.iter s pos) = _ := fun ty => run_next_end w s pos ty hp
      go_wp2
      go_ret
      have hpe : pos = s.size := by omega
      exact ⟨pos, hps, HA.out, .inl hpe, by rw [hpe]; simp, below_iter _ _ _⟩
end Go.Proofs.YtafcnijfoejboaaGreatDoor.W
namespace Go.Proofs.YtafcnijfoejboaaGreatDoor.W
open Go.RowKit
theorem width_pos (s : ByteArray) (pos : Nat) (h : pos < s.size) : 1 ≤ (Utf8.decode s pos).2 := by
  by_cases ha : (s[pos]'h).toNat < 128
  · rw [decode_ascii s pos h ha]
    exact Nat.le_refl _
  · exact (decode_high s pos h (by omega)).2
set_option maxHeartbeats 1000000 in
theorem digitOf_any (c : Int) (w : World) : Calls Tryz.prog 103 #[.int .i32 c] w fun e w' => (∃ d : Int, e = .returned (.int .i64 d)) ∧ w' = w := by
  cases hd : Pl.dg c
  all_goals
    go_enter Tryz.func103, Tryz.ntmps103
    go_wp2_with (go_at_call 87; refine (isDigitR_any _ _).mono ?_; rintro e u1 ⟨rfl, rfl⟩; rw [hd])
    all_goals (go_ret; exact ⟨⟨_, rfl⟩, rfl⟩)
set_option maxRecDepth 100000 in
set_option maxHeartbeats 2000000 in
theorem digitCount_any (s : ByteArray) (b : Int) (w : World) : Calls Tryz.prog 97 #[.string s, .int .i64 b] w fun e w' => (∃ d : Int, e = .returned (.int .i64 d)) ∧ Below w.heap.size w w' := by
  go_enter Tryz.func97, Tryz.ntmps97
  go_wp2
  go_loopw [5] (fun _ w' => ∃ pos : Nat, w' = w.iter s pos) (fun _ w' => s.size - w'.iterPos w.heap.size)
  case atStart => exact ⟨0, rfl⟩
  case round =>
    obtain ⟨pos, rfl⟩ := hrel
    by_cases hp : pos < s.size
    · have hnx : ∀ ty, (Instr.next (.pointer (some ⟨w.heap.size, 0, none⟩)) true ty).run Tryz.prog (w.iter s pos) = _ := fun ty => run_next_any w s pos ty hp
      have HW : Hid (1 ≤ (Utf8.decode s pos).2) := width_pos s pos hp
      go_wp2_with (go_at_call 103; refine (digitOf_any _ _).mono ?_; rintro e u1 ⟨⟨d, rfl⟩, rfl⟩)
      · go_ret
        exact ⟨⟨_, rfl⟩, below_iter _ _ _⟩
      · go_roundw
        case rel => exact ⟨_, rfl⟩
        case measure =>
          have := HW.out
          simp
          omega
    · have hnx : ∀ ty, (Instr.next (.pointer (some ⟨w.heap.size, 0, none⟩)) true ty).run Tryz.prog (w.iter s pos) = _ := fun ty => run_next_end w s pos ty hp
      go_wp2
      go_ret
      exact ⟨⟨_, rfl⟩, below_iter _ _ _⟩
theorem inBase_any (s : ByteArray) (b : Int) (w : World) : Calls Tryz.prog 90 #[.string s, .int .i64 b] w fun e w' => (∃ d : Bool, e = .returned (.bool d)) ∧ Below w.heap.size w w' := by
  go_enter Tryz.func90, Tryz.ntmps90
  go_wp2_with (go_at_call 97; refine (digitCount_any s b _).mono ?_; rintro e u1 ⟨⟨d, rfl⟩, g1⟩)
  go_ret
  exact ⟨⟨_, rfl⟩, g1⟩
end Go.Proofs.YtafcnijfoejboaaGreatDoor.W
