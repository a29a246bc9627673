import Derived.Test.YtgpmplcamdophaaDoorIpB
set_option linter.unusedVariables false
set_option linter.unusedSimpArgs false
namespace Go.Proofs.YtgpmplcamdophaaDoor.Pl
def opsF (f k : Nat) : List Int :=
  if f = 1 then [0, 1, 2] else if f = 2 ∨ f = 3 then (if 28 ≤ k ∧ k ≤ 33 then [0, 4] else [0, 1, 3]) else if f = 4 then [2, 4] else if f = 5 then [1, 2, 5] else if f = 6 then [0, 3] else if f = 7 then [0, 5] else []
end Go.Proofs.YtgpmplcamdophaaDoor.Pl
namespace Go.Proofs.YtgpmplcamdophaaDoor.W
open Go.RowKit
theorem heap_new_at {w : World} {o : Obj} {n : Nat} (h : n = w.heap.size) : (w.alloc o).heap[n]? = some o := h ▸ heap_alloc_new w o
set_option maxHeartbeats 2000000 in
theorem oo_1 (k : Nat) (h1 : 1 ≤ k) (h2 : k ≤ 47) (hf : Pl.fm k = 1) (w : World) : Calls Tryd.prog 61 #[.int .i64 k] w fun e w' => ∃ a cap, e = .returned (.slice a ([0, 1, 2]).length cap) ∧ Lst w' a ([0, 1, 2]) ∧ Below w.heap.size w w' := by
  have HF : Hid (Pl.fm k = 1) := hf
  clear hf
  go_enter Tryd.func61, Tryd.ntmps61
  go_wp2_with (go_at_call 58; refine (rowOf_at k h1 h2 _).mono ?_; rintro e u1 ⟨rfl, rfl⟩; unfold Pl.rowV; rw [HF.out])
  go_ret
  exact ⟨_, _, rfl, .inr ⟨_, rfl, heap_new_at (by simp)⟩, (by repeat (first | exact Below.refl _ _ | refine Below.alloc ?_ (by simp <;> omega) _))⟩
set_option maxHeartbeats 2000000 in
theorem oo_2m (k : Nat) (h1 : 1 ≤ k) (h2 : k ≤ 47) (hf : Pl.fm k = 2) (e1 : decide (28 ≤ (k : Int)) = true) (e2 : decide ((k : Int) ≤ 33) = true) (w : World) : Calls Tryd.prog 61 #[.int .i64 k] w fun e w' => ∃ a cap, e = .returned (.slice a ([0, 4]).length cap) ∧ Lst w' a ([0, 4]) ∧ Below w.heap.size w w' := by
  have HF : Hid (Pl.fm k = 2) := hf
  clear hf
  go_enter Tryd.func61, Tryd.ntmps61
  go_wp2_with (go_at_call 58; refine (rowOf_at k h1 h2 _).mono ?_; rintro e u1 ⟨rfl, rfl⟩; unfold Pl.rowV; rw [HF.out])
  go_ret
  exact ⟨_, _, rfl, .inr ⟨_, rfl, heap_new_at (by simp)⟩, (by repeat (first | exact Below.refl _ _ | refine Below.alloc ?_ (by simp <;> omega) _))⟩
set_option maxHeartbeats 2000000 in
theorem oo_2l (k : Nat) (h1 : 1 ≤ k) (h2 : k ≤ 47) (hf : Pl.fm k = 2) (e1 : decide (28 ≤ (k : Int)) = false) (w : World) : Calls Tryd.prog 61 #[.int .i64 k] w fun e w' => ∃ a cap, e = .returned (.slice a ([0, 1, 3]).length cap) ∧ Lst w' a ([0, 1, 3]) ∧ Below w.heap.size w w' := by
  have HF : Hid (Pl.fm k = 2) := hf
  clear hf
  go_enter Tryd.func61, Tryd.ntmps61
  go_wp2_with (go_at_call 58; refine (rowOf_at k h1 h2 _).mono ?_; rintro e u1 ⟨rfl, rfl⟩; unfold Pl.rowV; rw [HF.out])
  go_ret
  exact ⟨_, _, rfl, .inr ⟨_, rfl, heap_new_at (by simp)⟩, (by repeat (first | exact Below.refl _ _ | refine Below.alloc ?_ (by simp <;> omega) _))⟩
set_option maxHeartbeats 2000000 in
theorem oo_2h (k : Nat) (h1 : 1 ≤ k) (h2 : k ≤ 47) (hf : Pl.fm k = 2) (e1 : decide (28 ≤ (k : Int)) = true) (e2 : decide ((k : Int) ≤ 33) = false) (w : World) : Calls Tryd.prog 61 #[.int .i64 k] w fun e w' => ∃ a cap, e = .returned (.slice a ([0, 1, 3]).length cap) ∧ Lst w' a ([0, 1, 3]) ∧ Below w.heap.size w w' := by
  have HF : Hid (Pl.fm k = 2) := hf
  clear hf
  go_enter Tryd.func61, Tryd.ntmps61
  go_wp2_with (go_at_call 58; refine (rowOf_at k h1 h2 _).mono ?_; rintro e u1 ⟨rfl, rfl⟩; unfold Pl.rowV; rw [HF.out])
  go_ret
  exact ⟨_, _, rfl, .inr ⟨_, rfl, heap_new_at (by simp)⟩, (by repeat (first | exact Below.refl _ _ | refine Below.alloc ?_ (by simp <;> omega) _))⟩
set_option maxHeartbeats 2000000 in
theorem oo_3m (k : Nat) (h1 : 1 ≤ k) (h2 : k ≤ 47) (hf : Pl.fm k = 3) (e1 : decide (28 ≤ (k : Int)) = true) (e2 : decide ((k : Int) ≤ 33) = true) (w : World) : Calls Tryd.prog 61 #[.int .i64 k] w fun e w' => ∃ a cap, e = .returned (.slice a ([0, 4]).length cap) ∧ Lst w' a ([0, 4]) ∧ Below w.heap.size w w' := by
  have HF : Hid (Pl.fm k = 3) := hf
  clear hf
  go_enter Tryd.func61, Tryd.ntmps61
  go_wp2_with (go_at_call 58; refine (rowOf_at k h1 h2 _).mono ?_; rintro e u1 ⟨rfl, rfl⟩; unfold Pl.rowV; rw [HF.out])
  go_ret
  exact ⟨_, _, rfl, .inr ⟨_, rfl, heap_new_at (by simp)⟩, (by repeat (first | exact Below.refl _ _ | refine Below.alloc ?_ (by simp <;> omega) _))⟩
set_option maxHeartbeats 2000000 in
theorem oo_3l (k : Nat) (h1 : 1 ≤ k) (h2 : k ≤ 47) (hf : Pl.fm k = 3) (e1 : decide (28 ≤ (k : Int)) = false) (w : World) : Calls Tryd.prog 61 #[.int .i64 k] w fun e w' => ∃ a cap, e = .returned (.slice a ([0, 1, 3]).length cap) ∧ Lst w' a ([0, 1, 3]) ∧ Below w.heap.size w w' := by
  have HF : Hid (Pl.fm k = 3) := hf
  clear hf
  go_enter Tryd.func61, Tryd.ntmps61
  go_wp2_with (go_at_call 58; refine (rowOf_at k h1 h2 _).mono ?_; rintro e u1 ⟨rfl, rfl⟩; unfold Pl.rowV; rw [HF.out])
  go_ret
  exact ⟨_, _, rfl, .inr ⟨_, rfl, heap_new_at (by simp)⟩, (by repeat (first | exact Below.refl _ _ | refine Below.alloc ?_ (by simp <;> omega) _))⟩
set_option maxHeartbeats 2000000 in
theorem oo_3h (k : Nat) (h1 : 1 ≤ k) (h2 : k ≤ 47) (hf : Pl.fm k = 3) (e1 : decide (28 ≤ (k : Int)) = true) (e2 : decide ((k : Int) ≤ 33) = false) (w : World) : Calls Tryd.prog 61 #[.int .i64 k] w fun e w' => ∃ a cap, e = .returned (.slice a ([0, 1, 3]).length cap) ∧ Lst w' a ([0, 1, 3]) ∧ Below w.heap.size w w' := by
  have HF : Hid (Pl.fm k = 3) := hf
  clear hf
  go_enter Tryd.func61, Tryd.ntmps61
  go_wp2_with (go_at_call 58; refine (rowOf_at k h1 h2 _).mono ?_; rintro e u1 ⟨rfl, rfl⟩; unfold Pl.rowV; rw [HF.out])
  go_ret
  exact ⟨_, _, rfl, .inr ⟨_, rfl, heap_new_at (by simp)⟩, (by repeat (first | exact Below.refl _ _ | refine Below.alloc ?_ (by simp <;> omega) _))⟩
set_option maxHeartbeats 2000000 in
theorem oo_4 (k : Nat) (h1 : 1 ≤ k) (h2 : k ≤ 47) (hf : Pl.fm k = 4) (w : World) : Calls Tryd.prog 61 #[.int .i64 k] w fun e w' => ∃ a cap, e = .returned (.slice a ([2, 4]).length cap) ∧ Lst w' a ([2, 4]) ∧ Below w.heap.size w w' := by
  have HF : Hid (Pl.fm k = 4) := hf
  clear hf
  go_enter Tryd.func61, Tryd.ntmps61
  go_wp2_with (go_at_call 58; refine (rowOf_at k h1 h2 _).mono ?_; rintro e u1 ⟨rfl, rfl⟩; unfold Pl.rowV; rw [HF.out])
  go_ret
  exact ⟨_, _, rfl, .inr ⟨_, rfl, heap_new_at (by simp)⟩, (by repeat (first | exact Below.refl _ _ | refine Below.alloc ?_ (by simp <;> omega) _))⟩
set_option maxHeartbeats 2000000 in
theorem oo_5 (k : Nat) (h1 : 1 ≤ k) (h2 : k ≤ 47) (hf : Pl.fm k = 5) (w : World) : Calls Tryd.prog 61 #[.int .i64 k] w fun e w' => ∃ a cap, e = .returned (.slice a ([1, 2, 5]).length cap) ∧ Lst w' a ([1, 2, 5]) ∧ Below w.heap.size w w' := by
  have HF : Hid (Pl.fm k = 5) := hf
  clear hf
  go_enter Tryd.func61, Tryd.ntmps61
  go_wp2_with (go_at_call 58; refine (rowOf_at k h1 h2 _).mono ?_; rintro e u1 ⟨rfl, rfl⟩; unfold Pl.rowV; rw [HF.out])
  go_ret
  exact ⟨_, _, rfl, .inr ⟨_, rfl, heap_new_at (by simp)⟩, (by repeat (first | exact Below.refl _ _ | refine Below.alloc ?_ (by simp <;> omega) _))⟩
set_option maxHeartbeats 2000000 in
theorem oo_6 (k : Nat) (h1 : 1 ≤ k) (h2 : k ≤ 47) (hf : Pl.fm k = 6) (w : World) : Calls Tryd.prog 61 #[.int .i64 k] w fun e w' => ∃ a cap, e = .returned (.slice a ([0, 3]).length cap) ∧ Lst w' a ([0, 3]) ∧ Below w.heap.size w w' := by
  have HF : Hid (Pl.fm k = 6) := hf
  clear hf
  go_enter Tryd.func61, Tryd.ntmps61
  go_wp2_with (go_at_call 58; refine (rowOf_at k h1 h2 _).mono ?_; rintro e u1 ⟨rfl, rfl⟩; unfold Pl.rowV; rw [HF.out])
  go_ret
  exact ⟨_, _, rfl, .inr ⟨_, rfl, heap_new_at (by simp)⟩, (by repeat (first | exact Below.refl _ _ | refine Below.alloc ?_ (by simp <;> omega) _))⟩
set_option maxHeartbeats 2000000 in
theorem oo_7 (k : Nat) (h1 : 1 ≤ k) (h2 : k ≤ 47) (hf : Pl.fm k = 7) (w : World) : Calls Tryd.prog 61 #[.int .i64 k] w fun e w' => ∃ a cap, e = .returned (.slice a ([0, 5]).length cap) ∧ Lst w' a ([0, 5]) ∧ Below w.heap.size w w' := by
  have HF : Hid (Pl.fm k = 7) := hf
  clear hf
  go_enter Tryd.func61, Tryd.ntmps61
  go_wp2_with (go_at_call 58; refine (rowOf_at k h1 h2 _).mono ?_; rintro e u1 ⟨rfl, rfl⟩; unfold Pl.rowV; rw [HF.out])
  go_ret
  exact ⟨_, _, rfl, .inr ⟨_, rfl, heap_new_at (by simp)⟩, (by repeat (first | exact Below.refl _ _ | refine Below.alloc ?_ (by simp <;> omega) _))⟩
set_option maxHeartbeats 2000000 in
theorem oo_8 (k : Nat) (h1 : 1 ≤ k) (h2 : k ≤ 47) (hf : Pl.fm k = 8) (w : World) : Calls Tryd.prog 61 #[.int .i64 k] w fun e w' => ∃ a cap, e = .returned (.slice a ([] : List Int).length cap) ∧ Lst w' a ([] : List Int) ∧ Below w.heap.size w w' := by
  have HF : Hid (Pl.fm k = 8) := hf
  clear hf
  go_enter Tryd.func61, Tryd.ntmps61
  go_wp2_with (go_at_call 58; refine (rowOf_at k h1 h2 _).mono ?_; rintro e u1 ⟨rfl, rfl⟩; unfold Pl.rowV; rw [HF.out])
  go_ret
  exact ⟨_, _, rfl, .inl rfl, (by repeat (first | exact Below.refl _ _ | refine Below.alloc ?_ (by simp <;> omega) _))⟩
theorem oo_any (k : Nat) (h1 : 1 ≤ k) (h2 : k ≤ 47) (w : World) : Calls Tryd.prog 61 #[.int .i64 k] w fun e w' => ∃ a cap, e = .returned (.slice a (Pl.opsF (Pl.fmN k) k).length cap) ∧ Lst w' a (Pl.opsF (Pl.fmN k) k) ∧ Below w.heap.size w w' := by
  obtain ⟨f1, f2, hf⟩ := fm_at k h1 h2
  have hc : Pl.fmN k = 1 ∨ Pl.fmN k = 2 ∨ Pl.fmN k = 3 ∨ Pl.fmN k = 4 ∨ Pl.fmN k = 5 ∨ Pl.fmN k = 6 ∨ Pl.fmN k = 7 ∨ Pl.fmN k = 8 := by omega
  rcases hc with e | e | e | e | e | e | e | e <;> rw [e] at hf ⊢
  · exact oo_1 k h1 h2 hf w
  · by_cases hk : 28 ≤ k ∧ k ≤ 33
    · have : Pl.opsF 2 k = [0, 4] := by simp [Pl.opsF, hk]
      rw [this]
      exact oo_2m k h1 h2 hf (by simp; omega) (by simp; omega) w
    · have : Pl.opsF 2 k = [0, 1, 3] := by simp [Pl.opsF, hk]
      rw [this]
      by_cases h28 : 28 ≤ k
      · exact oo_2h k h1 h2 hf (by simp; omega) (by simp; omega) w
      · exact oo_2l k h1 h2 hf (by simp; omega) w
  · by_cases hk : 28 ≤ k ∧ k ≤ 33
    · have : Pl.opsF 3 k = [0, 4] := by simp [Pl.opsF, hk]
      rw [this]
      exact oo_3m k h1 h2 hf (by simp; omega) (by simp; omega) w
    · have : Pl.opsF 3 k = [0, 1, 3] := by simp [Pl.opsF, hk]
      rw [this]
      by_cases h28 : 28 ≤ k
      · exact oo_3h k h1 h2 hf (by simp; omega) (by simp; omega) w
      · exact oo_3l k h1 h2 hf (by simp; omega) w
  · exact oo_4 k h1 h2 hf w
  · exact oo_5 k h1 h2 hf w
  · exact oo_6 k h1 h2 hf w
  · exact oo_7 k h1 h2 hf w
  · exact oo_8 k h1 h2 hf w
set_option maxHeartbeats 1000000 in
theorem od_4 (op rd r1 r2 im n : Int) (s : ByteArray) (w : World) : Calls Tryd.prog 44 #[.agg #[.int .i64 4, .int .i64 op, .int .i64 rd, .int .i64 r1, .int .i64 r2, .int .i64 im, .string s, .int .i64 n]] w fun e w' => ∃ a cap, e = .returned (.slice a ([0, 8]).length cap) ∧ Lst w' a [0, 8] ∧ Below w.heap.size w w' := by
  go_enter Tryd.func44, Tryd.ntmps44
  go_wp2
  go_ret
  exact ⟨_, _, rfl, .inr ⟨_, rfl, heap_new_at (by simp)⟩, (by repeat (first | exact Below.refl _ _ | refine Below.alloc ?_ (by simp <;> omega) _))⟩
set_option maxHeartbeats 1000000 in
theorem od_5 (op rd r1 r2 im n : Int) (s : ByteArray) (w : World) : Calls Tryd.prog 44 #[.agg #[.int .i64 5, .int .i64 op, .int .i64 rd, .int .i64 r1, .int .i64 r2, .int .i64 im, .string s, .int .i64 n]] w fun e w' => ∃ a cap, e = .returned (.slice a ([0, 6]).length cap) ∧ Lst w' a [0, 6] ∧ Below w.heap.size w w' := by
  go_enter Tryd.func44, Tryd.ntmps44
  go_wp2
  go_ret
  exact ⟨_, _, rfl, .inr ⟨_, rfl, heap_new_at (by simp)⟩, (by repeat (first | exact Below.refl _ _ | refine Below.alloc ?_ (by simp <;> omega) _))⟩
set_option maxHeartbeats 1000000 in
theorem od_6 (op rd r1 r2 im n : Int) (s : ByteArray) (w : World) : Calls Tryd.prog 44 #[.agg #[.int .i64 6, .int .i64 op, .int .i64 rd, .int .i64 r1, .int .i64 r2, .int .i64 im, .string s, .int .i64 n]] w fun e w' => ∃ a cap, e = .returned (.slice a ([0, 1]).length cap) ∧ Lst w' a [0, 1] ∧ Below w.heap.size w w' := by
  go_enter Tryd.func44, Tryd.ntmps44
  go_wp2
  go_ret
  exact ⟨_, _, rfl, .inr ⟨_, rfl, heap_new_at (by simp)⟩, (by repeat (first | exact Below.refl _ _ | refine Below.alloc ?_ (by simp <;> omega) _))⟩
set_option maxHeartbeats 1000000 in
theorem od_7 (op rd r1 r2 im n : Int) (s : ByteArray) (w : World) : Calls Tryd.prog 44 #[.agg #[.int .i64 7, .int .i64 op, .int .i64 rd, .int .i64 r1, .int .i64 r2, .int .i64 im, .string s, .int .i64 n]] w fun e w' => ∃ a cap, e = .returned (.slice a ([5]).length cap) ∧ Lst w' a [5] ∧ Below w.heap.size w w' := by
  go_enter Tryd.func44, Tryd.ntmps44
  go_wp2
  go_ret
  exact ⟨_, _, rfl, .inr ⟨_, rfl, heap_new_at (by simp)⟩, (by repeat (first | exact Below.refl _ _ | refine Below.alloc ?_ (by simp <;> omega) _))⟩
set_option maxHeartbeats 1000000 in
theorem od_8 (op rd r1 r2 im n : Int) (s : ByteArray) (w : World) : Calls Tryd.prog 44 #[.agg #[.int .i64 8, .int .i64 op, .int .i64 rd, .int .i64 r1, .int .i64 r2, .int .i64 im, .string s, .int .i64 n]] w fun e w' => ∃ a cap, e = .returned (.slice a ([5]).length cap) ∧ Lst w' a [5] ∧ Below w.heap.size w w' := by
  go_enter Tryd.func44, Tryd.ntmps44
  go_wp2
  go_ret
  exact ⟨_, _, rfl, .inr ⟨_, rfl, heap_new_at (by simp)⟩, (by repeat (first | exact Below.refl _ _ | refine Below.alloc ?_ (by simp <;> omega) _))⟩
set_option maxHeartbeats 1000000 in
theorem od_9 (op rd r1 r2 im n : Int) (s : ByteArray) (w : World) : Calls Tryd.prog 44 #[.agg #[.int .i64 9, .int .i64 op, .int .i64 rd, .int .i64 r1, .int .i64 r2, .int .i64 im, .string s, .int .i64 n]] w fun e w' => ∃ a cap, e = .returned (.slice a (([] : List Int)).length cap) ∧ Lst w' a ([] : List Int) ∧ Below w.heap.size w w' := by
  go_enter Tryd.func44, Tryd.ntmps44
  go_wp2
  go_ret
  exact ⟨_, _, rfl, .inl rfl, (by repeat (first | exact Below.refl _ _ | refine Below.alloc ?_ (by simp <;> omega) _))⟩
set_option maxHeartbeats 1000000 in
theorem od_10 (op rd r1 r2 im n : Int) (s : ByteArray) (w : World) : Calls Tryd.prog 44 #[.agg #[.int .i64 10, .int .i64 op, .int .i64 rd, .int .i64 r1, .int .i64 r2, .int .i64 im, .string s, .int .i64 n]] w fun e w' => ∃ a cap, e = .returned (.slice a (([] : List Int)).length cap) ∧ Lst w' a ([] : List Int) ∧ Below w.heap.size w w' := by
  go_enter Tryd.func44, Tryd.ntmps44
  go_wp2
  go_ret
  exact ⟨_, _, rfl, .inl rfl, (by repeat (first | exact Below.refl _ _ | refine Below.alloc ?_ (by simp <;> omega) _))⟩
set_option maxHeartbeats 1000000 in
theorem od_11 (op rd r1 r2 im n : Int) (s : ByteArray) (w : World) : Calls Tryd.prog 44 #[.agg #[.int .i64 11, .int .i64 op, .int .i64 rd, .int .i64 r1, .int .i64 r2, .int .i64 im, .string s, .int .i64 n]] w fun e w' => ∃ a cap, e = .returned (.slice a (([] : List Int)).length cap) ∧ Lst w' a ([] : List Int) ∧ Below w.heap.size w w' := by
  go_enter Tryd.func44, Tryd.ntmps44
  go_wp2
  go_ret
  exact ⟨_, _, rfl, .inl rfl, (by repeat (first | exact Below.refl _ _ | refine Below.alloc ?_ (by simp <;> omega) _))⟩
set_option maxHeartbeats 1000000 in
theorem od_12 (op rd r1 r2 im n : Int) (s : ByteArray) (w : World) : Calls Tryd.prog 44 #[.agg #[.int .i64 12, .int .i64 op, .int .i64 rd, .int .i64 r1, .int .i64 r2, .int .i64 im, .string s, .int .i64 n]] w fun e w' => ∃ a cap, e = .returned (.slice a ([7]).length cap) ∧ Lst w' a [7] ∧ Below w.heap.size w w' := by
  go_enter Tryd.func44, Tryd.ntmps44
  go_wp2
  go_ret
  exact ⟨_, _, rfl, .inr ⟨_, rfl, heap_new_at (by simp)⟩, (by repeat (first | exact Below.refl _ _ | refine Below.alloc ?_ (by simp <;> omega) _))⟩
set_option maxHeartbeats 1000000 in
theorem od_13 (op rd r1 r2 im n : Int) (s : ByteArray) (w : World) : Calls Tryd.prog 44 #[.agg #[.int .i64 13, .int .i64 op, .int .i64 rd, .int .i64 r1, .int .i64 r2, .int .i64 im, .string s, .int .i64 n]] w fun e w' => ∃ a cap, e = .returned (.slice a ([7]).length cap) ∧ Lst w' a [7] ∧ Below w.heap.size w w' := by
  go_enter Tryd.func44, Tryd.ntmps44
  go_wp2
  go_ret
  exact ⟨_, _, rfl, .inr ⟨_, rfl, heap_new_at (by simp)⟩, (by repeat (first | exact Below.refl _ _ | refine Below.alloc ?_ (by simp <;> omega) _))⟩
set_option maxHeartbeats 1000000 in
theorem od_14 (op rd r1 r2 im n : Int) (s : ByteArray) (w : World) : Calls Tryd.prog 44 #[.agg #[.int .i64 14, .int .i64 op, .int .i64 rd, .int .i64 r1, .int .i64 r2, .int .i64 im, .string s, .int .i64 n]] w fun e w' => ∃ a cap, e = .returned (.slice a ([9]).length cap) ∧ Lst w' a [9] ∧ Below w.heap.size w w' := by
  go_enter Tryd.func44, Tryd.ntmps44
  go_wp2
  go_ret
  exact ⟨_, _, rfl, .inr ⟨_, rfl, heap_new_at (by simp)⟩, (by repeat (first | exact Below.refl _ _ | refine Below.alloc ?_ (by simp <;> omega) _))⟩
set_option maxHeartbeats 1000000 in
theorem od_15 (op rd r1 r2 im n : Int) (s : ByteArray) (w : World) : Calls Tryd.prog 44 #[.agg #[.int .i64 15, .int .i64 op, .int .i64 rd, .int .i64 r1, .int .i64 r2, .int .i64 im, .string s, .int .i64 n]] w fun e w' => ∃ a cap, e = .returned (.slice a ([7]).length cap) ∧ Lst w' a [7] ∧ Below w.heap.size w w' := by
  go_enter Tryd.func44, Tryd.ntmps44
  go_wp2
  go_ret
  exact ⟨_, _, rfl, .inr ⟨_, rfl, heap_new_at (by simp)⟩, (by repeat (first | exact Below.refl _ _ | refine Below.alloc ?_ (by simp <;> omega) _))⟩
set_option maxHeartbeats 1000000 in
theorem od_16 (op rd r1 r2 im n : Int) (s : ByteArray) (w : World) : Calls Tryd.prog 44 #[.agg #[.int .i64 16, .int .i64 op, .int .i64 rd, .int .i64 r1, .int .i64 r2, .int .i64 im, .string s, .int .i64 n]] w fun e w' => ∃ a cap, e = .returned (.slice a ([7]).length cap) ∧ Lst w' a [7] ∧ Below w.heap.size w w' := by
  go_enter Tryd.func44, Tryd.ntmps44
  go_wp2
  go_ret
  exact ⟨_, _, rfl, .inr ⟨_, rfl, heap_new_at (by simp)⟩, (by repeat (first | exact Below.refl _ _ | refine Below.alloc ?_ (by simp <;> omega) _))⟩
set_option maxHeartbeats 1000000 in
theorem od_2 (q : Nat) (h1 : 1 ≤ q) (h2 : q ≤ 47) (rd r1 r2 im n : Int) (s : ByteArray) (w : World) : Calls Tryd.prog 44 #[.agg #[.int .i64 2, .int .i64 q, .int .i64 rd, .int .i64 r1, .int .i64 r2, .int .i64 im, .string s, .int .i64 n]] w fun e w' => ∃ a cap, e = .returned (.slice a (Pl.opsF (Pl.fmN q) q).length cap) ∧ Lst w' a (Pl.opsF (Pl.fmN q) q) ∧ Below w.heap.size w w' := by
  have HO : Hid (∀ w, Calls Tryd.prog 61 #[.int .i64 q] w fun e w' => ∃ a cap, e = .returned (.slice a (Pl.opsF (Pl.fmN q) q).length cap) ∧ Lst w' a (Pl.opsF (Pl.fmN q) q) ∧ Below w.heap.size w w') := fun w => oo_any q h1 h2 w
  generalize Pl.opsF (Pl.fmN q) q = os at *
  go_enter Tryd.func44, Tryd.ntmps44
  go_wp2_with (go_at_call 61; refine (HO.out _).mono ?_; rintro e u1 ⟨a, cap, rfl, hl, d1⟩)
  go_ret
  exact ⟨a, cap, rfl, hl, below_then d1 (below_alloc2 w _)⟩
set_option maxHeartbeats 1000000 in
theorem wo_2 (q : Nat) (h1 : 1 ≤ q) (h2 : q ≤ 47) (rd r1 r2 im n : Int) (s : ByteArray) (w : World) : Calls Tryd.prog 46 #[.agg #[.int .i64 2, .int .i64 q, .int .i64 rd, .int .i64 r1, .int .i64 r2, .int .i64 im, .string s, .int .i64 n]] w fun e w' => e = .returned (.string (Pl.nm q)) ∧ Below w.heap.size w w' := by
  have HO : Hid (∀ w, Calls Tryd.prog 65 #[.int .i64 q] w fun e w' => e = .returned (.string (Pl.nm q)) ∧ Below w.heap.size w w') := fun w => implOpName_yes q h1 h2 w
  generalize Pl.nm q = D at *
  go_enter Tryd.func46, Tryd.ntmps46
  go_wp2_with (go_at_call 65; refine (HO.out _).mono ?_; rintro e u1 ⟨rfl, d1⟩)
  go_ret
  exact ⟨rfl, below_then d1 (below_alloc2 w _)⟩
set_option maxHeartbeats 1000000 in
theorem od_3 (q : Nat) (h1 : 1 ≤ q) (h2 : q ≤ 47) (rd r1 r2 im n : Int) (s : ByteArray) (w : World) : Calls Tryd.prog 44 #[.agg #[.int .i64 3, .int .i64 q, .int .i64 rd, .int .i64 r1, .int .i64 r2, .int .i64 im, .string s, .int .i64 n]] w fun e w' => ∃ a cap, e = .returned (.slice a (Pl.opsF (Pl.fmN q) q).length cap) ∧ Lst w' a (Pl.opsF (Pl.fmN q) q) ∧ Below w.heap.size w w' := by
  have HO : Hid (∀ w, Calls Tryd.prog 61 #[.int .i64 q] w fun e w' => ∃ a cap, e = .returned (.slice a (Pl.opsF (Pl.fmN q) q).length cap) ∧ Lst w' a (Pl.opsF (Pl.fmN q) q) ∧ Below w.heap.size w w') := fun w => oo_any q h1 h2 w
  generalize Pl.opsF (Pl.fmN q) q = os at *
  go_enter Tryd.func44, Tryd.ntmps44
  go_wp2_with (go_at_call 61; refine (HO.out _).mono ?_; rintro e u1 ⟨a, cap, rfl, hl, d1⟩)
  go_ret
  exact ⟨a, cap, rfl, hl, below_then d1 (below_alloc2 w _)⟩
set_option maxHeartbeats 1000000 in
theorem wo_3 (q : Nat) (h1 : 1 ≤ q) (h2 : q ≤ 47) (rd r1 r2 im n : Int) (s : ByteArray) (w : World) : Calls Tryd.prog 46 #[.agg #[.int .i64 3, .int .i64 q, .int .i64 rd, .int .i64 r1, .int .i64 r2, .int .i64 im, .string s, .int .i64 n]] w fun e w' => e = .returned (.string (Pl.nm q)) ∧ Below w.heap.size w w' := by
  have HO : Hid (∀ w, Calls Tryd.prog 65 #[.int .i64 q] w fun e w' => e = .returned (.string (Pl.nm q)) ∧ Below w.heap.size w w') := fun w => implOpName_yes q h1 h2 w
  generalize Pl.nm q = D at *
  go_enter Tryd.func46, Tryd.ntmps46
  go_wp2_with (go_at_call 65; refine (HO.out _).mono ?_; rintro e u1 ⟨rfl, d1⟩)
  go_ret
  exact ⟨rfl, below_then d1 (below_alloc2 w _)⟩
set_option maxHeartbeats 1000000 in
theorem wo_4 (op rd r1 r2 im n : Int) (s : ByteArray) (w : World) (h : AsmLies w) : Calls Tryd.prog 46 #[.agg #[.int .i64 4, .int .i64 op, .int .i64 rd, .int .i64 r1, .int .i64 r2, .int .i64 im, .string s, .int .i64 n]] w fun e w' => e = .returned (.string (Pl.lw 4)) ∧ Below w.heap.size w w' := by
  have hc := (h.below (below_alloc2 w (.cells #[.int .i64 4, .int .i64 op, .int .i64 rd, .int .i64 r1, .int .i64 r2, .int .i64 im, .string s, .int .i64 n] 46))).words 4 (by decide)
  clear h
  generalize Pl.lw 4 = D at *
  go_enter Tryd.func46, Tryd.ntmps46
  go_wp2
  go_ret
  exact ⟨rfl, below_alloc2 w _⟩
set_option maxHeartbeats 1000000 in
theorem wo_5 (op rd r1 r2 im n : Int) (s : ByteArray) (w : World) (h : AsmLies w) : Calls Tryd.prog 46 #[.agg #[.int .i64 5, .int .i64 op, .int .i64 rd, .int .i64 r1, .int .i64 r2, .int .i64 im, .string s, .int .i64 n]] w fun e w' => e = .returned (.string (Pl.lw 5)) ∧ Below w.heap.size w w' := by
  have hc := (h.below (below_alloc2 w (.cells #[.int .i64 5, .int .i64 op, .int .i64 rd, .int .i64 r1, .int .i64 r2, .int .i64 im, .string s, .int .i64 n] 46))).words 5 (by decide)
  clear h
  generalize Pl.lw 5 = D at *
  go_enter Tryd.func46, Tryd.ntmps46
  go_wp2
  go_ret
  exact ⟨rfl, below_alloc2 w _⟩
set_option maxHeartbeats 1000000 in
theorem wo_6 (op rd r1 r2 im n : Int) (s : ByteArray) (w : World) (h : AsmLies w) : Calls Tryd.prog 46 #[.agg #[.int .i64 6, .int .i64 op, .int .i64 rd, .int .i64 r1, .int .i64 r2, .int .i64 im, .string s, .int .i64 n]] w fun e w' => e = .returned (.string (Pl.lw 6)) ∧ Below w.heap.size w w' := by
  have hc := (h.below (below_alloc2 w (.cells #[.int .i64 6, .int .i64 op, .int .i64 rd, .int .i64 r1, .int .i64 r2, .int .i64 im, .string s, .int .i64 n] 46))).words 6 (by decide)
  clear h
  generalize Pl.lw 6 = D at *
  go_enter Tryd.func46, Tryd.ntmps46
  go_wp2
  go_ret
  exact ⟨rfl, below_alloc2 w _⟩
set_option maxHeartbeats 1000000 in
theorem wo_7 (op rd r1 r2 im n : Int) (s : ByteArray) (w : World) (h : AsmLies w) : Calls Tryd.prog 46 #[.agg #[.int .i64 7, .int .i64 op, .int .i64 rd, .int .i64 r1, .int .i64 r2, .int .i64 im, .string s, .int .i64 n]] w fun e w' => e = .returned (.string (Pl.lw 7)) ∧ Below w.heap.size w w' := by
  have hc := (h.below (below_alloc2 w (.cells #[.int .i64 7, .int .i64 op, .int .i64 rd, .int .i64 r1, .int .i64 r2, .int .i64 im, .string s, .int .i64 n] 46))).words 7 (by decide)
  clear h
  generalize Pl.lw 7 = D at *
  go_enter Tryd.func46, Tryd.ntmps46
  go_wp2
  go_ret
  exact ⟨rfl, below_alloc2 w _⟩
set_option maxHeartbeats 1000000 in
theorem wo_8 (op rd r1 r2 im n : Int) (s : ByteArray) (w : World) (h : AsmLies w) : Calls Tryd.prog 46 #[.agg #[.int .i64 8, .int .i64 op, .int .i64 rd, .int .i64 r1, .int .i64 r2, .int .i64 im, .string s, .int .i64 n]] w fun e w' => e = .returned (.string (Pl.lw 8)) ∧ Below w.heap.size w w' := by
  have hc := (h.below (below_alloc2 w (.cells #[.int .i64 8, .int .i64 op, .int .i64 rd, .int .i64 r1, .int .i64 r2, .int .i64 im, .string s, .int .i64 n] 46))).words 8 (by decide)
  clear h
  generalize Pl.lw 8 = D at *
  go_enter Tryd.func46, Tryd.ntmps46
  go_wp2
  go_ret
  exact ⟨rfl, below_alloc2 w _⟩
set_option maxHeartbeats 1000000 in
theorem wo_9 (op rd r1 r2 im n : Int) (s : ByteArray) (w : World) (h : AsmLies w) : Calls Tryd.prog 46 #[.agg #[.int .i64 9, .int .i64 op, .int .i64 rd, .int .i64 r1, .int .i64 r2, .int .i64 im, .string s, .int .i64 n]] w fun e w' => e = .returned (.string (Pl.lw 9)) ∧ Below w.heap.size w w' := by
  have hc := (h.below (below_alloc2 w (.cells #[.int .i64 9, .int .i64 op, .int .i64 rd, .int .i64 r1, .int .i64 r2, .int .i64 im, .string s, .int .i64 n] 46))).words 9 (by decide)
  clear h
  generalize Pl.lw 9 = D at *
  go_enter Tryd.func46, Tryd.ntmps46
  go_wp2
  go_ret
  exact ⟨rfl, below_alloc2 w _⟩
set_option maxHeartbeats 1000000 in
theorem wo_10 (op rd r1 r2 im n : Int) (s : ByteArray) (w : World) (h : AsmLies w) : Calls Tryd.prog 46 #[.agg #[.int .i64 10, .int .i64 op, .int .i64 rd, .int .i64 r1, .int .i64 r2, .int .i64 im, .string s, .int .i64 n]] w fun e w' => e = .returned (.string (Pl.lw 10)) ∧ Below w.heap.size w w' := by
  have hc := (h.below (below_alloc2 w (.cells #[.int .i64 10, .int .i64 op, .int .i64 rd, .int .i64 r1, .int .i64 r2, .int .i64 im, .string s, .int .i64 n] 46))).words 10 (by decide)
  clear h
  generalize Pl.lw 10 = D at *
  go_enter Tryd.func46, Tryd.ntmps46
  go_wp2
  go_ret
  exact ⟨rfl, below_alloc2 w _⟩
set_option maxHeartbeats 1000000 in
theorem wo_11 (op rd r1 r2 im n : Int) (s : ByteArray) (w : World) (h : AsmLies w) : Calls Tryd.prog 46 #[.agg #[.int .i64 11, .int .i64 op, .int .i64 rd, .int .i64 r1, .int .i64 r2, .int .i64 im, .string s, .int .i64 n]] w fun e w' => e = .returned (.string (Pl.lw 11)) ∧ Below w.heap.size w w' := by
  have hc := (h.below (below_alloc2 w (.cells #[.int .i64 11, .int .i64 op, .int .i64 rd, .int .i64 r1, .int .i64 r2, .int .i64 im, .string s, .int .i64 n] 46))).words 11 (by decide)
  clear h
  generalize Pl.lw 11 = D at *
  go_enter Tryd.func46, Tryd.ntmps46
  go_wp2
  go_ret
  exact ⟨rfl, below_alloc2 w _⟩
set_option maxHeartbeats 1000000 in
theorem wo_12 (op rd r1 r2 im n : Int) (s : ByteArray) (w : World) (h : AsmLies w) : Calls Tryd.prog 46 #[.agg #[.int .i64 12, .int .i64 op, .int .i64 rd, .int .i64 r1, .int .i64 r2, .int .i64 im, .string s, .int .i64 n]] w fun e w' => e = .returned (.string (Pl.lw 12)) ∧ Below w.heap.size w w' := by
  have hc := (h.below (below_alloc2 w (.cells #[.int .i64 12, .int .i64 op, .int .i64 rd, .int .i64 r1, .int .i64 r2, .int .i64 im, .string s, .int .i64 n] 46))).words 12 (by decide)
  clear h
  generalize Pl.lw 12 = D at *
  go_enter Tryd.func46, Tryd.ntmps46
  go_wp2
  go_ret
  exact ⟨rfl, below_alloc2 w _⟩
set_option maxHeartbeats 1000000 in
theorem wo_13 (op rd r1 r2 im n : Int) (s : ByteArray) (w : World) (h : AsmLies w) : Calls Tryd.prog 46 #[.agg #[.int .i64 13, .int .i64 op, .int .i64 rd, .int .i64 r1, .int .i64 r2, .int .i64 im, .string s, .int .i64 n]] w fun e w' => e = .returned (.string (Pl.lw 13)) ∧ Below w.heap.size w w' := by
  have hc := (h.below (below_alloc2 w (.cells #[.int .i64 13, .int .i64 op, .int .i64 rd, .int .i64 r1, .int .i64 r2, .int .i64 im, .string s, .int .i64 n] 46))).words 13 (by decide)
  clear h
  generalize Pl.lw 13 = D at *
  go_enter Tryd.func46, Tryd.ntmps46
  go_wp2
  go_ret
  exact ⟨rfl, below_alloc2 w _⟩
set_option maxHeartbeats 1000000 in
theorem wo_14 (op rd r1 r2 im n : Int) (s : ByteArray) (w : World) (h : AsmLies w) : Calls Tryd.prog 46 #[.agg #[.int .i64 14, .int .i64 op, .int .i64 rd, .int .i64 r1, .int .i64 r2, .int .i64 im, .string s, .int .i64 n]] w fun e w' => e = .returned (.string (Pl.lw 14)) ∧ Below w.heap.size w w' := by
  have hc := (h.below (below_alloc2 w (.cells #[.int .i64 14, .int .i64 op, .int .i64 rd, .int .i64 r1, .int .i64 r2, .int .i64 im, .string s, .int .i64 n] 46))).words 14 (by decide)
  clear h
  generalize Pl.lw 14 = D at *
  go_enter Tryd.func46, Tryd.ntmps46
  go_wp2
  go_ret
  exact ⟨rfl, below_alloc2 w _⟩
set_option maxHeartbeats 1000000 in
theorem wo_15 (op rd r1 r2 im n : Int) (s : ByteArray) (w : World) (h : AsmLies w) : Calls Tryd.prog 46 #[.agg #[.int .i64 15, .int .i64 op, .int .i64 rd, .int .i64 r1, .int .i64 r2, .int .i64 im, .string s, .int .i64 n]] w fun e w' => e = .returned (.string (Pl.lw 15)) ∧ Below w.heap.size w w' := by
  have hc := (h.below (below_alloc2 w (.cells #[.int .i64 15, .int .i64 op, .int .i64 rd, .int .i64 r1, .int .i64 r2, .int .i64 im, .string s, .int .i64 n] 46))).words 15 (by decide)
  clear h
  generalize Pl.lw 15 = D at *
  go_enter Tryd.func46, Tryd.ntmps46
  go_wp2
  go_ret
  exact ⟨rfl, below_alloc2 w _⟩
set_option maxHeartbeats 1000000 in
theorem wo_16 (op rd r1 r2 im n : Int) (s : ByteArray) (w : World) (h : AsmLies w) : Calls Tryd.prog 46 #[.agg #[.int .i64 16, .int .i64 op, .int .i64 rd, .int .i64 r1, .int .i64 r2, .int .i64 im, .string s, .int .i64 n]] w fun e w' => e = .returned (.string (Pl.lw 16)) ∧ Below w.heap.size w w' := by
  have hc := (h.below (below_alloc2 w (.cells #[.int .i64 16, .int .i64 op, .int .i64 rd, .int .i64 r1, .int .i64 r2, .int .i64 im, .string s, .int .i64 n] 46))).words 16 (by decide)
  clear h
  generalize Pl.lw 16 = D at *
  go_enter Tryd.func46, Tryd.ntmps46
  go_wp2
  go_ret
  exact ⟨rfl, below_alloc2 w _⟩
end Go.Proofs.YtgpmplcamdophaaDoor.W
