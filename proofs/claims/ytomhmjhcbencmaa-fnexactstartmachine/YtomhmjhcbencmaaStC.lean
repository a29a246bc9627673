import Derived.Test.YtomhmjhcbencmaaStB
set_option linter.unusedVariables false
namespace Go.Proofs.Ytomhmjhcbencmaa.W
open Go.RowKit
/-- nothing but a slice's own block has turned -/
structure Touch (a : Option Addr) (w w' : World) : Prop where
  os : w'.os = w.os
  tape : w'.tape = w.tape
  output : w'.output = w.output
  size : w'.heap.size = w.heap.size
  block : ∀ k, (∀ ad, a = some ad → k ≠ ad.block) → w'.heap[k]? = w.heap[k]?
theorem Touch.refl (a : Option Addr) (w : World) : Touch a w w := ⟨rfl, rfl, rfl, rfl, fun _ _ => rfl⟩
theorem Touch.setCell {a : Option Addr} {w u : World} (h : Touch a w u) {g : Nat} (hp : a = some ⟨g, 0, none⟩) (x : Value) {i : Nat} : Touch a w (u.setCell ⟨g, i, none⟩ x) :=
  ⟨h.os, h.tape, h.output, by simpa using h.size, fun k hk => (Below.heap_setCell u ⟨g, i, none⟩ x k (show k ≠ g from hk ⟨g, 0, none⟩ hp)).trans (h.block k hk)⟩
theorem mkIntS_wf (k : Int) (len : Nat) (hk : 0 ≤ k ∧ k + len ≤ 4611686018427387904) : ∀ n ∈ (List.range len).map (fun (i : Nat) => k + (i : Int)), (Lit.int .i64 n).wf = true := by
  intro n hn
  obtain ⟨i, hi, rfl⟩ := List.mem_map.1 hn
  have := List.mem_range.1 hi
  have h1 : -9223372036854775808 ≤ k + (i : Int) := by omega
  have h2 : k + (i : Int) ≤ 9223372036854775807 := by omega
  generalize k + (i : Int) = y at h1 h2
  simp [Lit.wf, IntKind.min, IntKind.max, IntKind.signed, IntKind.bits]
  omega
theorem mkByteS_wf (k : Int) (len : Nat) (hk : 0 ≤ k ∧ k + len ≤ 4611686018427387904) : ∀ n ∈ (List.range len).map (fun (i : Nat) => (k + (i : Int)) % 256), (Lit.int .u8 n).wf = true := by
  intro n hn
  obtain ⟨i, hi, rfl⟩ := List.mem_map.1 hn
  have h1 : 0 ≤ (k + (i : Int)) % 256 := by omega
  have h2 : (k + (i : Int)) % 256 ≤ 255 := by omega
  generalize (k + (i : Int)) % 256 = y at h1 h2
  simp [Lit.wf, IntKind.min, IntKind.max, IntKind.signed, IntKind.bits]
  omega
/-- what a slice holds behind a mark -/
def mkIntS (k : Int) (len : Nat) : List Int := (List.range len).map fun (i : Nat) => (k + (i : Int))
theorem mkIntS_length (k : Int) (len : Nat) : (mkIntS k len).length = len := by simp [mkIntS]
theorem mkIntS_get (k : Int) (len i : Nat) (h : i < len) : (mkIntS k len).getD i 0 = (k + (i : Int)) := by
  rw [List.getD_eq_getElem?_getD]
  simp [mkIntS, h]
/-- the first j cells marked, the rest as they were -/
def mtIntS (k : Int) (zs : List Int) (j : Nat) : List Int := (mkIntS k zs.length).take j ++ zs.drop j
theorem mtIntS_zero (k : Int) (zs : List Int) : mtIntS k zs 0 = zs := by simp [mtIntS]
theorem mtIntS_full (k : Int) (zs : List Int) {j : Nat} (h : zs.length ≤ j) : mtIntS k zs j = mkIntS k zs.length := by
  unfold mtIntS
  rw [List.take_of_length_le (by rw [mkIntS_length]; exact h), List.drop_of_length_le h, List.append_nil]
theorem mtIntS_length (k : Int) (zs : List Int) (j : Nat) : (mtIntS k zs j).length = zs.length := by
  unfold mtIntS
  rw [List.length_append, List.length_take, List.length_drop, mkIntS_length]; omega
theorem mtIntS_set (k : Int) (zs : List Int) {j : Nat} (h : j < zs.length) : (mtIntS k zs j).set j ((k + (j : Int))) = mtIntS k zs (j + 1) := by
  have hx : (mkIntS k zs.length)[j]? = some ((k + (j : Int))) := by simp [mkIntS, h]
  apply List.ext_getElem?
  intro i
  unfold mtIntS
  rw [List.getElem?_set, List.length_append, List.length_take, List.length_drop, mkIntS_length]
  by_cases h1 : j = i
  · subst h1
    rw [if_pos rfl, if_pos (by omega), List.getElem?_append_left (by rw [List.length_take, mkIntS_length]; omega), List.getElem?_take, if_pos (by omega), hx]
  · rw [if_neg h1]
    by_cases h2 : i < j
    · rw [List.getElem?_append_left (by rw [List.length_take, mkIntS_length]; omega), List.getElem?_append_left (by rw [List.length_take, mkIntS_length]; omega), List.getElem?_take, List.getElem?_take, if_pos h2, if_pos (by omega)]
    · rw [List.getElem?_append_right (by rw [List.length_take, mkIntS_length]; omega), List.getElem?_append_right (by rw [List.length_take, mkIntS_length]; omega), List.length_take, List.length_take, mkIntS_length, List.getElem?_drop, List.getElem?_drop]
      congr 1
      omega
set_option maxHeartbeats 1000000 in
theorem markIntS_any {lo : Nat} (a : Option Addr) (len cap : Nat) (zs : List Int) (k : Int) (w : World) (h : Own .i64 3 lo w a len cap zs) (hk : 0 ≤ k ∧ k + len ≤ 4611686018427387904) :
    Calls Try.prog 46 #[.slice a len cap, .int .i64 k] w fun e w' => e = .returned (.int .i64 (k + len)) ∧ Own .i64 3 lo w' a len cap (mkIntS k len) ∧ Touch a w w' := by
  have hsm := h.row.small
  have hl := h.row.1
  have HO : Hid (w.ownsRow lo 3 1 (.slice a len cap) len (zs.map (Value.int .i64))) := h.1
  have HL : Hid (zs.length = len) := hl
  have HF : Hid (len = 0 ∨ ∃ g, a = some ⟨g, 0, none⟩) := by
    rcases h.1.2 with ⟨h0, h1⟩ | ⟨g, _, _, h0, _⟩
    · exact .inl h1
    · simp only [Value.slice.injEq] at h0; exact .inr ⟨g, h0.1⟩
  clear h hl
  go_enter Try.func46, Try.ntmps46
  go_wp2
  go_loopw [1, 5] (fun x i wr => ∃ j : Nat, j ≤ len ∧ i = .int .i64 j ∧ x = .int .i64 (k + (j : Int)) ∧ wr.ownsRow lo 3 1 (.slice a len cap) len ((mtIntS k zs j).map (Value.int .i64)) ∧ Touch a w wr) (fun _ i _ => len - (intOf i).toNat)
  case atStart => exact ⟨0, Nat.zero_le _, rfl, by simp, by rw [mtIntS_zero]; exact HO.out, Touch.refl _ _⟩
  case round =>
    obtain ⟨j, hj, rfl, rfl, ho, ht⟩ := hrel
    clear HO
    have HO : Hid (wr.ownsRow lo 3 1 (.slice a len cap) len ((mtIntS k zs j).map (Value.int .i64))) := ho
    have HT : Hid (Touch a w wr) := ht
    clear ho ht
    by_cases hlt : j < len
    · obtain ⟨g, rfl⟩ := HF.out.resolve_left (by omega)
      have hfz : wr.frozen? ⟨g, j, none⟩ = false := HO.out.frozenAt j
      obtain ⟨y, hy⟩ : ∃ y, wr.cell? ⟨g, j, none⟩ = some (.int .i64 y) := by
        have := HO.out.cellAt j (by omega)
        rw [List.getElem?_map, List.getElem?_eq_getElem (by rw [mtIntS_length]; have := HL.out; omega)] at this
        exact ⟨_, this⟩
      go_wp2
      go_roundw
      case rel =>
        have st := HO.out.stored j (.int .i64 ((k + (j : Int))))
        refine ⟨j + 1, by omega, by go_num, congrArg (Value.int .i64) (by omega), ?_, HT.out.setCell rfl _⟩
        rw [← mtIntS_set k zs (by have := HL.out; omega), List.map_set]
        exact st.1
      case measure => simp [intOf]; omega
    · have hje : j = len := by omega
      subst hje
      go_wp2
      go_ret
      refine ⟨rfl, ⟨?_, mkIntS_wf k _ hk⟩, HT.out⟩
      have := HO.out
      rwa [mtIntS_full k zs (by have := HL.out; omega), HL.out] at this
set_option maxHeartbeats 1000000 in
theorem heldIntS_any {lo : Nat} (a : Option Addr) (len cap : Nat) (k : Int) (w : World) (h : Row .i64 lo w a len cap (mkIntS k len)) (hk : 0 ≤ k ∧ k + len ≤ 4611686018427387904) :
    Calls Try.prog 47 #[.slice a len cap, .int .i64 k] w fun e w' => e = .returned (.int .i64 (k + len)) ∧ Below w.heap.size w w' := by
  have hsm := h.small
  have HR : Hid (len = 0 ∨ ∃ b off, a = some ⟨b, off, none⟩ ∧ lo ≤ b ∧ b < w.heap.size ∧ ∀ i, i < len → w.cell? ⟨b, off + i, none⟩ = some (.int .i64 ((mkIntS k len).getD i 0))) := h.2.2.2.2
  clear h
  go_enter Try.func47, Try.ntmps47
  go_wp2
  go_loopw [1, 5] (fun x i wr => ∃ j : Nat, j ≤ len ∧ i = .int .i64 j ∧ x = .int .i64 (k + (j : Int)) ∧ Below w.heap.size w wr) (fun _ i _ => len - (intOf i).toNat)
  case atStart => exact ⟨0, Nat.zero_le _, rfl, by simp, Below.refl _ _⟩
  case round =>
    obtain ⟨j, hj, rfl, rfl, hb⟩ := hrel
    have HB : Hid (Below w.heap.size w wr) := hb
    clear hb
    by_cases hlt : j < len
    · obtain ⟨b, off, rfl, _, hbl, hc⟩ := HR.out.resolve_left (by omega)
      have hcell : wr.cell? ⟨b, off + j, none⟩ = some (.int .i64 ((k + (j : Int)))) := by rw [HB.out.cell (by exact hbl), hc j hlt, mkIntS_get k len j hlt]
      clear hc
      go_wp2
      go_roundw
      case rel => exact ⟨j + 1, by omega, by go_num, congrArg (Value.int .i64) (by omega), HB.out⟩
      case measure => simp [intOf]; omega
    · have hje : j = len := by omega
      subst hje
      go_wp2
      go_ret
      exact ⟨rfl, HB.out⟩
/-- what a slice holds behind a mark -/
def mkByteS (k : Int) (len : Nat) : List Int := (List.range len).map fun (i : Nat) => (k + (i : Int)) % 256
theorem mkByteS_length (k : Int) (len : Nat) : (mkByteS k len).length = len := by simp [mkByteS]
theorem mkByteS_get (k : Int) (len i : Nat) (h : i < len) : (mkByteS k len).getD i 0 = (k + (i : Int)) % 256 := by
  rw [List.getD_eq_getElem?_getD]
  simp [mkByteS, h]
/-- the first j cells marked, the rest as they were -/
def mtByteS (k : Int) (zs : List Int) (j : Nat) : List Int := (mkByteS k zs.length).take j ++ zs.drop j
theorem mtByteS_zero (k : Int) (zs : List Int) : mtByteS k zs 0 = zs := by simp [mtByteS]
theorem mtByteS_full (k : Int) (zs : List Int) {j : Nat} (h : zs.length ≤ j) : mtByteS k zs j = mkByteS k zs.length := by
  unfold mtByteS
  rw [List.take_of_length_le (by rw [mkByteS_length]; exact h), List.drop_of_length_le h, List.append_nil]
theorem mtByteS_length (k : Int) (zs : List Int) (j : Nat) : (mtByteS k zs j).length = zs.length := by
  unfold mtByteS
  rw [List.length_append, List.length_take, List.length_drop, mkByteS_length]; omega
theorem mtByteS_set (k : Int) (zs : List Int) {j : Nat} (h : j < zs.length) : (mtByteS k zs j).set j ((k + (j : Int)) % 256) = mtByteS k zs (j + 1) := by
  have hx : (mkByteS k zs.length)[j]? = some ((k + (j : Int)) % 256) := by simp [mkByteS, h]
  apply List.ext_getElem?
  intro i
  unfold mtByteS
  rw [List.getElem?_set, List.length_append, List.length_take, List.length_drop, mkByteS_length]
  by_cases h1 : j = i
  · subst h1
    rw [if_pos rfl, if_pos (by omega), List.getElem?_append_left (by rw [List.length_take, mkByteS_length]; omega), List.getElem?_take, if_pos (by omega), hx]
  · rw [if_neg h1]
    by_cases h2 : i < j
    · rw [List.getElem?_append_left (by rw [List.length_take, mkByteS_length]; omega), List.getElem?_append_left (by rw [List.length_take, mkByteS_length]; omega), List.getElem?_take, List.getElem?_take, if_pos h2, if_pos (by omega)]
    · rw [List.getElem?_append_right (by rw [List.length_take, mkByteS_length]; omega), List.getElem?_append_right (by rw [List.length_take, mkByteS_length]; omega), List.length_take, List.length_take, mkByteS_length, List.getElem?_drop, List.getElem?_drop]
      congr 1
      omega
set_option maxHeartbeats 1000000 in
theorem markByteS_any {lo : Nat} (a : Option Addr) (len cap : Nat) (zs : List Int) (k : Int) (w : World) (h : Own .u8 5 lo w a len cap zs) (hk : 0 ≤ k ∧ k + len ≤ 4611686018427387904) :
    Calls Try.prog 22 #[.slice a len cap, .int .i64 k] w fun e w' => e = .returned (.int .i64 (k + len)) ∧ Own .u8 5 lo w' a len cap (mkByteS k len) ∧ Touch a w w' := by
  have hsm := h.row.small
  have hl := h.row.1
  have HO : Hid (w.ownsRow lo 5 1 (.slice a len cap) len (zs.map (Value.int .u8))) := h.1
  have HL : Hid (zs.length = len) := hl
  have HF : Hid (len = 0 ∨ ∃ g, a = some ⟨g, 0, none⟩) := by
    rcases h.1.2 with ⟨h0, h1⟩ | ⟨g, _, _, h0, _⟩
    · exact .inl h1
    · simp only [Value.slice.injEq] at h0; exact .inr ⟨g, h0.1⟩
  clear h hl
  go_enter Try.func22, Try.ntmps22
  go_wp2
  go_loopw [1, 5] (fun x i wr => ∃ j : Nat, j ≤ len ∧ i = .int .i64 j ∧ x = .int .i64 (k + (j : Int)) ∧ wr.ownsRow lo 5 1 (.slice a len cap) len ((mtByteS k zs j).map (Value.int .u8)) ∧ Touch a w wr) (fun _ i _ => len - (intOf i).toNat)
  case atStart => exact ⟨0, Nat.zero_le _, rfl, by simp, by rw [mtByteS_zero]; exact HO.out, Touch.refl _ _⟩
  case round =>
    obtain ⟨j, hj, rfl, rfl, ho, ht⟩ := hrel
    clear HO
    have HO : Hid (wr.ownsRow lo 5 1 (.slice a len cap) len ((mtByteS k zs j).map (Value.int .u8))) := ho
    have HT : Hid (Touch a w wr) := ht
    clear ho ht
    by_cases hlt : j < len
    · obtain ⟨g, rfl⟩ := HF.out.resolve_left (by omega)
      have hfz : wr.frozen? ⟨g, j, none⟩ = false := HO.out.frozenAt j
      obtain ⟨y, hy⟩ : ∃ y, wr.cell? ⟨g, j, none⟩ = some (.int .u8 y) := by
        have := HO.out.cellAt j (by omega)
        rw [List.getElem?_map, List.getElem?_eq_getElem (by rw [mtByteS_length]; have := HL.out; omega)] at this
        exact ⟨_, this⟩
      go_wp2
      go_roundw
      case rel =>
        have st := HO.out.stored j (.int .u8 ((k + (j : Int)) % 256))
        refine ⟨j + 1, by omega, by go_num, congrArg (Value.int .i64) (by omega), ?_, HT.out.setCell rfl _⟩
        rw [← mtByteS_set k zs (by have := HL.out; omega), List.map_set]
        exact st.1
      case measure => simp [intOf]; omega
    · have hje : j = len := by omega
      subst hje
      go_wp2
      go_ret
      refine ⟨rfl, ⟨?_, mkByteS_wf k _ hk⟩, HT.out⟩
      have := HO.out
      rwa [mtByteS_full k zs (by have := HL.out; omega), HL.out] at this
set_option maxHeartbeats 1000000 in
theorem heldByteS_any {lo : Nat} (a : Option Addr) (len cap : Nat) (k : Int) (w : World) (h : Row .u8 lo w a len cap (mkByteS k len)) (hk : 0 ≤ k ∧ k + len ≤ 4611686018427387904) :
    Calls Try.prog 48 #[.slice a len cap, .int .i64 k] w fun e w' => e = .returned (.int .i64 (k + len)) ∧ Below w.heap.size w w' := by
  have hsm := h.small
  have HR : Hid (len = 0 ∨ ∃ b off, a = some ⟨b, off, none⟩ ∧ lo ≤ b ∧ b < w.heap.size ∧ ∀ i, i < len → w.cell? ⟨b, off + i, none⟩ = some (.int .u8 ((mkByteS k len).getD i 0))) := h.2.2.2.2
  clear h
  go_enter Try.func48, Try.ntmps48
  go_wp2
  go_loopw [1, 5] (fun x i wr => ∃ j : Nat, j ≤ len ∧ i = .int .i64 j ∧ x = .int .i64 (k + (j : Int)) ∧ Below w.heap.size w wr) (fun _ i _ => len - (intOf i).toNat)
  case atStart => exact ⟨0, Nat.zero_le _, rfl, by simp, Below.refl _ _⟩
  case round =>
    obtain ⟨j, hj, rfl, rfl, hb⟩ := hrel
    have HB : Hid (Below w.heap.size w wr) := hb
    clear hb
    by_cases hlt : j < len
    · obtain ⟨b, off, rfl, _, hbl, hc⟩ := HR.out.resolve_left (by omega)
      have hcell : wr.cell? ⟨b, off + j, none⟩ = some (.int .u8 ((k + (j : Int)) % 256)) := by rw [HB.out.cell (by exact hbl), hc j hlt, mkByteS_get k len j hlt]
      clear hc
      go_wp2
      go_roundw
      case rel => exact ⟨j + 1, by omega, by go_num, congrArg (Value.int .i64) (by omega), HB.out⟩
      case measure => simp [intOf]; omega
    · have hje : j = len := by omega
      subst hje
      go_wp2
      go_ret
      exact ⟨rfl, HB.out⟩
end Go.Proofs.Ytomhmjhcbencmaa.W
