import Derived.Test.YtgpmplcamdophaaDoorSl
set_option linter.unusedVariables false
namespace Go.Proofs.YtgpmplcamdophaaDoor.Pl
theorem eq_of_getD {z1 z2 : List Int} (hl : z1.length = z2.length) (h : ∀ j, j < z1.length → z1.getD j 0 = z2.getD j 0) : z1 = z2 := by
  apply List.ext_getElem hl
  intro i h1 h2
  have := h i h1
  rwa [List.getD_eq_getElem?_getD, List.getD_eq_getElem?_getD, List.getElem?_eq_getElem h1, List.getElem?_eq_getElem h2] at this
end Go.Proofs.YtgpmplcamdophaaDoor.Pl
namespace Go.Proofs.YtgpmplcamdophaaDoor.W
open Go.RowKit
set_option maxHeartbeats 1000000 in
theorem eqByteS_any {lo1 lo2 : Nat} (a1 a2 : Option Addr) (l1 c1 l2 c2 : Nat) (z1 z2 : List Int) (w : World) (h1 : Row .u8 lo1 w a1 l1 c1 z1) (h2 : Row .u8 lo2 w a2 l2 c2 z2) :
    Calls Tryd.prog 11 #[.slice a1 l1 c1, .slice a2 l2 c2] w fun e w' => e = .returned (.bool (z1 == z2)) ∧ Below w.heap.size w w' := by
  have hs1 := h1.small
  have hs2 := h2.small
  obtain ⟨hl1, _, _, _, hr1⟩ := h1
  obtain ⟨hl2, _, _, _, hr2⟩ := h2
  by_cases hne : l1 = l2
  · subst hne
    have HL1 : Hid (z1.length = l1) := hl1
    have HL2 : Hid (z2.length = l1) := hl2
    have HR1 : Hid (l1 = 0 ∨ ∃ b off, a1 = some ⟨b, off, none⟩ ∧ lo1 ≤ b ∧ b < w.heap.size ∧ ∀ i, i < l1 → w.cell? ⟨b, off + i, none⟩ = some (.int .u8 (z1.getD i 0))) := hr1
    have HR2 : Hid (l1 = 0 ∨ ∃ b off, a2 = some ⟨b, off, none⟩ ∧ lo2 ≤ b ∧ b < w.heap.size ∧ ∀ i, i < l1 → w.cell? ⟨b, off + i, none⟩ = some (.int .u8 (z2.getD i 0))) := hr2
    clear hl1 hl2 hr1 hr2
    go_enter Tryd.func11, Tryd.ntmps11
    go_wp2
    go_loopw [5] (fun i wr => ∃ k : Nat, k ≤ l1 ∧ i = .int .i64 k ∧ (∀ j, j < k → z1.getD j 0 = z2.getD j 0) ∧ Below w.heap.size w wr) (fun i _ => l1 - (intOf i).toNat)
    case atStart => exact ⟨0, Nat.zero_le _, rfl, fun j hj => absurd hj (Nat.not_lt_zero _), Below.refl _ _⟩
    case round =>
      obtain ⟨k, hk, rfl, hall, hb⟩ := hrel
      have HA : Hid (∀ j, j < k → z1.getD j 0 = z2.getD j 0) := hall
      have HB : Hid (Below w.heap.size w wr) := hb
      clear hall hb
      by_cases hlt : k < l1
      · obtain ⟨b1, o1, rfl, _, hb1, hc1⟩ := HR1.out.resolve_left (by omega)
        obtain ⟨b2, o2, rfl, _, hb2, hc2⟩ := HR2.out.resolve_left (by omega)
        obtain ⟨x, hx⟩ : ∃ x, x = z1.getD k 0 := ⟨_, rfl⟩
        obtain ⟨y, hy⟩ : ∃ y, y = z2.getD k 0 := ⟨_, rfl⟩
        have g1 : wr.cell? ⟨b1, o1 + k, none⟩ = some (.int .u8 x) := by rw [hx, HB.out.cell (by exact hb1)]; exact hc1 k hlt
        have g2 : wr.cell? ⟨b2, o2 + k, none⟩ = some (.int .u8 y) := by rw [hy, HB.out.cell (by exact hb2)]; exact hc2 k hlt
        have HX : Hid (x = z1.getD k 0) := hx
        have HY : Hid (y = z2.getD k 0) := hy
        clear hx hy hc1 hc2 HR1 HR2
        by_cases hxy : x = y
        · subst hxy
          go_wp2_with fail
          go_quiet (fail)
          go_wp2
          go_roundw
          case rel =>
            refine ⟨k + 1, by omega, by go_num, fun j hj => ?_, ?_⟩
            · by_cases hjk : j < k
              · exact HA.out j hjk
              · have : j = k := by omega
                subst this; exact HX.out.symm.trans HY.out
            · repeat (first | exact HB.out | refine below_drewN ?_ _)
          case measure => simp [intOf]; omega
        · go_wp2_with fail
          go_quiet (fail)
          go_wp2
          go_ret
          refine ⟨ret_bool ?_, ?_⟩
          · symm
            rw [beq_eq_false_iff_ne]
            intro hc
            exact hxy (by rw [HX.out, HY.out, hc])
          · repeat (first | exact HB.out | refine below_drewN ?_ _)
      · have hke : k = l1 := by omega
        subst hke
        go_wp2
        go_ret
        refine ⟨ret_bool ?_, HB.out⟩
        symm
        rw [beq_iff_eq]
        exact Pl.eq_of_getD (HL1.out.trans HL2.out.symm) (fun j hj => HA.out j (by have := HL1.out; omega))
  · have HP : Hid ((z1 == z2) = false) := by
      show (z1 == z2) = false
      rw [beq_eq_false_iff_ne]
      intro hc
      exact hne (by rw [← hl1, ← hl2, hc])
    clear hr1 hr2 hl1 hl2
    go_enter Tryd.func11, Tryd.ntmps11
    go_wp2
    go_ret
    exact ⟨ret_bool HP.out.symm, Below.refl _ _⟩
/-- nothing but a slice's own block has turned -/
structure Touch (a : Option Addr) (w w' : World) : Prop where
  os : w'.os = w.os
  tape : w'.tape = w.tape
  output : w'.output = w.output
  size : w'.heap.size = w.heap.size
  block : ∀ k, (∀ ad, a = some ad → k ≠ ad.block) → w'.heap[k]? = w.heap[k]?
theorem Touch.refl (a : Option Addr) (w : World) : Touch a w w := ⟨rfl, rfl, rfl, rfl, fun _ _ => rfl⟩
theorem Touch.setCell {a : Option Addr} {w u : World} (h : Touch a w u) {g : Nat} (hp : a = some ⟨g, 0, none⟩) (x : Value) {i : Nat} : Touch a w (u.setCell ⟨g, i, none⟩ x) :=
  ⟨h.os, h.tape, h.output, by simpa using h.size, fun k hk => (Below.heap_setCell u ⟨g, i, none⟩ x k (show k ≠ g from hk ⟨g, 0, none⟩ hp)).trans (h.block k hk)⟩
theorem mkIntS_wf (k : Int) (len : Nat) (hk : 0 ≤ k ∧ k + len ≤ 4611686018427387904) : ∀ n ∈ (List.range len).map (fun (i : Nat) => k + (i : Int)), (Lit.int .i64 n).wf = true := by
  intro n hn
  obtain ⟨i, hi, rfl⟩ := List.mem_map.1 hn
  have := List.mem_range.1 hi
  have h1 : -9223372036854775808 ≤ k + (i : Int) := by omega
  have h2 : k + (i : Int) ≤ 9223372036854775807 := by omega
  generalize k + (i : Int) = y at h1 h2
  simp [Lit.wf, IntKind.min, IntKind.max, IntKind.signed, IntKind.bits]
  omega
theorem mkByteS_wf (k : Int) (len : Nat) (hk : 0 ≤ k ∧ k + len ≤ 4611686018427387904) : ∀ n ∈ (List.range len).map (fun (i : Nat) => (k + (i : Int)) % 256), (Lit.int .u8 n).wf = true := by
  intro n hn
  obtain ⟨i, hi, rfl⟩ := List.mem_map.1 hn
  have h1 : 0 ≤ (k + (i : Int)) % 256 := by omega
  have h2 : (k + (i : Int)) % 256 ≤ 255 := by omega
  generalize (k + (i : Int)) % 256 = y at h1 h2
  simp [Lit.wf, IntKind.min, IntKind.max, IntKind.signed, IntKind.bits]
  omega
/-- what a slice holds behind a mark -/
def mkIntS (k : Int) (len : Nat) : List Int := (List.range len).map fun (i : Nat) => (k + (i : Int))
theorem mkIntS_length (k : Int) (len : Nat) : (mkIntS k len).length = len := by simp [mkIntS]
theorem mkIntS_get (k : Int) (len i : Nat) (h : i < len) : (mkIntS k len).getD i 0 = (k + (i : Int)) := by
  rw [List.getD_eq_getElem?_getD]
  simp [mkIntS, h]
/-- the first j cells marked, the rest as they were -/
def mtIntS (k : Int) (zs : List Int) (j : Nat) : List Int := (mkIntS k zs.length).take j ++ zs.drop j
theorem mtIntS_zero (k : Int) (zs : List Int) : mtIntS k zs 0 = zs := by simp [mtIntS]
theorem mtIntS_full (k : Int) (zs : List Int) {j : Nat} (h : zs.length ≤ j) : mtIntS k zs j = mkIntS k zs.length := by
  unfold mtIntS
  rw [List.take_of_length_le (by rw [mkIntS_length]; exact h), List.drop_of_length_le h, List.append_nil]
theorem mtIntS_length (k : Int) (zs : List Int) (j : Nat) : (mtIntS k zs j).length = zs.length := by
  unfold mtIntS
  rw [List.length_append, List.length_take, List.length_drop, mkIntS_length]; omega
theorem mtIntS_set (k : Int) (zs : List Int) {j : Nat} (h : j < zs.length) : (mtIntS k zs j).set j ((k + (j : Int))) = mtIntS k zs (j + 1) := by
  have hx : (mkIntS k zs.length)[j]? = some ((k + (j : Int))) := by simp [mkIntS, h]
  apply List.ext_getElem?
  intro i
  unfold mtIntS
  rw [List.getElem?_set, List.length_append, List.length_take, List.length_drop, mkIntS_length]
  by_cases h1 : j = i
  · subst h1
    rw [if_pos rfl, if_pos (by omega), List.getElem?_append_left (by rw [List.length_take, mkIntS_length]; omega), List.getElem?_take, if_pos (by omega), hx]
  · rw [if_neg h1]
    by_cases h2 : i < j
    · rw [List.getElem?_append_left (by rw [List.length_take, mkIntS_length]; omega), List.getElem?_append_left (by rw [List.length_take, mkIntS_length]; omega), List.getElem?_take, List.getElem?_take, if_pos h2, if_pos (by omega)]
    · rw [List.getElem?_append_right (by rw [List.length_take, mkIntS_length]; omega), List.getElem?_append_right (by rw [List.length_take, mkIntS_length]; omega), List.length_take, List.length_take, mkIntS_length, List.getElem?_drop, List.getElem?_drop]
      congr 1
      omega
/-- what a slice holds behind a mark -/
def mkByteS (k : Int) (len : Nat) : List Int := (List.range len).map fun (i : Nat) => (k + (i : Int)) % 256
theorem mkByteS_length (k : Int) (len : Nat) : (mkByteS k len).length = len := by simp [mkByteS]
theorem mkByteS_get (k : Int) (len i : Nat) (h : i < len) : (mkByteS k len).getD i 0 = (k + (i : Int)) % 256 := by
  rw [List.getD_eq_getElem?_getD]
  simp [mkByteS, h]
/-- the first j cells marked, the rest as they were -/
def mtByteS (k : Int) (zs : List Int) (j : Nat) : List Int := (mkByteS k zs.length).take j ++ zs.drop j
theorem mtByteS_zero (k : Int) (zs : List Int) : mtByteS k zs 0 = zs := by simp [mtByteS]
theorem mtByteS_full (k : Int) (zs : List Int) {j : Nat} (h : zs.length ≤ j) : mtByteS k zs j = mkByteS k zs.length := by
  unfold mtByteS
  rw [List.take_of_length_le (by rw [mkByteS_length]; exact h), List.drop_of_length_le h, List.append_nil]
theorem mtByteS_length (k : Int) (zs : List Int) (j : Nat) : (mtByteS k zs j).length = zs.length := by
  unfold mtByteS
  rw [List.length_append, List.length_take, List.length_drop, mkByteS_length]; omega
theorem mtByteS_set (k : Int) (zs : List Int) {j : Nat} (h : j < zs.length) : (mtByteS k zs j).set j ((k + (j : Int)) % 256) = mtByteS k zs (j + 1) := by
  have hx : (mkByteS k zs.length)[j]? = some ((k + (j : Int)) % 256) := by simp [mkByteS, h]
  apply List.ext_getElem?
  intro i
  unfold mtByteS
  rw [List.getElem?_set, List.length_append, List.length_take, List.length_drop, mkByteS_length]
  by_cases h1 : j = i
  · subst h1
    rw [if_pos rfl, if_pos (by omega), List.getElem?_append_left (by rw [List.length_take, mkByteS_length]; omega), List.getElem?_take, if_pos (by omega), hx]
  · rw [if_neg h1]
    by_cases h2 : i < j
    · rw [List.getElem?_append_left (by rw [List.length_take, mkByteS_length]; omega), List.getElem?_append_left (by rw [List.length_take, mkByteS_length]; omega), List.getElem?_take, List.getElem?_take, if_pos h2, if_pos (by omega)]
    · rw [List.getElem?_append_right (by rw [List.length_take, mkByteS_length]; omega), List.getElem?_append_right (by rw [List.length_take, mkByteS_length]; omega), List.length_take, List.length_take, mkByteS_length, List.getElem?_drop, List.getElem?_drop]
      congr 1
      omega
set_option maxHeartbeats 1000000 in
theorem markByteS_any {lo : Nat} (a : Option Addr) (len cap : Nat) (zs : List Int) (k : Int) (w : World) (h : Own .u8 5 lo w a len cap zs) (hk : 0 ≤ k ∧ k + len ≤ 4611686018427387904) :
    Calls Tryd.prog 14 #[.slice a len cap, .int .i64 k] w fun e w' => e = .returned (.int .i64 (k + len)) ∧ Own .u8 5 lo w' a len cap (mkByteS k len) ∧ Touch a w w' := by
  have hsm := h.row.small
  have hl := h.row.1
  have HO : Hid (w.ownsRow lo 5 1 (.slice a len cap) len (zs.map (Value.int .u8))) := h.1
  have HL : Hid (zs.length = len) := hl
  have HF : Hid (len = 0 ∨ ∃ g, a = some ⟨g, 0, none⟩) := by
    rcases h.1.2 with ⟨h0, h1⟩ | ⟨g, _, _, h0, _⟩
    · exact .inl h1
    · simp only [Value.slice.injEq] at h0; exact .inr ⟨g, h0.1⟩
  clear h hl
  go_enter Tryd.func14, Tryd.ntmps14
  go_wp2
  go_loopw [1, 5] (fun x i wr => ∃ j : Nat, j ≤ len ∧ i = .int .i64 j ∧ x = .int .i64 (k + (j : Int)) ∧ wr.ownsRow lo 5 1 (.slice a len cap) len ((mtByteS k zs j).map (Value.int .u8)) ∧ Touch a w wr) (fun _ i _ => len - (intOf i).toNat)
  case atStart => exact ⟨0, Nat.zero_le _, rfl, by simp, by rw [mtByteS_zero]; exact HO.out, Touch.refl _ _⟩
  case round =>
    obtain ⟨j, hj, rfl, rfl, ho, ht⟩ := hrel
    clear HO
    have HO : Hid (wr.ownsRow lo 5 1 (.slice a len cap) len ((mtByteS k zs j).map (Value.int .u8))) := ho
    have HT : Hid (Touch a w wr) := ht
    clear ho ht
    by_cases hlt : j < len
    · obtain ⟨g, rfl⟩ := HF.out.resolve_left (by omega)
      have hfz : wr.frozen? ⟨g, j, none⟩ = false := HO.out.frozenAt j
      obtain ⟨y, hy⟩ : ∃ y, wr.cell? ⟨g, j, none⟩ = some (.int .u8 y) := by
        have := HO.out.cellAt j (by omega)
        rw [List.getElem?_map, List.getElem?_eq_getElem (by rw [mtByteS_length]; have := HL.out; omega)] at this
        exact ⟨_, this⟩
      go_wp2
      go_roundw
      case rel =>
        have st := HO.out.stored j (.int .u8 ((k + (j : Int)) % 256))
        refine ⟨j + 1, by omega, by go_num, congrArg (Value.int .i64) (by omega), ?_, HT.out.setCell rfl _⟩
        rw [← mtByteS_set k zs (by have := HL.out; omega), List.map_set]
        exact st.1
      case measure => simp [intOf]; omega
    · have hje : j = len := by omega
      subst hje
      go_wp2
      go_ret
      refine ⟨rfl, ⟨?_, mkByteS_wf k _ hk⟩, HT.out⟩
      have := HO.out
      rwa [mtByteS_full k zs (by have := HL.out; omega), HL.out] at this
set_option maxHeartbeats 1000000 in
theorem heldByteS_any {lo : Nat} (a : Option Addr) (len cap : Nat) (k : Int) (w : World) (h : Row .u8 lo w a len cap (mkByteS k len)) (hk : 0 ≤ k ∧ k + len ≤ 4611686018427387904) :
    Calls Tryd.prog 15 #[.slice a len cap, .int .i64 k] w fun e w' => e = .returned (.int .i64 (k + len)) ∧ Below w.heap.size w w' := by
  have hsm := h.small
  have HR : Hid (len = 0 ∨ ∃ b off, a = some ⟨b, off, none⟩ ∧ lo ≤ b ∧ b < w.heap.size ∧ ∀ i, i < len → w.cell? ⟨b, off + i, none⟩ = some (.int .u8 ((mkByteS k len).getD i 0))) := h.2.2.2.2
  clear h
  go_enter Tryd.func15, Tryd.ntmps15
  go_wp2
  go_loopw [1, 5] (fun x i wr => ∃ j : Nat, j ≤ len ∧ i = .int .i64 j ∧ x = .int .i64 (k + (j : Int)) ∧ Below w.heap.size w wr) (fun _ i _ => len - (intOf i).toNat)
  case atStart => exact ⟨0, Nat.zero_le _, rfl, by simp, Below.refl _ _⟩
  case round =>
    obtain ⟨j, hj, rfl, rfl, hb⟩ := hrel
    have HB : Hid (Below w.heap.size w wr) := hb
    clear hb
    by_cases hlt : j < len
    · obtain ⟨b, off, rfl, _, hbl, hc⟩ := HR.out.resolve_left (by omega)
      have hcell : wr.cell? ⟨b, off + j, none⟩ = some (.int .u8 ((k + (j : Int)) % 256)) := by rw [HB.out.cell (by exact hbl), hc j hlt, mkByteS_get k len j hlt]
      clear hc
      go_wp2
      go_roundw
      case rel => exact ⟨j + 1, by omega, by go_num, congrArg (Value.int .i64) (by omega), HB.out⟩
      case measure => simp [intOf]; omega
    · have hje : j = len := by omega
      subst hje
      go_wp2
      go_ret
      exact ⟨rfl, HB.out⟩
end Go.Proofs.YtgpmplcamdophaaDoor.W
