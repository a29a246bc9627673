import Derived.Test.YtomhmjhcbencmaaMacA
set_option linter.unusedVariables false
namespace Go.Proofs.Ytomhmjhcbencmaa.Pl
def szd (left : Int) (len : Nat) : Int := if left < len then -1 else left - len
def tk (zs : List Int) (k : Nat) : List Int := zs.take k ++ List.replicate (zs.length - k) 0
theorem tk_zero (zs : List Int) : tk zs 0 = List.replicate zs.length 0 := by simp [tk]
theorem tk_full {zs : List Int} {k : Nat} (h : zs.length ≤ k) : tk zs k = zs := by simp [tk, List.take_of_length_le h, Nat.sub_eq_zero_of_le h]
theorem tk_length (zs : List Int) (k : Nat) : (tk zs k).length = zs.length := by simp [tk]; omega
theorem tk_get (zs : List Int) (k i : Nat) (hi : i < zs.length) : (tk zs k)[i]? = some (if i < k then zs.getD i 0 else 0) := by
  unfold tk
  by_cases h : i < k
  · rw [List.getElem?_append_left (by simp; omega), List.getElem?_take, if_pos h, if_pos h, List.getElem?_eq_getElem hi, List.getD_eq_getElem?_getD, List.getElem?_eq_getElem hi]
    rfl
  · rw [List.getElem?_append_right (by simp; omega), List.getElem?_replicate, if_neg h, if_pos (by simp; omega)]
theorem tk_set {zs : List Int} {k : Nat} (h : k < zs.length) : (tk zs k).set k (zs.getD k 0) = tk zs (k + 1) := by
  apply List.ext_getElem?
  intro i
  by_cases hi : i < zs.length
  · rw [List.getElem?_set, tk_get _ _ _ hi, tk_get _ _ _ hi, tk_length]
    by_cases h1 : k = i
    · subst h1
      rw [if_pos rfl, if_pos h, if_pos (by omega)]
    · rw [if_neg h1]
      by_cases h2 : i < k
      · rw [if_pos h2, if_pos (by omega)]
      · rw [if_neg h2, if_neg (by omega)]
  · rw [List.getElem?_eq_none (by rw [List.length_set, tk_length]; omega), List.getElem?_eq_none (by rw [tk_length]; omega)]
theorem eq_of_getD {z1 z2 : List Int} (hl : z1.length = z2.length) (h : ∀ j, j < z1.length → z1.getD j 0 = z2.getD j 0) : z1 = z2 := by
  apply List.ext_getElem hl
  intro i h1 h2
  have := h i h1
  rwa [List.getD_eq_getElem?_getD, List.getD_eq_getElem?_getD, List.getElem?_eq_getElem h1, List.getElem?_eq_getElem h2] at this
end Go.Proofs.Ytomhmjhcbencmaa.Pl
namespace Go.Proofs.Ytomhmjhcbencmaa.W
open Go.RowKit
theorem Try.infoi64 : (Try.prog.info? 3).map (fun i => (i.zero, i.size, i.bytes)) = some (some (.int .i64 0), 1, 8) := by kernel_rfl
theorem szIntS_any (a : Option Addr) (len cap : Nat) (left : Int) (hl : len ≤ 9223372036854775807) (h0 : 0 ≤ left ∧ left ≤ 9223372036854775807) (w : World) :
    Calls Try.prog 32 #[.slice a len cap, .int .i64 left] w fun e w' => e = .returned (.int .i64 (Pl.szd left len)) ∧ w' = w := by
  by_cases h : left < len
  · have HP : Hid (Pl.szd left len = -1) := if_pos h
    go_enter Try.func32, Try.ntmps32
    go_wp2
    go_ret
    exact ⟨ret_int HP.out.symm, rfl⟩
  · have HP : Hid (Pl.szd left len = left - len) := if_neg h
    go_enter Try.func32, Try.ntmps32
    go_wp2
    go_ret
    exact ⟨ret_int HP.out.symm, rfl⟩
theorem szIntS_yes (a : Option Addr) (len cap : Nat) (left : Int) (hl : len ≤ 9223372036854775807) (h0 : 0 ≤ left ∧ left ≤ 9223372036854775807) (h : (len : Int) ≤ left) (w : World) :
    Calls Try.prog 32 #[.slice a len cap, .int .i64 left] w fun e w' => e = .returned (.int .i64 (left - len)) ∧ w' = w := by
  refine (szIntS_any a len cap left hl h0 w).mono ?_
  rintro e w' ⟨rfl, rfl⟩
  exact ⟨ret_int (if_neg (by omega)), rfl⟩
theorem szIntS_no (a : Option Addr) (len cap : Nat) (left : Int) (hl : len ≤ 9223372036854775807) (h0 : 0 ≤ left ∧ left ≤ 9223372036854775807) (h : left < (len : Int)) (w : World) :
    Calls Try.prog 32 #[.slice a len cap, .int .i64 left] w fun e w' => e = .returned (.int .i64 (-1)) ∧ w' = w := by
  refine (szIntS_any a len cap left hl h0 w).mono ?_
  rintro e w' ⟨rfl, rfl⟩
  exact ⟨ret_int (if_pos h), rfl⟩
set_option maxHeartbeats 1000000 in
theorem toIntS_any {lo : Nat} (a : Option Addr) (len cap : Nat) (zs : List Int) (w : World) (h : Row .i64 lo w a len cap zs) (hsz : len ≤ 1048576) :
    Calls Try.prog 38 #[.slice a len cap] w fun e w' => e = .returned (.slice (some ⟨w.heap.size, 0, none⟩) len len) ∧ Own .i64 3 w.heap.size w' (some ⟨w.heap.size, 0, none⟩) len len zs ∧ Below w.heap.size w w' := by
  obtain ⟨i0, hi, hz0, hz1, hz2⟩ := info_parts Try.infoi64
  obtain ⟨hl, _, _, hwf, hr⟩ := h
  have HL : Hid (zs.length = len) := hl
  have HW : Hid (∀ n ∈ zs, (Lit.int .i64 n).wf = true) := hwf
  have HR : Hid (len = 0 ∨ ∃ b off, a = some ⟨b, off, none⟩ ∧ lo ≤ b ∧ b < w.heap.size ∧ ∀ i, i < len → w.cell? ⟨b, off + i, none⟩ = some (.int .i64 (zs.getD i 0))) := hr
  clear hl hwf hr
  go_enter Try.func38, Try.ntmps38
  go_wp2_with (refine wpList_make_full _ rfl (.tmp 6) (.tmp 6) 22 rfl w.heap.size 3 i0 (.int .i64 0) 1 Try.underlying22 hi hz0 hz1 _ _ _ _ len rfl rfl rfl rfl (by rw [hz2]; omega) (by unfold maxLen; omega) (Nat.le_refl _) ?_)
  intro u1 hown hgr
  rw [toList_madeCells_one] at hown
  have HO : Hid (u1.ownsRow w.heap.size 3 1 (.slice (some ⟨w.heap.size, 0, none⟩) len len) len ((Pl.tk zs 0).map (Value.int .i64))) := by
    show u1.ownsRow _ _ _ _ _ _
    rw [Pl.tk_zero, HL.out, List.map_replicate]
    exact hown
  have HB : Hid (Below w.heap.size w u1) := (Below.refl _ _).grown hgr (Nat.le_refl _) (fun k hk => by cases hk)
  clear hown hgr
  go_wp2
  go_loopw [4] (fun i wr => ∃ k : Nat, k ≤ len ∧ i = .int .i64 k ∧ wr.ownsRow w.heap.size 3 1 (.slice (some ⟨w.heap.size, 0, none⟩) len len) len ((Pl.tk zs k).map (Value.int .i64)) ∧ Below w.heap.size w wr) (fun i _ => len - (intOf i).toNat)
  case atStart => exact ⟨0, Nat.zero_le _, rfl, HO.out, HB.out⟩
  case round =>
    obtain ⟨k, hk, rfl, ho, hb⟩ := hrel
    clear HO HB
    have HO : Hid (wr.ownsRow w.heap.size 3 1 (.slice (some ⟨w.heap.size, 0, none⟩) len len) len ((Pl.tk zs k).map (Value.int .i64))) := ho
    have HB : Hid (Below w.heap.size w wr) := hb
    clear ho hb
    by_cases hlt : k < len
    · obtain ⟨b, off, rfl, _, hbl, hc⟩ := HR.out.resolve_left (by omega)
      obtain ⟨x, hx⟩ : ∃ x, x = zs.getD k 0 := ⟨_, rfl⟩
      have hcell : wr.cell? ⟨b, off + k, none⟩ = some (.int .i64 x) := by rw [hx, HB.out.cell (by exact hbl)]; exact hc k hlt
      have hfz : wr.frozen? ⟨w.heap.size, k, none⟩ = false := HO.out.frozenAt k
      obtain ⟨y, hy⟩ : ∃ y, wr.cell? ⟨w.heap.size, k, none⟩ = some (.int .i64 y) := by
        have := HO.out.cellAt k (by omega)
        rw [List.getElem?_map, List.getElem?_eq_getElem (by rw [Pl.tk_length]; have := HL.out; omega)] at this
        exact ⟨_, this⟩
      have HX : Hid (x = zs.getD k 0) := hx
      clear hx hc HR
      go_wp2
      go_roundw
      case rel =>
        have st := HO.out.stored k (.int .i64 x)
        refine ⟨k + 1, by omega, by go_num, ?_, HB.out.setCell (Nat.le_refl _) _⟩
        rw [← Pl.tk_set (zs := zs) (k := k) (by have := HL.out; omega), ← HX.out, List.map_set]
        exact st.1
      case measure => simp [intOf]; omega
    · have hke : k = len := by omega
      subst hke
      go_wp2
      go_ret
      refine ⟨rfl, ⟨?_, HW.out⟩, HB.out⟩
      have := HO.out
      rwa [Pl.tk_full (by have := HL.out; omega)] at this
set_option maxHeartbeats 1000000 in
theorem eqIntS_any {lo1 lo2 : Nat} (a1 a2 : Option Addr) (l1 c1 l2 c2 : Nat) (z1 z2 : List Int) (w : World) (h1 : Row .i64 lo1 w a1 l1 c1 z1) (h2 : Row .i64 lo2 w a2 l2 c2 z2) :
    Calls Try.prog 45 #[.slice a1 l1 c1, .slice a2 l2 c2] w fun e w' => e = .returned (.bool (z1 == z2)) ∧ Below w.heap.size w w' := by
  have hs1 := h1.small
  have hs2 := h2.small
  obtain ⟨hl1, _, _, _, hr1⟩ := h1
  obtain ⟨hl2, _, _, _, hr2⟩ := h2
  by_cases hne : l1 = l2
  · subst hne
    have HL1 : Hid (z1.length = l1) := hl1
    have HL2 : Hid (z2.length = l1) := hl2
    have HR1 : Hid (l1 = 0 ∨ ∃ b off, a1 = some ⟨b, off, none⟩ ∧ lo1 ≤ b ∧ b < w.heap.size ∧ ∀ i, i < l1 → w.cell? ⟨b, off + i, none⟩ = some (.int .i64 (z1.getD i 0))) := hr1
    have HR2 : Hid (l1 = 0 ∨ ∃ b off, a2 = some ⟨b, off, none⟩ ∧ lo2 ≤ b ∧ b < w.heap.size ∧ ∀ i, i < l1 → w.cell? ⟨b, off + i, none⟩ = some (.int .i64 (z2.getD i 0))) := hr2
    clear hl1 hl2 hr1 hr2
    go_enter Try.func45, Try.ntmps45
    go_wp2
    go_loopw [5] (fun i wr => ∃ k : Nat, k ≤ l1 ∧ i = .int .i64 k ∧ (∀ j, j < k → z1.getD j 0 = z2.getD j 0) ∧ Below w.heap.size w wr) (fun i _ => l1 - (intOf i).toNat)
    case atStart => exact ⟨0, Nat.zero_le _, rfl, fun j hj => absurd hj (Nat.not_lt_zero _), Below.refl _ _⟩
    case round =>
      obtain ⟨k, hk, rfl, hall, hb⟩ := hrel
      have HA : Hid (∀ j, j < k → z1.getD j 0 = z2.getD j 0) := hall
      have HB : Hid (Below w.heap.size w wr) := hb
      clear hall hb
      by_cases hlt : k < l1
      · obtain ⟨b1, o1, rfl, _, hb1, hc1⟩ := HR1.out.resolve_left (by omega)
        obtain ⟨b2, o2, rfl, _, hb2, hc2⟩ := HR2.out.resolve_left (by omega)
        obtain ⟨x, hx⟩ : ∃ x, x = z1.getD k 0 := ⟨_, rfl⟩
        obtain ⟨y, hy⟩ : ∃ y, y = z2.getD k 0 := ⟨_, rfl⟩
        have g1 : wr.cell? ⟨b1, o1 + k, none⟩ = some (.int .i64 x) := by rw [hx, HB.out.cell (by exact hb1)]; exact hc1 k hlt
        have g2 : wr.cell? ⟨b2, o2 + k, none⟩ = some (.int .i64 y) := by rw [hy, HB.out.cell (by exact hb2)]; exact hc2 k hlt
        have HX : Hid (x = z1.getD k 0) := hx
        have HY : Hid (y = z2.getD k 0) := hy
        clear hx hy hc1 hc2 HR1 HR2
        by_cases hxy : x = y
        · subst hxy
          go_wp2_with fail
          go_quiet (fail)
          go_wp2
          go_roundw
          case rel =>
            refine ⟨k + 1, by omega, by go_num, fun j hj => ?_, ?_⟩
            · by_cases hjk : j < k
              · exact HA.out j hjk
              · have : j = k := by omega
                subst this; exact HX.out.symm.trans HY.out
            · repeat (first | exact HB.out | refine below_drewN ?_ _)
          case measure => simp [intOf]; omega
        · go_wp2_with fail
          go_quiet (fail)
          go_wp2
          go_ret
          refine ⟨ret_bool ?_, ?_⟩
          · symm
            rw [beq_eq_false_iff_ne]
            intro hc
            exact hxy (by rw [HX.out, HY.out, hc])
          · repeat (first | exact HB.out | refine below_drewN ?_ _)
      · have hke : k = l1 := by omega
        subst hke
        go_wp2
        go_ret
        refine ⟨ret_bool ?_, HB.out⟩
        symm
        rw [beq_iff_eq]
        exact Pl.eq_of_getD (HL1.out.trans HL2.out.symm) (fun j hj => HA.out j (by have := HL1.out; omega))
  · have HP : Hid ((z1 == z2) = false) := by
      show (z1 == z2) = false
      rw [beq_eq_false_iff_ne]
      intro hc
      exact hne (by rw [← hl1, ← hl2, hc])
    clear hr1 hr2 hl1 hl2
    go_enter Try.func45, Try.ntmps45
    go_wp2
    go_ret
    exact ⟨ret_bool HP.out.symm, Below.refl _ _⟩
theorem Try.infou8 : (Try.prog.info? 5).map (fun i => (i.zero, i.size, i.bytes)) = some (some (.int .u8 0), 1, 1) := by kernel_rfl
theorem szByteS_any (a : Option Addr) (len cap : Nat) (left : Int) (hl : len ≤ 9223372036854775807) (h0 : 0 ≤ left ∧ left ≤ 9223372036854775807) (w : World) :
    Calls Try.prog 33 #[.slice a len cap, .int .i64 left] w fun e w' => e = .returned (.int .i64 (Pl.szd left len)) ∧ w' = w := by
  by_cases h : left < len
  · have HP : Hid (Pl.szd left len = -1) := if_pos h
    go_enter Try.func33, Try.ntmps33
    go_wp2
    go_ret
    exact ⟨ret_int HP.out.symm, rfl⟩
  · have HP : Hid (Pl.szd left len = left - len) := if_neg h
    go_enter Try.func33, Try.ntmps33
    go_wp2
    go_ret
    exact ⟨ret_int HP.out.symm, rfl⟩
theorem szByteS_yes (a : Option Addr) (len cap : Nat) (left : Int) (hl : len ≤ 9223372036854775807) (h0 : 0 ≤ left ∧ left ≤ 9223372036854775807) (h : (len : Int) ≤ left) (w : World) :
    Calls Try.prog 33 #[.slice a len cap, .int .i64 left] w fun e w' => e = .returned (.int .i64 (left - len)) ∧ w' = w := by
  refine (szByteS_any a len cap left hl h0 w).mono ?_
  rintro e w' ⟨rfl, rfl⟩
  exact ⟨ret_int (if_neg (by omega)), rfl⟩
theorem szByteS_no (a : Option Addr) (len cap : Nat) (left : Int) (hl : len ≤ 9223372036854775807) (h0 : 0 ≤ left ∧ left ≤ 9223372036854775807) (h : left < (len : Int)) (w : World) :
    Calls Try.prog 33 #[.slice a len cap, .int .i64 left] w fun e w' => e = .returned (.int .i64 (-1)) ∧ w' = w := by
  refine (szByteS_any a len cap left hl h0 w).mono ?_
  rintro e w' ⟨rfl, rfl⟩
  exact ⟨ret_int (if_pos h), rfl⟩
set_option maxHeartbeats 1000000 in
theorem toByteS_any {lo : Nat} (a : Option Addr) (len cap : Nat) (zs : List Int) (w : World) (h : Row .u8 lo w a len cap zs) (hsz : len ≤ 1048576) :
    Calls Try.prog 17 #[.slice a len cap] w fun e w' => e = .returned (.slice (some ⟨w.heap.size, 0, none⟩) len len) ∧ Own .u8 5 w.heap.size w' (some ⟨w.heap.size, 0, none⟩) len len zs ∧ Below w.heap.size w w' := by
  obtain ⟨i0, hi, hz0, hz1, hz2⟩ := info_parts Try.infou8
  obtain ⟨hl, _, _, hwf, hr⟩ := h
  have HL : Hid (zs.length = len) := hl
  have HW : Hid (∀ n ∈ zs, (Lit.int .u8 n).wf = true) := hwf
  have HR : Hid (len = 0 ∨ ∃ b off, a = some ⟨b, off, none⟩ ∧ lo ≤ b ∧ b < w.heap.size ∧ ∀ i, i < len → w.cell? ⟨b, off + i, none⟩ = some (.int .u8 (zs.getD i 0))) := hr
  clear hl hwf hr
  go_enter Try.func17, Try.ntmps17
  go_wp2_with (refine wpList_make_full _ rfl (.tmp 6) (.tmp 6) 23 rfl w.heap.size 5 i0 (.int .u8 0) 1 Try.underlying23 hi hz0 hz1 _ _ _ _ len rfl rfl rfl rfl (by rw [hz2]; omega) (by unfold maxLen; omega) (Nat.le_refl _) ?_)
  intro u1 hown hgr
  rw [toList_madeCells_one] at hown
  have HO : Hid (u1.ownsRow w.heap.size 5 1 (.slice (some ⟨w.heap.size, 0, none⟩) len len) len ((Pl.tk zs 0).map (Value.int .u8))) := by
    show u1.ownsRow _ _ _ _ _ _
    rw [Pl.tk_zero, HL.out, List.map_replicate]
    exact hown
  have HB : Hid (Below w.heap.size w u1) := (Below.refl _ _).grown hgr (Nat.le_refl _) (fun k hk => by cases hk)
  clear hown hgr
  go_wp2
  go_loopw [4] (fun i wr => ∃ k : Nat, k ≤ len ∧ i = .int .i64 k ∧ wr.ownsRow w.heap.size 5 1 (.slice (some ⟨w.heap.size, 0, none⟩) len len) len ((Pl.tk zs k).map (Value.int .u8)) ∧ Below w.heap.size w wr) (fun i _ => len - (intOf i).toNat)
  case atStart => exact ⟨0, Nat.zero_le _, rfl, HO.out, HB.out⟩
  case round =>
    obtain ⟨k, hk, rfl, ho, hb⟩ := hrel
    clear HO HB
    have HO : Hid (wr.ownsRow w.heap.size 5 1 (.slice (some ⟨w.heap.size, 0, none⟩) len len) len ((Pl.tk zs k).map (Value.int .u8))) := ho
    have HB : Hid (Below w.heap.size w wr) := hb
    clear ho hb
    by_cases hlt : k < len
    · obtain ⟨b, off, rfl, _, hbl, hc⟩ := HR.out.resolve_left (by omega)
      obtain ⟨x, hx⟩ : ∃ x, x = zs.getD k 0 := ⟨_, rfl⟩
      have hcell : wr.cell? ⟨b, off + k, none⟩ = some (.int .u8 x) := by rw [hx, HB.out.cell (by exact hbl)]; exact hc k hlt
      have hfz : wr.frozen? ⟨w.heap.size, k, none⟩ = false := HO.out.frozenAt k
      obtain ⟨y, hy⟩ : ∃ y, wr.cell? ⟨w.heap.size, k, none⟩ = some (.int .u8 y) := by
        have := HO.out.cellAt k (by omega)
        rw [List.getElem?_map, List.getElem?_eq_getElem (by rw [Pl.tk_length]; have := HL.out; omega)] at this
        exact ⟨_, this⟩
      have HX : Hid (x = zs.getD k 0) := hx
      clear hx hc HR
      go_wp2
      go_roundw
      case rel =>
        have st := HO.out.stored k (.int .u8 x)
        refine ⟨k + 1, by omega, by go_num, ?_, HB.out.setCell (Nat.le_refl _) _⟩
        rw [← Pl.tk_set (zs := zs) (k := k) (by have := HL.out; omega), ← HX.out, List.map_set]
        exact st.1
      case measure => simp [intOf]; omega
    · have hke : k = len := by omega
      subst hke
      go_wp2
      go_ret
      refine ⟨rfl, ⟨?_, HW.out⟩, HB.out⟩
      have := HO.out
      rwa [Pl.tk_full (by have := HL.out; omega)] at this
set_option maxHeartbeats 1000000 in
theorem eqByteS_any {lo1 lo2 : Nat} (a1 a2 : Option Addr) (l1 c1 l2 c2 : Nat) (z1 z2 : List Int) (w : World) (h1 : Row .u8 lo1 w a1 l1 c1 z1) (h2 : Row .u8 lo2 w a2 l2 c2 z2) :
    Calls Try.prog 20 #[.slice a1 l1 c1, .slice a2 l2 c2] w fun e w' => e = .returned (.bool (z1 == z2)) ∧ Below w.heap.size w w' := by
  have hs1 := h1.small
  have hs2 := h2.small
  obtain ⟨hl1, _, _, _, hr1⟩ := h1
  obtain ⟨hl2, _, _, _, hr2⟩ := h2
  by_cases hne : l1 = l2
  · subst hne
    have HL1 : Hid (z1.length = l1) := hl1
    have HL2 : Hid (z2.length = l1) := hl2
    have HR1 : Hid (l1 = 0 ∨ ∃ b off, a1 = some ⟨b, off, none⟩ ∧ lo1 ≤ b ∧ b < w.heap.size ∧ ∀ i, i < l1 → w.cell? ⟨b, off + i, none⟩ = some (.int .u8 (z1.getD i 0))) := hr1
    have HR2 : Hid (l1 = 0 ∨ ∃ b off, a2 = some ⟨b, off, none⟩ ∧ lo2 ≤ b ∧ b < w.heap.size ∧ ∀ i, i < l1 → w.cell? ⟨b, off + i, none⟩ = some (.int .u8 (z2.getD i 0))) := hr2
    clear hl1 hl2 hr1 hr2
    go_enter Try.func20, Try.ntmps20
    go_wp2
    go_loopw [5] (fun i wr => ∃ k : Nat, k ≤ l1 ∧ i = .int .i64 k ∧ (∀ j, j < k → z1.getD j 0 = z2.getD j 0) ∧ Below w.heap.size w wr) (fun i _ => l1 - (intOf i).toNat)
    case atStart => exact ⟨0, Nat.zero_le _, rfl, fun j hj => absurd hj (Nat.not_lt_zero _), Below.refl _ _⟩
    case round =>
      obtain ⟨k, hk, rfl, hall, hb⟩ := hrel
      have HA : Hid (∀ j, j < k → z1.getD j 0 = z2.getD j 0) := hall
      have HB : Hid (Below w.heap.size w wr) := hb
      clear hall hb
      by_cases hlt : k < l1
      · obtain ⟨b1, o1, rfl, _, hb1, hc1⟩ := HR1.out.resolve_left (by omega)
        obtain ⟨b2, o2, rfl, _, hb2, hc2⟩ := HR2.out.resolve_left (by omega)
        obtain ⟨x, hx⟩ : ∃ x, x = z1.getD k 0 := ⟨_, rfl⟩
        obtain ⟨y, hy⟩ : ∃ y, y = z2.getD k 0 := ⟨_, rfl⟩
        have g1 : wr.cell? ⟨b1, o1 + k, none⟩ = some (.int .u8 x) := by rw [hx, HB.out.cell (by exact hb1)]; exact hc1 k hlt
        have g2 : wr.cell? ⟨b2, o2 + k, none⟩ = some (.int .u8 y) := by rw [hy, HB.out.cell (by exact hb2)]; exact hc2 k hlt
        have HX : Hid (x = z1.getD k 0) := hx
        have HY : Hid (y = z2.getD k 0) := hy
        clear hx hy hc1 hc2 HR1 HR2
        by_cases hxy : x = y
        · subst hxy
          go_wp2_with fail
          go_quiet (fail)
          go_wp2
          go_roundw
          case rel =>
            refine ⟨k + 1, by omega, by go_num, fun j hj => ?_, ?_⟩
            · by_cases hjk : j < k
              · exact HA.out j hjk
              · have : j = k := by omega
                subst this; exact HX.out.symm.trans HY.out
            · repeat (first | exact HB.out | refine below_drewN ?_ _)
          case measure => simp [intOf]; omega
        · go_wp2_with fail
          go_quiet (fail)
          go_wp2
          go_ret
          refine ⟨ret_bool ?_, ?_⟩
          · symm
            rw [beq_eq_false_iff_ne]
            intro hc
            exact hxy (by rw [HX.out, HY.out, hc])
          · repeat (first | exact HB.out | refine below_drewN ?_ _)
      · have hke : k = l1 := by omega
        subst hke
        go_wp2
        go_ret
        refine ⟨ret_bool ?_, HB.out⟩
        symm
        rw [beq_iff_eq]
        exact Pl.eq_of_getD (HL1.out.trans HL2.out.symm) (fun j hj => HA.out j (by have := HL1.out; omega))
  · have HP : Hid ((z1 == z2) = false) := by
      show (z1 == z2) = false
      rw [beq_eq_false_iff_ne]
      intro hc
      exact hne (by rw [← hl1, ← hl2, hc])
    clear hr1 hr2 hl1 hl2
    go_enter Try.func20, Try.ntmps20
    go_wp2
    go_ret
    exact ⟨ret_bool HP.out.symm, Below.refl _ _⟩
end Go.Proofs.Ytomhmjhcbencmaa.W
