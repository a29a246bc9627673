import Derived.Test.YtdplfflkmphpbaaGreatDoorT00
set_option linter.unusedVariables false
set_option linter.unusedSimpArgs false
namespace Go.Proofs.YtdplfflkmphpbaaGreatDoor.W
open Go.RowKit
set_option maxHeartbeats 32000000 in
set_option maxRecDepth 100000 in
theorem iParse_16_8 (t : ByteArray) (hmax : t.size ≤ 9223372036854775806) (w : World) :
    Calls Tryz.prog 127 #[.string t, .int .i64 16, .int .i64 8] w (Parsed t 16 255 w) := by
  by_cases hne : t.size = 0
  · have ht : t = ⟨#[]⟩ := by
      cases t with | mk d => congr; exact Array.eq_empty_of_size_eq_zero hne
    have HG : Hid (¬ Pl.Good t 16 255) := fun h => by have := h.1; omega
    subst ht
    go_enter Tryz.func127, Tryz.ntmps127
    go_wp2
    go_ret2
    exact parsed_no HG.out (by first | exact .inl rfl | exact .inr rfl) (Below.refl _ _)
  have hemp : t.toList.isEmpty = false := by
    rw [← decide_eq_emptyBytes]
    exact decide_eq_false (fun h => hne (by rw [h]; rfl))
  have hcv := Lib.run_convert_string_bytes (P := Tryz.prog) w 9 22 5 t (u := .string) Tryz.underlying9 Tryz.underlying22 Tryz.underlying5
  have HB : Hid (∀ j, j < t.size → (Lib.bytesWorld w 5 t).cell? ⟨w.heap.size, j, none⟩ = some (.int .u8 (Pl.byt t j))) := fun j hj => Lib.bytesWorld_cell w 5 t j hj
  have HBW : Hid (Below w.heap.size w (Lib.bytesWorld w 5 t)) := Lib.bytesWorld_below _ _ _
  obtain ⟨W1, hW1⟩ : ∃ W1, W1 = Lib.bytesWorld w 5 t := ⟨_, rfl⟩
  rw [← hW1] at hcv HB HBW
  clear hW1
  have hmv : IntKind.u64.wrap (IntKind.u64.wrap 4294967296 - 1) = 4294967295 := by
    rw [IntKind.wrap_u64, IntKind.wrap_u64]
    decide
  have hmv8 : IntKind.u64.wrap (IntKind.u64.wrap 256 - 1) = 255 := by
    rw [IntKind.wrap_u64, IntKind.wrap_u64]
    decide
  have HP : Hid (0 < t.size) := by show 0 < t.size; omega
  clear hne
  go_enter Tryz.func127, Tryz.ntmps127
  go_wp2
  go_loop [12, 13, 101] (fun vu vn vi => ∃ (k : Nat) (a : Int), vu = .bool false ∧ vn = .int .u64 a ∧ vi = .int .i64 k ∧ k ≤ t.size ∧ 0 ≤ a ∧ a ≤ 255 ∧ a = Pl.val t 16 k ∧ ∀ j, j < k → 0 ≤ Pl.hx (Pl.byt t j) ∧ Pl.hx (Pl.byt t j) < 16)
    (fun _ _ vi => t.size - (intOf vi).toNat)
  case atStart => exact ⟨0, 0, rfl, rfl, rfl, by omega, by omega, by omega, rfl, fun j hj => absurd hj (Nat.not_lt_zero _)⟩
  case round =>
    obtain ⟨k, a, rfl, rfl, rfl, hk, a0, a1, hav, hall⟩ := hrel
    have HV : Hid (a = Pl.val t 16 k) := hav
    have HA : Hid (∀ j, j < k → 0 ≤ Pl.hx (Pl.byt t j) ∧ Pl.hx (Pl.byt t j) < 16) := hall
    clear hav hall
    by_cases hkn : k < t.size
    · have hc := HB.out k hkn
      have hc0 := Pl.byt_lo t k
      have hc1 := Pl.byt_hi t k
      obtain ⟨c, hcc⟩ : ∃ c, c = Pl.byt t k := ⟨_, rfl⟩
      rw [← hcc] at hc hc0 hc1
      have HCC : Hid (c = Pl.byt t k) := hcc
      have HNV : Hid (255 < a * 16 + Pl.hx c → ¬ Pl.Good t 16 255) := fun h => by
        have h2 := h
        rw [HV.out, hcc] at h2
        exact Pl.not_good_val (by decide) k hkn h2
      have HND : Hid (Pl.hx c < 0 ∨ 16 ≤ Pl.hx c → ¬ Pl.Good t 16 255) := fun h => by
        have h2 := h
        rw [hcc] at h2
        exact Pl.not_good_digit k hkn h2
      have HGO : Hid (∀ d, Pl.hx c = d → 0 ≤ d → d < 16 → a * 16 + d = Pl.val t 16 (k + 1) ∧ ∀ j, j < k + 1 → 0 ≤ Pl.hx (Pl.byt t j) ∧ Pl.hx (Pl.byt t j) < 16) := fun d e d0 d1 => by
        refine ⟨?_, fun j hj => ?_⟩
        · show _ = Pl.val t 16 k * 16 + Pl.hx (Pl.byt t k)
          rw [← hcc, e, HV.out]
        · by_cases q : j = k
          · rw [q, ← hcc, e]; exact ⟨d0, d1⟩
          · exact HA.out j (by omega)
      clear hcc HV HA HB HP
      by_cases hd : 48 ≤ c ∧ c ≤ 57
      · obtain ⟨hd0, hd1⟩ := hd
        have HH : Hid (Pl.hx c = c - 48) := Pl.hx_dig c hd0 hd1
        by_cases hdb : c - 48 < 16
        · by_cases hm : a * 16 + (c - 48) ≤ 255
          · go_wp2
            all_goals exact ⟨⟨k + 1, _, rfl, rfl, (by first | rfl | (congr 1; omega)), by omega, by omega, by omega, (HGO.out _ HH.out (by omega) hdb).1, (HGO.out _ HH.out (by omega) hdb).2⟩, by simp [intOf]; omega⟩
          · go_wp2
            all_goals (go_ret2; exact parsed_no (HNV.out (by rw [HH.out]; omega)) (by first | exact .inl rfl | exact .inr rfl) HBW.out)
        · go_wp2
          all_goals (go_ret2; exact parsed_no (HND.out (by rw [HH.out]; omega)) (by first | exact .inl rfl | exact .inr rfl) HBW.out)
      · obtain ⟨l, hl⟩ : ∃ l, l = bits .or .u8 c 32 := ⟨_, rfl⟩
        have hlt : (97 ≤ l ∧ l ≤ 102 ∧ Pl.hx c = l - 87 ∧ c ≠ 95) ∨ (103 ≤ l ∧ l ≤ 122 ∧ Pl.hx c = -1 ∧ c ≠ 95) ∨ ((l < 97 ∨ 122 < l) ∧ Pl.hx c = -1) := by
          have := Pl.low_tab c.toNat (by omega) (by omega)
          rw [Int.toNat_of_nonneg hc0] at this
          rw [hl]; rcases this with ⟨q1, q2, q3, q4⟩ | ⟨q1, q2, q3, q4⟩ | q
          · exact .inl ⟨q1, q2, q3, by omega⟩
          · exact .inr (.inl ⟨q1, q2, q3, by omega⟩)
          · exact .inr (.inr q)
        have HLO : Hid (∀ w, Calls Tryz.prog 139 #[.int .u8 c] w fun e w' => e = .returned (.int .u8 l) ∧ w' = w) := fun w => by rw [hl]; exact lower_is c w
        clear hl
        rcases hlt with ⟨l0, l1, hh, h95⟩ | ⟨l0, l1, hh, h95⟩ | ⟨l01, hh⟩
        · have HH : Hid (Pl.hx c = l - 87) := hh
          have e95 : (c == 95) = false := by simp [h95]
          clear hh h95
          by_cases hdb : l - 87 < 16
          · by_cases hm : a * 16 + (l - 87) ≤ 255
            · go_wp2_with (go_at_call 139; refine (HLO.out _).mono ?_; rintro e u1 ⟨rfl, rfl⟩)
              all_goals exact ⟨⟨k + 1, _, rfl, rfl, (by first | rfl | (congr 1; omega)), by omega, by omega, by omega, by have := (HGO.out _ HH.out (by omega) hdb).1; omega, (HGO.out _ HH.out (by omega) hdb).2⟩, by simp [intOf]; omega⟩
            · go_wp2_with (go_at_call 139; refine (HLO.out _).mono ?_; rintro e u1 ⟨rfl, rfl⟩)
              all_goals (go_ret2; exact parsed_no (HNV.out (by rw [HH.out]; omega)) (by first | exact .inl rfl | exact .inr rfl) HBW.out)
          · go_wp2_with (go_at_call 139; refine (HLO.out _).mono ?_; rintro e u1 ⟨rfl, rfl⟩)
            all_goals (go_ret2; exact parsed_no (HND.out (by rw [HH.out]; omega)) (by first | exact .inl rfl | exact .inr rfl) HBW.out)
        · have HH : Hid (Pl.hx c = -1) := hh
          have e95 : (c == 95) = false := by simp [h95]
          clear hh h95
          go_wp2_with (go_at_call 139; refine (HLO.out _).mono ?_; rintro e u1 ⟨rfl, rfl⟩)
          all_goals (go_ret2; exact parsed_no (HND.out (by rw [HH.out]; omega)) (by first | exact .inl rfl | exact .inr rfl) HBW.out)
        · have HH : Hid (Pl.hx c = -1) := hh
          clear hh
          cases e95 : (c == 95) <;> rcases l01 with l0 | l0
          all_goals
            go_wp2_with (go_at_call 139; refine (HLO.out _).mono ?_; rintro e u1 ⟨rfl, rfl⟩)
            all_goals (go_ret2; exact parsed_no (HND.out (by rw [HH.out]; omega)) (by first | exact .inl rfl | exact .inr rfl) HBW.out)
    · have hkk : k = t.size := by omega
      subst hkk
      have HG : Hid (Pl.Good t 16 255) := ⟨HP.out, HA.out, by rw [← HV.out]; exact a1⟩
      have HV2 : Hid (a = Pl.val t 16 t.size) := HV.out
      clear HV HA
      go_wp2
      go_ret2
      exact parsed_yes HG.out HV2.out HBW.out
end Go.Proofs.YtdplfflkmphpbaaGreatDoor.W
