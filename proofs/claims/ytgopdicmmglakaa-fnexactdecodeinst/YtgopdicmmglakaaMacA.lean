import Derived.Test.YtgopdicmmglakaaSl
set_option linter.unusedVariables false
namespace Go.Proofs.Ytgopdicmmglakaa.W
open Go.RowKit
theorem isWord_any (n : Int) (w : World) : Calls Try.prog 31 #[.int .i64 n] w fun e w' => e = .returned (.bool (Pl.isW n)) ∧ w' = w := by
  go_enter Try.func31, Try.ntmps31
  go_wp2_with (go_at_call 51; refine (implWord_any _ _).mono ?_; rintro e w' ⟨rfl, rfl⟩)
  go_ret
  exact ⟨ret_bool (Pl.isW_wd n), rfl⟩
theorem wordOk_any (n : Int) (w : World) : Calls Try.prog 26 #[.int .i64 n] w fun e w' => e = .returned (.bool (Pl.isW n)) ∧ w' = w := by
  by_cases h1 : 0 ≤ n <;> by_cases h2 : n ≤ 4294967295
  all_goals
    go_enter Try.func26, Try.ntmps26
    go_wp2
    go_ret
    exact ⟨ret_bool (by simp [Pl.isW]; omega), rfl⟩
theorem implStackOk_any (n : Int) (w : World) : Calls Try.prog 30 #[.int .i64 n] w fun e w' => e = .returned (.bool (Pl.skOk n)) ∧ w' = w := by
  by_cases h1 : 0 ≤ n <;> by_cases h2 : n ≤ 65536
  all_goals
    go_enter Try.func30, Try.ntmps30
    go_wp2
    go_ret
    refine ⟨ret_bool ?_, rfl⟩
  · by_cases h : n % 16 = 0 <;> simp [Pl.skOk, h, h1, h2]
  all_goals (symm; rw [Bool.eq_false_iff]; intro hc; simp [Pl.skOk] at hc; omega)
theorem specStackOk_any (n : Int) (w : World) : Calls Try.prog 25 #[.int .i64 n] w fun e w' => e = .returned (.bool (Pl.skOk n)) ∧ w' = w := by
  by_cases h1 : 0 ≤ n <;> by_cases h2 : n ≤ 65536
  all_goals
    go_enter Try.func25, Try.ntmps25
    go_wp2
    go_ret
    refine ⟨ret_bool ?_, rfl⟩
  · by_cases h : n % 16 = 0 <;> simp [Pl.skOk, h, h1, h2]
  all_goals (symm; rw [Bool.eq_false_iff]; intro hc; simp [Pl.skOk] at hc; omega)
set_option maxHeartbeats 400000 in
theorem allWords_any {lo : Nat} (a : Option Addr) (len cap : Nat) (zs : List Int) (w : World) (h : Row .i64 lo w a len cap zs) :
    Calls Try.prog 32 #[.slice a len cap] w fun e w' => e = .returned (.bool (zs.all Pl.isW)) ∧ w' = w := by
  have hsm := h.small
  obtain ⟨hl, _, _, _, hr⟩ := h
  have HL : Hid (zs.length = len) := hl
  clear hl
  rcases hr with rfl | ⟨b, off, rfl, _, _, hc⟩
  · go_enter Try.func32, Try.ntmps32
    go_wp2
    go_loop [7] (fun i => i = .int .i64 0) (fun i => 0)
    case atStart => rfl
    case round =>
      subst hrel
      go_wp2
      go_ret
      exact ⟨ret_bool (by have := HL.out; cases zs with | nil => rfl | cons => simp at this), rfl⟩
  · have HC : Hid (∀ i, i < len → w.cell? ⟨b, off + i, none⟩ = some (.int .i64 (zs.getD i 0))) := hc
    clear hc
    go_enter Try.func32, Try.ntmps32
    go_wp2
    go_loop [7] (fun i => ∃ k : Nat, k ≤ len ∧ i = .int .i64 k ∧ ∀ j, j < k → Pl.isW (zs.getD j 0) = true) (fun i => len - (intOf i).toNat)
    case atStart => exact ⟨0, Nat.zero_le _, rfl, fun j hj => absurd hj (Nat.not_lt_zero _)⟩
    case round =>
      obtain ⟨k, hk, rfl, hall⟩ := hrel
      have HA : Hid (∀ j, j < k → Pl.isW (zs.getD j 0) = true) := hall
      clear hall
      by_cases hlt : k < len
      · obtain ⟨x, hx⟩ : ∃ x, x = zs.getD k 0 := ⟨_, rfl⟩
        have hcell : w.cell? ⟨b, off + k, none⟩ = some (.int .i64 x) := by rw [hx]; exact HC.out k hlt
        have HX : Hid (x = zs.getD k 0) := hx
        clear hx
        cases hb : Pl.isW x
        · go_wp2_with (go_at_call 31; refine (isWord_any _ _).mono ?_; rintro e w' ⟨rfl, rfl⟩; simp only [hb])
          go_ret
          exact ⟨ret_bool (Pl.not_all_of_getD (k := k) (by have := HL.out; omega) (by rw [← HX.out]; exact hb)).symm, rfl⟩
        · go_wp2_with (go_at_call 31; refine (isWord_any _ _).mono ?_; rintro e w' ⟨rfl, rfl⟩; simp only [hb])
          go_round
          case rel =>
            refine ⟨k + 1, by omega, by go_num, fun j hj => ?_⟩
            by_cases hjk : j < k
            · exact HA.out j hjk
            · have : j = k := by omega
              subst this; rw [← HX.out]; exact hb
          case measure => simp [intOf]; omega
      · have hke : k = len := by omega
        subst hke
        go_wp2
        go_ret
        exact ⟨ret_bool (Pl.all_of_getD (fun j hj => HA.out j (by have := HL.out; omega))).symm, rfl⟩
set_option maxHeartbeats 400000 in
theorem implCodeOk_any {lo : Nat} (a : Option Addr) (len cap : Nat) (zs : List Int) (w : World) (h : Row .i64 lo w a len cap zs) :
    Calls Try.prog 29 #[.slice a len cap] w fun e w' => e = .returned (.bool (Pl.cdOk zs)) ∧ w' = w := by
  have hsm := h.small
  have HL : Hid (zs.length = len) := h.1
  have HR : Hid (Row .i64 lo w a len cap zs) := h
  clear h
  rcases (show (1 ≤ len ∧ len ≤ 16384) ∨ len < 1 ∨ 16384 < len from by omega) with ⟨h1, h2⟩ | h1 | h1
  all_goals
    go_enter Try.func29, Try.ntmps29
    go_wp2_with (go_at_call 32; refine (allWords_any _ _ _ zs _ HR.out).mono ?_; rintro e w' ⟨rfl, rfl⟩)
    go_ret
    refine ⟨ret_bool ?_, rfl⟩
    have hl := HL.out
    unfold Pl.cdOk
    rw [hl]
  · simp [h1, h2]
  all_goals (symm; rw [Bool.eq_false_iff]; intro hc; simp at hc; omega)
set_option maxHeartbeats 400000 in
theorem specCodeOk_any {lo : Nat} (a : Option Addr) (len cap : Nat) (zs : List Int) (w : World) (h : Row .i64 lo w a len cap zs) :
    Calls Try.prog 24 #[.slice a len cap] w fun e w' => e = .returned (.bool (Pl.cdOk zs)) ∧ w' = w := by
  have hsm := h.small
  obtain ⟨hl, _, _, _, hr⟩ := h
  have HL : Hid (zs.length = len) := hl
  clear hl
  by_cases hn : 1 ≤ len ∧ len ≤ 16384
  · obtain ⟨h1, h2⟩ := hn
    obtain ⟨b, off, rfl, _, _, hc⟩ := hr.resolve_left (by omega)
    clear hr
    have hall : Pl.cdOk zs = zs.all Pl.isW := by unfold Pl.cdOk; rw [HL.out]; simp [h1, h2]
    rw [hall]
    clear hall
    have HC : Hid (∀ i, i < len → w.cell? ⟨b, off + i, none⟩ = some (.int .i64 (zs.getD i 0))) := hc
    clear hc
    go_enter Try.func24, Try.ntmps24
    go_wp2
    go_loop [3] (fun i => ∃ k : Nat, k ≤ len ∧ i = .int .i64 k ∧ ∀ j, j < k → Pl.isW (zs.getD j 0) = true) (fun i => len - (intOf i).toNat)
    case atStart => exact ⟨0, Nat.zero_le _, rfl, fun j hj => absurd hj (Nat.not_lt_zero _)⟩
    case round =>
      obtain ⟨k, hk, rfl, hall⟩ := hrel
      have HA : Hid (∀ j, j < k → Pl.isW (zs.getD j 0) = true) := hall
      clear hall
      by_cases hlt : k < len
      · obtain ⟨x, hx⟩ : ∃ x, x = zs.getD k 0 := ⟨_, rfl⟩
        have hcell : w.cell? ⟨b, off + k, none⟩ = some (.int .i64 x) := by rw [hx]; exact HC.out k hlt
        have HX : Hid (x = zs.getD k 0) := hx
        clear hx
        cases hb : Pl.isW x
        · go_wp2_with (go_at_call 26; refine (wordOk_any _ _).mono ?_; rintro e w' ⟨rfl, rfl⟩; simp only [hb])
          go_ret
          exact ⟨ret_bool (Pl.not_all_of_getD (k := k) (by have := HL.out; omega) (by rw [← HX.out]; exact hb)).symm, rfl⟩
        · go_wp2_with (go_at_call 26; refine (wordOk_any _ _).mono ?_; rintro e w' ⟨rfl, rfl⟩; simp only [hb])
          go_round
          case rel =>
            refine ⟨k + 1, by omega, by go_num, fun j hj => ?_⟩
            by_cases hjk : j < k
            · exact HA.out j hjk
            · have : j = k := by omega
              subst this; rw [← HX.out]; exact hb
          case measure => simp [intOf]; omega
      · have hke : k = len := by omega
        subst hke
        go_wp2
        go_ret
        exact ⟨ret_bool (Pl.all_of_getD (fun j hj => HA.out j (by have := HL.out; omega))).symm, rfl⟩
  · have hall : Pl.cdOk zs = false := by unfold Pl.cdOk; rw [HL.out, decide_eq_false hn]; rfl
    rw [hall]
    clear hall hr
    by_cases h1 : len < 1
    · go_enter Try.func24, Try.ntmps24
      go_wp2
      go_ret
      exact ⟨rfl, rfl⟩
    · have h2 : 16384 < len := by omega
      clear hn
      go_enter Try.func24, Try.ntmps24
      go_wp2
      go_ret
      exact ⟨rfl, rfl⟩
theorem implPlace_any (a : Option Addr) (len cap : Nat) (at_ : Int) (hl : len ≤ 9223372036854775807) (hb : -9223372036854775808 ≤ at_ ∧ at_ ≤ 9223372036854775807) (w : World) :
    Calls Try.prog 36 #[.slice a len cap, .int .i64 at_] w fun e w' => e = .returned (.int .i64 (Pl.place len at_)) ∧ w' = w := by
  by_cases h1 : at_ < 65536
  · have HP : Hid (Pl.place len at_ = -1) := by unfold Pl.place; exact if_neg (by omega)
    go_enter Try.func36, Try.ntmps36
    go_wp2
    go_ret
    exact ⟨ret_int HP.out.symm, rfl⟩
  · by_cases h2 : at_ % 4 = 0
    · by_cases h3 : (at_ - 65536) / 4 < len
      · have HP : Hid (Pl.place len at_ = (at_ - 65536) / 4) := by unfold Pl.place; exact if_pos (by omega)
        go_enter Try.func36, Try.ntmps36
        go_wp2
        go_ret
        exact ⟨ret_int HP.out.symm, rfl⟩
      · have HP : Hid (Pl.place len at_ = -1) := by unfold Pl.place; exact if_neg (by omega)
        go_enter Try.func36, Try.ntmps36
        go_wp2
        go_ret
        exact ⟨ret_int HP.out.symm, rfl⟩
    · have HP : Hid (Pl.place len at_ = -1) := by unfold Pl.place; exact if_neg (by omega)
      go_enter Try.func36, Try.ntmps36
      go_wp2
      go_ret
      exact ⟨ret_int HP.out.symm, rfl⟩
set_option maxHeartbeats 400000 in
theorem specPlace_any (a : Option Addr) (len cap : Nat) (at_ : Int) (hl : len ≤ 1152921504606846976) (hb : -9223372036854775808 ≤ at_ ∧ at_ ≤ 9223372036854775807) (w : World) :
    Calls Try.prog 35 #[.slice a len cap, .int .i64 at_] w fun e w' => e = .returned (.int .i64 (Pl.place len at_)) ∧ w' = w := by
  by_cases h0 : at_ < -9223372036854710272
  · have HP : Hid (Pl.place len at_ = -1) := by unfold Pl.place; exact if_neg (by omega)
    have e : wrap64 (at_ - 65536) = at_ - 65536 + 18446744073709551616 := by simp only [wrap64]; omega
    by_cases h2 : (at_ - 65536 + 18446744073709551616) % 4 = 0
    all_goals
      go_enter Try.func35, Try.ntmps35
      go_wp2
      go_ret
      exact ⟨ret_int HP.out.symm, rfl⟩
  by_cases h1 : at_ < 65536
  · have HP : Hid (Pl.place len at_ = -1) := by unfold Pl.place; exact if_neg (by omega)
    go_enter Try.func35, Try.ntmps35
    go_wp2
    go_ret
    exact ⟨ret_int HP.out.symm, rfl⟩
  · by_cases h2 : at_ % 4 = 0
    · by_cases h3 : (at_ - 65536) / 4 < len
      · have HP : Hid (Pl.place len at_ = (at_ - 65536) / 4) := by unfold Pl.place; exact if_pos (by omega)
        go_enter Try.func35, Try.ntmps35
        go_wp2
        go_ret
        exact ⟨ret_int HP.out.symm, rfl⟩
      · have HP : Hid (Pl.place len at_ = -1) := by unfold Pl.place; exact if_neg (by omega)
        go_enter Try.func35, Try.ntmps35
        go_wp2
        go_ret
        exact ⟨ret_int HP.out.symm, rfl⟩
    · have HP : Hid (Pl.place len at_ = -1) := by unfold Pl.place; exact if_neg (by omega)
      go_enter Try.func35, Try.ntmps35
      go_wp2
      go_ret
      exact ⟨ret_int HP.out.symm, rfl⟩
end Go.Proofs.Ytgopdicmmglakaa.W
