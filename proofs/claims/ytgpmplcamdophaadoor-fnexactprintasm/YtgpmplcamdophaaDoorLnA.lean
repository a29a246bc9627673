import Derived.Test.YtgpmplcamdophaaDoorBase
set_option linter.unusedVariables false
set_option linter.unusedSimpArgs false
namespace Go.Proofs.YtgpmplcamdophaaDoor.Pl
/-- a digit, a letter, a sign that may stand in a label -/
def dg (c : Int) : Bool := decide (48 ≤ c ∧ c ≤ 57)
def lt (c : Int) : Bool := decide (97 ≤ c ∧ c ≤ 122) || decide (65 ≤ c ∧ c ≤ 90)
def ch (c : Int) : Bool := dg c || lt c || c == 95 || c == 46 || c == 36
/-- a letter, a digit or '_' -/
def wch (c : Int) : Bool := dg c || lt c || c == 95
theorem ch_wch (c : Int) : ch c = (wch c || c == 46 || c == 36) := rfl
def byt (s : ByteArray) (i : Nat) : Int := ((s.data.toList.getD i 0).toNat : Int)
theorem byt_get (s : ByteArray) (i : Nat) (h : i < s.size) : ((s[i]'h).toNat : Int) = byt s i := by
  obtain ⟨⟨l⟩⟩ := s
  have hl : i < l.length := h
  unfold byt
  simp only [List.getD, List.getElem?_eq_getElem hl, Option.getD_some]
  rfl
/-- a label's name -/
def lab (s : ByteArray) : Bool := decide (1 ≤ s.size) && decide (s.size ≤ 48) && !dg (byt s 0) && (List.range s.size).all fun i => ch (byt s i)
theorem nil_iff (s : ByteArray) : s.toList = [] ↔ s.size = 0 := by
  rw [ByteArray.toList_eq]
  show s.data.toList = [] ↔ s.data.size = 0
  rw [← Array.length_toList]
  exact List.length_eq_zero_iff.symm
theorem lab_yes (s : ByteArray) (h1 : 0 < s.size) (h2 : s.size ≤ 48) (h3 : dg (byt s 0) = false) (h4 : ∀ j, j < s.size → ch (byt s j) = true) : lab s = true := by
  unfold lab
  simp only [Bool.and_eq_true, decide_eq_true_eq, List.all_eq_true, List.mem_range, Bool.not_eq_true', h3]
  exact ⟨⟨⟨by omega, h2⟩, trivial⟩, h4⟩
theorem lab_no (s : ByteArray) (k : Nat) (h1 : k < s.size) (h2 : ch (byt s k) = false) : lab s = false := by
  unfold lab
  rw [Bool.and_eq_false_iff]
  right
  rw [List.all_eq_false]
  exact ⟨k, List.mem_range.2 h1, by simp [h2]⟩
end Go.Proofs.YtgpmplcamdophaaDoor.Pl
namespace Go.Proofs.YtgpmplcamdophaaDoor.W
open Go.RowKit
theorem isDigit_any (c : Int) (w : World) : Calls Tryd.prog 71 #[.int .u8 c] w fun e w' => e = .returned (.bool (Pl.dg c)) ∧ w' = w := by
  go_enter Tryd.func71, Tryd.ntmps71
  go_wp2
  all_goals (go_ret; refine ⟨ret_bool ?_, rfl⟩; rw [Bool.eq_iff_iff]; simp [Pl.dg, Pl.lt, Pl.ch] <;> omega)
theorem l4Digit_any (c : Int) (w : World) : Calls Tryd.prog 53 #[.int .u8 c] w fun e w' => e = .returned (.bool (Pl.dg c)) ∧ w' = w := by
  go_enter Tryd.func53, Tryd.ntmps53
  go_wp2
  all_goals (go_ret; refine ⟨ret_bool ?_, rfl⟩; rw [Bool.eq_iff_iff]; simp [Pl.dg, Pl.lt, Pl.ch] <;> omega)
theorem l4Letter_any (c : Int) (w : World) : Calls Tryd.prog 54 #[.int .u8 c] w fun e w' => e = .returned (.bool (Pl.lt c)) ∧ w' = w := by
  go_enter Tryd.func54, Tryd.ntmps54
  go_wp2
  all_goals (go_ret; refine ⟨ret_bool ?_, rfl⟩; rw [Bool.eq_iff_iff]; simp [Pl.dg, Pl.lt, Pl.ch] <;> omega)
set_option maxHeartbeats 1000000 in
theorem inWord_any (c : Int) (w : World) : Calls Tryd.prog 81 #[.int .u8 c] w fun e w' => e = .returned (.bool (Pl.wch c)) ∧ w' = w := by
  cases hd : Pl.dg c
  · have hn : ¬ (48 ≤ c ∧ c ≤ 57) := by simpa [Pl.dg] using hd
    go_enter Tryd.func81, Tryd.ntmps81
    go_wp2_with (go_at_call 71; refine (isDigit_any _ _).mono ?_; rintro e u1 ⟨rfl, rfl⟩; rw [hd])
    all_goals (go_ret; refine ⟨ret_bool ?_, rfl⟩; rw [Bool.eq_iff_iff]; simp [Pl.dg, Pl.lt, Pl.wch] <;> omega)
  · have hn : 48 ≤ c ∧ c ≤ 57 := by simpa [Pl.dg] using hd
    go_enter Tryd.func81, Tryd.ntmps81
    go_wp2_with (go_at_call 71; refine (isDigit_any _ _).mono ?_; rintro e u1 ⟨rfl, rfl⟩; rw [hd])
    all_goals (go_ret; refine ⟨ret_bool ?_, rfl⟩; rw [Bool.eq_iff_iff]; simp [Pl.dg, Pl.lt, Pl.wch] <;> omega)
set_option maxHeartbeats 1000000 in
theorem inLabel_any (c : Int) (w : World) : Calls Tryd.prog 72 #[.int .u8 c] w fun e w' => e = .returned (.bool (Pl.ch c)) ∧ w' = w := by
  cases hd : Pl.wch c
  · go_enter Tryd.func72, Tryd.ntmps72
    go_wp2_with (go_at_call 81; refine (inWord_any _ _).mono ?_; rintro e u1 ⟨rfl, rfl⟩; rw [hd])
    all_goals (go_ret; refine ⟨ret_bool ?_, rfl⟩; rw [Pl.ch_wch, hd, Bool.eq_iff_iff]; simp <;> omega)
  · go_enter Tryd.func72, Tryd.ntmps72
    go_wp2_with (go_at_call 81; refine (inWord_any _ _).mono ?_; rintro e u1 ⟨rfl, rfl⟩; rw [hd])
    all_goals (go_ret; refine ⟨ret_bool ?_, rfl⟩; rw [Pl.ch_wch, hd, Bool.eq_iff_iff]; simp)
theorem l4Far_any (n : Int) (w : World) : Calls Tryd.prog 33 #[.int .i64 n] w fun e w' => e = .returned (.bool (decide (-2147483648 ≤ n ∧ n ≤ 2147483647))) ∧ w' = w := by
  go_enter Tryd.func33, Tryd.ntmps33
  go_wp2
  all_goals (go_ret; refine ⟨ret_bool ?_, rfl⟩; rw [Bool.eq_iff_iff]; simp <;> omega)
theorem l3WordOk_at (n : Int) (w : World) : Calls Tryd.prog 32 #[.int .i64 n] w fun e w' => e = .returned (.bool (decide (0 ≤ n ∧ n ≤ 4294967295))) ∧ w' = w := by
  go_enter Tryd.func32, Tryd.ntmps32
  go_wp2
  all_goals (go_ret; refine ⟨ret_bool ?_, rfl⟩; rw [Bool.eq_iff_iff]; simp <;> omega)
set_option maxHeartbeats 2000000 in
theorem labelOk_any (s : ByteArray) (w : World) : Calls Tryd.prog 57 #[.string s] w fun e w' => e = .returned (.bool (Pl.lab s)) ∧ w' = w := by
  by_cases he : s.size = 0
  · have hl : Pl.lab s = false := by simp [Pl.lab, he]
    rw [hl]
    have hn := (Pl.nil_iff s).2 he
    have hz : (s.size : Int) < 1 := by omega
    clear hl
    go_enter Tryd.func57, Tryd.ntmps57
    go_wp2
    go_ret
    exact ⟨rfl, rfl⟩
  have hpos : 0 < s.size := by omega
  have hn : ¬ s.toList = [] := fun h => he ((Pl.nil_iff s).1 h)
  have hge : ¬ ((s.size : Int) < 1) := by omega
  by_cases hb : 48 < s.size
  · have hl : Pl.lab s = false := by simp [Pl.lab]; omega
    rw [hl]
    have hz : (48 : Int) < (s.size : Int) := by omega
    clear hl he
    go_enter Tryd.func57, Tryd.ntmps57
    go_wp2
    go_ret
    exact ⟨rfl, rfl⟩
  have h48 : (s.size : Int) ≤ 48 := by omega
  have hie : s.toList.isEmpty = false := by simpa using hn
  have hd48 : decide ((48 : Int) < (s.size : Int)) = false := by simpa using h48
  clear hn
  cases hd : Pl.dg (Pl.byt s 0)
  rotate_left
  · have hl : Pl.lab s = false := by simp [Pl.lab, hd]
    rw [hl]
    clear hl he
    go_enter Tryd.func57, Tryd.ntmps57
    go_wp2_with (go_at_call 71; refine (isDigit_any _ _).mono ?_; rintro e u1 ⟨rfl, rfl⟩; rw [Pl.byt_get s 0 hpos, hd])
    go_ret
    exact ⟨rfl, rfl⟩
  go_enter Tryd.func57, Tryd.ntmps57
  go_wp2_with (go_at_call 71; refine (isDigit_any _ _).mono ?_; rintro e u1 ⟨rfl, rfl⟩; rw [Pl.byt_get s 0 hpos, hd])
  clear he hb hie hd48
  go_loop [3, 18] (fun i x => ∃ k : Nat, k ≤ s.size ∧ x = .int .i64 k ∧ ∀ j, j < k → Pl.ch (Pl.byt s j) = true) (fun i x => s.size - (intOf x).toNat)
  case atStart => exact ⟨0, Nat.zero_le _, rfl, fun j hj => absurd hj (Nat.not_lt_zero j)⟩
  case round =>
    obtain ⟨k, hk, rfl, hall⟩ := hrel
    have HA : Hid (∀ j, j < k → Pl.ch (Pl.byt s j) = true) := hall
    clear hall
    by_cases hlt : k < s.size
    · have hi : (k : Int) < (s.size : Int) := by omega
      cases hc : Pl.ch (Pl.byt s k)
      · have HL : Hid (Pl.lab s = false) := Pl.lab_no s k hlt hc
        go_wp2_with (go_at_call 72; refine (inLabel_any _ _).mono ?_; rintro e u1 ⟨rfl, rfl⟩; rw [Pl.byt_get s k hlt, hc])
        go_ret
        exact ⟨ret_bool HL.out.symm, rfl⟩
      · go_wp2_with (go_at_call 72; refine (inLabel_any _ _).mono ?_; rintro e u1 ⟨rfl, rfl⟩; rw [Pl.byt_get s k hlt, hc])
        go_round
        case rel => exact ⟨k + 1, by omega, by go_num, fun j hj => by
          by_cases e : j = k
          · rw [e]; exact hc
          · exact HA.out j (by omega)⟩
        case measure => simp [intOf]; omega
    · have hkk : k = s.size := by omega
      have HL : Hid (Pl.lab s = true) := Pl.lab_yes s hpos (by omega) hd (by rw [← hkk]; exact HA.out)
      clear HA
      have hi : ¬ ((k : Int) < (s.size : Int)) := by omega
      go_wp2
      go_ret
      exact ⟨ret_bool HL.out.symm, rfl⟩
set_option maxHeartbeats 2000000 in
theorem l4NameOk_any (s : ByteArray) (w : World) : Calls Tryd.prog 31 #[.string s] w fun e w' => e = .returned (.bool (Pl.lab s)) ∧ w' = w := by
  by_cases he : s.size = 0
  · have hl : Pl.lab s = false := by simp [Pl.lab, he]
    rw [hl]
    have hn := (Pl.nil_iff s).2 he
    have hz : (s.size : Int) < 1 := by omega
    clear hl
    go_enter Tryd.func31, Tryd.ntmps31
    go_wp2
    go_ret
    exact ⟨rfl, rfl⟩
  have hpos : 0 < s.size := by omega
  have hn : ¬ s.toList = [] := fun h => he ((Pl.nil_iff s).1 h)
  have hge : ¬ ((s.size : Int) < 1) := by omega
  by_cases hb : 48 < s.size
  · have hl : Pl.lab s = false := by simp [Pl.lab]; omega
    rw [hl]
    have hz : (48 : Int) < (s.size : Int) := by omega
    clear hl he
    go_enter Tryd.func31, Tryd.ntmps31
    go_wp2
    go_ret
    exact ⟨rfl, rfl⟩
  have h48 : (s.size : Int) ≤ 48 := by omega
  have hie : s.toList.isEmpty = false := by simpa using hn
  have hd48 : decide ((48 : Int) < (s.size : Int)) = false := by simpa using h48
  clear hn
  cases hd : Pl.dg (Pl.byt s 0)
  rotate_left
  · have hl : Pl.lab s = false := by simp [Pl.lab, hd]
    rw [hl]
    clear hl he
    go_enter Tryd.func31, Tryd.ntmps31
    go_wp2_with (go_at_call 53; refine (l4Digit_any _ _).mono ?_; rintro e u1 ⟨rfl, rfl⟩; rw [Pl.byt_get s 0 hpos, hd])
    go_ret
    exact ⟨rfl, rfl⟩
  go_enter Tryd.func31, Tryd.ntmps31
  go_wp2_with (go_at_call 53; refine (l4Digit_any _ _).mono ?_; rintro e u1 ⟨rfl, rfl⟩; rw [Pl.byt_get s 0 hpos, hd])
  clear he hb hie hd48
  go_loop [3, 4] (fun x i => ∃ k : Nat, k ≤ s.size ∧ x = .int .i64 k ∧ ∀ j, j < k → Pl.ch (Pl.byt s j) = true) (fun x i => s.size - (intOf x).toNat)
  case atStart => exact ⟨0, Nat.zero_le _, rfl, fun j hj => absurd hj (Nat.not_lt_zero j)⟩
  case round =>
    obtain ⟨k, hk, rfl, hall⟩ := hrel
    have HA : Hid (∀ j, j < k → Pl.ch (Pl.byt s j) = true) := hall
    clear hall
    by_cases hlt : k < s.size
    · have hi : (k : Int) < (s.size : Int) := by omega
      cases hl1 : Pl.lt (Pl.byt s k) <;> cases hl2 : Pl.dg (Pl.byt s k)
      · go_wp2_with (first | (go_at_call 54; refine (l4Letter_any _ _).mono ?_; rintro e u1 ⟨rfl, rfl⟩; rw [Pl.byt_get s k hlt, hl1]) | (go_at_call 53; refine (l4Digit_any _ _).mono ?_; rintro e u2 ⟨rfl, rfl⟩; (try rw [Pl.byt_get s k hlt]); rw [hl2]))
        all_goals first
          | (go_ret; exact ⟨ret_bool (Pl.lab_no s k hlt (by simp_all [Pl.ch])).symm, rfl⟩)
          | (go_round
             case rel => exact ⟨k + 1, by omega, by go_num, fun j hj => by
               by_cases e : j = k
               · rw [e]; simp_all [Pl.ch]
               · exact HA.out j (by omega)⟩
             case measure => simp [intOf]; omega)
      all_goals
        go_wp2_with (first | (go_at_call 54; refine (l4Letter_any _ _).mono ?_; rintro e u1 ⟨rfl, rfl⟩; rw [Pl.byt_get s k hlt, hl1]) | (go_at_call 53; refine (l4Digit_any _ _).mono ?_; rintro e u2 ⟨rfl, rfl⟩; (try rw [Pl.byt_get s k hlt]); rw [hl2]))
        go_round
        case rel => exact ⟨k + 1, by omega, by go_num, fun j hj => by
          by_cases e : j = k
          · rw [e]; simp [Pl.ch, hl1, hl2]
          · exact HA.out j (by omega)⟩
        case measure => simp [intOf]; omega
    · have hkk : k = s.size := by omega
      have HL : Hid (Pl.lab s = true) := Pl.lab_yes s hpos (by omega) hd (by rw [← hkk]; exact HA.out)
      clear HA
      have hi : ¬ ((k : Int) < (s.size : Int)) := by omega
      go_wp2
      go_ret
      exact ⟨ret_bool HL.out.symm, rfl⟩
end Go.Proofs.YtgpmplcamdophaaDoor.W
