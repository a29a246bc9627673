import Derived.Test.YtdplfflkmphpbaaGreatDoorT06
set_option linter.unusedVariables false
set_option linter.unusedSimpArgs false
namespace Go.Proofs.YtdplfflkmphpbaaGreatDoor.Pl
def ov (s : ByteArray) (i : Nat) : Nat → Int
  | 0 => 0
  | n + 1 => ov s i n * 8 + oc s (i + n)
def hv (s : ByteArray) (i : Nat) : Nat → Int
  | 0 => 0
  | n + 1 => hv s i n * 16 + hc s (i + 1 + n)
theorem oc_hi (s : ByteArray) (j : Nat) : oc s j ≤ 7 := by unfold oc; split <;> omega
theorem hc_hi (s : ByteArray) (j : Nat) : hc s j ≤ 15 := by unfold hc; split; exact hx_hi _; decide
theorem esc_ov {s : ByteArray} {i n : Nat} (hi : i < s.size) (h10 : byt s i ≠ 10) (h120 : byt s i ≠ 120) (hn : n ≤ 3) (hd : ∀ j, j < n → 0 ≤ oc s (i + j)) (he : n = 3 ∨ oc s (i + n) < 0) (h0 : 0 < n) :
    (255 < ov s i n ∧ escF s i = .error 5) ∨ (¬ 255 < ov s i n ∧ escF s i = .ok (ov s i n, n)) := by
  have e0 : escF s i = (if 0 ≤ oc s i then
    (if oc s (i + 1) < 0 then .ok (oc s i, 1) else if oc s (i + 2) < 0 then .ok (oc s i * 8 + oc s (i + 1), 2)
     else if 255 < (oc s i * 8 + oc s (i + 1)) * 8 + oc s (i + 2) then .error 5 else .ok ((oc s i * 8 + oc s (i + 1)) * 8 + oc s (i + 2), 3)) else if plainE (byt s i) < 0 then .error 5 else .ok (plainE (byt s i), 1)) := by
    unfold escF
    rw [if_neg (by rintro (e | e); omega; exact h10 e), if_neg h120]
  have d0 := hd 0 h0
  have x0 := oc_hi s i
  have x1 := oc_hi s (i + 1)
  rw [Nat.add_zero] at d0
  have : n = 1 ∨ n = 2 ∨ n = 3 := by omega
  rcases this with rfl | rfl | rfl
  · right
    have e1 : oc s (i + 1) < 0 := by rcases he with e | e; omega; exact e
    have hv : ov s i 1 = oc s i := by simp [ov]
    rw [hv, e0, if_pos d0, if_pos e1]
    exact ⟨by omega, rfl⟩
  · right
    have d1 := hd 1 (by omega)
    have e1 : oc s (i + 2) < 0 := by rcases he with e | e; omega; exact e
    have hv : ov s i 2 = oc s i * 8 + oc s (i + 1) := by simp [ov]
    rw [hv, e0, if_pos d0, if_neg (by omega), if_pos e1]
    exact ⟨by omega, rfl⟩
  · have d1 := hd 1 (by omega)
    have d2 := hd 2 (by omega)
    have hv : ov s i 3 = (oc s i * 8 + oc s (i + 1)) * 8 + oc s (i + 2) := by simp [ov]
    rw [hv, e0, if_pos d0, if_neg (by omega), if_neg (by omega)]
    by_cases hg : 255 < (oc s i * 8 + oc s (i + 1)) * 8 + oc s (i + 2)
    · left; rw [if_pos hg]; exact ⟨hg, rfl⟩
    · right; rw [if_neg hg]; exact ⟨hg, rfl⟩
theorem esc_pl {s : ByteArray} {i : Nat} (hi : i < s.size) (h10 : byt s i ≠ 10) (h120 : byt s i ≠ 120) (h0 : oc s i < 0) :
    (plainE (byt s i) < 0 ∧ escF s i = .error 5) ∨ (0 ≤ plainE (byt s i) ∧ escF s i = .ok (plainE (byt s i), 1)) := by
  have e0 : escF s i = (if plainE (byt s i) < 0 then .error 5 else .ok (plainE (byt s i), 1)) := by
    unfold escF
    rw [if_neg (by rintro (e | e); omega; exact h10 e), if_neg h120, if_neg (by omega)]
  rw [e0]
  by_cases hp : plainE (byt s i) < 0
  · left; rw [if_pos hp]; exact ⟨hp, rfl⟩
  · right; rw [if_neg hp]; exact ⟨by omega, rfl⟩
theorem esc_hv {s : ByteArray} {i n : Nat} (hi : i < s.size) (h120 : byt s i = 120) (hn : n ≤ 2) (hd : ∀ j, j < n → 0 ≤ hc s (i + 1 + j)) (he : n = 2 ∨ hc s (i + 1 + n) < 0) :
    (n = 0 ∧ escF s i = .error 5) ∨ (0 < n ∧ escF s i = .ok (hv s i n, 1 + n)) := by
  have e0 : escF s i = (if hc s (i + 1) < 0 then .error 5 else if hc s (i + 2) < 0 then .ok (hc s (i + 1), 2) else .ok (hc s (i + 1) * 16 + hc s (i + 2), 3)) := by
    unfold escF
    rw [if_neg (by rintro (e | e); omega; rw [h120] at e; exact absurd e (by decide)), if_pos h120]
  have : n = 0 ∨ n = 1 ∨ n = 2 := by omega
  rcases this with rfl | rfl | rfl
  · left
    have e1 : hc s (i + 1) < 0 := by rcases he with e | e; omega; exact e
    rw [e0, if_pos e1]
    exact ⟨rfl, rfl⟩
  · right
    have d0 : 0 ≤ hc s (i + 1) := hd 0 (by omega)
    have e1 : hc s (i + 2) < 0 := by rcases he with e | e; omega; exact e
    have hv : hv s i 1 = hc s (i + 1) := by simp [hv]
    rw [hv, e0, if_neg (by omega), if_pos e1]
    exact ⟨by omega, rfl⟩
  · right
    have d0 : 0 ≤ hc s (i + 1) := hd 0 (by omega)
    have d1 : 0 ≤ hc s (i + 2) := hd 1 (by omega)
    have hv : hv s i 2 = hc s (i + 1) * 16 + hc s (i + 2) := by simp [hv]
    rw [hv, e0, if_neg (by omega), if_neg (by omega)]
    exact ⟨by omega, rfl⟩
theorem ov_b (s : ByteArray) (i n : Nat) (hn : n ≤ 3) (hd : ∀ j, j < n → 0 ≤ oc s (i + j)) : 0 ≤ ov s i n ∧ ov s i n ≤ 511 := by
  have x0 := oc_hi s i
  have x1 := oc_hi s (i + 1)
  have x2 := oc_hi s (i + 2)
  have : n = 0 ∨ n = 1 ∨ n = 2 ∨ n = 3 := by omega
  rcases this with rfl | rfl | rfl | rfl
  · simp [ov]
  · have := hd 0 (by omega); simp [ov] at *; omega
  · have := hd 0 (by omega); have := hd 1 (by omega); simp [ov] at *; omega
  · have := hd 0 (by omega); have := hd 1 (by omega); have := hd 2 (by omega); simp [ov] at *; omega
theorem hv_b (s : ByteArray) (i n : Nat) (hn : n ≤ 2) (hd : ∀ j, j < n → 0 ≤ hc s (i + 1 + j)) : 0 ≤ hv s i n ∧ hv s i n ≤ 255 := by
  have x1 := hc_hi s (i + 1)
  have x2 := hc_hi s (i + 1 + 1)
  have : n = 0 ∨ n = 1 ∨ n = 2 := by omega
  rcases this with rfl | rfl | rfl
  · simp [hv]
  · have := hd 0 (by omega); simp [hv] at *; omega
  · have := hd 0 (by omega); have := hd 1 (by omega); simp [hv] at *; omega
end Go.Proofs.YtdplfflkmphpbaaGreatDoor.Pl
namespace Go.Proofs.YtdplfflkmphpbaaGreatDoor.W
open Go.RowKit
def EscS (s : ByteArray) (i : Nat) (e : Ending) : Prop := (∃ (v : Int) (n : Nat), Pl.escF s i = .ok (v, n) ∧ e = .returned (.tuple #[.int .i64 v, .int .i64 ((i + n : Nat) : Int)])) ∨ (∃ q : Int, Pl.escF s i = .error 5 ∧ e = .returned (.tuple #[.int .i64 (-1), .int .i64 q]))
theorem escs_ok {s : ByteArray} {i n : Nat} {v v' q : Int} (h : Pl.escF s i = .ok (v, n)) (hv : v' = v) (hq : q = ((i + n : Nat) : Int)) : EscS s i (.returned (.tuple #[.int .i64 v', .int .i64 q])) := .inl ⟨v, n, h, by rw [hv, hq]⟩
theorem escs_no {s : ByteArray} {i : Nat} {q v : Int} (h : Pl.escF s i = .error 5) (hv : v = -1) : EscS s i (.returned (.tuple #[.int .i64 v, .int .i64 q])) := .inr ⟨q, h, by rw [hv]⟩
set_option maxHeartbeats 4000000 in
set_option maxRecDepth 100000 in
theorem l5Escape_is (s : ByteArray) (hs : s.size ≤ 1048576) (i : Nat) (hi : i < s.size) (h10 : Pl.byt s i ≠ 10) (w : World) : Calls Tryz.prog 56 #[.string s, .int .i64 i] w fun e w' => EscS s i e ∧ Below w.heap.size w w' := by
  have hii : (i : Int) < (s.size : Int) := by omega
  have hdec : decide (s.size ≤ i) = false := by simp; omega
  have hgi := Pl.byt_get s i hi
  obtain ⟨c, hc⟩ : ∃ c, c = Pl.byt s i := ⟨_, rfl⟩
  rw [← hc] at hgi
  have HC : Hid (c = Pl.byt s i) := hc
  have H10 : Hid (Pl.byt s i ≠ 10) := h10
  clear hc h10
  by_cases hx : c = 120
  · have e1 : (c == 120) = true := by simp [hx]
    have HX : Hid (Pl.byt s i = 120) := by rw [← HC.out]; exact hx
    clear hx
    go_enter Tryz.func56, Tryz.ntmps56
    go_wp2_with fail
    go_loop [6, 7] (fun v x => ∃ n : Nat, n ≤ 2 ∧ x = .int .i64 n ∧ v = .int .i64 (Pl.hv s i n) ∧ ∀ j, j < n → 0 ≤ Pl.hc s (i + 1 + j)) (fun v x => 2 - (intOf x).toNat)
    case atStart => exact ⟨0, by omega, rfl, rfl, fun j hj => absurd hj (Nat.not_lt_zero _)⟩
    case round =>
      obtain ⟨n, hn, rfl, rfl, hd⟩ := hrel
      have HD : Hid (∀ j, j < n → 0 ≤ Pl.hc s (i + 1 + j)) := hd
      obtain ⟨q0, q1⟩ := Pl.hv_b s i n hn hd
      obtain ⟨q, hq⟩ : ∃ q, q = Pl.hv s i n := ⟨_, rfl⟩
      rw [← hq] at q0 q1 ⊢
      have HQ : Hid (q = Pl.hv s i n) := hq
      clear hd hq
      have HE : Hid ((n = 2 ∨ Pl.hc s (i + 1 + n) < 0) → (n = 0 ∧ Pl.escF s i = .error 5) ∨ (0 < n ∧ Pl.escF s i = .ok (q, 1 + n))) := fun h => by
        have := Pl.esc_hv hi HX.out hn HD.out h
        rw [← HQ.out] at this
        exact this
      by_cases hn2 : n < 2
      · have hn2' : (n : Int) < 2 := by omega
        by_cases hin : i + 1 + n < s.size
        · have hin' : (i : Int) + 1 + n < s.size := by omega
          have hgn := Pl.byt_get s (i + 1 + n) hin
          have c0 := Pl.byt_lo s (i + 1 + n)
          have c1 := Pl.byt_hi s (i + 1 + n)
          have hcx : Pl.hc s (i + 1 + n) = Pl.hx (Pl.byt s (i + 1 + n)) := by unfold Pl.hc; rw [if_pos hin]
          have k0 := Pl.hx_lo (Pl.byt s (i + 1 + n))
          have k1 := Pl.hx_hi (Pl.byt s (i + 1 + n))
          obtain ⟨b, hb⟩ : ∃ b, b = Pl.byt s (i + 1 + n) := ⟨_, rfl⟩
          rw [← hb] at hgn c0 c1 hcx k0 k1
          obtain ⟨d, hd⟩ : ∃ d, d = Pl.hx b := ⟨_, rfl⟩
          have HH : Hid (∀ u, Calls Tryz.prog 55 #[.int .u8 b] u fun e w' => e = .returned (.int .i64 d) ∧ w' = u) := fun u => by rw [hd]; exact l4Hex_any b c0 c1 u
          rw [← hd] at hcx k0 k1
          have HCX : Hid (Pl.hc s (i + 1 + n) = d) := hcx
          clear hb hd hcx
          by_cases hdn : d < 0
          · have HE2 : Hid _ := HE.out (.inr (by rw [HCX.out]; exact hdn))
            have edn : decide (0 ≤ d) = false := by simp; omega
            rcases HE2.out with ⟨a, hb⟩ | ⟨a, hb⟩
            · subst a
              have HBB : Hid _ := hb
              clear hb HE HE2
              go_wp2_with (go_at_call 55; refine (HH.out _).mono ?_; rintro e u1 ⟨rfl, rfl⟩)
              go_ret2
              exact ⟨escs_no HBB.out rfl, Below.refl _ _⟩
            · have an : ((n : Int) == 0) = false := by simp; omega
              have HBB : Hid _ := hb
              clear hb HE HE2
              go_wp2_with (go_at_call 55; refine (HH.out _).mono ?_; rintro e u1 ⟨rfl, rfl⟩)
              go_ret2
              exact ⟨escs_ok HBB.out rfl (by omega), Below.refl _ _⟩
          · have hdp : 0 ≤ d := by omega
            clear HE
            go_wp2_with (go_at_call 55; refine (HH.out _).mono ?_; rintro e u1 ⟨rfl, rfl⟩)
            go_round
            case rel => exact ⟨n + 1, by omega, by go_num, by show _ = Value.int .i64 (Pl.hv s i n * 16 + Pl.hc s (i + 1 + n)); rw [← HQ.out, HCX.out], fun j hj => by
              by_cases e : j = n
              · rw [e, HCX.out]; exact hdp
              · exact HD.out j (by omega)⟩
            case measure => simp [intOf]; omega
        · have hin' : ¬ ((i : Int) + 1 + n < s.size) := by omega
          have HE2 : Hid _ := HE.out (.inr (by unfold Pl.hc; rw [if_neg hin]; decide))
          rcases HE2.out with ⟨a, hb⟩ | ⟨a, hb⟩
          · subst a
            have HBB : Hid _ := hb
            clear hb HE HE2
            go_wp2_with fail
            go_ret2
            exact ⟨escs_no HBB.out rfl, Below.refl _ _⟩
          · have an : ((n : Int) == 0) = false := by simp; omega
            have HBB : Hid _ := hb
            clear hb HE HE2
            go_wp2_with fail
            go_ret2
            exact ⟨escs_ok HBB.out rfl (by omega), Below.refl _ _⟩
      · have hn2' : n = 2 := by omega
        subst hn2'
        have HE2 : Hid _ := HE.out (.inl rfl)
        go_wp2_with fail
        go_ret2
        rcases HE2.out with ⟨a, b⟩ | ⟨a, b⟩
        · exfalso; omega
        · exact ⟨escs_ok b rfl (by omega), Below.refl _ _⟩
  · have e1 : (c == 120) = false := by simp [hx]
    have HX : Hid (Pl.byt s i ≠ 120) := by rw [← HC.out]; exact hx
    clear hx
    go_enter Tryz.func56, Tryz.ntmps56
    go_wp2_with fail
    go_loop [8, 9] (fun v x => ∃ n : Nat, n ≤ 3 ∧ x = .int .i64 n ∧ v = .int .i64 (Pl.ov s i n) ∧ ∀ j, j < n → 0 ≤ Pl.oc s (i + j)) (fun v x => 3 - (intOf x).toNat)
    case atStart => exact ⟨0, by omega, rfl, rfl, fun j hj => absurd hj (Nat.not_lt_zero _)⟩
    case round =>
      obtain ⟨n, hn, rfl, rfl, hd⟩ := hrel
      have HD : Hid (∀ j, j < n → 0 ≤ Pl.oc s (i + j)) := hd
      obtain ⟨q0, q1⟩ := Pl.ov_b s i n hn hd
      obtain ⟨q, hq⟩ : ∃ q, q = Pl.ov s i n := ⟨_, rfl⟩
      rw [← hq] at q0 q1 ⊢
      have HQ : Hid (q = Pl.ov s i n) := hq
      clear hd hq
      have HE : Hid ((n = 3 ∨ Pl.oc s (i + n) < 0) → 0 < n → (255 < q ∧ Pl.escF s i = .error 5) ∨ (¬ 255 < q ∧ Pl.escF s i = .ok (q, n))) := fun h h0 => by
        have := Pl.esc_ov hi H10.out HX.out hn HD.out h h0
        rw [← HQ.out] at this
        exact this
      have HP : Hid (n = 0 → Pl.oc s (i + n) < 0 → (Pl.plainE c < 0 ∧ Pl.escF s i = .error 5) ∨ (0 ≤ Pl.plainE c ∧ Pl.escF s i = .ok (Pl.plainE c, 1))) := fun h h0 => by
        rw [h] at h0
        have := Pl.esc_pl hi H10.out HX.out h0
        rw [← HC.out] at this
        exact this
      have HPM : Hid (Pl.plainE c < 0 → Pl.plainE c = -1) := fun h => by unfold Pl.plainE at *; revert h; (repeat' split) <;> omega
      have HPC : Hid (∀ u, Calls Tryz.prog 66 #[.int .u8 c] u fun e w' => e = .returned (.int .i64 (Pl.plainE c)) ∧ Below u.heap.size u w') := fun u => l5Plain_any c u
      by_cases hn3 : n < 3
      · have hn3' : (n : Int) < 3 := by omega
        by_cases hin : i + n < s.size ∧ 48 ≤ Pl.byt s (i + n) ∧ Pl.byt s (i + n) ≤ 55
        · obtain ⟨hin1, o0, o1⟩ := hin
          have hin' : (i : Int) + n < s.size := by omega
          have hgn := Pl.byt_get s (i + n) hin1
          have hcx : Pl.oc s (i + n) = Pl.byt s (i + n) - 48 := by unfold Pl.oc; rw [if_pos ⟨hin1, o0, o1⟩]
          obtain ⟨b, hb⟩ : ∃ b, b = Pl.byt s (i + n) := ⟨_, rfl⟩
          rw [← hb] at hgn o0 o1 hcx
          have HCX : Hid (Pl.oc s (i + n) = b - 48) := hcx
          clear hb hcx HE HP
          go_wp2_with fail
          go_round
          case rel => exact ⟨n + 1, by omega, by go_num, by show _ = Value.int .i64 (Pl.ov s i n * 8 + Pl.oc s (i + n)); rw [← HQ.out, HCX.out], fun j hj => by
            by_cases e : j = n
            · rw [e, HCX.out]; omega
            · exact HD.out j (by omega)⟩
          case measure => simp [intOf]; omega
        · have HN : Hid (Pl.oc s (i + n) < 0) := by show _ < _; unfold Pl.oc; rw [if_neg hin]; decide
          have HO : Hid ((¬ (i + n < s.size)) ∨ (i + n < s.size ∧ (Pl.byt s (i + n) < 48 ∨ 55 < Pl.byt s (i + n)))) := by show _ ∨ _; omega
          rcases Nat.eq_zero_or_pos n with hz | hz
          · subst hz
            have hp0 : ¬ (48 ≤ c ∧ c ≤ 55) := fun h => hin ⟨by omega, by rw [Nat.add_zero, ← HC.out]; exact h⟩
            have eo : (decide (48 ≤ c) && decide (c ≤ 55)) = false := by simp; omega
            clear hin HE hn3 hn
            rcases HP.out rfl HN.out with ⟨a, hb⟩ | ⟨a, hb⟩
            · have HBB : Hid _ := hb
              have HPV : Hid (Pl.plainE c = -1) := HPM.out a
              clear hb HP HPM a
              by_cases ho : 48 ≤ c
              · have ho2 : ¬ c ≤ 55 := by omega
                go_wp2_with (go_at_call 66; refine (HPC.out _).mono ?_; rintro e u1 ⟨rfl, g1⟩)
                go_ret2
                exact ⟨escs_no HBB.out HPV.out, g1⟩
              · go_wp2_with (go_at_call 66; refine (HPC.out _).mono ?_; rintro e u1 ⟨rfl, g1⟩)
                go_ret2
                exact ⟨escs_no HBB.out HPV.out, g1⟩
            · have HBB : Hid _ := hb
              clear hb HP HPM a
              by_cases ho : 48 ≤ c
              · have ho2 : ¬ c ≤ 55 := by omega
                go_wp2_with (go_at_call 66; refine (HPC.out _).mono ?_; rintro e u1 ⟨rfl, g1⟩)
                go_ret2
                exact ⟨escs_ok HBB.out rfl (by omega), g1⟩
              · go_wp2_with (go_at_call 66; refine (HPC.out _).mono ?_; rintro e u1 ⟨rfl, g1⟩)
                go_ret2
                exact ⟨escs_ok HBB.out rfl (by omega), g1⟩
          · have hzp : (0 : Int) < n := by omega
            clear hin
            rcases HE.out (.inr HN.out) hz with ⟨a, hb⟩ | ⟨a, hb⟩
            all_goals
              have HBB : Hid _ := hb
              clear hb HE HP HPM HPC
              rcases HO.out with ho | ⟨ho, ho2⟩
              · have ho' : ¬ ((i : Int) + n < s.size) := by omega
                clear ho
                go_wp2_with fail
                go_ret2
                first | exact ⟨escs_no HBB.out rfl, Below.refl _ _⟩ | exact ⟨escs_ok HBB.out rfl (by omega), Below.refl _ _⟩
              · have ho' : (i : Int) + n < s.size := by omega
                have hgn := Pl.byt_get s (i + n) ho
                obtain ⟨b, hb⟩ : ∃ b, b = Pl.byt s (i + n) := ⟨_, rfl⟩
                rw [← hb] at hgn ho2
                clear hb
                by_cases hb1 : 48 ≤ b
                · have hb2 : ¬ b ≤ 55 := by omega
                  clear ho2
                  go_wp2_with fail
                  go_ret2
                  first | exact ⟨escs_no HBB.out rfl, Below.refl _ _⟩ | exact ⟨escs_ok HBB.out rfl (by omega), Below.refl _ _⟩
                · clear ho2
                  go_wp2_with fail
                  go_ret2
                  first | exact ⟨escs_no HBB.out rfl, Below.refl _ _⟩ | exact ⟨escs_ok HBB.out rfl (by omega), Below.refl _ _⟩
      · have hn3' : n = 3 := by omega
        subst hn3'
        rcases HE.out (.inl rfl) (by omega) with ⟨a, hb⟩ | ⟨a, hb⟩
        · have HBB : Hid _ := hb
          clear hb HE HP
          go_wp2_with fail
          go_ret2
          exact ⟨escs_no HBB.out rfl, Below.refl _ _⟩
        · have HBB : Hid _ := hb
          clear hb HE HP
          go_wp2_with fail
          go_ret2
          exact ⟨escs_ok HBB.out rfl (by omega), Below.refl _ _⟩
end Go.Proofs.YtdplfflkmphpbaaGreatDoor.W
namespace Go.Proofs.YtdplfflkmphpbaaGreatDoor.Pl
theorem escF_4 {s : ByteArray} {i : Nat} (h : s.size ≤ i ∨ byt s i = 10) : escF s i = .error 4 := by
  unfold escF
  rw [if_pos h]
end Go.Proofs.YtdplfflkmphpbaaGreatDoor.Pl
namespace Go.Proofs.YtdplfflkmphpbaaGreatDoor.W
open Go.RowKit
def QuoS (base : Nat) (r : Except Int (List UInt8 × Nat)) (e : Ending) (w : World) : Prop := match r with
  | .ok (bs, n) => ∃ v, e = .returned (.tuple #[v, .int .i64 n, .int .i64 0]) ∧ w.ownsRow base 5 1 v bs.length (Pl.cl bs) ∧ bs.length ≤ 1048576
  | .error f => ∃ v q bs, e = .returned (.tuple #[v, .int .i64 q, .int .i64 f]) ∧ w.ownsRow base 5 1 v bs.length (Pl.cl bs) ∧ bs.length ≤ 1048576 ∧ f ≠ 0
set_option maxHeartbeats 4000000 in
set_option maxRecDepth 100000 in
theorem l5Quoted_is (s : ByteArray) (hs : s.size ≤ 1048576) (i : Nat) (hil : i < s.size) (hm : Pl.byt s i = 34 ∨ Pl.byt s i = 39) (w : World) : Calls Tryz.prog 45 #[.string s, .int .i64 i] w fun e w' => (∃ r, Pl.Quo s (Pl.byt s i) (i + 1) [] r ∧ QuoS w.heap.size r e w') ∧ Below w.heap.size w w' := by
  obtain ⟨i0, hi, hz0, hz1, hz2⟩ := info_parts qinfou8
  have hg0 := Pl.byt_get s i hil
  obtain ⟨m, hmm⟩ : ∃ m, m = Pl.byt s i := ⟨_, rfl⟩
  rw [← hmm] at hg0 hm ⊢
  have HM : Hid (m = 34 ∨ m = 39) := hm
  clear hmm hm
  have hii : (i : Int) < (s.size : Int) := by omega
  have H0 : Hid ((w.alloc (.cells #[] 5)).ownsRow w.heap.size 5 1 (.slice (some ⟨w.heap.size, 0, none⟩) 0 0) 0 (Pl.cl [])) := World.ownsRow_lit w #[] 0 (Nat.le_refl _) (Nat.zero_le _) rfl
  go_enter Tryz.func45, Tryz.ntmps45
  go_wp2_with fail
  go_loopw [8, 1] (fun v x wr => ∃ (k : Nat) (acc : List UInt8), x = .int .i64 k ∧ 1 ≤ k ∧ k ≤ s.size ∧ acc.length ≤ k ∧ wr.ownsRow w.heap.size 5 1 v acc.length (Pl.cl acc) ∧ Below w.heap.size w wr ∧ ∀ r, Pl.Quo s m k acc r → Pl.Quo s m (i + 1) [] r) (fun _ x _ => s.size - (intOf x).toNat)
  case atStart => exact ⟨i + 1, [], by go_num, by omega, by omega, by simp, H0.out, below_allocL _ _, fun r h => h⟩
  case round =>
    obtain ⟨k, acc, rfl, hk1, hk, hacc, hown, hbel, hq⟩ := hrel
    have HO : Hid (wr.ownsRow w.heap.size 5 1 _ acc.length (Pl.cl acc)) := hown
    have HB : Hid (Below w.heap.size w wr) := hbel
    have HQ : Hid (∀ r, Pl.Quo s m k acc r → Pl.Quo s m (i + 1) [] r) := hq
    clear hown hbel hq H0
    by_cases hlt : k < s.size
    · have hi' : (k : Int) < (s.size : Int) := by omega
      have hgk := Pl.byt_get s k hlt
      have c0 := Pl.byt_lo s k
      have c1 := Pl.byt_hi s k
      obtain ⟨c, hcc⟩ : ∃ c, c = Pl.byt s k := ⟨_, rfl⟩
      rw [← hcc] at hgk c0 c1
      have HC : Hid (c = Pl.byt s k) := hcc
      clear hcc
      by_cases h10 : c = 10
      · have HF : Hid (Pl.Quo s m (i + 1) [] (.error 4)) := HQ.out _ (.out (.inr (by rw [← HC.out]; exact h10)))
        have e10 : (c == 10) = true := by simp [h10]
        have e10' : (c != 10) = false := by simp [h10]
        clear h10
        go_wp2_with fail
        go_ret3
        exact ⟨⟨_, HF.out, _, _, acc, rfl, HO.out, by omega, by decide⟩, HB.out⟩
      have e10 : (c == 10) = false := by simp [h10]
      have e10' : (c != 10) = true := by simp [h10]
      by_cases hcm : c = m
      · have HF : Hid (Pl.Quo s m (i + 1) [] (.ok (acc, k + 1))) := HQ.out _ (.fin hlt (by rw [← HC.out]; exact hcm) (by rw [← HC.out]; exact h10))
        have ecm : (c == m) = true := by simp [hcm]
        clear h10 hcm
        go_wp2_with fail
        go_ret3
        exact ⟨⟨_, HF.out, _, rfl, HO.out, by omega⟩, HB.out⟩
      have ecm : (c == m) = false := by simp [hcm]
      by_cases h92 : c = 92
      · have e92 : (c == 92) = true := by simp [h92]
        have H92 : Hid (Pl.byt s k = 92 ∧ Pl.byt s k ≠ m) := ⟨by rw [← HC.out]; exact h92, by rw [← HC.out]; exact hcm⟩
        clear h10 hcm h92
        by_cases hl2 : k + 1 < s.size
        · have hl2' : (k : Int) + 1 < (s.size : Int) := by omega
          have hgn := Pl.byt_get s (k + 1) hl2
          obtain ⟨b, hb⟩ : ∃ b, b = Pl.byt s (k + 1) := ⟨_, rfl⟩
          rw [← hb] at hgn
          by_cases hb10 : b = 10
          · have eb : (b == 10) = true := by simp [hb10]
            have HF : Hid (Pl.Quo s m (i + 1) [] (.error 4)) := HQ.out _ (.bad hlt H92.out.1 H92.out.2 (Pl.escF_4 (.inr (by rw [← hb]; exact hb10))))
            clear hb hb10
            go_wp2_with fail
            go_ret3
            exact ⟨⟨_, HF.out, _, _, acc, rfl, HO.out, by omega, by decide⟩, HB.out⟩
          · have eb : (b == 10) = false := by simp [hb10]
            have HES : Hid (∀ u, Calls Tryz.prog 56 #[.string s, .int .i64 ((k + 1 : Nat) : Int)] u fun e w' => EscS s (k + 1) e ∧ Below u.heap.size u w') := fun u => l5Escape_is s hs (k + 1) hl2 (by rw [← hb]; exact hb10) u
            rw [show ((k + 1 : Nat) : Int) = (k : Int) + 1 by omega] at HES
            clear hb hb10
            go_wp2_with fail
            refine (HES.out _).mono ?_
            rintro e u1 ⟨hes, g1⟩
            have G1 : Hid (Below wr.heap.size wr u1) := g1
            clear g1 HES
            have HB2 : Hid (Below w.heap.size w u1) := HB.out.trans (G1.out.mono HB.out.size)
            rcases hes with ⟨v, n, hes, rfl⟩ | ⟨q, hes, rfl⟩
            · obtain ⟨⟨n1, n2⟩, v0, v1, n3⟩ := Pl.escF_n hes
              have HES : Hid (Pl.escF s (k + 1) = .ok (v, n)) := hes
              clear hes
              have hv : ¬ v < 0 := by omega
              have HX : Hid ((u1.alloc (.cells #[.int .u8 v] 5)).ownsRow w.heap.size 5 1 _ acc.length (Pl.cl acc)) := (ow_keep HO.out G1.out).alloc _
              go_wp2_with (at_builtin; refine wpList_append_own _ rfl (.tmp 64) (.tmp 67) 22 rfl w.heap.size 5 i0 (.int .u8 0) 1 1 Tryz.underlying22 hi hz0 hz1 hz2 rfl (by decide) _ _ _ rfl HX.out ⟨u1.heap.size, 0, none⟩ 1 _ (Pl.cl [UInt8.ofNat v.toNat]) rfl rfl (one_cell_c _ v rfl v0 (by omega) u1) (by intro u hu; obtain ⟨n, _, rfl⟩ := List.mem_map.1 hu; rfl) (by unfold maxLen; omega) (by omega) (Nat.le_trans HB2.out.size (by simp)) ?_; intro v' u2 hown' hgr _; rw [← Pl.cl_app] at hown')
              refine ⟨⟨k + 1 + n, acc ++ [UInt8.ofNat v.toNat], by first | rfl | go_num, by omega, by omega, by rw [List.length_append]; simp; omega, by rw [List.length_append]; exact hown', ?_, fun r hr => HQ.out r (.esc hlt H92.out.1 H92.out.2 HES.out hr)⟩, by simp [intOf]; omega⟩
              exact (HB2.out.alloc HB2.out.size _).grown hgr (Nat.le_trans HB2.out.size (by simp)) (fun j hj => (HX.out.lt j hj).1)
            · have HF : Hid (Pl.Quo s m (i + 1) [] (.error 5)) := HQ.out _ (.bad hlt H92.out.1 H92.out.2 hes)
              have HO2 : Hid (u1.ownsRow w.heap.size 5 1 _ acc.length (Pl.cl acc)) := ow_keep HO.out G1.out
              clear hes
              go_wp2_with fail
              go_ret3
              exact ⟨⟨_, HF.out, _, _, acc, rfl, HO2.out, by omega, by decide⟩, HB2.out⟩
        · have hl2' : ¬ ((k : Int) + 1 < (s.size : Int)) := by omega
          have HF : Hid (Pl.Quo s m (i + 1) [] (.error 4)) := HQ.out _ (.bad hlt H92.out.1 H92.out.2 (Pl.escF_4 (.inl (by omega))))
          go_wp2_with fail
          go_ret3
          exact ⟨⟨_, HF.out, _, _, acc, rfl, HO.out, by omega, by decide⟩, HB.out⟩
      · have e92 : (c == 92) = false := by simp [h92]
        have HN : Hid (∀ r, Pl.Quo s m (k + 1) (acc ++ [UInt8.ofNat c.toNat]) r → Pl.Quo s m (i + 1) [] r) := fun r hr => HQ.out r (.one hlt (by rw [← HC.out]; exact h10) (by rw [← HC.out]; exact hcm) (by rw [← HC.out]; exact h92) (by rw [← HC.out]; exact hr))
        have HB2 : Hid (Below w.heap.size w wr) := HB.out
        have HX : Hid ((wr.alloc (.cells #[.int .u8 c] 5)).ownsRow w.heap.size 5 1 _ acc.length (Pl.cl acc)) := HO.out.alloc _
        clear h10 hcm h92
        go_wp2_with (at_builtin; refine wpList_append_own _ rfl (.tmp 70) (.tmp 74) 22 rfl w.heap.size 5 i0 (.int .u8 0) 1 1 Tryz.underlying22 hi hz0 hz1 hz2 rfl (by decide) _ _ _ rfl HX.out ⟨wr.heap.size, 0, none⟩ 1 _ (Pl.cl [UInt8.ofNat c.toNat]) rfl rfl (one_cell_c _ c rfl c0 c1 wr) (by intro u hu; obtain ⟨n, _, rfl⟩ := List.mem_map.1 hu; rfl) (by unfold maxLen; omega) (by omega) (Nat.le_trans HB2.out.size (by simp)) ?_; intro v' u2 hown' hgr _; rw [← Pl.cl_app] at hown')
        refine ⟨⟨k + 1, acc ++ [UInt8.ofNat c.toNat], by go_num, by omega, by omega, by rw [List.length_append]; simp; omega, by rw [List.length_append]; exact hown', ?_, HN.out⟩, by simp [intOf]; omega⟩
        exact (HB2.out.alloc HB2.out.size _).grown hgr (Nat.le_trans HB2.out.size (by simp)) (fun j hj => (HX.out.lt j hj).1)
    · have hi' : ¬ (k : Int) < (s.size : Int) := by omega
      have HF : Hid (Pl.Quo s m (i + 1) [] (.error 4)) := HQ.out _ (.out (.inl (by omega)))
      go_wp2_with fail
      go_ret3
      exact ⟨⟨_, HF.out, _, _, acc, rfl, HO.out, by omega, by decide⟩, HB.out⟩
end Go.Proofs.YtdplfflkmphpbaaGreatDoor.W
namespace Go.Proofs.YtdplfflkmphpbaaGreatDoor.Pl
theorem intR_2a {s : ByteArray} (h : iend s ≤ ioff s) : intR s = .error 2 := by
  unfold intR; rw [if_pos (.inl h)]
theorem intR_2b {s : ByteArray} (j : Nat) (hj : j < (idig s).size) (hb : badD (ibase s) (byt (idig s) j) = true) : intR s = .error 2 := by
  unfold intR; rw [if_pos (.inr ⟨j, hj, hb⟩)]
theorem intR_6 {s : ByteArray} (h : ¬ iend s ≤ ioff s) (h2 : ∀ j, j < (idig s).size → badD (ibase s) (byt (idig s) j) = false) (h3 : (∃ j, j < (idig s).size ∧ ibase s ≤ hx (byt (idig s) j)) ∨ 4294967295 < val (idig s) (ibase s) (idig s).size) : intR s = .error 6 := by
  unfold intR
  rw [if_neg (by rintro (e | ⟨j, hj, e⟩); exact h e; rw [h2 j hj] at e; cases e), if_pos h3]
theorem intR_ok {s : ByteArray} (h : ¬ iend s ≤ ioff s) (h2 : ∀ j, j < (idig s).size → badD (ibase s) (byt (idig s) j) = false) (h3 : ∀ j, j < (idig s).size → hx (byt (idig s) j) < ibase s) (h4 : val (idig s) (ibase s) (idig s).size ≤ 4294967295) :
    intR s = .ok (if uu (byt s (s.size - 1)) = true ∨ 2147483647 < val (idig s) (ibase s) (idig s).size then ⟨#[117]⟩ else ⟨#[]⟩, val (idig s) (ibase s) (idig s).size) := by
  unfold intR
  rw [if_neg (by rintro (e | ⟨j, hj, e⟩); exact h e; rw [h2 j hj] at e; cases e), if_neg (by rintro (⟨j, hj, e⟩ | e); have := h3 j hj; omega; omega)]
theorem idig_sz (s : ByteArray) : (idig s).size = iend s - ioff s := by
  unfold idig
  rw [ext_size]
  have : iend s ≤ s.size := by unfold iend; split <;> omega
  omega
theorem ibase_is (s : ByteArray) : ibase s = 8 ∨ ibase s = 10 ∨ ibase s = 16 := by
  unfold ibase
  (repeat' split) <;> simp
theorem isx_two {s : ByteArray} (h : isx s = true) : 2 ≤ iend s := by
  unfold isx at h
  simp only [Bool.and_eq_true, Bool.or_eq_true, decide_eq_true_eq, beq_iff_eq] at h
  unfold iend
  by_cases h2 : s.size = 2
  · rw [h2]
    rw [if_neg]
    · exact Nat.le_refl _
    · unfold uu
      rcases h.2 with e | e <;> rw [show 2 - 1 = 1 from rfl, e] <;> decide
  · split <;> omega
theorem isE (D : ByteArray) : D.toList.isEmpty = decide (D.size = 0) := by
  obtain ⟨⟨l⟩⟩ := D
  rw [ByteArray.toList_eq]
  show l.isEmpty = decide (l.length = 0)
  cases l <;> simp
end Go.Proofs.YtdplfflkmphpbaaGreatDoor.Pl
