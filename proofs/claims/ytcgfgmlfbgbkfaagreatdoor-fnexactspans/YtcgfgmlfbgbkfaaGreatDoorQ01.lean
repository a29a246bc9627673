import Derived.Test.YtcgfgmlfbgbkfaaGreatDoorL22
set_option linter.unusedVariables false
set_option linter.unusedSimpArgs false
namespace Go.Proofs.YtcgfgmlfbgbkfaaGreatDoor.Pl
/-- how many bits a number has -/
def Ln (x k : Nat) : Prop := 0 < k ∧ 2 ^ (k - 1) ≤ x ∧ x < 2 ^ k
instance (x k : Nat) : Decidable (Ln x k) := by unfold Ln; infer_instance
def atL (l : List Nat) (y : Nat) : Nat := l.getD y 0
theorem Ln.up {s d x y k : Nat} (hd : d = 2 ^ s) (hy : y = x / d) (h : Ln y k) : Ln x (k + s) := by
  subst hd
  obtain ⟨h0, h1, h2⟩ := h
  refine ⟨by omega, ?_, ?_⟩
  · rw [show k + s - 1 = (k - 1) + s by omega, Nat.pow_add]
    rw [hy, Nat.le_div_iff_mul_le (Nat.two_pow_pos s)] at h1
    exact h1
  · rw [Nat.pow_add]
    rw [hy, Nat.div_lt_iff_lt_mul (Nat.two_pow_pos s)] at h2
    exact h2
theorem Ln.up32 {x y k : Nat} (hy : y = x / 4294967296) (h : Ln y k) : Ln x (k + 32) := Ln.up (by decide) hy h
theorem Ln.up16 {x y k : Nat} (hy : y = x / 65536) (h : Ln y k) : Ln x (k + 16) := Ln.up (by decide) hy h
theorem Ln.up8 {x y k : Nat} (hy : y = x / 256) (h : Ln y k) : Ln x (k + 8) := Ln.up (by decide) hy h
theorem tab_use {tab : List Nat} {y t : Nat} (hq : atL tab y = t) (hT : ∀ y, y < 256 → y ≠ 0 → Ln y (tab.getD y 0) ∧ tab.getD y 0 ≤ 8) (hy : y < 256) (h0 : y ≠ 0) : Ln y t ∧ t ≤ 8 := by
  subst hq; exact hT y hy h0
end Go.Proofs.YtcgfgmlfbgbkfaaGreatDoor.Pl
namespace Go.Proofs.YtcgfgmlfbgbkfaaGreatDoor.W
open Go.RowKit
theorem bget (s : ByteArray) (y : Nat) (h : y < s.size) : (s[y]'h).toNat = Pl.atL (s.data.toList.map UInt8.toNat) y := by
  unfold Pl.atL
  rw [List.getD_eq_getElem?_getD, List.getElem?_map]
  have : s.data.toList[y]? = some s[y] := by
    rw [Array.getElem?_toList, Array.getElem?_eq_getElem (by exact h)]; rfl
  rw [this]; rfl
theorem w64a {t k : Nat} (h : t ≤ 8) (e : k = t) : Ending.returned (.int .i64 (wrap64 (wrap64 (t : Int)))) = .returned (.int .i64 (k : Int)) := by
  rw [show wrap64 (t : Int) = t by unfold wrap64; omega, show wrap64 (t : Int) = t by unfold wrap64; omega, e]
theorem w64b {t k : Nat} {c : Int} (h : t ≤ 8) (hc : 0 ≤ c ∧ c ≤ 64) (e : (k : Int) = c + t) : Ending.returned (.int .i64 (wrap64 (c + wrap64 (t : Int)))) = .returned (.int .i64 (k : Int)) := by
  rw [show wrap64 (t : Int) = t by unfold wrap64; omega, show wrap64 (c + (t : Int)) = c + t by unfold wrap64; omega, e]
set_option maxHeartbeats 16000000 in
set_option maxRecDepth 100000 in
theorem len64_is (x : Nat) (hx : x < 18446744073709551616) (hx0 : x ≠ 0) (w : World) : Calls Tryz.prog 101 #[.int .u64 (x : Int)] w fun e w' => (∃ k : Nat, e = .returned (.int .i64 (k : Int)) ∧ Pl.Ln x k) ∧ w' = w := by
  by_cases g0 : 4294967296 ≤ x
  · have k0 : (4294967296 : Int) ≤ (x : Int) := by omega
    obtain ⟨y1, hy1⟩ : ∃ y1 : Nat, y1 = x / 4294967296 := ⟨_, rfl⟩
    have e0 : (x : Int) / 4294967296 = (y1 : Int) := by omega
    have b0 : y1 < 4294967296 := by omega
    have n0 : y1 ≠ 0 := by omega
    by_cases g1 : 65536 ≤ y1
    · have k1 : (65536 : Int) ≤ (y1 : Int) := by omega
      obtain ⟨y2, hy2⟩ : ∃ y2 : Nat, y2 = y1 / 65536 := ⟨_, rfl⟩
      have e1 : (y1 : Int) / 65536 = (y2 : Int) := by omega
      have b1 : y2 < 65536 := by omega
      have n1 : y2 ≠ 0 := by omega
      by_cases g2 : 256 ≤ y2
      · have k2 : (256 : Int) ≤ (y2 : Int) := by omega
        obtain ⟨y3, hy3⟩ : ∃ y3 : Nat, y3 = y2 / 256 := ⟨_, rfl⟩
        have e2 : (y2 : Int) / 256 = (y3 : Int) := by omega
        have b2 : y3 < 256 := by omega
        have n2 : y3 ≠ 0 := by omega
        have h4 : IntKind.u8.wrap (y3 : Int) = (y3 : Int) := by rw [IntKind.wrap_u8]; omega
        have HC : Hid (y1 = x / 4294967296 ∧ y2 = y1 / 65536 ∧ y3 = y2 / 256) := ⟨hy1, hy2, hy3⟩
        have HY : Hid (y3 < 256 ∧ y3 ≠ 0) := ⟨by omega, by omega⟩
        have hy9 : (y3 : Int) < 256 := by omega
        clear hy1 hy2 hy3 g0 g1 g2 b0 n0 b1 n1 b2 n2 hx hx0
        go_enter Tryz.func101, Tryz.ntmps101
        go_wp2_with fail
        go_ret
        refine ⟨?_, rfl⟩
        rw [bget]
        generalize hq : Pl.atL _ _ = t
        obtain ⟨hL, h8⟩ := Pl.tab_use hq (by decide +kernel) HY.out.1 HY.out.2
        exact ⟨t + 8 + 16 + 32, w64b h8 (by omega) (by omega), (Pl.Ln.up32 HC.out.1 (Pl.Ln.up16 HC.out.2.1 (Pl.Ln.up8 HC.out.2.2 hL)))⟩
      · have k2 : ¬ (256 : Int) ≤ (y2 : Int) := by omega
        have h4 : IntKind.u8.wrap (y2 : Int) = (y2 : Int) := by rw [IntKind.wrap_u8]; omega
        have HC : Hid (y1 = x / 4294967296 ∧ y2 = y1 / 65536) := ⟨hy1, hy2⟩
        have HY : Hid (y2 < 256 ∧ y2 ≠ 0) := ⟨by omega, by omega⟩
        have hy9 : (y2 : Int) < 256 := by omega
        clear hy1 hy2 g0 g1 g2 b0 n0 b1 n1 hx hx0
        go_enter Tryz.func101, Tryz.ntmps101
        go_wp2_with fail
        go_ret
        refine ⟨?_, rfl⟩
        rw [bget]
        generalize hq : Pl.atL _ _ = t
        obtain ⟨hL, h8⟩ := Pl.tab_use hq (by decide +kernel) HY.out.1 HY.out.2
        exact ⟨t + 16 + 32, w64b h8 (by omega) (by omega), (Pl.Ln.up32 HC.out.1 (Pl.Ln.up16 HC.out.2 hL))⟩
    · have k1 : ¬ (65536 : Int) ≤ (y1 : Int) := by omega
      by_cases g2 : 256 ≤ y1
      · have k2 : (256 : Int) ≤ (y1 : Int) := by omega
        obtain ⟨y3, hy3⟩ : ∃ y3 : Nat, y3 = y1 / 256 := ⟨_, rfl⟩
        have e2 : (y1 : Int) / 256 = (y3 : Int) := by omega
        have b2 : y3 < 256 := by omega
        have n2 : y3 ≠ 0 := by omega
        have h4 : IntKind.u8.wrap (y3 : Int) = (y3 : Int) := by rw [IntKind.wrap_u8]; omega
        have HC : Hid (y1 = x / 4294967296 ∧ y3 = y1 / 256) := ⟨hy1, hy3⟩
        have HY : Hid (y3 < 256 ∧ y3 ≠ 0) := ⟨by omega, by omega⟩
        have hy9 : (y3 : Int) < 256 := by omega
        clear hy1 hy3 g0 g1 g2 b0 n0 b2 n2 hx hx0
        go_enter Tryz.func101, Tryz.ntmps101
        go_wp2_with fail
        go_ret
        refine ⟨?_, rfl⟩
        rw [bget]
        generalize hq : Pl.atL _ _ = t
        obtain ⟨hL, h8⟩ := Pl.tab_use hq (by decide +kernel) HY.out.1 HY.out.2
        exact ⟨t + 8 + 32, w64b h8 (by omega) (by omega), (Pl.Ln.up32 HC.out.1 (Pl.Ln.up8 HC.out.2 hL))⟩
      · have k2 : ¬ (256 : Int) ≤ (y1 : Int) := by omega
        have h4 : IntKind.u8.wrap (y1 : Int) = (y1 : Int) := by rw [IntKind.wrap_u8]; omega
        have HC : Hid (y1 = x / 4294967296) := hy1
        have HY : Hid (y1 < 256 ∧ y1 ≠ 0) := ⟨by omega, by omega⟩
        have hy9 : (y1 : Int) < 256 := by omega
        clear hy1 g0 g1 g2 b0 n0 hx hx0
        go_enter Tryz.func101, Tryz.ntmps101
        go_wp2_with fail
        go_ret
        refine ⟨?_, rfl⟩
        rw [bget]
        generalize hq : Pl.atL _ _ = t
        obtain ⟨hL, h8⟩ := Pl.tab_use hq (by decide +kernel) HY.out.1 HY.out.2
        exact ⟨t + 32, w64b h8 (by omega) (by omega), (Pl.Ln.up32 HC.out hL)⟩
  · have k0 : ¬ (4294967296 : Int) ≤ (x : Int) := by omega
    by_cases g1 : 65536 ≤ x
    · have k1 : (65536 : Int) ≤ (x : Int) := by omega
      obtain ⟨y2, hy2⟩ : ∃ y2 : Nat, y2 = x / 65536 := ⟨_, rfl⟩
      have e1 : (x : Int) / 65536 = (y2 : Int) := by omega
      have b1 : y2 < 65536 := by omega
      have n1 : y2 ≠ 0 := by omega
      by_cases g2 : 256 ≤ y2
      · have k2 : (256 : Int) ≤ (y2 : Int) := by omega
        obtain ⟨y3, hy3⟩ : ∃ y3 : Nat, y3 = y2 / 256 := ⟨_, rfl⟩
        have e2 : (y2 : Int) / 256 = (y3 : Int) := by omega
        have b2 : y3 < 256 := by omega
        have n2 : y3 ≠ 0 := by omega
        have h4 : IntKind.u8.wrap (y3 : Int) = (y3 : Int) := by rw [IntKind.wrap_u8]; omega
        have HC : Hid (y2 = x / 65536 ∧ y3 = y2 / 256) := ⟨hy2, hy3⟩
        have HY : Hid (y3 < 256 ∧ y3 ≠ 0) := ⟨by omega, by omega⟩
        have hy9 : (y3 : Int) < 256 := by omega
        clear hy2 hy3 g0 g1 g2 b1 n1 b2 n2 hx hx0
        go_enter Tryz.func101, Tryz.ntmps101
        go_wp2_with fail
        go_ret
        refine ⟨?_, rfl⟩
        rw [bget]
        generalize hq : Pl.atL _ _ = t
        obtain ⟨hL, h8⟩ := Pl.tab_use hq (by decide +kernel) HY.out.1 HY.out.2
        exact ⟨t + 8 + 16, w64b h8 (by omega) (by omega), (Pl.Ln.up16 HC.out.1 (Pl.Ln.up8 HC.out.2 hL))⟩
      · have k2 : ¬ (256 : Int) ≤ (y2 : Int) := by omega
        have h4 : IntKind.u8.wrap (y2 : Int) = (y2 : Int) := by rw [IntKind.wrap_u8]; omega
        have HC : Hid (y2 = x / 65536) := hy2
        have HY : Hid (y2 < 256 ∧ y2 ≠ 0) := ⟨by omega, by omega⟩
        have hy9 : (y2 : Int) < 256 := by omega
        clear hy2 g0 g1 g2 b1 n1 hx hx0
        go_enter Tryz.func101, Tryz.ntmps101
        go_wp2_with fail
        go_ret
        refine ⟨?_, rfl⟩
        rw [bget]
        generalize hq : Pl.atL _ _ = t
        obtain ⟨hL, h8⟩ := Pl.tab_use hq (by decide +kernel) HY.out.1 HY.out.2
        exact ⟨t + 16, w64b h8 (by omega) (by omega), (Pl.Ln.up16 HC.out hL)⟩
    · have k1 : ¬ (65536 : Int) ≤ (x : Int) := by omega
      by_cases g2 : 256 ≤ x
      · have k2 : (256 : Int) ≤ (x : Int) := by omega
        obtain ⟨y3, hy3⟩ : ∃ y3 : Nat, y3 = x / 256 := ⟨_, rfl⟩
        have e2 : (x : Int) / 256 = (y3 : Int) := by omega
        have b2 : y3 < 256 := by omega
        have n2 : y3 ≠ 0 := by omega
        have h4 : IntKind.u8.wrap (y3 : Int) = (y3 : Int) := by rw [IntKind.wrap_u8]; omega
        have HC : Hid (y3 = x / 256) := hy3
        have HY : Hid (y3 < 256 ∧ y3 ≠ 0) := ⟨by omega, by omega⟩
        have hy9 : (y3 : Int) < 256 := by omega
        clear hy3 g0 g1 g2 b2 n2 hx hx0
        go_enter Tryz.func101, Tryz.ntmps101
        go_wp2_with fail
        go_ret
        refine ⟨?_, rfl⟩
        rw [bget]
        generalize hq : Pl.atL _ _ = t
        obtain ⟨hL, h8⟩ := Pl.tab_use hq (by decide +kernel) HY.out.1 HY.out.2
        exact ⟨t + 8, w64b h8 (by omega) (by omega), (Pl.Ln.up8 HC.out hL)⟩
      · have k2 : ¬ (256 : Int) ≤ (x : Int) := by omega
        have h4 : IntKind.u8.wrap (x : Int) = (x : Int) := by rw [IntKind.wrap_u8]; omega
        have HC : Hid (True) := trivial
        have HY : Hid (x < 256 ∧ x ≠ 0) := ⟨by omega, by omega⟩
        have hy9 : (x : Int) < 256 := by omega
        clear  g0 g1 g2  hx hx0
        go_enter Tryz.func101, Tryz.ntmps101
        go_wp2_with fail
        go_ret
        refine ⟨?_, rfl⟩
        rw [bget]
        generalize hq : Pl.atL _ _ = t
        obtain ⟨hL, h8⟩ := Pl.tab_use hq (by decide +kernel) HY.out.1 HY.out.2
        exact ⟨t, w64a h8 (by omega), hL⟩
end Go.Proofs.YtcgfgmlfbgbkfaaGreatDoor.W
