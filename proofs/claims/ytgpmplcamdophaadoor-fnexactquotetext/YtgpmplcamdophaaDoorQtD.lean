import Derived.Test.YtgpmplcamdophaaDoorQtC
set_option linter.unusedVariables false
set_option linter.unusedSimpArgs false
namespace Go.Proofs.YtgpmplcamdophaaDoor.Pl
theorem enc_small : ∀ c : Nat, c < 128 → Utf8.encode (c : Int) = (⟨#[UInt8.ofNat c]⟩ : ByteArray) := by decide +kernel
theorem shown_m {c m : Nat} (h : c = m ∨ c = 92) (hm : m = 34 ∨ m = 39) : shown c m = [92, UInt8.ofNat c] := by
  unfold shown
  rw [if_neg (by omega), if_neg (by omega), if_neg (by omega), if_pos h]
theorem shown_p {c m : Nat} (h : ¬ (c = m ∨ c = 92)) (hp : 32 ≤ c ∧ c ≤ 126) : shown c m = [UInt8.ofNat c] := by
  unfold shown
  rw [if_neg (by omega), if_neg (by omega), if_neg (by omega), if_neg h, if_pos hp]
theorem shown_o {c m : Nat} (h : ¬ (c = m ∨ c = 92)) (hp : ¬ (32 ≤ c ∧ c ≤ 126)) (h10 : c ≠ 10) (h9 : c ≠ 9) (h13 : c ≠ 13) : shown c m = oct c := by
  unfold shown
  rw [if_neg h10, if_neg h9, if_neg h13, if_neg h, if_neg hp]
end Go.Proofs.YtgpmplcamdophaaDoor.Pl
namespace Go.Proofs.YtgpmplcamdophaaDoor.W
open Go.RowKit
set_option maxHeartbeats 2000000 in
theorem byteText_any (c m : Nat) (h : c < 256) (hm : m = 34 ∨ m = 39) (w : World) (hd : DbLies w) : Calls Tryd.prog 27 #[.int .u8 c, .int .u8 m] w fun e w' => e = .returned (.string ⟨(Pl.shown c m).toArray⟩) ∧ Below w.heap.size w w' := by
  by_cases hmk : c = m ∨ c = 92
  · rw [Pl.shown_m hmk hm]
    have hen := Pl.enc_small c (by omega)
    by_cases h1 : c = m
    · have e1 : ((c : Int) == (m : Int)) = true := by simp; omega
      clear hmk h1
      go_enter Tryd.func27, Tryd.ntmps27
      go_wp2
      go_ret
      refine ⟨qret_str ?_, Below.refl _ _⟩
      rfl
    · have e1 : ((c : Int) == (m : Int)) = false := by simp; omega
      have e2 : ((c : Int) == 92) = true := by simp; omega
      clear hmk h1
      go_enter Tryd.func27, Tryd.ntmps27
      go_wp2
      go_ret
      refine ⟨qret_str ?_, Below.refl _ _⟩
      rfl
  have em : ((c : Int) == (m : Int)) = false := by simp; omega
  have e92 : ((c : Int) == 92) = false := by simp; omega
  by_cases hp : 32 ≤ c ∧ c ≤ 126
  · rw [Pl.shown_p hmk hp]
    have hen := Pl.enc_small c (by omega)
    have e1 : decide (32 ≤ (c : Int)) = true := by simp; omega
    have e2 : decide ((c : Int) ≤ 126) = true := by simp; omega
    clear hp hmk
    go_enter Tryd.func27, Tryd.ntmps27
    go_wp2
    go_ret
    refine ⟨qret_str ?_, Below.refl _ _⟩
    rfl
  have ep : (decide (32 ≤ (c : Int)) && decide ((c : Int) ≤ 126)) = false := by simp; omega
  by_cases h10 : c = 10
  · subst h10
    have es : Pl.shown 10 m = [92, 110] := rfl
    rw [es]
    clear ep hp hmk em e92 es
    rcases hm with rfl | rfl
    all_goals
      go_enter Tryd.func27, Tryd.ntmps27
      go_wp2
      go_ret
      exact ⟨rfl, Below.refl _ _⟩
  by_cases h9 : c = 9
  · subst h9
    have es : Pl.shown 9 m = [92, 116] := rfl
    rw [es]
    clear ep hp hmk em e92 es
    rcases hm with rfl | rfl
    all_goals
      go_enter Tryd.func27, Tryd.ntmps27
      go_wp2
      go_ret
      exact ⟨rfl, Below.refl _ _⟩
  by_cases h13 : c = 13
  · subst h13
    have es : Pl.shown 13 m = [92, 114] := rfl
    rw [es]
    clear ep hp hmk em e92 es
    rcases hm with rfl | rfl
    all_goals
      go_enter Tryd.func27, Tryd.ntmps27
      go_wp2
      go_ret
      exact ⟨rfl, Below.refl _ _⟩
  rw [Pl.shown_o hmk hp h10 h9 h13]
  have e10 : ((c : Int) == 10) = false := by simp; omega
  have e9 : ((c : Int) == 9) = false := by simp; omega
  have e13 : ((c : Int) == 13) = false := by simp; omega
  have es : (Pl.oct4 (512 + c)).size = 4 := rfl
  have HC : Hid ((⟨#[92]⟩ : ByteArray) ++ (Pl.oct4 (512 + c)).extract 1 4 = ⟨(Pl.oct c).toArray⟩) := Pl.oct4_cut c h
  have en : (512 : Int) + (c : Int) = ((512 + c : Nat) : Int) := by omega
  have HF := fun w hd => format_8 (512 + c) (by omega) (by omega) w hd
  obtain ⟨N, hN⟩ : ∃ N, N = 512 + c := ⟨_, rfl⟩
  rw [← hN] at es HC en HF
  clear hN hmk h10 h9 h13 ep
  by_cases hlo : 32 ≤ c
  · have e1 : decide (32 ≤ (c : Int)) = true := by simp; omega
    have e2 : decide ((c : Int) ≤ 126) = false := by simp; omega
    clear hlo hp
    go_enter Tryd.func27, Tryd.ntmps27
    go_wp2_with (go_at_call 49; refine (HF _ hd).mono ?_; rintro e u1 ⟨rfl, hb1⟩)
    go_ret
    refine ⟨qret_str ?_, hb1⟩
    exact HC.out
  · have e1 : decide (32 ≤ (c : Int)) = false := by simp; omega
    clear hlo hp
    go_enter Tryd.func27, Tryd.ntmps27
    go_wp2_with (go_at_call 49; refine (HF _ hd).mono ?_; rintro e u1 ⟨rfl, hb1⟩)
    go_ret
    refine ⟨qret_str ?_, hb1⟩
    exact HC.out
end Go.Proofs.YtgpmplcamdophaaDoor.W
