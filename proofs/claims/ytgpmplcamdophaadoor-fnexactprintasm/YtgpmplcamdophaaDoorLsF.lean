import Derived.Test.YtgpmplcamdophaaDoorLsD
import Derived.Lib.ItoaNum
set_option linter.unusedVariables false
set_option linter.unusedSimpArgs false
namespace Go.Proofs.YtgpmplcamdophaaDoor.Pl
/-- a number's decimal text -/
def num (n : Int) : ByteArray := ⟨(Lib.itoa n).toArray⟩
theorem dig_small {u : Nat} (h : u < 10) : Lib.decDigits u = [UInt8.ofNat (48 + u)] := by rw [Lib.decDigits, dif_pos h]
theorem dig_big {u : Nat} (h : ¬ u < 10) : Lib.decDigits u = Lib.decDigits (u / 10) ++ [UInt8.ofNat (48 + u % 10)] := by rw [Lib.decDigits, dif_neg h]
theorem num_nat {n : Int} (h : 0 ≤ n) : num n = ⟨(Lib.decDigits n.toNat).toArray⟩ := by
  unfold num Lib.itoa
  rw [if_neg (by omega)]
theorem num_neg {n : Int} (h : n < 0) : num n = (⟨#[45]⟩ : ByteArray) ++ num (-n) := by
  rw [num_nat (show 0 ≤ -n by omega)]
  unfold num Lib.itoa
  rw [if_pos h]
  have e : n.natAbs = (-n).toNat := by omega
  rw [e]
  apply ByteArray.ext
  simp [ByteArray.data_append]
theorem dig_len : ∀ (m u : Nat), u < 10 ^ (m + 1) → (Lib.decDigits u).length ≤ m + 1
  | 0, u, h => by rw [dig_small (by simpa using h)]; simp
  | m + 1, u, h => by
    by_cases h' : u < 10
    · rw [dig_small h']; simp
    · rw [dig_big h']
      rw [Nat.pow_succ] at h
      have := dig_len m (u / 10) (by omega)
      simp
      omega
theorem num_size {n : Int} (h : -4611686018427387904 ≤ n ∧ n ≤ 4611686018427387904) : (num n).size ≤ 20 := by
  have key : ∀ n : Int, 0 ≤ n → n ≤ 4611686018427387904 → (num n).size ≤ 19 := fun n h0 h1 => by
    rw [num_nat h0]
    have := dig_len 18 n.toNat (by omega)
    simpa [ByteArray.size] using this
  by_cases h0 : n < 0
  · rw [num_neg h0]
    have := key (-n) (by omega) (by omega)
    have e1 : (⟨#[45]⟩ : ByteArray).size = 1 := rfl
    simp [e1]
    omega
  · have := key n (by omega) (by omega)
    omega
end Go.Proofs.YtgpmplcamdophaaDoor.Pl
namespace Go.Proofs.YtgpmplcamdophaaDoor.W
open Go.RowKit
set_option maxRecDepth 8000 in
set_option maxHeartbeats 2000000 in
theorem specDecN_any (k : Int) (hk : 0 ≤ k ∧ k ≤ 4611686018427387904) (w : World) : Calls Tryd.prog 36 #[.int .i64 k] w fun e w' => e = .returned (.string (Pl.num k)) ∧ Below w.heap.size w w' := by
  have hneg : ¬ k < 0 := by omega
  go_enter Tryd.func36, Tryd.ntmps36
  go_wp2_with fail
  go_loopw [0, 3] (fun x v wr => ∃ (n : Int) (s : ByteArray) (m : Nat), x = .int .i64 n ∧ v = .string s ∧ 0 ≤ n ∧ n ≤ 4611686018427387904 ∧ n < 10 ^ m ∧ s.size + m ≤ 19 ∧ Lib.decDigits n.toNat ++ s.data.toList = Lib.decDigits k.toNat ∧ Below w.heap.size w wr) (fun x _ _ => (intOf x).toNat)
  case atStart => exact ⟨k, ⟨#[]⟩, 19, rfl, rfl, hk.1, hk.2, by omega, by decide, by simp, Below.refl _ _⟩
  case round =>
    obtain ⟨n, s, m, rfl, rfl, hn0, hn1, hnm, hsm, hdg, hbel⟩ := hrel
    have HB : Hid (Below w.heap.size w wr) := hbel
    have HM : Hid (n < 10 ^ m) := hnm
    have HD : Hid (Lib.decDigits n.toNat ++ s.data.toList = Lib.decDigits k.toNat) := hdg
    clear hbel hnm hdg
    have hcv := conv_one wr
    by_cases hp : 10 ≤ n
    · go_wp2
      go_roundw
      case rel =>
        obtain ⟨m, rfl⟩ : ∃ m', m = m' + 1 := by
          rcases m with _ | m
          · have := HM.out; simp at this; omega
          · exact ⟨m, rfl⟩
        have hq : n / 10 < 10 ^ m := by
          have := HM.out
          rw [Int.pow_succ] at this
          omega
        refine ⟨n / 10, _, m, by go_num, rfl, by omega, by omega, hq, by simp; omega, ?_, HB.out.trans ((below_alloc2 wr _).mono HB.out.size)⟩
        have h1 := HD.out
        rw [Pl.dig_big (by omega)] at h1
        rw [← h1]
        have e1 : (n / 10).toNat = n.toNat / 10 := by omega
        have e2 : (48 + n % 10).toNat = 48 + n.toNat % 10 := by omega
        rw [e1]
        simp [ByteArray.data_append, e2]
      case measure => simp [intOf]; omega
    · go_wp2
      go_ret
      refine ⟨?_, HB.out.trans ((below_alloc2 wr _).mono HB.out.size)⟩
      have h1 := HD.out
      rw [Pl.dig_small (by omega)] at h1
      rw [Pl.num_nat hk.1, ← h1]
      have e2 : (48 + n).toNat = 48 + n.toNat := by omega
      rw [e2]
      congr 2
set_option maxHeartbeats 1000000 in
theorem specDec_num (k : Int) (hk : -4611686018427387904 ≤ k ∧ k ≤ 4611686018427387904) (w : World) : Calls Tryd.prog 36 #[.int .i64 k] w fun e w' => e = .returned (.string (Pl.num k)) ∧ Below w.heap.size w w' := by
  by_cases hneg : k < 0
  · have hs := Pl.num_size (n := -k) (by omega)
    rw [Pl.num_neg hneg]
    go_enter Tryd.func36, Tryd.ntmps36
    go_wp2_with (go_at_call 36; refine (specDecN_any (-k) (by omega) _).mono ?_; rintro e u1 ⟨rfl, d1⟩)
    go_ret
    exact ⟨rfl, d1⟩
  · exact specDecN_any k (by omega) w
end Go.Proofs.YtgpmplcamdophaaDoor.W
