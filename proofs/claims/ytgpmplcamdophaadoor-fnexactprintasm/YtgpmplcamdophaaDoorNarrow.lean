import Derived.Test.YtgpmplcamdophaaDoorBase
import Derived.LoopTactic
namespace Go.Proofs.YtgpmplcamdophaaDoor.Pl
def pw (k : Nat) : Int := 2 ^ k
theorem pw_pos (k : Nat) : 0 < pw k := by unfold pw; exact Int.pow_pos (by decide)
theorem pw_succ (k : Nat) : pw (k + 1) = pw k * 2 := by unfold pw; rw [Int.pow_succ]
theorem pw_mono {j k : Nat} (h : j ≤ k) : pw j ≤ pw k := by
  induction h with
  | refl => omega
  | step _ ih => rw [pw_succ]; have := pw_pos j; omega
theorem pw_le62 (k : Nat) (h : k ≤ 62) : pw k ≤ 4611686018427387904 := by
  have := pw_mono h; have e : pw 62 = 4611686018427387904 := by decide
  omega
def i8 (n : Int) : Int := (n + 128) % 256 - 128
def i16 (n : Int) : Int := (n + 32768) % 65536 - 32768
/-- what is widened, and whether there is such a kind -/
def nr (k n : Int) : Int := if k = 1 then wd (i8 n) else if k = 2 then n % 256 else if k = 3 then wd (i16 n) else if k = 4 then n % 65536 else if k = 5 then wd n else 0
def kb (k : Int) : Bool := decide (1 ≤ k ∧ k ≤ 5)
theorem kb_none (k : Int) (h1 : (k == 1) = false) (h2 : (k == 2) = false) (h3 : (k == 3) = false) (h4 : (k == 4) = false) (h5 : (k == 5) = false) : false = kb k := by
  simp at h1 h2 h3 h4 h5; simp [kb]; omega
theorem nr_none (k n : Int) (h1 : (k == 1) = false) (h2 : (k == 2) = false) (h3 : (k == 3) = false) (h4 : (k == 4) = false) (h5 : (k == 5) = false) : 0 = nr k n := by
  simp at h1 h2 h3 h4 h5; simp [nr, h1, h2, h3, h4, h5]
theorem nr_i8 (n : Int) : wd (RowKit.wrap64 (IntKind.i8.wrap n)) = nr 1 n := by
  have h : IntKind.i8.wrap n = i8 n := by simp only [IntKind.wrap, IntKind.bits, IntKind.signed, i8]; simp; split <;> omega
  have h2 : RowKit.wrap64 (i8 n) = i8 n := by unfold RowKit.wrap64 i8; omega
  rw [h, h2]; rfl
theorem nr_i16 (n : Int) : wd (RowKit.wrap64 (IntKind.i16.wrap n)) = nr 3 n := by
  have h : IntKind.i16.wrap n = i16 n := by simp only [IntKind.wrap, IntKind.bits, IntKind.signed, i16]; simp; split <;> omega
  have h2 : RowKit.wrap64 (i16 n) = i16 n := by unfold RowKit.wrap64 i16; omega
  rw [h, h2]; rfl
theorem nr_u16 (n : Int) : RowKit.wrap64 (IntKind.u16.wrap n) = nr 4 n := by
  have h : IntKind.u16.wrap n = n % 65536 := by simp [IntKind.wrap, IntKind.bits, IntKind.signed]
  have h2 : RowKit.wrap64 (n % 65536) = n % 65536 := by unfold RowKit.wrap64; omega
  rw [h, h2]; rfl
theorem nrs1h (n : Int) (h : 128 ≤ wd n % 256) : wd (wd n % 256 - 256) = nr 1 n := by
  show _ = wd (i8 n); unfold wd at *; unfold i8; omega
theorem nrs1l (n : Int) (h : wd n % 256 < 128) : wd (wd n % 256) = nr 1 n := by
  show _ = wd (i8 n); unfold wd at *; unfold i8; omega
theorem nrs2 (n : Int) : wd (wd n % 256) = nr 2 n := by show _ = n % 256; unfold wd; omega
theorem nrs3h (n : Int) (h : 32768 ≤ wd n % 65536) : wd (wd n % 65536 - 65536) = nr 3 n := by
  show _ = wd (i16 n); unfold wd at *; unfold i16; omega
theorem nrs3l (n : Int) (h : wd n % 65536 < 32768) : wd (wd n % 65536) = nr 3 n := by
  show _ = wd (i16 n); unfold wd at *; unfold i16; omega
theorem nrs4 (n : Int) : wd (wd n % 65536) = nr 4 n := by show _ = n % 65536; unfold wd; omega
theorem nrs5 (n : Int) : wd (wd n % 4294967296) = nr 5 n := by show _ = wd n; unfold wd; omega
end Go.Proofs.YtgpmplcamdophaaDoor.Pl
namespace Go.Proofs.YtgpmplcamdophaaDoor.W
open Go.RowKit
theorem ret2 {k : IntKind} {a b : Int} {p q : Bool} (h : a = b) (h' : p = q) : Ending.returned (.tuple #[.int k a, .bool p]) = .returned (.tuple #[.int k b, .bool q]) := by rw [h, h']
set_option maxHeartbeats 400000 in
theorem specPower_any (n : Int) (k : Nat) (hn : n = k) (hk : k ≤ 62) (w : World) : Calls Tryd.prog 51 #[.int .i64 n] w fun e w' => e = .returned (.int .i64 (Pl.pw k)) ∧ w' = w := by
  subst hn
  go_enter Tryd.func51, Tryd.ntmps51
  go_wp2
  go_loop [3, 4] (fun v i => ∃ j : Nat, j ≤ k ∧ i = .int .i64 j ∧ v = .int .i64 (Pl.pw j)) (fun _ i => k - (intOf i).toNat)
  case atStart => exact ⟨0, Nat.zero_le _, rfl, rfl⟩
  case round =>
    obtain ⟨j, hj, rfl, rfl⟩ := hrel
    have h1 := Pl.pw_pos j
    have h2 := Pl.pw_le62 j (by omega)
    by_cases hlt : j < k
    · have h3 := Pl.pw_le62 (j + 1) (by omega)
      have h4 := Pl.pw_succ j
      have h5 : Pl.pw j * 2 ≤ 4611686018427387904 := by omega
      have H : Hid (Pl.pw (j + 1) = Pl.pw j * 2) := h4
      clear h3 h4
      go_wp2
      go_round
      case rel => exact ⟨j + 1, by omega, by go_num, by rw [H.out]⟩
      case measure => simp [intOf]; omega
    · have e : j = k := by omega
      subst e
      go_wp2
      go_ret
      exact ⟨rfl, rfl⟩
theorem specPower8 (w : World) : Calls Tryd.prog 51 #[.int .i64 8] w fun e w' => e = .returned (.int .i64 256) ∧ w' = w := specPower_any 8 8 rfl (by decide) w
theorem specPower16 (w : World) : Calls Tryd.prog 51 #[.int .i64 16] w fun e w' => e = .returned (.int .i64 65536) ∧ w' = w := specPower_any 16 16 rfl (by decide) w
theorem specPower32 (w : World) : Calls Tryd.prog 51 #[.int .i64 32] w fun e w' => e = .returned (.int .i64 4294967296) ∧ w' = w := specPower_any 32 32 rfl (by decide) w
end Go.Proofs.YtgpmplcamdophaaDoor.W
