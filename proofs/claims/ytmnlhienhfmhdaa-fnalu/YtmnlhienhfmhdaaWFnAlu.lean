import Derived.Test.YtmnlhienhfmhdaaFnAluMath
namespace Go.Proofs.Ytmnlhienhfmhdaa.W
open Go.RowKit
def alv (n a b : Int) : Int := if 1 ≤ n ∧ n ≤ 18 then Pl.al n.toNat (Pl.wd a) (Pl.wd b) else 0
def alb (n : Int) : Bool := decide (1 ≤ n ∧ n ≤ 18)
theorem specAlu_any (n a b : Int) {B : Nat} {w0 w : World} (hb : Below B w0 w) : Calls Try.prog 31 #[.int .i64 n, .int .i64 a, .int .i64 b] w fun e w' => e = .returned (.tuple #[.int .i64 (alv n a b), .bool (alb n)]) ∧ Below B w0 w' := by
  by_cases h : 1 ≤ n ∧ n ≤ 18
  · have e1 : alv n a b = Pl.al n.toNat (Pl.wd a) (Pl.wd b) := if_pos h
    have e2 : alb n = true := decide_eq_true h
    rw [e1, e2]
    refine (specAlu_yes n a b h.1 h.2 w).mono ?_
    rintro e u ⟨rfl, m, rfl⟩
    exact ⟨rfl, below_drewN hb m⟩
  · have e1 : alv n a b = 0 := if_neg h
    have e2 : alb n = false := decide_eq_false h
    rw [e1, e2]
    refine (specAlu_no n a b (by omega) w).mono ?_
    rintro e u ⟨rfl, m, rfl⟩
    exact ⟨rfl, below_drewN hb m⟩
theorem implAlu_any (n a b : Int) {B : Nat} {w0 w : World} (hb : Below B w0 w) (hB : B ≤ w0.heap.size) : Calls Try.prog 32 #[.int .i64 n, .int .i64 a, .int .i64 b] w fun e w' => e = .returned (.tuple #[.int .i64 (alv n a b), .bool (alb n)]) ∧ Below B w0 w' := by
  by_cases h : 1 ≤ n ∧ n ≤ 18
  · have e1 : alv n a b = Pl.al n.toNat (Pl.wd a) (Pl.wd b) := if_pos h
    have e2 : alb n = true := decide_eq_true h
    rw [e1, e2]
    refine (implAlu_yes n a b h.1 h.2 w).mono ?_
    rintro e u ⟨rfl, hb'⟩
    exact ⟨rfl, hb.trans (hb'.mono (Nat.le_trans hB hb.size))⟩
  · have e1 : alv n a b = 0 := if_neg h
    have e2 : alb n = false := decide_eq_false h
    rw [e1, e2]
    refine (implAlu_no n a b (by omega) w).mono ?_
    rintro e u ⟨rfl, hb'⟩
    exact ⟨rfl, hb.trans (hb'.mono (Nat.le_trans hB hb.size))⟩
theorem implAluF_11 (a b : Int) {B : Nat} {w0 w : World} (hb : Below B w0 w) (hB : B ≤ w0.heap.size) : Calls Try.prog 32 #[.int .i64 11, .int .i64 a, .int .i64 b] w fun e w' => e = .returned (.tuple #[.int .i64 (Pl.al 11 (Pl.wd a) (Pl.wd b)), .bool true]) ∧ Below B w0 w' := by
  refine (implAlu_11 a b w).mono ?_
  rintro e u ⟨rfl, hb'⟩
  exact ⟨rfl, hb.trans (hb'.mono (Nat.le_trans hB hb.size))⟩
theorem implAluF_12 (a b : Int) {B : Nat} {w0 w : World} (hb : Below B w0 w) (hB : B ≤ w0.heap.size) : Calls Try.prog 32 #[.int .i64 12, .int .i64 a, .int .i64 b] w fun e w' => e = .returned (.tuple #[.int .i64 (Pl.al 12 (Pl.wd a) (Pl.wd b)), .bool true]) ∧ Below B w0 w' := by
  refine (implAlu_12 a b w).mono ?_
  rintro e u ⟨rfl, hb'⟩
  exact ⟨rfl, hb.trans (hb'.mono (Nat.le_trans hB hb.size))⟩
theorem implAluF_13 (a b : Int) {B : Nat} {w0 w : World} (hb : Below B w0 w) (hB : B ≤ w0.heap.size) : Calls Try.prog 32 #[.int .i64 13, .int .i64 a, .int .i64 b] w fun e w' => e = .returned (.tuple #[.int .i64 (Pl.al 13 (Pl.wd a) (Pl.wd b)), .bool true]) ∧ Below B w0 w' := by
  refine (implAlu_13 a b w).mono ?_
  rintro e u ⟨rfl, hb'⟩
  exact ⟨rfl, hb.trans (hb'.mono (Nat.le_trans hB hb.size))⟩
theorem implAluF_14 (a b : Int) {B : Nat} {w0 w : World} (hb : Below B w0 w) (hB : B ≤ w0.heap.size) : Calls Try.prog 32 #[.int .i64 14, .int .i64 a, .int .i64 b] w fun e w' => e = .returned (.tuple #[.int .i64 (Pl.al 14 (Pl.wd a) (Pl.wd b)), .bool true]) ∧ Below B w0 w' := by
  refine (implAlu_14 a b w).mono ?_
  rintro e u ⟨rfl, hb'⟩
  exact ⟨rfl, hb.trans (hb'.mono (Nat.le_trans hB hb.size))⟩
theorem implAluF_15 (a b : Int) {B : Nat} {w0 w : World} (hb : Below B w0 w) (hB : B ≤ w0.heap.size) : Calls Try.prog 32 #[.int .i64 15, .int .i64 a, .int .i64 b] w fun e w' => e = .returned (.tuple #[.int .i64 (Pl.al 15 (Pl.wd a) (Pl.wd b)), .bool true]) ∧ Below B w0 w' := by
  refine (implAlu_15 a b w).mono ?_
  rintro e u ⟨rfl, hb'⟩
  exact ⟨rfl, hb.trans (hb'.mono (Nat.le_trans hB hb.size))⟩
theorem implAluF_16 (a b : Int) {B : Nat} {w0 w : World} (hb : Below B w0 w) (hB : B ≤ w0.heap.size) : Calls Try.prog 32 #[.int .i64 16, .int .i64 a, .int .i64 b] w fun e w' => e = .returned (.tuple #[.int .i64 (Pl.al 16 (Pl.wd a) (Pl.wd b)), .bool true]) ∧ Below B w0 w' := by
  refine (implAlu_16 a b w).mono ?_
  rintro e u ⟨rfl, hb'⟩
  exact ⟨rfl, hb.trans (hb'.mono (Nat.le_trans hB hb.size))⟩
theorem implAluF_17 (a b : Int) {B : Nat} {w0 w : World} (hb : Below B w0 w) (hB : B ≤ w0.heap.size) : Calls Try.prog 32 #[.int .i64 17, .int .i64 a, .int .i64 b] w fun e w' => e = .returned (.tuple #[.int .i64 (Pl.al 17 (Pl.wd a) (Pl.wd b)), .bool true]) ∧ Below B w0 w' := by
  refine (implAlu_17 a b w).mono ?_
  rintro e u ⟨rfl, hb'⟩
  exact ⟨rfl, hb.trans (hb'.mono (Nat.le_trans hB hb.size))⟩
theorem implAluF_18 (a b : Int) {B : Nat} {w0 w : World} (hb : Below B w0 w) (hB : B ≤ w0.heap.size) : Calls Try.prog 32 #[.int .i64 18, .int .i64 a, .int .i64 b] w fun e w' => e = .returned (.tuple #[.int .i64 (Pl.al 18 (Pl.wd a) (Pl.wd b)), .bool true]) ∧ Below B w0 w' := by
  refine (implAlu_18 a b w).mono ?_
  rintro e u ⟨rfl, hb'⟩
  exact ⟨rfl, hb.trans (hb'.mono (Nat.le_trans hB hb.size))⟩
set_option maxHeartbeats 400000 in
theorem drawAlu_any (w : World) (a : Option Addr) (len cap : Nat) (h : IsBytes w a len cap) : Calls Try.prog 33 #[.slice a len cap] w fun e w' => ∃ k n m : Int, e = .returned (.tuple #[.int .i64 k, .int .i64 n, .int .i64 m]) ∧ Below w.heap.size w w' := by
  have HH : Hid (IsBytes w a len cap) := h
  clear h
  go_enter Try.func33, Try.ntmps33
  go_wp2_with fail
  refine (open_any _ _ _ _ HH.out).mono ?_
  rintro e w1 ⟨rfl, R1, B1⟩
  have H1 : Hid (RdOk w1 w.heap.size) := R1
  clear R1
  go_wp2_with fail
  refine (next_any _ _ H1.out).mono ?_
  rintro e w2 ⟨m, rfl, hm, R2, B2⟩
  have H2 : Hid (RdOk w2 w.heap.size) := R2
  clear R2
  go_wp2_with fail
  refine (num_any _ _ H2.out).mono ?_
  rintro e w3 ⟨n, rfl, R3, B3⟩
  have H3 : Hid (RdOk w3 w.heap.size) := R3
  clear R3
  go_wp2_with fail
  refine (num_any _ _ H3.out).mono ?_
  rintro e w4 ⟨n', rfl, R4, B4⟩
  clear R4
  go_wp2_with fail
  go_ret3
  exact ⟨_, _, _, rfl, ((B1.trans B2).trans B3).trans B4⟩
set_option maxHeartbeats 2000000 in
set_option maxRecDepth 20000 in
theorem fnAlu_walk (a0 : Option Addr) (len0 cap0 : Nat) (w : World) (h : IsBytes w a0 len0 cap0) :
    Calls Try.prog 12 #[.slice a0 len0 cap0] w fun e w' => e = .returned (.bool true) ∧ Below w.heap.size w w' := by
  have h1 := h.1
  have h2 := h.2.1
  unfold maxLen at h2
  have HH : Hid (IsBytes w a0 len0 cap0) := h
  clear h
  by_cases hl : 1048576 < len0
  · go_enter Try.func12, Try.ntmps12
    go_wp2
    go_ret
    exact ⟨rfl, Below.refl _ _⟩
  go_enter Try.func12, Try.ntmps12
  go_wp2_with fail
  refine (drawAlu_any _ _ _ _ HH.out).mono ?_
  rintro e w1 ⟨k, a, b, rfl, B1⟩
  have B : Hid (Below w.heap.size w w1) := B1
  clear B1 HH h1 h2 hl
  go_wp2_with fail
  refine (specAlu_any k a b B.out).mono ?_
  rintro e u1 ⟨rfl, hbn⟩
  clear B
  have B : Hid (Below w.heap.size w u1) := hbn
  clear hbn
  go_wp2_with fail
  refine (implAlu_any k a b B.out (Nat.le_refl _)).mono ?_
  rintro e u2 ⟨rfl, hbn⟩
  clear B
  have B : Hid (Below w.heap.size w u2) := hbn
  clear hbn
  go_wp2_with fail
  refine (implAluF_11 a b B.out (Nat.le_refl _)).mono ?_
  rintro e u3 ⟨rfl, hbn⟩
  clear B
  have B : Hid (Below w.heap.size w u3) := hbn
  clear hbn
  go_wp2_with fail
  refine (implAluF_14 a b B.out (Nat.le_refl _)).mono ?_
  rintro e u4 ⟨rfl, hbn⟩
  clear B
  have B : Hid (Below w.heap.size w u4) := hbn
  clear hbn
  have xs := Pl.wd_bd a
  have ys := Pl.wd_bd b
  have hb := Pl.al14_bd (Pl.wd a) (Pl.wd b)
  have p1 : 0 ≤ Pl.wd a % 65536 * (Pl.wd b / 65536) := Int.mul_nonneg (by omega) (by omega)
  have p2 : 0 ≤ Pl.wd a / 65536 * (Pl.wd b % 65536) := Int.mul_nonneg (by omega) (by omega)
  have p3 : 0 ≤ Pl.wd a % 65536 * (Pl.wd b % 65536) := Int.mul_nonneg (by omega) (by omega)
  have p4 : 0 ≤ Pl.wd a / 65536 * (Pl.wd b / 65536) := Int.mul_nonneg (by omega) (by omega)
  have q1 : Pl.wd a % 65536 * (Pl.wd b / 65536) ≤ 4294836225 := (Pl.mul_bd _ _ 65535 65535 (by decide) (by omega) (by omega) (by omega) (by omega)).2
  have q2 : Pl.wd a / 65536 * (Pl.wd b % 65536) ≤ 4294836225 := (Pl.mul_bd _ _ 65535 65535 (by decide) (by omega) (by omega) (by omega) (by omega)).2
  have q3 : Pl.wd a % 65536 * (Pl.wd b % 65536) ≤ 4294836225 := (Pl.mul_bd _ _ 65535 65535 (by decide) (by omega) (by omega) (by omega) (by omega)).2
  have q4 : Pl.wd a / 65536 * (Pl.wd b / 65536) ≤ 4294836225 := (Pl.mul_bd _ _ 65535 65535 (by decide) (by omega) (by omega) (by omega) (by omega)).2
  have E11 := Pl.e11 (Pl.wd a) (Pl.wd b)
  have E14 := Pl.e14 (Pl.wd a) (Pl.wd b) xs.1 xs.2 ys.1 ys.2
  rcases Classical.em (2147483648 ≤ Pl.wd a) with hx | hx <;> rcases Classical.em (2147483648 ≤ Pl.wd b) with hy | hy
  · have E12 := Pl.e12hh (Pl.wd a) (Pl.wd b) hx xs.2 hy ys.2
    have E13 := Pl.e13h (Pl.wd a) (Pl.wd b) hx xs.2
    go_wp2_with (first | (go_at_call 16; refine (implWord_any _ _).mono ?_; rintro e w' ⟨rfl, rfl⟩) | (go_at_call 20; refine (implSigned_any _ _).mono ?_; rintro e w' ⟨rfl, rfl⟩))
    refine (implAluF_12 a b B.out (Nat.le_refl _)).mono ?_
    rintro e u5 ⟨rfl, hbn⟩
    clear B
    have B : Hid (Below w.heap.size w u5) := hbn
    clear hbn
    go_wp2_with (first | (go_at_call 16; refine (implWord_any _ _).mono ?_; rintro e w' ⟨rfl, rfl⟩) | (go_at_call 20; refine (implSigned_any _ _).mono ?_; rintro e w' ⟨rfl, rfl⟩))
    refine (implAluF_13 a b B.out (Nat.le_refl _)).mono ?_
    rintro e u6 ⟨rfl, hbn⟩
    clear B
    have B : Hid (Below w.heap.size w u6) := hbn
    clear hbn
    go_wp2_with (first | (go_at_call 16; refine (implWord_any _ _).mono ?_; rintro e w' ⟨rfl, rfl⟩) | (go_at_call 20; refine (implSigned_any _ _).mono ?_; rintro e w' ⟨rfl, rfl⟩))
    refine (implAluF_16 a b B.out (Nat.le_refl _)).mono ?_
    rintro e u7 ⟨rfl, hbn⟩
    clear B
    have B : Hid (Below w.heap.size w u7) := hbn
    clear hbn
    go_wp2_with (first | (go_at_call 16; refine (implWord_any _ _).mono ?_; rintro e w' ⟨rfl, rfl⟩) | (go_at_call 20; refine (implSigned_any _ _).mono ?_; rintro e w' ⟨rfl, rfl⟩))
    refine (implAluF_18 a b B.out (Nat.le_refl _)).mono ?_
    rintro e u8 ⟨rfl, hbn⟩
    clear B
    have B : Hid (Below w.heap.size w u8) := hbn
    clear hbn
    go_wp2_with (first | (go_at_call 16; refine (implWord_any _ _).mono ?_; rintro e w' ⟨rfl, rfl⟩) | (go_at_call 20; refine (implSigned_any _ _).mono ?_; rintro e w' ⟨rfl, rfl⟩))
    refine (implAluF_15 a b B.out (Nat.le_refl _)).mono ?_
    rintro e u9 ⟨rfl, hbn⟩
    clear B
    have B : Hid (Below w.heap.size w u9) := hbn
    clear hbn
    go_wp2_with (first | (go_at_call 16; refine (implWord_any _ _).mono ?_; rintro e w' ⟨rfl, rfl⟩) | (go_at_call 20; refine (implSigned_any _ _).mono ?_; rintro e w' ⟨rfl, rfl⟩))
    refine (implAluF_17 a b B.out (Nat.le_refl _)).mono ?_
    rintro e u10 ⟨rfl, hbn⟩
    clear B
    have B : Hid (Below w.heap.size w u10) := hbn
    clear hbn
    have t0 : (Pl.wd b == 0) = false := by simp; omega
    obtain ⟨D1, D2, D3, D4, D5⟩ := Pl.udiv (Pl.wd a) (Pl.wd b) xs.1 xs.2 (by omega)
    have D6 : Pl.wd (Pl.sg (Pl.al 15 (Pl.wd a) (Pl.wd b)) * Pl.sg b + Pl.sg (Pl.al 17 (Pl.wd a) (Pl.wd b))) = Pl.wd a := by rw [← Pl.sg_wd b]; exact Pl.sdiv (Pl.wd a) (Pl.wd b) xs.1 xs.2 (by omega)
    have s1 := Pl.sg_bd (Pl.al 15 (Pl.wd a) (Pl.wd b))
    have s2 := Pl.sg_bd b
    have s3 := Pl.sg_bd (Pl.al 17 (Pl.wd a) (Pl.wd b))
    have s4 : -4611686018427387904 ≤ Pl.sg (Pl.al 15 (Pl.wd a) (Pl.wd b)) * Pl.sg b ∧ Pl.sg (Pl.al 15 (Pl.wd a) (Pl.wd b)) * Pl.sg b ≤ 4611686018427387904 := Pl.mul_bd _ _ 2147483648 2147483648 (by decide) (by omega) (by omega) (by omega) (by omega)
    go_wp2_with (first | (go_at_call 16; refine (implWord_any _ _).mono ?_; rintro e w' ⟨rfl, rfl⟩) | (go_at_call 20; refine (implSigned_any _ _).mono ?_; rintro e w' ⟨rfl, rfl⟩))
    go_ret
    exact ⟨rfl, B.out⟩
  · have E12 := Pl.e12hl (Pl.wd a) (Pl.wd b) hx xs.2 ys.1 (by omega)
    have E13 : Pl.al 13 (Pl.wd a) (Pl.wd b) = Pl.al 12 (Pl.wd a) (Pl.wd b) := by rw [← Pl.e13h (Pl.wd a) (Pl.wd b) hx xs.2, E12]
    go_wp2_with (first | (go_at_call 16; refine (implWord_any _ _).mono ?_; rintro e w' ⟨rfl, rfl⟩) | (go_at_call 20; refine (implSigned_any _ _).mono ?_; rintro e w' ⟨rfl, rfl⟩))
    refine (implAluF_12 a b B.out (Nat.le_refl _)).mono ?_
    rintro e u5 ⟨rfl, hbn⟩
    clear B
    have B : Hid (Below w.heap.size w u5) := hbn
    clear hbn
    go_wp2_with (first | (go_at_call 16; refine (implWord_any _ _).mono ?_; rintro e w' ⟨rfl, rfl⟩) | (go_at_call 20; refine (implSigned_any _ _).mono ?_; rintro e w' ⟨rfl, rfl⟩))
    refine (implAluF_13 a b B.out (Nat.le_refl _)).mono ?_
    rintro e u6 ⟨rfl, hbn⟩
    clear B
    have B : Hid (Below w.heap.size w u6) := hbn
    clear hbn
    go_wp2_with (first | (go_at_call 16; refine (implWord_any _ _).mono ?_; rintro e w' ⟨rfl, rfl⟩) | (go_at_call 20; refine (implSigned_any _ _).mono ?_; rintro e w' ⟨rfl, rfl⟩))
    refine (implAluF_16 a b B.out (Nat.le_refl _)).mono ?_
    rintro e u7 ⟨rfl, hbn⟩
    clear B
    have B : Hid (Below w.heap.size w u7) := hbn
    clear hbn
    go_wp2_with (first | (go_at_call 16; refine (implWord_any _ _).mono ?_; rintro e w' ⟨rfl, rfl⟩) | (go_at_call 20; refine (implSigned_any _ _).mono ?_; rintro e w' ⟨rfl, rfl⟩))
    refine (implAluF_18 a b B.out (Nat.le_refl _)).mono ?_
    rintro e u8 ⟨rfl, hbn⟩
    clear B
    have B : Hid (Below w.heap.size w u8) := hbn
    clear hbn
    go_wp2_with (first | (go_at_call 16; refine (implWord_any _ _).mono ?_; rintro e w' ⟨rfl, rfl⟩) | (go_at_call 20; refine (implSigned_any _ _).mono ?_; rintro e w' ⟨rfl, rfl⟩))
    refine (implAluF_15 a b B.out (Nat.le_refl _)).mono ?_
    rintro e u9 ⟨rfl, hbn⟩
    clear B
    have B : Hid (Below w.heap.size w u9) := hbn
    clear hbn
    go_wp2_with (first | (go_at_call 16; refine (implWord_any _ _).mono ?_; rintro e w' ⟨rfl, rfl⟩) | (go_at_call 20; refine (implSigned_any _ _).mono ?_; rintro e w' ⟨rfl, rfl⟩))
    refine (implAluF_17 a b B.out (Nat.le_refl _)).mono ?_
    rintro e u10 ⟨rfl, hbn⟩
    clear B
    have B : Hid (Below w.heap.size w u10) := hbn
    clear hbn
    by_cases hz : Pl.wd b = 0
    · have t0 : (Pl.wd b == 0) = true := by simp [hz]
      have Z16 := Pl.z16 (Pl.wd a) (Pl.wd b) hz
      have Z15 := Pl.z15 (Pl.wd a) (Pl.wd b) hz
      have Z18 := Pl.z18 (Pl.wd a) (Pl.wd b) hz
      have Z17 := Pl.z17 (Pl.wd a) (Pl.wd b) hz
      clear hz
      go_wp2_with (first | (go_at_call 16; refine (implWord_any _ _).mono ?_; rintro e w' ⟨rfl, rfl⟩) | (go_at_call 20; refine (implSigned_any _ _).mono ?_; rintro e w' ⟨rfl, rfl⟩))
      go_ret
      exact ⟨rfl, B.out⟩
    · have t0 : (Pl.wd b == 0) = false := by simp [hz]
      obtain ⟨D1, D2, D3, D4, D5⟩ := Pl.udiv (Pl.wd a) (Pl.wd b) xs.1 xs.2 (by omega)
      have D6 : Pl.wd (Pl.sg (Pl.al 15 (Pl.wd a) (Pl.wd b)) * Pl.sg b + Pl.sg (Pl.al 17 (Pl.wd a) (Pl.wd b))) = Pl.wd a := by rw [← Pl.sg_wd b]; exact Pl.sdiv (Pl.wd a) (Pl.wd b) xs.1 xs.2 (by omega)
      have s1 := Pl.sg_bd (Pl.al 15 (Pl.wd a) (Pl.wd b))
      have s2 := Pl.sg_bd b
      have s3 := Pl.sg_bd (Pl.al 17 (Pl.wd a) (Pl.wd b))
      have s4 : -4611686018427387904 ≤ Pl.sg (Pl.al 15 (Pl.wd a) (Pl.wd b)) * Pl.sg b ∧ Pl.sg (Pl.al 15 (Pl.wd a) (Pl.wd b)) * Pl.sg b ≤ 4611686018427387904 := Pl.mul_bd _ _ 2147483648 2147483648 (by decide) (by omega) (by omega) (by omega) (by omega)
      go_wp2_with (first | (go_at_call 16; refine (implWord_any _ _).mono ?_; rintro e w' ⟨rfl, rfl⟩) | (go_at_call 20; refine (implSigned_any _ _).mono ?_; rintro e w' ⟨rfl, rfl⟩))
      go_ret
      exact ⟨rfl, B.out⟩
  · have E12 := Pl.e12lh (Pl.wd a) (Pl.wd b) xs.1 (by omega) hy ys.2
    have E13 := Pl.e13l (Pl.wd a) (Pl.wd b) xs.1 (by omega)
    go_wp2_with (first | (go_at_call 16; refine (implWord_any _ _).mono ?_; rintro e w' ⟨rfl, rfl⟩) | (go_at_call 20; refine (implSigned_any _ _).mono ?_; rintro e w' ⟨rfl, rfl⟩))
    refine (implAluF_12 a b B.out (Nat.le_refl _)).mono ?_
    rintro e u5 ⟨rfl, hbn⟩
    clear B
    have B : Hid (Below w.heap.size w u5) := hbn
    clear hbn
    go_wp2_with (first | (go_at_call 16; refine (implWord_any _ _).mono ?_; rintro e w' ⟨rfl, rfl⟩) | (go_at_call 20; refine (implSigned_any _ _).mono ?_; rintro e w' ⟨rfl, rfl⟩))
    refine (implAluF_13 a b B.out (Nat.le_refl _)).mono ?_
    rintro e u6 ⟨rfl, hbn⟩
    clear B
    have B : Hid (Below w.heap.size w u6) := hbn
    clear hbn
    go_wp2_with (first | (go_at_call 16; refine (implWord_any _ _).mono ?_; rintro e w' ⟨rfl, rfl⟩) | (go_at_call 20; refine (implSigned_any _ _).mono ?_; rintro e w' ⟨rfl, rfl⟩))
    refine (implAluF_16 a b B.out (Nat.le_refl _)).mono ?_
    rintro e u7 ⟨rfl, hbn⟩
    clear B
    have B : Hid (Below w.heap.size w u7) := hbn
    clear hbn
    go_wp2_with (first | (go_at_call 16; refine (implWord_any _ _).mono ?_; rintro e w' ⟨rfl, rfl⟩) | (go_at_call 20; refine (implSigned_any _ _).mono ?_; rintro e w' ⟨rfl, rfl⟩))
    refine (implAluF_18 a b B.out (Nat.le_refl _)).mono ?_
    rintro e u8 ⟨rfl, hbn⟩
    clear B
    have B : Hid (Below w.heap.size w u8) := hbn
    clear hbn
    go_wp2_with (first | (go_at_call 16; refine (implWord_any _ _).mono ?_; rintro e w' ⟨rfl, rfl⟩) | (go_at_call 20; refine (implSigned_any _ _).mono ?_; rintro e w' ⟨rfl, rfl⟩))
    refine (implAluF_15 a b B.out (Nat.le_refl _)).mono ?_
    rintro e u9 ⟨rfl, hbn⟩
    clear B
    have B : Hid (Below w.heap.size w u9) := hbn
    clear hbn
    go_wp2_with (first | (go_at_call 16; refine (implWord_any _ _).mono ?_; rintro e w' ⟨rfl, rfl⟩) | (go_at_call 20; refine (implSigned_any _ _).mono ?_; rintro e w' ⟨rfl, rfl⟩))
    refine (implAluF_17 a b B.out (Nat.le_refl _)).mono ?_
    rintro e u10 ⟨rfl, hbn⟩
    clear B
    have B : Hid (Below w.heap.size w u10) := hbn
    clear hbn
    have t0 : (Pl.wd b == 0) = false := by simp; omega
    obtain ⟨D1, D2, D3, D4, D5⟩ := Pl.udiv (Pl.wd a) (Pl.wd b) xs.1 xs.2 (by omega)
    have D6 : Pl.wd (Pl.sg (Pl.al 15 (Pl.wd a) (Pl.wd b)) * Pl.sg b + Pl.sg (Pl.al 17 (Pl.wd a) (Pl.wd b))) = Pl.wd a := by rw [← Pl.sg_wd b]; exact Pl.sdiv (Pl.wd a) (Pl.wd b) xs.1 xs.2 (by omega)
    have s1 := Pl.sg_bd (Pl.al 15 (Pl.wd a) (Pl.wd b))
    have s2 := Pl.sg_bd b
    have s3 := Pl.sg_bd (Pl.al 17 (Pl.wd a) (Pl.wd b))
    have s4 : -4611686018427387904 ≤ Pl.sg (Pl.al 15 (Pl.wd a) (Pl.wd b)) * Pl.sg b ∧ Pl.sg (Pl.al 15 (Pl.wd a) (Pl.wd b)) * Pl.sg b ≤ 4611686018427387904 := Pl.mul_bd _ _ 2147483648 2147483648 (by decide) (by omega) (by omega) (by omega) (by omega)
    go_wp2_with (first | (go_at_call 16; refine (implWord_any _ _).mono ?_; rintro e w' ⟨rfl, rfl⟩) | (go_at_call 20; refine (implSigned_any _ _).mono ?_; rintro e w' ⟨rfl, rfl⟩))
    go_ret
    exact ⟨rfl, B.out⟩
  · have E12 := Pl.e12ll (Pl.wd a) (Pl.wd b) xs.1 (by omega) ys.1 (by omega)
    have E13 : Pl.al 13 (Pl.wd a) (Pl.wd b) = Pl.al 12 (Pl.wd a) (Pl.wd b) := by rw [← Pl.e13l (Pl.wd a) (Pl.wd b) xs.1 (by omega), E12]
    go_wp2_with (first | (go_at_call 16; refine (implWord_any _ _).mono ?_; rintro e w' ⟨rfl, rfl⟩) | (go_at_call 20; refine (implSigned_any _ _).mono ?_; rintro e w' ⟨rfl, rfl⟩))
    refine (implAluF_12 a b B.out (Nat.le_refl _)).mono ?_
    rintro e u5 ⟨rfl, hbn⟩
    clear B
    have B : Hid (Below w.heap.size w u5) := hbn
    clear hbn
    go_wp2_with (first | (go_at_call 16; refine (implWord_any _ _).mono ?_; rintro e w' ⟨rfl, rfl⟩) | (go_at_call 20; refine (implSigned_any _ _).mono ?_; rintro e w' ⟨rfl, rfl⟩))
    refine (implAluF_13 a b B.out (Nat.le_refl _)).mono ?_
    rintro e u6 ⟨rfl, hbn⟩
    clear B
    have B : Hid (Below w.heap.size w u6) := hbn
    clear hbn
    go_wp2_with (first | (go_at_call 16; refine (implWord_any _ _).mono ?_; rintro e w' ⟨rfl, rfl⟩) | (go_at_call 20; refine (implSigned_any _ _).mono ?_; rintro e w' ⟨rfl, rfl⟩))
    refine (implAluF_16 a b B.out (Nat.le_refl _)).mono ?_
    rintro e u7 ⟨rfl, hbn⟩
    clear B
    have B : Hid (Below w.heap.size w u7) := hbn
    clear hbn
    go_wp2_with (first | (go_at_call 16; refine (implWord_any _ _).mono ?_; rintro e w' ⟨rfl, rfl⟩) | (go_at_call 20; refine (implSigned_any _ _).mono ?_; rintro e w' ⟨rfl, rfl⟩))
    refine (implAluF_18 a b B.out (Nat.le_refl _)).mono ?_
    rintro e u8 ⟨rfl, hbn⟩
    clear B
    have B : Hid (Below w.heap.size w u8) := hbn
    clear hbn
    go_wp2_with (first | (go_at_call 16; refine (implWord_any _ _).mono ?_; rintro e w' ⟨rfl, rfl⟩) | (go_at_call 20; refine (implSigned_any _ _).mono ?_; rintro e w' ⟨rfl, rfl⟩))
    refine (implAluF_15 a b B.out (Nat.le_refl _)).mono ?_
    rintro e u9 ⟨rfl, hbn⟩
    clear B
    have B : Hid (Below w.heap.size w u9) := hbn
    clear hbn
    go_wp2_with (first | (go_at_call 16; refine (implWord_any _ _).mono ?_; rintro e w' ⟨rfl, rfl⟩) | (go_at_call 20; refine (implSigned_any _ _).mono ?_; rintro e w' ⟨rfl, rfl⟩))
    refine (implAluF_17 a b B.out (Nat.le_refl _)).mono ?_
    rintro e u10 ⟨rfl, hbn⟩
    clear B
    have B : Hid (Below w.heap.size w u10) := hbn
    clear hbn
    by_cases hz : Pl.wd b = 0
    · have t0 : (Pl.wd b == 0) = true := by simp [hz]
      have Z16 := Pl.z16 (Pl.wd a) (Pl.wd b) hz
      have Z15 := Pl.z15 (Pl.wd a) (Pl.wd b) hz
      have Z18 := Pl.z18 (Pl.wd a) (Pl.wd b) hz
      have Z17 := Pl.z17 (Pl.wd a) (Pl.wd b) hz
      clear hz
      go_wp2_with (first | (go_at_call 16; refine (implWord_any _ _).mono ?_; rintro e w' ⟨rfl, rfl⟩) | (go_at_call 20; refine (implSigned_any _ _).mono ?_; rintro e w' ⟨rfl, rfl⟩))
      go_ret
      exact ⟨rfl, B.out⟩
    · have t0 : (Pl.wd b == 0) = false := by simp [hz]
      obtain ⟨D1, D2, D3, D4, D5⟩ := Pl.udiv (Pl.wd a) (Pl.wd b) xs.1 xs.2 (by omega)
      have D6 : Pl.wd (Pl.sg (Pl.al 15 (Pl.wd a) (Pl.wd b)) * Pl.sg b + Pl.sg (Pl.al 17 (Pl.wd a) (Pl.wd b))) = Pl.wd a := by rw [← Pl.sg_wd b]; exact Pl.sdiv (Pl.wd a) (Pl.wd b) xs.1 xs.2 (by omega)
      have s1 := Pl.sg_bd (Pl.al 15 (Pl.wd a) (Pl.wd b))
      have s2 := Pl.sg_bd b
      have s3 := Pl.sg_bd (Pl.al 17 (Pl.wd a) (Pl.wd b))
      have s4 : -4611686018427387904 ≤ Pl.sg (Pl.al 15 (Pl.wd a) (Pl.wd b)) * Pl.sg b ∧ Pl.sg (Pl.al 15 (Pl.wd a) (Pl.wd b)) * Pl.sg b ≤ 4611686018427387904 := Pl.mul_bd _ _ 2147483648 2147483648 (by decide) (by omega) (by omega) (by omega) (by omega)
      go_wp2_with (first | (go_at_call 16; refine (implWord_any _ _).mono ?_; rintro e w' ⟨rfl, rfl⟩) | (go_at_call 20; refine (implSigned_any _ _).mono ?_; rintro e w' ⟨rfl, rfl⟩))
      go_ret
      exact ⟨rfl, B.out⟩
end Go.Proofs.Ytmnlhienhfmhdaa.W
