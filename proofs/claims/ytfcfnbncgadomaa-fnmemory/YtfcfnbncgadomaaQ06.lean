import Derived.Test.YtfcfnbncgadomaaQ05
set_option linter.unusedVariables false
namespace Go.Proofs.Ytfcfnbncgadomaa.W
open Go.RowKit
set_option maxHeartbeats 2000000 in
theorem specEnc_2 (k : Nat) (h1 : 1 ≤ k) (h2 : k ≤ 42) (HF : Hid (Pl.fmN k = 2)) (HG : Hid ((19 ≤ k ∧ k ≤ 24) ∨ (28 ≤ k ∧ k ≤ 33))) (rd r1 r2 im : Int) (h : iok k rd r1 r2 im = true) (w : World)
    (d1 : 0 ≤ rd ∧ rd ≤ 31) (d2 : 0 ≤ r1 ∧ r1 ≤ 31) (d3 : 0 ≤ r2 ∧ r2 ≤ 31) (d4 : -1048576 ≤ im ∧ im ≤ 1048575) :
    Calls Try.prog 85 #[.agg #[.int .i64 k, .int .i64 rd, .int .i64 r1, .int .i64 r2, .int .i64 im]] w fun e w' => e = .returned (.tuple #[.int .i64 (Pl.cc k 0 + (Pl.wd im / Pl.pw 0 % Pl.pw 12 * 1048576) + (Pl.cc k 1 * 4096 + r1 * 32768) + r2 * 1048576 + rd * 128), .bool true]) ∧ Below w.heap.size w w' := by
  have b0 : 0 ≤ Pl.wd im / Pl.pw 0 % Pl.pw 12 ∧ Pl.wd im / Pl.pw 0 % Pl.pw 12 ≤ 4095 := by
    have h := Int.emod_nonneg (Pl.wd im / Pl.pw 0) (Int.ne_of_gt (Pl.pw_pos 12))
    have h' := Int.emod_lt_of_pos (Pl.wd im / Pl.pw 0) (Pl.pw_pos 12)
    have e : Pl.pw 12 = 4096 := by decide
    omega
  have q0 := Pl.cc_bd' k (by omega) 0 (by decide)
  have q1 := Pl.cc_bd' k (by omega) 1 (by decide)
  have q2 := Pl.cc_bd' k (by omega) 2 (by decide)
  have hk : ∀ w, Calls Try.prog 84 #[.int .i64 k] w fun e w' => e = .returned (.int .i64 2) ∧ w' = w := fun w => by
    have := form_any k h1 (by omega) w
    rw [HF.out] at this; exact this
  have HK : Hid (∀ w, Calls Try.prog 84 #[.int .i64 k] w fun e w' => e = .returned (.int .i64 2) ∧ w' = w) := hk
  clear hk
  go_enter Try.func85, Try.ntmps85
  go_wp2_with fail
  refine (specInstOk_any _ _ _ _ _ _).mono ?_
  rintro e u1 ⟨rfl, hb1⟩
  have c0 : u1.cell? ⟨w.heap.size, 0, none⟩ = some (.int .i64 k) := kept_cells' hb1 0
  have c1 : u1.cell? ⟨w.heap.size, 1, none⟩ = some (.int .i64 rd) := kept_cells' hb1 1
  have c2 : u1.cell? ⟨w.heap.size, 2, none⟩ = some (.int .i64 r1) := kept_cells' hb1 2
  have c3 : u1.cell? ⟨w.heap.size, 3, none⟩ = some (.int .i64 r2) := kept_cells' hb1 3
  have c4 : u1.cell? ⟨w.heap.size, 4, none⟩ = some (.int .i64 im) := kept_cells' hb1 4
  have hz : w.heap.size + 1 ≤ u1.heap.size := by have := hb1.size; simpa using this
  have HB : Hid (Below w.heap.size w u1) := ((Below.refl _ _).alloc (Nat.le_refl _) _).trans (hb1.mono (by simp))
  have n0 : ¬ w.heap.size = u1.heap.size := by omega
  clear hb1
  go_wp2_with (go_at_call 84; refine (HK.out _).mono ?_; rintro e u2 ⟨rfl, rfl⟩)
  go_quiet ((first | (go_at_call 91; exact Calls.quiet_of_same (c_any k h1 h2 _)) | (go_at_call 92; exact Calls.quiet_of (l2Imm_2 _ _))))
  go_upto_region 8 with fail
  obtain ⟨U, hU⟩ : ∃ U, u2.drewN nq = U := ⟨_, rfl⟩
  have m0 : U.cell? ⟨w.heap.size, 0, none⟩ = some (.int .i64 k) := by rw [← hU]; exact c0
  have m1 : U.cell? ⟨w.heap.size, 1, none⟩ = some (.int .i64 rd) := by rw [← hU]; exact c1
  have m2 : U.cell? ⟨w.heap.size, 2, none⟩ = some (.int .i64 r1) := by rw [← hU]; exact c2
  have m3 : U.cell? ⟨w.heap.size, 3, none⟩ = some (.int .i64 r2) := by rw [← hU]; exact c3
  have hlt : w.heap.size < U.heap.size := by rw [← hU]; exact hz
  have HW : Hid (Below w.heap.size w U) := by rw [← hU]; exact ⟨HB.out.os, HB.out.tape, HB.out.output, HB.out.size, HB.out.block⟩
  rw [hU]
  have k2 : ∀ o, (U.alloc o).cell? ⟨w.heap.size, 2, none⟩ = some (.int .i64 r1) := fun o => (((Below.refl U.heap.size U).alloc (Nat.le_refl _) o).cell (p := ⟨w.heap.size, 2, none⟩) hlt).trans m2
  have k3 : ∀ o, (U.alloc o).cell? ⟨w.heap.size, 3, none⟩ = some (.int .i64 r2) := fun o => (((Below.refl U.heap.size U).alloc (Nat.le_refl _) o).cell (p := ⟨w.heap.size, 3, none⟩) hlt).trans m3
  have HL : Hid (w.heap.size < U.heap.size) := hlt
  have n1 : ¬ w.heap.size = U.heap.size := by omega
  clear hU c0 c1 c2 c3 c4 hlt HB n0 hz HK
  go_cut [5] from 30 to 39 (fun v5 wx => v5 = .int .i64 (Pl.cc k 0 + (Pl.wd im / Pl.pw 0 % Pl.pw 12 * 1048576) + (Pl.cc k 1 * 4096 + r1 * 32768)) ∧ Below U.heap.size U wx)
  case first =>
    go_region_with (go_at_call 93; refine (l2F3_any k (by omega) _).mono ?_; rintro e v1 ⟨rfl, rfl⟩)
    all_goals
      go_wp2_with fail
      go_meet
      exact ⟨vint' (by first | rfl | (simp only [IntKind.wrap_i64]; omega)), (by repeat (first | exact Below.refl _ _ | refine Below.drew ?_ | refine Below.alloc ?_ (by simp <;> omega) _))⟩
  case rest =>
    obtain ⟨rfl, hbx⟩ := hcut
    have e0 : wc.cell? ⟨w.heap.size, 0, none⟩ = some (.int .i64 k) := (hbx.cell (p := ⟨w.heap.size, 0, none⟩) HL.out).trans m0
    have e1 : wc.cell? ⟨w.heap.size, 1, none⟩ = some (.int .i64 rd) := (hbx.cell (p := ⟨w.heap.size, 1, none⟩) HL.out).trans m1
    have e3 : wc.cell? ⟨w.heap.size, 3, none⟩ = some (.int .i64 r2) := (hbx.cell (p := ⟨w.heap.size, 3, none⟩) HL.out).trans m3
    have HE : Hid (Below w.heap.size w wc) := HW.out.trans (hbx.mono (Nat.le_of_lt HL.out))
    clear m0 m1 m2 m3 k2 k3 n1 hbx HL HW
    go_wp2
    go_ret2
    exact ⟨ret2 rfl rfl, HE.out⟩
set_option maxHeartbeats 2000000 in
theorem specEnc_4 (k : Nat) (h1 : 1 ≤ k) (h2 : k ≤ 42) (HF : Hid (Pl.fmN k = 4)) (HG : Hid (34 ≤ k ∧ k ≤ 36)) (rd r1 r2 im : Int) (h : iok k rd r1 r2 im = true) (w : World)
    (d1 : 0 ≤ rd ∧ rd ≤ 31) (d2 : 0 ≤ r1 ∧ r1 ≤ 31) (d3 : 0 ≤ r2 ∧ r2 ≤ 31) (d4 : -1048576 ≤ im ∧ im ≤ 1048575) :
    Calls Try.prog 85 #[.agg #[.int .i64 k, .int .i64 rd, .int .i64 r1, .int .i64 r2, .int .i64 im]] w fun e w' => e = .returned (.tuple #[.int .i64 (Pl.cc k 0 + (Pl.wd im / Pl.pw 5 % Pl.pw 7 * 33554432 + Pl.wd im / Pl.pw 0 % Pl.pw 5 * 128) + (Pl.cc k 1 * 4096 + r1 * 32768) + r2 * 1048576 + rd * 128), .bool true]) ∧ Below w.heap.size w w' := by
  have b0 : 0 ≤ Pl.wd im / Pl.pw 5 % Pl.pw 7 ∧ Pl.wd im / Pl.pw 5 % Pl.pw 7 ≤ 127 := by
    have h := Int.emod_nonneg (Pl.wd im / Pl.pw 5) (Int.ne_of_gt (Pl.pw_pos 7))
    have h' := Int.emod_lt_of_pos (Pl.wd im / Pl.pw 5) (Pl.pw_pos 7)
    have e : Pl.pw 7 = 128 := by decide
    omega
  have b1 : 0 ≤ Pl.wd im / Pl.pw 0 % Pl.pw 5 ∧ Pl.wd im / Pl.pw 0 % Pl.pw 5 ≤ 31 := by
    have h := Int.emod_nonneg (Pl.wd im / Pl.pw 0) (Int.ne_of_gt (Pl.pw_pos 5))
    have h' := Int.emod_lt_of_pos (Pl.wd im / Pl.pw 0) (Pl.pw_pos 5)
    have e : Pl.pw 5 = 32 := by decide
    omega
  have q0 := Pl.cc_bd' k (by omega) 0 (by decide)
  have q1 := Pl.cc_bd' k (by omega) 1 (by decide)
  have q2 := Pl.cc_bd' k (by omega) 2 (by decide)
  have hk : ∀ w, Calls Try.prog 84 #[.int .i64 k] w fun e w' => e = .returned (.int .i64 4) ∧ w' = w := fun w => by
    have := form_any k h1 (by omega) w
    rw [HF.out] at this; exact this
  have HK : Hid (∀ w, Calls Try.prog 84 #[.int .i64 k] w fun e w' => e = .returned (.int .i64 4) ∧ w' = w) := hk
  clear hk
  go_enter Try.func85, Try.ntmps85
  go_wp2_with fail
  refine (specInstOk_any _ _ _ _ _ _).mono ?_
  rintro e u1 ⟨rfl, hb1⟩
  have c0 : u1.cell? ⟨w.heap.size, 0, none⟩ = some (.int .i64 k) := kept_cells' hb1 0
  have c1 : u1.cell? ⟨w.heap.size, 1, none⟩ = some (.int .i64 rd) := kept_cells' hb1 1
  have c2 : u1.cell? ⟨w.heap.size, 2, none⟩ = some (.int .i64 r1) := kept_cells' hb1 2
  have c3 : u1.cell? ⟨w.heap.size, 3, none⟩ = some (.int .i64 r2) := kept_cells' hb1 3
  have c4 : u1.cell? ⟨w.heap.size, 4, none⟩ = some (.int .i64 im) := kept_cells' hb1 4
  have hz : w.heap.size + 1 ≤ u1.heap.size := by have := hb1.size; simpa using this
  have HB : Hid (Below w.heap.size w u1) := ((Below.refl _ _).alloc (Nat.le_refl _) _).trans (hb1.mono (by simp))
  have n0 : ¬ w.heap.size = u1.heap.size := by omega
  clear hb1
  go_wp2_with (go_at_call 84; refine (HK.out _).mono ?_; rintro e u2 ⟨rfl, rfl⟩)
  go_quiet ((first | (go_at_call 91; exact Calls.quiet_of_same (c_any k h1 h2 _)) | (go_at_call 92; exact Calls.quiet_of (l2Imm_4 _ _))))
  go_upto_region 8 with fail
  obtain ⟨U, hU⟩ : ∃ U, u2.drewN nq = U := ⟨_, rfl⟩
  have m0 : U.cell? ⟨w.heap.size, 0, none⟩ = some (.int .i64 k) := by rw [← hU]; exact c0
  have m1 : U.cell? ⟨w.heap.size, 1, none⟩ = some (.int .i64 rd) := by rw [← hU]; exact c1
  have m2 : U.cell? ⟨w.heap.size, 2, none⟩ = some (.int .i64 r1) := by rw [← hU]; exact c2
  have m3 : U.cell? ⟨w.heap.size, 3, none⟩ = some (.int .i64 r2) := by rw [← hU]; exact c3
  have hlt : w.heap.size < U.heap.size := by rw [← hU]; exact hz
  have HW : Hid (Below w.heap.size w U) := by rw [← hU]; exact ⟨HB.out.os, HB.out.tape, HB.out.output, HB.out.size, HB.out.block⟩
  rw [hU]
  have k2 : ∀ o, (U.alloc o).cell? ⟨w.heap.size, 2, none⟩ = some (.int .i64 r1) := fun o => (((Below.refl U.heap.size U).alloc (Nat.le_refl _) o).cell (p := ⟨w.heap.size, 2, none⟩) hlt).trans m2
  have k3 : ∀ o, (U.alloc o).cell? ⟨w.heap.size, 3, none⟩ = some (.int .i64 r2) := fun o => (((Below.refl U.heap.size U).alloc (Nat.le_refl _) o).cell (p := ⟨w.heap.size, 3, none⟩) hlt).trans m3
  have HL : Hid (w.heap.size < U.heap.size) := hlt
  have n1 : ¬ w.heap.size = U.heap.size := by omega
  clear hU c0 c1 c2 c3 c4 hlt HB n0 hz HK
  go_cut [5] from 30 to 39 (fun v5 wx => v5 = .int .i64 (Pl.cc k 0 + (Pl.wd im / Pl.pw 5 % Pl.pw 7 * 33554432 + Pl.wd im / Pl.pw 0 % Pl.pw 5 * 128) + (Pl.cc k 1 * 4096 + r1 * 32768)) ∧ Below U.heap.size U wx)
  case first =>
    go_region_with (go_at_call 93; refine (l2F3_any k (by omega) _).mono ?_; rintro e v1 ⟨rfl, rfl⟩)
    all_goals
      go_wp2_with fail
      go_meet
      exact ⟨vint' (by first | rfl | (simp only [IntKind.wrap_i64]; omega)), (by repeat (first | exact Below.refl _ _ | refine Below.drew ?_ | refine Below.alloc ?_ (by simp <;> omega) _))⟩
  case rest =>
    obtain ⟨rfl, hbx⟩ := hcut
    have e0 : wc.cell? ⟨w.heap.size, 0, none⟩ = some (.int .i64 k) := (hbx.cell (p := ⟨w.heap.size, 0, none⟩) HL.out).trans m0
    have e1 : wc.cell? ⟨w.heap.size, 1, none⟩ = some (.int .i64 rd) := (hbx.cell (p := ⟨w.heap.size, 1, none⟩) HL.out).trans m1
    have e3 : wc.cell? ⟨w.heap.size, 3, none⟩ = some (.int .i64 r2) := (hbx.cell (p := ⟨w.heap.size, 3, none⟩) HL.out).trans m3
    have HE : Hid (Below w.heap.size w wc) := HW.out.trans (hbx.mono (Nat.le_of_lt HL.out))
    clear m0 m1 m2 m3 k2 k3 n1 hbx HL HW
    go_wp2
    go_ret2
    exact ⟨ret2 rfl rfl, HE.out⟩
end Go.Proofs.Ytfcfnbncgadomaa.W
namespace Go.Proofs.Ytfcfnbncgadomaa.W
open Go.RowKit
set_option maxHeartbeats 2000000 in
theorem specEnc_5 (k : Nat) (h1 : 1 ≤ k) (h2 : k ≤ 42) (HF : Hid (Pl.fmN k = 5)) (HG : Hid (37 ≤ k ∧ k ≤ 42)) (rd r1 r2 im : Int) (h : iok k rd r1 r2 im = true) (w : World)
    (d1 : 0 ≤ rd ∧ rd ≤ 31) (d2 : 0 ≤ r1 ∧ r1 ≤ 31) (d3 : 0 ≤ r2 ∧ r2 ≤ 31) (d4 : -1048576 ≤ im ∧ im ≤ 1048575) :
    Calls Try.prog 85 #[.agg #[.int .i64 k, .int .i64 rd, .int .i64 r1, .int .i64 r2, .int .i64 im]] w fun e w' => e = .returned (.tuple #[.int .i64 (Pl.cc k 0 + (Pl.wd im / Pl.pw 12 % Pl.pw 1 * 2147483648 + Pl.wd im / Pl.pw 5 % Pl.pw 6 * 33554432 + Pl.wd im / Pl.pw 1 % Pl.pw 4 * 256 + Pl.wd im / Pl.pw 11 % Pl.pw 1 * 128) + (Pl.cc k 1 * 4096 + r1 * 32768) + r2 * 1048576 + rd * 128), .bool true]) ∧ Below w.heap.size w w' := by
  have b0 : 0 ≤ Pl.wd im / Pl.pw 12 % Pl.pw 1 ∧ Pl.wd im / Pl.pw 12 % Pl.pw 1 ≤ 1 := by
    have h := Int.emod_nonneg (Pl.wd im / Pl.pw 12) (Int.ne_of_gt (Pl.pw_pos 1))
    have h' := Int.emod_lt_of_pos (Pl.wd im / Pl.pw 12) (Pl.pw_pos 1)
    have e : Pl.pw 1 = 2 := by decide
    omega
  have b1 : 0 ≤ Pl.wd im / Pl.pw 5 % Pl.pw 6 ∧ Pl.wd im / Pl.pw 5 % Pl.pw 6 ≤ 63 := by
    have h := Int.emod_nonneg (Pl.wd im / Pl.pw 5) (Int.ne_of_gt (Pl.pw_pos 6))
    have h' := Int.emod_lt_of_pos (Pl.wd im / Pl.pw 5) (Pl.pw_pos 6)
    have e : Pl.pw 6 = 64 := by decide
    omega
  have b2 : 0 ≤ Pl.wd im / Pl.pw 1 % Pl.pw 4 ∧ Pl.wd im / Pl.pw 1 % Pl.pw 4 ≤ 15 := by
    have h := Int.emod_nonneg (Pl.wd im / Pl.pw 1) (Int.ne_of_gt (Pl.pw_pos 4))
    have h' := Int.emod_lt_of_pos (Pl.wd im / Pl.pw 1) (Pl.pw_pos 4)
    have e : Pl.pw 4 = 16 := by decide
    omega
  have b3 : 0 ≤ Pl.wd im / Pl.pw 11 % Pl.pw 1 ∧ Pl.wd im / Pl.pw 11 % Pl.pw 1 ≤ 1 := by
    have h := Int.emod_nonneg (Pl.wd im / Pl.pw 11) (Int.ne_of_gt (Pl.pw_pos 1))
    have h' := Int.emod_lt_of_pos (Pl.wd im / Pl.pw 11) (Pl.pw_pos 1)
    have e : Pl.pw 1 = 2 := by decide
    omega
  have q0 := Pl.cc_bd' k (by omega) 0 (by decide)
  have q1 := Pl.cc_bd' k (by omega) 1 (by decide)
  have q2 := Pl.cc_bd' k (by omega) 2 (by decide)
  have hk : ∀ w, Calls Try.prog 84 #[.int .i64 k] w fun e w' => e = .returned (.int .i64 5) ∧ w' = w := fun w => by
    have := form_any k h1 (by omega) w
    rw [HF.out] at this; exact this
  have HK : Hid (∀ w, Calls Try.prog 84 #[.int .i64 k] w fun e w' => e = .returned (.int .i64 5) ∧ w' = w) := hk
  clear hk
  go_enter Try.func85, Try.ntmps85
  go_wp2_with fail
  refine (specInstOk_any _ _ _ _ _ _).mono ?_
  rintro e u1 ⟨rfl, hb1⟩
  have c0 : u1.cell? ⟨w.heap.size, 0, none⟩ = some (.int .i64 k) := kept_cells' hb1 0
  have c1 : u1.cell? ⟨w.heap.size, 1, none⟩ = some (.int .i64 rd) := kept_cells' hb1 1
  have c2 : u1.cell? ⟨w.heap.size, 2, none⟩ = some (.int .i64 r1) := kept_cells' hb1 2
  have c3 : u1.cell? ⟨w.heap.size, 3, none⟩ = some (.int .i64 r2) := kept_cells' hb1 3
  have c4 : u1.cell? ⟨w.heap.size, 4, none⟩ = some (.int .i64 im) := kept_cells' hb1 4
  have hz : w.heap.size + 1 ≤ u1.heap.size := by have := hb1.size; simpa using this
  have HB : Hid (Below w.heap.size w u1) := ((Below.refl _ _).alloc (Nat.le_refl _) _).trans (hb1.mono (by simp))
  have n0 : ¬ w.heap.size = u1.heap.size := by omega
  clear hb1
  go_wp2_with (go_at_call 84; refine (HK.out _).mono ?_; rintro e u2 ⟨rfl, rfl⟩)
  go_quiet ((first | (go_at_call 91; exact Calls.quiet_of_same (c_any k h1 h2 _)) | (go_at_call 92; exact Calls.quiet_of (l2Imm_5 _ _))))
  go_upto_region 8 with fail
  obtain ⟨U, hU⟩ : ∃ U, u2.drewN nq = U := ⟨_, rfl⟩
  have m0 : U.cell? ⟨w.heap.size, 0, none⟩ = some (.int .i64 k) := by rw [← hU]; exact c0
  have m1 : U.cell? ⟨w.heap.size, 1, none⟩ = some (.int .i64 rd) := by rw [← hU]; exact c1
  have m2 : U.cell? ⟨w.heap.size, 2, none⟩ = some (.int .i64 r1) := by rw [← hU]; exact c2
  have m3 : U.cell? ⟨w.heap.size, 3, none⟩ = some (.int .i64 r2) := by rw [← hU]; exact c3
  have hlt : w.heap.size < U.heap.size := by rw [← hU]; exact hz
  have HW : Hid (Below w.heap.size w U) := by rw [← hU]; exact ⟨HB.out.os, HB.out.tape, HB.out.output, HB.out.size, HB.out.block⟩
  rw [hU]
  have k2 : ∀ o, (U.alloc o).cell? ⟨w.heap.size, 2, none⟩ = some (.int .i64 r1) := fun o => (((Below.refl U.heap.size U).alloc (Nat.le_refl _) o).cell (p := ⟨w.heap.size, 2, none⟩) hlt).trans m2
  have k3 : ∀ o, (U.alloc o).cell? ⟨w.heap.size, 3, none⟩ = some (.int .i64 r2) := fun o => (((Below.refl U.heap.size U).alloc (Nat.le_refl _) o).cell (p := ⟨w.heap.size, 3, none⟩) hlt).trans m3
  have HL : Hid (w.heap.size < U.heap.size) := hlt
  have n1 : ¬ w.heap.size = U.heap.size := by omega
  clear hU c0 c1 c2 c3 c4 hlt HB n0 hz HK
  go_cut [5] from 30 to 39 (fun v5 wx => v5 = .int .i64 (Pl.cc k 0 + (Pl.wd im / Pl.pw 12 % Pl.pw 1 * 2147483648 + Pl.wd im / Pl.pw 5 % Pl.pw 6 * 33554432 + Pl.wd im / Pl.pw 1 % Pl.pw 4 * 256 + Pl.wd im / Pl.pw 11 % Pl.pw 1 * 128) + (Pl.cc k 1 * 4096 + r1 * 32768)) ∧ Below U.heap.size U wx)
  case first =>
    go_region_with (go_at_call 93; refine (l2F3_any k (by omega) _).mono ?_; rintro e v1 ⟨rfl, rfl⟩)
    all_goals
      go_wp2_with fail
      go_meet
      exact ⟨vint' (by first | rfl | (simp only [IntKind.wrap_i64]; omega)), (by repeat (first | exact Below.refl _ _ | refine Below.drew ?_ | refine Below.alloc ?_ (by simp <;> omega) _))⟩
  case rest =>
    obtain ⟨rfl, hbx⟩ := hcut
    have e0 : wc.cell? ⟨w.heap.size, 0, none⟩ = some (.int .i64 k) := (hbx.cell (p := ⟨w.heap.size, 0, none⟩) HL.out).trans m0
    have e1 : wc.cell? ⟨w.heap.size, 1, none⟩ = some (.int .i64 rd) := (hbx.cell (p := ⟨w.heap.size, 1, none⟩) HL.out).trans m1
    have e3 : wc.cell? ⟨w.heap.size, 3, none⟩ = some (.int .i64 r2) := (hbx.cell (p := ⟨w.heap.size, 3, none⟩) HL.out).trans m3
    have HE : Hid (Below w.heap.size w wc) := HW.out.trans (hbx.mono (Nat.le_of_lt HL.out))
    clear m0 m1 m2 m3 k2 k3 n1 hbx HL HW
    go_wp2
    go_ret2
    exact ⟨ret2 rfl rfl, HE.out⟩
end Go.Proofs.Ytfcfnbncgadomaa.W
