import Derived.Test.YtfcfnbncgadomaaQ05
set_option linter.unusedVariables false
namespace Go.Proofs.Ytfcfnbncgadomaa.W
open Go.RowKit
theorem below_drewN' {B : Nat} {a w : World} (h : Below B a w) (m : Nat) : Below B a (w.drewN m) := ⟨h.os, h.tape, h.output, h.size, h.block⟩
def c5Tab : Array Value := #[.int .i64 55, .int .i64 23, .int .i64 111, .int .i64 115, .int .i64 115]
theorem cx_43 (w : World) : Calls Try.prog 91 #[.int .i64 43] w fun e w' => e = .returned (.int .i64 55) ∧ w' = w.alloc (.cells c5Tab 3) := by
  go_enter Try.func91, Try.ntmps91
  go_wp2
  go_ret
  exact ⟨rfl, rfl⟩
theorem cx_44 (w : World) : Calls Try.prog 91 #[.int .i64 44] w fun e w' => e = .returned (.int .i64 23) ∧ w' = w.alloc (.cells c5Tab 3) := by
  go_enter Try.func91, Try.ntmps91
  go_wp2
  go_ret
  exact ⟨rfl, rfl⟩
theorem cx_45 (w : World) : Calls Try.prog 91 #[.int .i64 45] w fun e w' => e = .returned (.int .i64 111) ∧ w' = w.alloc (.cells c5Tab 3) := by
  go_enter Try.func91, Try.ntmps91
  go_wp2
  go_ret
  exact ⟨rfl, rfl⟩
theorem cx_46 (w : World) : Calls Try.prog 91 #[.int .i64 46] w fun e w' => e = .returned (.int .i64 115) ∧ w' = w.alloc (.cells c5Tab 3) := by
  go_enter Try.func91, Try.ntmps91
  go_wp2
  go_ret
  exact ⟨rfl, rfl⟩
theorem cx_47 (w : World) : Calls Try.prog 91 #[.int .i64 47] w fun e w' => e = .returned (.int .i64 115) ∧ w' = w.alloc (.cells c5Tab 3) := by
  go_enter Try.func91, Try.ntmps91
  go_wp2
  go_ret
  exact ⟨rfl, rfl⟩
set_option maxHeartbeats 2000000 in
theorem specEnc_k43 (rd r1 r2 im : Int) (h : iok 43 rd r1 r2 im = true) (w : World)
    (d1 : 0 ≤ rd ∧ rd ≤ 31) (d3 : 0 ≤ r2 ∧ r2 ≤ 31) (d4 : -1048576 ≤ im ∧ im ≤ 1048575) (d6 : 0 ≤ im) :
    Calls Try.prog 85 #[.agg #[.int .i64 43, .int .i64 rd, .int .i64 r1, .int .i64 r2, .int .i64 im]] w fun e w' => e = .returned (.tuple #[.int .i64 (55 + (im * 4096) + r2 * 1048576 + rd * 128), .bool true]) ∧ Below w.heap.size w w' := by
  go_enter Try.func85, Try.ntmps85
  go_wp2_with fail
  refine (specInstOk_any _ _ _ _ _ _).mono ?_
  rintro e u1 ⟨rfl, hb1⟩
  have c0 : u1.cell? ⟨w.heap.size, 0, none⟩ = some (.int .i64 43) := kept_cells' hb1 0
  have c1 : u1.cell? ⟨w.heap.size, 1, none⟩ = some (.int .i64 rd) := kept_cells' hb1 1
  have c3 : u1.cell? ⟨w.heap.size, 3, none⟩ = some (.int .i64 r2) := kept_cells' hb1 3
  have c4 : u1.cell? ⟨w.heap.size, 4, none⟩ = some (.int .i64 im) := kept_cells' hb1 4
  have hz : w.heap.size < u1.heap.size := by have := hb1.size; simp at this; omega
  have HB : Hid (Below w.heap.size w u1) := ((Below.refl _ _).alloc (Nat.le_refl _) _).trans (hb1.mono (by simp))
  have n0 : ¬ w.heap.size = u1.heap.size := by omega
  have k4 : ∀ o, (u1.alloc o).cell? ⟨w.heap.size, 4, none⟩ = some (.int .i64 im) := fun o => (((Below.refl u1.heap.size u1).alloc (Nat.le_refl _) o).cell (p := ⟨w.heap.size, 4, none⟩) hz).trans c4
  have HL : Hid (w.heap.size < u1.heap.size) := hz
  clear hb1 hz
  have hform : ∀ w, Calls Try.prog 84 #[.int .i64 43] w fun e w' => e = .returned (.int .i64 6) ∧ w = w' := fun w => (form_43 w).mono fun e w' ⟨h1, h2⟩ => ⟨h1, h2.symm⟩
  have HK : Hid (∀ w, Calls Try.prog 84 #[.int .i64 43] w fun e w' => e = .returned (.int .i64 6) ∧ w = w') := hform
  clear hform
  go_upto_region 4 with (go_at_call 84; refine (HK.out _).mono ?_; rintro e u2 ⟨rfl, rfl⟩)
  go_cut [5] from 12 to 19 (fun v5 wx => v5 = .int .i64 (55 + (im * 4096)) ∧ Below u1.heap.size u1 wx)
  case first =>
    go_region_with (first | (go_at_call 91; refine (cx_43 _).mono ?_; rintro e v1 ⟨rfl, rfl⟩) | (go_at_call 92; refine (l2Imm_6 _ d6 (by omega) _).mono ?_; rintro e v2 ⟨rfl, mm, rfl⟩))
    all_goals
      go_wp2_with fail
      go_meet
      exact ⟨vint' (by first | rfl | (simp only [IntKind.wrap_i64]; omega)), (by repeat (first | exact Below.refl _ _ | refine Below.drew ?_ | refine W.below_drewN' ?_ _ | refine Below.alloc ?_ (by simp <;> omega) _))⟩
  case rest =>
    obtain ⟨rfl, hbx⟩ := hcut
    have e0 : wc.cell? ⟨w.heap.size, 0, none⟩ = some (.int .i64 43) := (hbx.cell (p := ⟨w.heap.size, 0, none⟩) HL.out).trans c0
    have e1 : wc.cell? ⟨w.heap.size, 1, none⟩ = some (.int .i64 rd) := (hbx.cell (p := ⟨w.heap.size, 1, none⟩) HL.out).trans c1
    have e3 : wc.cell? ⟨w.heap.size, 3, none⟩ = some (.int .i64 r2) := (hbx.cell (p := ⟨w.heap.size, 3, none⟩) HL.out).trans c3
    have HE : Hid (Below w.heap.size w wc) := HB.out.trans (hbx.mono (Nat.le_of_lt HL.out))
    clear c0 c1 c3 c4 k4 n0 hbx HL HB
    go_wp2
    go_ret2
    exact ⟨ret2 rfl rfl, HE.out⟩
set_option maxHeartbeats 2000000 in
theorem specEnc_k44 (rd r1 r2 im : Int) (h : iok 44 rd r1 r2 im = true) (w : World)
    (d1 : 0 ≤ rd ∧ rd ≤ 31) (d3 : 0 ≤ r2 ∧ r2 ≤ 31) (d4 : -1048576 ≤ im ∧ im ≤ 1048575) (d6 : 0 ≤ im) :
    Calls Try.prog 85 #[.agg #[.int .i64 44, .int .i64 rd, .int .i64 r1, .int .i64 r2, .int .i64 im]] w fun e w' => e = .returned (.tuple #[.int .i64 (23 + (im * 4096) + r2 * 1048576 + rd * 128), .bool true]) ∧ Below w.heap.size w w' := by
  go_enter Try.func85, Try.ntmps85
  go_wp2_with fail
  refine (specInstOk_any _ _ _ _ _ _).mono ?_
  rintro e u1 ⟨rfl, hb1⟩
  have c0 : u1.cell? ⟨w.heap.size, 0, none⟩ = some (.int .i64 44) := kept_cells' hb1 0
  have c1 : u1.cell? ⟨w.heap.size, 1, none⟩ = some (.int .i64 rd) := kept_cells' hb1 1
  have c3 : u1.cell? ⟨w.heap.size, 3, none⟩ = some (.int .i64 r2) := kept_cells' hb1 3
  have c4 : u1.cell? ⟨w.heap.size, 4, none⟩ = some (.int .i64 im) := kept_cells' hb1 4
  have hz : w.heap.size < u1.heap.size := by have := hb1.size; simp at this; omega
  have HB : Hid (Below w.heap.size w u1) := ((Below.refl _ _).alloc (Nat.le_refl _) _).trans (hb1.mono (by simp))
  have n0 : ¬ w.heap.size = u1.heap.size := by omega
  have k4 : ∀ o, (u1.alloc o).cell? ⟨w.heap.size, 4, none⟩ = some (.int .i64 im) := fun o => (((Below.refl u1.heap.size u1).alloc (Nat.le_refl _) o).cell (p := ⟨w.heap.size, 4, none⟩) hz).trans c4
  have HL : Hid (w.heap.size < u1.heap.size) := hz
  clear hb1 hz
  have hform : ∀ w, Calls Try.prog 84 #[.int .i64 44] w fun e w' => e = .returned (.int .i64 6) ∧ w = w' := fun w => (form_44 w).mono fun e w' ⟨h1, h2⟩ => ⟨h1, h2.symm⟩
  have HK : Hid (∀ w, Calls Try.prog 84 #[.int .i64 44] w fun e w' => e = .returned (.int .i64 6) ∧ w = w') := hform
  clear hform
  go_upto_region 4 with (go_at_call 84; refine (HK.out _).mono ?_; rintro e u2 ⟨rfl, rfl⟩)
  go_cut [5] from 12 to 19 (fun v5 wx => v5 = .int .i64 (23 + (im * 4096)) ∧ Below u1.heap.size u1 wx)
  case first =>
    go_region_with (first | (go_at_call 91; refine (cx_44 _).mono ?_; rintro e v1 ⟨rfl, rfl⟩) | (go_at_call 92; refine (l2Imm_6 _ d6 (by omega) _).mono ?_; rintro e v2 ⟨rfl, mm, rfl⟩))
    all_goals
      go_wp2_with fail
      go_meet
      exact ⟨vint' (by first | rfl | (simp only [IntKind.wrap_i64]; omega)), (by repeat (first | exact Below.refl _ _ | refine Below.drew ?_ | refine W.below_drewN' ?_ _ | refine Below.alloc ?_ (by simp <;> omega) _))⟩
  case rest =>
    obtain ⟨rfl, hbx⟩ := hcut
    have e0 : wc.cell? ⟨w.heap.size, 0, none⟩ = some (.int .i64 44) := (hbx.cell (p := ⟨w.heap.size, 0, none⟩) HL.out).trans c0
    have e1 : wc.cell? ⟨w.heap.size, 1, none⟩ = some (.int .i64 rd) := (hbx.cell (p := ⟨w.heap.size, 1, none⟩) HL.out).trans c1
    have e3 : wc.cell? ⟨w.heap.size, 3, none⟩ = some (.int .i64 r2) := (hbx.cell (p := ⟨w.heap.size, 3, none⟩) HL.out).trans c3
    have HE : Hid (Below w.heap.size w wc) := HB.out.trans (hbx.mono (Nat.le_of_lt HL.out))
    clear c0 c1 c3 c4 k4 n0 hbx HL HB
    go_wp2
    go_ret2
    exact ⟨ret2 rfl rfl, HE.out⟩
set_option maxHeartbeats 2000000 in
theorem specEnc_k45 (rd r1 r2 im : Int) (h : iok 45 rd r1 r2 im = true) (w : World)
    (d1 : 0 ≤ rd ∧ rd ≤ 31) (d3 : 0 ≤ r2 ∧ r2 ≤ 31) (d4 : -1048576 ≤ im ∧ im ≤ 1048575) :
    Calls Try.prog 85 #[.agg #[.int .i64 45, .int .i64 rd, .int .i64 r1, .int .i64 r2, .int .i64 im]] w fun e w' => e = .returned (.tuple #[.int .i64 (111 + (Pl.wd im / Pl.pw 20 % Pl.pw 1 * 2147483648 + Pl.wd im / Pl.pw 1 % Pl.pw 10 * 2097152 + Pl.wd im / Pl.pw 11 % Pl.pw 1 * 1048576 + Pl.wd im / Pl.pw 12 % Pl.pw 8 * 4096) + r2 * 1048576 + rd * 128), .bool true]) ∧ Below w.heap.size w w' := by
  have b0 : 0 ≤ Pl.wd im / Pl.pw 20 % Pl.pw 1 ∧ Pl.wd im / Pl.pw 20 % Pl.pw 1 ≤ 1 := by
    have h := Int.emod_nonneg (Pl.wd im / Pl.pw 20) (Int.ne_of_gt (Pl.pw_pos 1))
    have h' := Int.emod_lt_of_pos (Pl.wd im / Pl.pw 20) (Pl.pw_pos 1)
    have e : Pl.pw 1 = 2 := by decide
    omega
  have b1 : 0 ≤ Pl.wd im / Pl.pw 1 % Pl.pw 10 ∧ Pl.wd im / Pl.pw 1 % Pl.pw 10 ≤ 1023 := by
    have h := Int.emod_nonneg (Pl.wd im / Pl.pw 1) (Int.ne_of_gt (Pl.pw_pos 10))
    have h' := Int.emod_lt_of_pos (Pl.wd im / Pl.pw 1) (Pl.pw_pos 10)
    have e : Pl.pw 10 = 1024 := by decide
    omega
  have b2 : 0 ≤ Pl.wd im / Pl.pw 11 % Pl.pw 1 ∧ Pl.wd im / Pl.pw 11 % Pl.pw 1 ≤ 1 := by
    have h := Int.emod_nonneg (Pl.wd im / Pl.pw 11) (Int.ne_of_gt (Pl.pw_pos 1))
    have h' := Int.emod_lt_of_pos (Pl.wd im / Pl.pw 11) (Pl.pw_pos 1)
    have e : Pl.pw 1 = 2 := by decide
    omega
  have b3 : 0 ≤ Pl.wd im / Pl.pw 12 % Pl.pw 8 ∧ Pl.wd im / Pl.pw 12 % Pl.pw 8 ≤ 255 := by
    have h := Int.emod_nonneg (Pl.wd im / Pl.pw 12) (Int.ne_of_gt (Pl.pw_pos 8))
    have h' := Int.emod_lt_of_pos (Pl.wd im / Pl.pw 12) (Pl.pw_pos 8)
    have e : Pl.pw 8 = 256 := by decide
    omega
  go_enter Try.func85, Try.ntmps85
  go_wp2_with fail
  refine (specInstOk_any _ _ _ _ _ _).mono ?_
  rintro e u1 ⟨rfl, hb1⟩
  have c0 : u1.cell? ⟨w.heap.size, 0, none⟩ = some (.int .i64 45) := kept_cells' hb1 0
  have c1 : u1.cell? ⟨w.heap.size, 1, none⟩ = some (.int .i64 rd) := kept_cells' hb1 1
  have c3 : u1.cell? ⟨w.heap.size, 3, none⟩ = some (.int .i64 r2) := kept_cells' hb1 3
  have c4 : u1.cell? ⟨w.heap.size, 4, none⟩ = some (.int .i64 im) := kept_cells' hb1 4
  have hz : w.heap.size < u1.heap.size := by have := hb1.size; simp at this; omega
  have HB : Hid (Below w.heap.size w u1) := ((Below.refl _ _).alloc (Nat.le_refl _) _).trans (hb1.mono (by simp))
  have n0 : ¬ w.heap.size = u1.heap.size := by omega
  have k4 : ∀ o, (u1.alloc o).cell? ⟨w.heap.size, 4, none⟩ = some (.int .i64 im) := fun o => (((Below.refl u1.heap.size u1).alloc (Nat.le_refl _) o).cell (p := ⟨w.heap.size, 4, none⟩) hz).trans c4
  have HL : Hid (w.heap.size < u1.heap.size) := hz
  clear hb1 hz
  have hform : ∀ w, Calls Try.prog 84 #[.int .i64 45] w fun e w' => e = .returned (.int .i64 7) ∧ w = w' := fun w => (form_45 w).mono fun e w' ⟨h1, h2⟩ => ⟨h1, h2.symm⟩
  have HK : Hid (∀ w, Calls Try.prog 84 #[.int .i64 45] w fun e w' => e = .returned (.int .i64 7) ∧ w = w') := hform
  clear hform
  go_upto_region 4 with (go_at_call 84; refine (HK.out _).mono ?_; rintro e u2 ⟨rfl, rfl⟩)
  go_cut [5] from 12 to 19 (fun v5 wx => v5 = .int .i64 (111 + (Pl.wd im / Pl.pw 20 % Pl.pw 1 * 2147483648 + Pl.wd im / Pl.pw 1 % Pl.pw 10 * 2097152 + Pl.wd im / Pl.pw 11 % Pl.pw 1 * 1048576 + Pl.wd im / Pl.pw 12 % Pl.pw 8 * 4096)) ∧ Below u1.heap.size u1 wx)
  case first =>
    go_region_with (first | (go_at_call 91; refine (cx_45 _).mono ?_; rintro e v1 ⟨rfl, rfl⟩) | (go_at_call 92; refine (l2Imm_7 _ _).mono ?_; rintro e v2 ⟨rfl, mm, rfl⟩))
    all_goals
      go_wp2_with fail
      go_meet
      exact ⟨vint' (by first | rfl | (simp only [IntKind.wrap_i64]; omega)), (by repeat (first | exact Below.refl _ _ | refine Below.drew ?_ | refine W.below_drewN' ?_ _ | refine Below.alloc ?_ (by simp <;> omega) _))⟩
  case rest =>
    obtain ⟨rfl, hbx⟩ := hcut
    have e0 : wc.cell? ⟨w.heap.size, 0, none⟩ = some (.int .i64 45) := (hbx.cell (p := ⟨w.heap.size, 0, none⟩) HL.out).trans c0
    have e1 : wc.cell? ⟨w.heap.size, 1, none⟩ = some (.int .i64 rd) := (hbx.cell (p := ⟨w.heap.size, 1, none⟩) HL.out).trans c1
    have e3 : wc.cell? ⟨w.heap.size, 3, none⟩ = some (.int .i64 r2) := (hbx.cell (p := ⟨w.heap.size, 3, none⟩) HL.out).trans c3
    have HE : Hid (Below w.heap.size w wc) := HB.out.trans (hbx.mono (Nat.le_of_lt HL.out))
    clear c0 c1 c3 c4 k4 n0 hbx HL HB
    go_wp2
    go_ret2
    exact ⟨ret2 rfl rfl, HE.out⟩
set_option maxHeartbeats 2000000 in
theorem specEnc_k46 (rd r1 r2 im : Int) (h : iok 46 rd r1 r2 im = true) (w : World)
    (d1 : 0 ≤ rd ∧ rd ≤ 31) (d3 : 0 ≤ r2 ∧ r2 ≤ 31) (d4 : -1048576 ≤ im ∧ im ≤ 1048575) :
    Calls Try.prog 85 #[.agg #[.int .i64 46, .int .i64 rd, .int .i64 r1, .int .i64 r2, .int .i64 im]] w fun e w' => e = .returned (.tuple #[.int .i64 (115), .bool true]) ∧ Below w.heap.size w w' := by
  go_enter Try.func85, Try.ntmps85
  go_wp2_with fail
  refine (specInstOk_any _ _ _ _ _ _).mono ?_
  rintro e u1 ⟨rfl, hb1⟩
  have c0 : u1.cell? ⟨w.heap.size, 0, none⟩ = some (.int .i64 46) := kept_cells' hb1 0
  have c1 : u1.cell? ⟨w.heap.size, 1, none⟩ = some (.int .i64 rd) := kept_cells' hb1 1
  have c3 : u1.cell? ⟨w.heap.size, 3, none⟩ = some (.int .i64 r2) := kept_cells' hb1 3
  have c4 : u1.cell? ⟨w.heap.size, 4, none⟩ = some (.int .i64 im) := kept_cells' hb1 4
  have hz : w.heap.size < u1.heap.size := by have := hb1.size; simp at this; omega
  have HB : Hid (Below w.heap.size w u1) := ((Below.refl _ _).alloc (Nat.le_refl _) _).trans (hb1.mono (by simp))
  have n0 : ¬ w.heap.size = u1.heap.size := by omega
  have k4 : ∀ o, (u1.alloc o).cell? ⟨w.heap.size, 4, none⟩ = some (.int .i64 im) := fun o => (((Below.refl u1.heap.size u1).alloc (Nat.le_refl _) o).cell (p := ⟨w.heap.size, 4, none⟩) hz).trans c4
  have HL : Hid (w.heap.size < u1.heap.size) := hz
  clear hb1 hz
  have hform : ∀ w, Calls Try.prog 84 #[.int .i64 46] w fun e w' => e = .returned (.int .i64 8) ∧ w = w' := fun w => (form_46 w).mono fun e w' ⟨h1, h2⟩ => ⟨h1, h2.symm⟩
  have HK : Hid (∀ w, Calls Try.prog 84 #[.int .i64 46] w fun e w' => e = .returned (.int .i64 8) ∧ w = w') := hform
  clear hform
  go_upto_region 4 with (go_at_call 84; refine (HK.out _).mono ?_; rintro e u2 ⟨rfl, rfl⟩)
  go_cut [5] from 12 to 19 (fun v5 wx => v5 = .int .i64 (115) ∧ Below u1.heap.size u1 wx)
  case first =>
    go_region_with (first | (go_at_call 91; refine (cx_46 _).mono ?_; rintro e v1 ⟨rfl, rfl⟩) | (go_at_call 92; refine (l2Imm_0 8 (Or.inr rfl) _ _).mono ?_; rintro e v2 ⟨rfl, mm, rfl⟩))
    all_goals
      go_wp2_with fail
      go_meet
      exact ⟨vint' (by first | rfl | (simp only [IntKind.wrap_i64]; omega)), (by repeat (first | exact Below.refl _ _ | refine Below.drew ?_ | refine W.below_drewN' ?_ _ | refine Below.alloc ?_ (by simp <;> omega) _))⟩
  case rest =>
    obtain ⟨rfl, hbx⟩ := hcut
    have e0 : wc.cell? ⟨w.heap.size, 0, none⟩ = some (.int .i64 46) := (hbx.cell (p := ⟨w.heap.size, 0, none⟩) HL.out).trans c0
    have e1 : wc.cell? ⟨w.heap.size, 1, none⟩ = some (.int .i64 rd) := (hbx.cell (p := ⟨w.heap.size, 1, none⟩) HL.out).trans c1
    have e3 : wc.cell? ⟨w.heap.size, 3, none⟩ = some (.int .i64 r2) := (hbx.cell (p := ⟨w.heap.size, 3, none⟩) HL.out).trans c3
    have HE : Hid (Below w.heap.size w wc) := HB.out.trans (hbx.mono (Nat.le_of_lt HL.out))
    clear c0 c1 c3 c4 k4 n0 hbx HL HB
    go_wp2
    go_ret2
    exact ⟨ret2 rfl rfl, HE.out⟩
set_option maxHeartbeats 2000000 in
theorem specEnc_k47 (rd r1 r2 im : Int) (h : iok 47 rd r1 r2 im = true) (w : World)
    (d1 : 0 ≤ rd ∧ rd ≤ 31) (d3 : 0 ≤ r2 ∧ r2 ≤ 31) (d4 : -1048576 ≤ im ∧ im ≤ 1048575) :
    Calls Try.prog 85 #[.agg #[.int .i64 47, .int .i64 rd, .int .i64 r1, .int .i64 r2, .int .i64 im]] w fun e w' => e = .returned (.tuple #[.int .i64 (1048691), .bool true]) ∧ Below w.heap.size w w' := by
  go_enter Try.func85, Try.ntmps85
  go_wp2_with fail
  refine (specInstOk_any _ _ _ _ _ _).mono ?_
  rintro e u1 ⟨rfl, hb1⟩
  have c0 : u1.cell? ⟨w.heap.size, 0, none⟩ = some (.int .i64 47) := kept_cells' hb1 0
  have c1 : u1.cell? ⟨w.heap.size, 1, none⟩ = some (.int .i64 rd) := kept_cells' hb1 1
  have c3 : u1.cell? ⟨w.heap.size, 3, none⟩ = some (.int .i64 r2) := kept_cells' hb1 3
  have c4 : u1.cell? ⟨w.heap.size, 4, none⟩ = some (.int .i64 im) := kept_cells' hb1 4
  have hz : w.heap.size < u1.heap.size := by have := hb1.size; simp at this; omega
  have HB : Hid (Below w.heap.size w u1) := ((Below.refl _ _).alloc (Nat.le_refl _) _).trans (hb1.mono (by simp))
  have n0 : ¬ w.heap.size = u1.heap.size := by omega
  have k4 : ∀ o, (u1.alloc o).cell? ⟨w.heap.size, 4, none⟩ = some (.int .i64 im) := fun o => (((Below.refl u1.heap.size u1).alloc (Nat.le_refl _) o).cell (p := ⟨w.heap.size, 4, none⟩) hz).trans c4
  have HL : Hid (w.heap.size < u1.heap.size) := hz
  clear hb1 hz
  have hform : ∀ w, Calls Try.prog 84 #[.int .i64 47] w fun e w' => e = .returned (.int .i64 8) ∧ w = w' := fun w => (form_47 w).mono fun e w' ⟨h1, h2⟩ => ⟨h1, h2.symm⟩
  have HK : Hid (∀ w, Calls Try.prog 84 #[.int .i64 47] w fun e w' => e = .returned (.int .i64 8) ∧ w = w') := hform
  clear hform
  go_upto_region 4 with (go_at_call 84; refine (HK.out _).mono ?_; rintro e u2 ⟨rfl, rfl⟩)
  go_cut [5] from 12 to 19 (fun v5 wx => v5 = .int .i64 (115) ∧ Below u1.heap.size u1 wx)
  case first =>
    go_region_with (first | (go_at_call 91; refine (cx_47 _).mono ?_; rintro e v1 ⟨rfl, rfl⟩) | (go_at_call 92; refine (l2Imm_0 8 (Or.inr rfl) _ _).mono ?_; rintro e v2 ⟨rfl, mm, rfl⟩))
    all_goals
      go_wp2_with fail
      go_meet
      exact ⟨vint' (by first | rfl | (simp only [IntKind.wrap_i64]; omega)), (by repeat (first | exact Below.refl _ _ | refine Below.drew ?_ | refine W.below_drewN' ?_ _ | refine Below.alloc ?_ (by simp <;> omega) _))⟩
  case rest =>
    obtain ⟨rfl, hbx⟩ := hcut
    have e0 : wc.cell? ⟨w.heap.size, 0, none⟩ = some (.int .i64 47) := (hbx.cell (p := ⟨w.heap.size, 0, none⟩) HL.out).trans c0
    have e1 : wc.cell? ⟨w.heap.size, 1, none⟩ = some (.int .i64 rd) := (hbx.cell (p := ⟨w.heap.size, 1, none⟩) HL.out).trans c1
    have e3 : wc.cell? ⟨w.heap.size, 3, none⟩ = some (.int .i64 r2) := (hbx.cell (p := ⟨w.heap.size, 3, none⟩) HL.out).trans c3
    have HE : Hid (Below w.heap.size w wc) := HB.out.trans (hbx.mono (Nat.le_of_lt HL.out))
    clear c0 c1 c3 c4 k4 n0 hbx HL HB
    go_wp2
    go_ret2
    exact ⟨ret2 rfl rfl, HE.out⟩
end Go.Proofs.Ytfcfnbncgadomaa.W
