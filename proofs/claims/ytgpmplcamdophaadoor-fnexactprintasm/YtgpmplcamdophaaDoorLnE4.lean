import Derived.Test.YtgpmplcamdophaaDoorLnB
import Derived.Deep.Cut
import Derived.Deep.Light
import Derived.Test.YtgpmplcamdophaaDoorSl
import Derived.Deep.RegionWith
import Derived.Deep.QuietTactic
import Derived.BigQuiet
set_option linter.unusedVariables false
set_option linter.unusedSimpArgs false
namespace Go.Proofs.YtgpmplcamdophaaDoor.W
open Go.RowKit
set_option maxRecDepth 20000 in
set_option maxHeartbeats 4000000 in
theorem specLine_14n (op rd r1 r2 im n : Int) (s : ByteArray) (he : ¬ s.size = 0) (w : World) : Calls Tryd.prog 19 #[.agg #[.int .i64 14, .int .i64 op, .int .i64 rd, .int .i64 r1, .int .i64 r2, .int .i64 im, .string s, .int .i64 n]] w fun e w' => e = .returned (.bool (Pl.sy s true && decide ((-2147483648) ≤ n ∧ n ≤ 2147483647) && (Pl.onlyRegs op rd r1 r2 im false false))) ∧ Below w.heap.size w w' := by
  obtain ⟨R, hR⟩ : ∃ R, R = (Pl.sy s true && decide ((-2147483648) ≤ n ∧ n ≤ 2147483647) && (Pl.onlyRegs op rd r1 r2 im false false)) := ⟨_, rfl⟩
  rw [← hR]
  have HR : Hid (R = (Pl.sy s true && decide ((-2147483648) ≤ n ∧ n ≤ 2147483647) && (Pl.onlyRegs op rd r1 r2 im false false))) := hR
  clear hR
  have hie : s.toList.isEmpty = false := by rw [List.isEmpty_eq_false_iff]; exact fun h => he ((Pl.nil_iff s).1 h)
  clear he
  go_enter Tryd.func19, Tryd.ntmps19
  go_wp2_with fail
  refine (l4Regs_any _ _ _ _ _ _ _ _).mono ?_
  rintro e u1 ⟨rfl, d1⟩
  have hr := kept_row d1; have kl1 : ∀ j, u1.cell? ⟨w.heap.size, j, none⟩ = (#[.int .i64 14, .int .i64 op, .int .i64 rd, .int .i64 r1, .int .i64 r2, .int .i64 im, .string s, .int .i64 n] : Array Value)[j]? := (fun j => cell_of_row u1 w.heap.size j _ 46 (0, 0) hr); have B1 : Hid (Below w.heap.size w u1) := ((Below.refl _ _).alloc (Nat.le_refl _) _).trans (d1.mono (by simp)); have Z1 : Hid (w.heap.size < u1.heap.size) := (by have := d1.size; simp at this; show w.heap.size < u1.heap.size; omega); clear d1 hr
  obtain ⟨z0, hz0⟩ : ∃ z, z = Pl.onlyRegs op rd r1 r2 im false false := ⟨_, rfl⟩
  rw [← hz0]
  have HZ : Hid (z0 = Pl.onlyRegs op rd r1 r2 im false false) := hz0
  clear hz0
  cases hl : Pl.lab s <;> cases z0
  all_goals
    go_wp2_with (first | (go_at_call 31; refine (l4NameOk_any _ _).mono ?_; rintro e u3 ⟨rfl, h3⟩; rw [h3, hl]; clear h3) | (go_at_call 33; refine (l4Far_any _ _).mono ?_; rintro e u3 ⟨rfl, h3⟩; rw [h3]; clear h3))
    all_goals
      go_ret
      refine ⟨ret_bool (Eq.trans ?_ HR.out.symm), (by first | exact B2.out | exact B1.out)⟩
      have hz0 := HZ.out.symm
      go_light
      clear kl1 HR HZ
      (try clear kl2)
      first
        | (rw [decide_eq_false (p := (-2147483648) ≤ n ∧ n ≤ 2147483647) (by omega)]; simp; done)
        | (rw [decide_eq_true (p := (-2147483648) ≤ n ∧ n ≤ 2147483647) (by omega)]; simp_all [Pl.sy]; done)
        | (simp_all [Pl.sy]; done)
        | (simp_all [Pl.sy] <;> omega)
        | (rw [Bool.eq_iff_iff]; simp_all [Pl.sy] <;> omega)
set_option maxRecDepth 20000 in
set_option maxHeartbeats 4000000 in
theorem specLine_2 (op rd r1 r2 im n : Int) (s : ByteArray) (w : World) : Calls Tryd.prog 19 #[.agg #[.int .i64 2, .int .i64 op, .int .i64 rd, .int .i64 r1, .int .i64 r2, .int .i64 im, .string s, .int .i64 n]] w fun e w' => e = .returned (.bool (Pl.sy s false && decide (0 ≤ n ∧ n ≤ 0) && (iok op rd r1 r2 im && !Pl.br op))) ∧ Below w.heap.size w w' := by
  obtain ⟨R, hR⟩ : ∃ R, R = (Pl.sy s false && decide (0 ≤ n ∧ n ≤ 0) && (iok op rd r1 r2 im && !Pl.br op)) := ⟨_, rfl⟩
  rw [← hR]
  have HR : Hid (R = (Pl.sy s false && decide (0 ≤ n ∧ n ≤ 0) && (iok op rd r1 r2 im && !Pl.br op))) := hR
  clear hR
  go_enter Tryd.func19, Tryd.ntmps19
  go_wp2_with fail
  refine (l4Regs_any _ _ _ _ _ _ _ _).mono ?_
  rintro e u1 ⟨rfl, d1⟩
  have hr := kept_row d1; have kl1 : ∀ j, u1.cell? ⟨w.heap.size, j, none⟩ = (#[.int .i64 2, .int .i64 op, .int .i64 rd, .int .i64 r1, .int .i64 r2, .int .i64 im, .string s, .int .i64 n] : Array Value)[j]? := (fun j => cell_of_row u1 w.heap.size j _ 46 (0, 0) hr); have B1 : Hid (Below w.heap.size w u1) := ((Below.refl _ _).alloc (Nat.le_refl _) _).trans (d1.mono (by simp)); have Z1 : Hid (w.heap.size < u1.heap.size) := (by have := d1.size; simp at this; show w.heap.size < u1.heap.size; omega); clear d1 hr
  obtain ⟨z0, hz0⟩ : ∃ z, z = Pl.onlyRegs op rd r1 r2 im false false := ⟨_, rfl⟩
  rw [← hz0]
  have HZ : Hid (z0 = Pl.onlyRegs op rd r1 r2 im false false) := hz0
  clear hz0
  by_cases hr : op < 1 ∨ 47 < op
  · have hb0 : Pl.br op = false := by unfold Pl.br; rw [decide_eq_false (by omega)]; rfl
    have hi0 : iok op rd r1 r2 im = false := by unfold iok; rw [decide_eq_false (by omega)]; rfl
    have HI : Hid (iok op rd r1 r2 im = false) := hi0
    rw [hi0] at HR
    clear hb0 hi0
    go_wp2_with (first | (go_at_call 29; refine (form_no op hr _).mono ?_; rintro e u3 ⟨rfl, h3⟩; rw [h3]; clear h3) | (go_at_call 30; refine (specInstOk_any _ _ _ _ _ _).mono ?_; rintro e u2 ⟨rfl, d2⟩; rw [HI.out]; have kl2 : ∀ j, u2.cell? ⟨w.heap.size, j, none⟩ = (#[.int .i64 2, .int .i64 op, .int .i64 rd, .int .i64 r1, .int .i64 r2, .int .i64 im, .string s, .int .i64 n] : Array Value)[j]? := (fun j => (d2.cell (p := ⟨w.heap.size, j, none⟩) Z1.out).trans (kl1 j)); have B2 : Hid (Below w.heap.size w u2) := B1.out.trans (d2.mono B1.out.size); have Z2 : Hid (w.heap.size < u2.heap.size) := Nat.lt_of_lt_of_le Z1.out d2.size; clear d2))
    all_goals
      go_ret
      refine ⟨ret_bool (Eq.trans ?_ HR.out.symm), (by first | exact B2.out | exact B1.out)⟩
      simp
  obtain ⟨q, rfl⟩ : ∃ q : Nat, op = q := ⟨op.toNat, by omega⟩
  have q1 : 1 ≤ q := by omega
  have q2 : q ≤ 47 := by omega
  clear hr
  have hb0 : Pl.br q = (Pl.fmN q == 5 || Pl.fmN q == 7) := by unfold Pl.br; rw [decide_eq_true (by omega), Int.toNat_natCast]; rfl
  obtain ⟨f, hf⟩ : ∃ f, f = Pl.fmN q := ⟨_, rfl⟩
  have HF : Hid (Pl.fmN q = f) := hf.symm
  rw [← hf] at hb0
  clear hf
  rw [hb0] at HR
  clear hb0
  cases hie : s.toList.isEmpty <;> cases hio : iok q rd r1 r2 im
  all_goals
    rw [hio] at HR
    go_wp2_with (first | (go_at_call 29; refine (form_any q q1 q2 _).mono ?_; rintro e u3 ⟨rfl, h3⟩; rw [h3, HF.out]; clear h3) | (first | (go_at_call 30; refine (specInstOk_any _ _ _ _ _ _).mono ?_; rintro e u2 ⟨rfl, d2⟩; rw [hio]; have kl2 : ∀ j, u2.cell? ⟨w.heap.size, j, none⟩ = (#[.int .i64 2, .int .i64 (q : Int), .int .i64 rd, .int .i64 r1, .int .i64 r2, .int .i64 im, .string s, .int .i64 n] : Array Value)[j]? := (fun j => (d2.cell (p := ⟨w.heap.size, j, none⟩) Z1.out).trans (kl1 j)); have B2 : Hid (Below w.heap.size w u2) := B1.out.trans (d2.mono B1.out.size); have Z2 : Hid (w.heap.size < u2.heap.size) := Nat.lt_of_lt_of_le Z1.out d2.size; clear d2)))
    all_goals
      go_ret
      refine ⟨ret_bool (Eq.trans ?_ HR.out.symm), (by first | exact B2.out | exact B1.out)⟩
      have hz0 := HZ.out.symm
      go_light
      clear kl1 HR HZ
      (try clear kl2)
      first
        | (rw [decide_eq_false (p := 0 ≤ n ∧ n ≤ 0) (by omega)]; simp; done)
        | (rw [decide_eq_true (p := 0 ≤ n ∧ n ≤ 0) (by omega)]; simp_all [Pl.sy, Pl.emp]; done)
        | (simp_all [Pl.sy, Pl.emp]; done)
        | (simp_all [Pl.sy, Pl.emp] <;> omega)
        | (rw [Bool.eq_iff_iff]; simp_all [Pl.sy, Pl.emp] <;> omega)
set_option maxRecDepth 20000 in
set_option maxHeartbeats 4000000 in
theorem specLine_3 (op rd r1 r2 im n : Int) (s : ByteArray) (w : World) : Calls Tryd.prog 19 #[.agg #[.int .i64 3, .int .i64 op, .int .i64 rd, .int .i64 r1, .int .i64 r2, .int .i64 im, .string s, .int .i64 n]] w fun e w' => e = .returned (.bool (Pl.sy s true && decide (0 ≤ n ∧ n ≤ 0) && (iok op rd r1 r2 im && Pl.br op && im == 0))) ∧ Below w.heap.size w w' := by
  obtain ⟨R, hR⟩ : ∃ R, R = (Pl.sy s true && decide (0 ≤ n ∧ n ≤ 0) && (iok op rd r1 r2 im && Pl.br op && im == 0)) := ⟨_, rfl⟩
  rw [← hR]
  have HR : Hid (R = (Pl.sy s true && decide (0 ≤ n ∧ n ≤ 0) && (iok op rd r1 r2 im && Pl.br op && im == 0))) := hR
  clear hR
  go_enter Tryd.func19, Tryd.ntmps19
  go_wp2_with fail
  refine (l4Regs_any _ _ _ _ _ _ _ _).mono ?_
  rintro e u1 ⟨rfl, d1⟩
  have hr := kept_row d1; have kl1 : ∀ j, u1.cell? ⟨w.heap.size, j, none⟩ = (#[.int .i64 3, .int .i64 op, .int .i64 rd, .int .i64 r1, .int .i64 r2, .int .i64 im, .string s, .int .i64 n] : Array Value)[j]? := (fun j => cell_of_row u1 w.heap.size j _ 46 (0, 0) hr); have B1 : Hid (Below w.heap.size w u1) := ((Below.refl _ _).alloc (Nat.le_refl _) _).trans (d1.mono (by simp)); have Z1 : Hid (w.heap.size < u1.heap.size) := (by have := d1.size; simp at this; show w.heap.size < u1.heap.size; omega); clear d1 hr
  obtain ⟨z0, hz0⟩ : ∃ z, z = Pl.onlyRegs op rd r1 r2 im false false := ⟨_, rfl⟩
  rw [← hz0]
  have HZ : Hid (z0 = Pl.onlyRegs op rd r1 r2 im false false) := hz0
  clear hz0
  by_cases hr : op < 1 ∨ 47 < op
  · have hb0 : Pl.br op = false := by unfold Pl.br; rw [decide_eq_false (by omega)]; rfl
    have hi0 : iok op rd r1 r2 im = false := by unfold iok; rw [decide_eq_false (by omega)]; rfl
    have HI : Hid (iok op rd r1 r2 im = false) := hi0
    rw [hi0] at HR
    clear hb0 hi0
    go_wp2_with (first | (go_at_call 29; refine (form_no op hr _).mono ?_; rintro e u3 ⟨rfl, h3⟩; rw [h3]; clear h3) | (go_at_call 30; refine (specInstOk_any _ _ _ _ _ _).mono ?_; rintro e u2 ⟨rfl, d2⟩; rw [HI.out]; have kl2 : ∀ j, u2.cell? ⟨w.heap.size, j, none⟩ = (#[.int .i64 3, .int .i64 op, .int .i64 rd, .int .i64 r1, .int .i64 r2, .int .i64 im, .string s, .int .i64 n] : Array Value)[j]? := (fun j => (d2.cell (p := ⟨w.heap.size, j, none⟩) Z1.out).trans (kl1 j)); have B2 : Hid (Below w.heap.size w u2) := B1.out.trans (d2.mono B1.out.size); have Z2 : Hid (w.heap.size < u2.heap.size) := Nat.lt_of_lt_of_le Z1.out d2.size; clear d2))
    all_goals
      go_ret
      refine ⟨ret_bool (Eq.trans ?_ HR.out.symm), (by first | exact B2.out | exact B1.out)⟩
      simp
  obtain ⟨q, rfl⟩ : ∃ q : Nat, op = q := ⟨op.toNat, by omega⟩
  have q1 : 1 ≤ q := by omega
  have q2 : q ≤ 47 := by omega
  clear hr
  have hb0 : Pl.br q = (Pl.fmN q == 5 || Pl.fmN q == 7) := by unfold Pl.br; rw [decide_eq_true (by omega), Int.toNat_natCast]; rfl
  obtain ⟨f, hf⟩ : ∃ f, f = Pl.fmN q := ⟨_, rfl⟩
  have HF : Hid (Pl.fmN q = f) := hf.symm
  rw [← hf] at hb0
  clear hf
  rw [hb0] at HR
  clear hb0
  cases hl : Pl.lab s <;> cases hio : iok q rd r1 r2 im
  all_goals
    rw [hio] at HR
    go_wp2_with (first | (go_at_call 29; refine (form_any q q1 q2 _).mono ?_; rintro e u3 ⟨rfl, h3⟩; rw [h3, HF.out]; clear h3) | (first | (go_at_call 31; refine (l4NameOk_any _ _).mono ?_; rintro e u3 ⟨rfl, h3⟩; rw [h3, hl]; clear h3) | (go_at_call 30; refine (specInstOk_any _ _ _ _ _ _).mono ?_; rintro e u2 ⟨rfl, d2⟩; rw [hio]; have kl2 : ∀ j, u2.cell? ⟨w.heap.size, j, none⟩ = (#[.int .i64 3, .int .i64 (q : Int), .int .i64 rd, .int .i64 r1, .int .i64 r2, .int .i64 im, .string s, .int .i64 n] : Array Value)[j]? := (fun j => (d2.cell (p := ⟨w.heap.size, j, none⟩) Z1.out).trans (kl1 j)); have B2 : Hid (Below w.heap.size w u2) := B1.out.trans (d2.mono B1.out.size); have Z2 : Hid (w.heap.size < u2.heap.size) := Nat.lt_of_lt_of_le Z1.out d2.size; clear d2)))
    all_goals
      go_ret
      refine ⟨ret_bool (Eq.trans ?_ HR.out.symm), (by first | exact B2.out | exact B1.out)⟩
      have hz0 := HZ.out.symm
      go_light
      clear kl1 HR HZ
      (try clear kl2)
      first
        | (rw [decide_eq_false (p := 0 ≤ n ∧ n ≤ 0) (by omega)]; simp; done)
        | (rw [decide_eq_true (p := 0 ≤ n ∧ n ≤ 0) (by omega)]; simp_all [Pl.sy]; done)
        | (simp_all [Pl.sy]; done)
        | (simp_all [Pl.sy] <;> omega)
        | (rw [Bool.eq_iff_iff]; simp_all [Pl.sy] <;> omega)
end Go.Proofs.YtgpmplcamdophaaDoor.W
