import Derived.Test.YtomhmjhcbencmaaDoorDecP
set_option linter.unusedVariables false
set_option linter.unusedSimpArgs false
namespace Go.Proofs.YtomhmjhcbencmaaDoor.Pl
theorem pw15 : pw 15 = 32768 := by decide
theorem pw20' : pw 20 = 1048576 := by decide
theorem pw21 : pw 21 = 2097152 := by decide
theorem pw25 : pw 25 = 33554432 := by decide
theorem pw31 : pw 31 = 2147483648 := by decide
theorem us_tab : us 1 0 = true ∧ us 1 1 = true ∧ us 1 2 = true ∧ us 2 0 = true ∧ us 2 1 = true ∧ us 2 2 = false ∧ us 3 0 = true ∧ us 3 1 = true ∧ us 3 2 = false ∧ us 4 0 = false ∧ us 4 1 = true ∧ us 4 2 = true ∧ us 5 0 = false ∧ us 5 1 = true ∧ us 5 2 = true ∧ us 6 0 = true ∧ us 6 1 = false ∧ us 6 2 = false ∧ us 7 0 = true ∧ us 7 1 = false ∧ us 7 2 = false ∧ us 8 0 = false ∧ us 8 1 = false ∧ us 8 2 = false := by decide
theorem step_even {im : Int} (h : (im.tmod 2 == 0) = true) : im % 2 = 0 := by
  have h' : im.tmod 2 = 0 := by simpa using h
  rcases tmod_cases im 2 with ⟨a, b⟩ | ⟨a, b⟩ <;> omega
/-- the fields of a word that was made are those it was made of -/
theorem enc_back (k : Nat) (h1 : 1 ≤ k) (h2 : k ≤ 47) (rd r1 r2 im : Int) (hok : okF (fmN k) rd r1 r2 im = true) :
    fRd (fmN k) (enc k rd r1 r2 im) = rd ∧ fR1 (fmN k) (enc k rd r1 r2 im) = r1 ∧ fR2 (fmN k) (enc k rd r1 r2 im) = r2 ∧ gIm (fmN k) (enc k rd r1 r2 im) = im := by
  obtain ⟨g0, g1, g2, g3⟩ := okF_parts hok
  obtain ⟨a1, a2, a3⟩ := rg_bd g0
  obtain ⟨b1, b2, b3⟩ := rg_bd g1
  obtain ⟨c1, c2, c3⟩ := rg_bd g2
  obtain ⟨i1, i2⟩ := imo_bd g3
  have i3 : (im.tmod (st (fmN k)) == 0) = true := by unfold imo at g3; rw [Bool.and_eq_true] at g3; exact g3.2
  obtain ⟨f1, f2, _⟩ := fm_cases k (by omega) h1
  have z := cc_forms
  rw [List.all_eq_true] at z
  have z := z k (List.mem_range.mpr (by omega))
  simp only [Pl.b1, Pl.b2, Pl.b3, Bool.or_eq_true, Bool.and_eq_true, beq_iff_eq, Bool.not_eq_true', Bool.or_eq_false_iff, beq_eq_false_iff_ne] at z
  obtain ⟨m1, m3⟩ := cc_more k (by omega)
  obtain ⟨p0, q0⟩ := cc_bd' k (by omega) 0 (by omega)
  obtain ⟨p1, q1⟩ := cc_bd' k (by omega) 1 (by omega)
  obtain ⟨p2, q2⟩ := cc_bd' k (by omega) 2 (by omega)
  obtain ⟨p3, q3⟩ := cc_bd' k (by omega) 3 (by omega)
  obtain ⟨t1, t2, t3, t4, t5, t6, t7, t8, t9, t10, t11, t12, t13, t14, t15, t16, t17, t18, t19, t20, t21, t22, t23, t24⟩ := us_tab
  unfold enc cw
  generalize cc k 0 = C0 at *
  generalize cc k 1 = C1 at *
  generalize cc k 2 = C2 at *
  generalize cc k 3 = C3 at *
  generalize fmN k = f at *
  have hcase := form_cases f f1 f2
  clear g0 g1 g2 g3 hok f1 f2
  rcases hcase with e | e | e | e | e | e | e | e <;> subst e
  all_goals
    simp only [fRd, fR1, fR2, gIm, rim, imw, lo, hi, st, t1, t2, t3, t4, t5, t6, t7, t8, t9, t10, t11, t12, t13, t14, t15, t16, t17, t18, t19, t20, t21, t22, t23, t24, pw0, pw1, pw4, pw5, pw6, pw7, pw8, pw10, pw11, pw12, pw15, pw20', pw21, pw25, pw31, if_true, if_false, Bool.false_eq_true, true_or, false_or, or_false, Int.ediv_one, Int.emod_one, Int.mul_one, Int.add_zero, Int.zero_add, Int.zero_mul] at a3 b3 c3 i1 i2 i3 ⊢
    simp at z
  · refine ⟨by omega, by omega, by omega, ?_⟩
    split <;> omega
  · refine ⟨by omega, by omega, by omega, ?_⟩
    split <;> omega
  · refine ⟨by omega, by omega, by omega, ?_⟩
    split <;> omega
  · obtain ⟨A, hA⟩ : ∃ A, A = im / 32 % 128 := ⟨_, rfl⟩
    obtain ⟨B, hB⟩ : ∃ B, B = im % 32 := ⟨_, rfl⟩
    have bA : 0 ≤ A ∧ A ≤ 127 := by omega
    have bB : 0 ≤ B ∧ B ≤ 31 := by omega
    have rel1 : (A ≤ 63 ∧ im = A * 32 + B) ∨ (64 ≤ A ∧ im = A * 32 + B - 4096) := by omega
    rw [← hA, ← hB]
    clear hA hB
    obtain ⟨e2, e3⟩ : C2 = 0 ∧ C3 = 0 := by omega
    rw [e2, e3, a3]
    obtain ⟨N, hN⟩ : ∃ N, N = C0 + C1 * 4096 + 0 * 33554432 + 0 * 1048576 + (A * 33554432 + B * 128) + 0 * 128 + r1 * 32768 + r2 * 1048576 := ⟨_, rfl⟩
    rw [← hN]
    have n1 : N / 33554432 % 128 = A := by omega
    have n2 : N / 128 % 32 = B := by omega
    have n3 : N / 32768 % 32 = r1 := by omega
    have n4 : N / 1048576 % 32 = r2 := by omega
    rw [n1, n2, n3, n4]
    clear hN n1 n2 n3 n4
    refine ⟨rfl, rfl, rfl, ?_⟩
    split <;> omega
  · have hev := step_even i3
    obtain ⟨A, hA⟩ : ∃ A, A = im / 4096 % 2 := ⟨_, rfl⟩
    obtain ⟨B, hB⟩ : ∃ B, B = im / 32 % 64 := ⟨_, rfl⟩
    obtain ⟨C, hC⟩ : ∃ C, C = im / 2 % 16 := ⟨_, rfl⟩
    obtain ⟨D, hD⟩ : ∃ D, D = im / 2048 % 2 := ⟨_, rfl⟩
    have bA : 0 ≤ A ∧ A ≤ 1 := by omega
    have bB : 0 ≤ B ∧ B ≤ 63 := by omega
    have bC : 0 ≤ C ∧ C ≤ 15 := by omega
    have bD : 0 ≤ D ∧ D ≤ 1 := by omega
    have rel1 : (A = 0 ∧ im = D * 2048 + B * 32 + C * 2) ∨ (A = 1 ∧ im = D * 2048 + B * 32 + C * 2 - 4096) := by omega
    rw [← hA, ← hB, ← hC, ← hD]
    clear hA hB hC hD i3 hev
    obtain ⟨e2, e3⟩ : C2 = 0 ∧ C3 = 0 := by omega
    rw [e2, e3, a3]
    obtain ⟨N, hN⟩ : ∃ N, N = C0 + C1 * 4096 + 0 * 33554432 + 0 * 1048576 + (A * 2147483648 + B * 33554432 + C * 256 + D * 128) + 0 * 128 + r1 * 32768 + r2 * 1048576 := ⟨_, rfl⟩
    rw [← hN]
    have n1 : N / 2147483648 % 2 = A := by omega
    have n2 : N / 33554432 % 64 = B := by omega
    have n3 : N / 256 % 16 = C := by omega
    have n4 : N / 128 % 2 = D := by omega
    have n5 : N / 32768 % 32 = r1 := by omega
    have n6 : N / 1048576 % 32 = r2 := by omega
    rw [n1, n2, n3, n4, n5, n6]
    clear hN n1 n2 n3 n4 n5 n6
    refine ⟨rfl, rfl, rfl, ?_⟩
    split <;> omega
  · refine ⟨by omega, by omega, by omega, ?_⟩
    split <;> omega
  · have hev := step_even i3
    obtain ⟨A, hA⟩ : ∃ A, A = im / 1048576 % 2 := ⟨_, rfl⟩
    obtain ⟨B, hB⟩ : ∃ B, B = im / 2 % 1024 := ⟨_, rfl⟩
    obtain ⟨C, hC⟩ : ∃ C, C = im / 2048 % 2 := ⟨_, rfl⟩
    obtain ⟨D, hD⟩ : ∃ D, D = im / 4096 % 256 := ⟨_, rfl⟩
    have bA : 0 ≤ A ∧ A ≤ 1 := by omega
    have bB : 0 ≤ B ∧ B ≤ 1023 := by omega
    have bC : 0 ≤ C ∧ C ≤ 1 := by omega
    have bD : 0 ≤ D ∧ D ≤ 255 := by omega
    have rel1 : (A = 0 ∧ im = D * 4096 + C * 2048 + B * 2) ∨ (A = 1 ∧ im = D * 4096 + C * 2048 + B * 2 - 1048576) := by omega
    rw [← hA, ← hB, ← hC, ← hD]
    clear hA hB hC hD i3 hev
    obtain ⟨e1, e2, e3⟩ : C1 = 0 ∧ C2 = 0 ∧ C3 = 0 := by omega
    rw [e1, e2, e3, b3, c3]
    obtain ⟨N, hN⟩ : ∃ N, N = C0 + 0 * 4096 + 0 * 33554432 + 0 * 1048576 + (A * 2147483648 + B * 2097152 + C * 1048576 + D * 4096) + rd * 128 + 0 * 32768 + 0 * 1048576 := ⟨_, rfl⟩
    rw [← hN]
    have n1 : N / 2147483648 % 2 = A := by omega
    have n2 : N / 2097152 % 1024 = B := by omega
    have n3 : N / 1048576 % 2 = C := by omega
    have n4 : N / 4096 % 256 = D := by omega
    have n5 : N / 128 % 32 = rd := by omega
    rw [n1, n2, n3, n4, n5]
    clear hN n1 n2 n3 n4 n5
    refine ⟨rfl, rfl, rfl, ?_⟩
    split <;> omega
  · refine ⟨by omega, by omega, by omega, ?_⟩
    split <;> omega
/-- a word that was made is read as what it was made of -/
theorem dec_enc (k : Nat) (h1 : 1 ≤ k) (h2 : k ≤ 47) (rd r1 r2 im : Int) (hok : okF (fmN k) rd r1 r2 im = true) :
    dec (enc k rd r1 r2 im) = k ∧ decV (enc k rd r1 r2 im) = #[.int .i64 (k : Int), .int .i64 rd, .int .i64 r1, .int .i64 r2, .int .i64 im] := by
  obtain ⟨e1, e2, e3, e4⟩ := enc_back k h1 h2 rd r1 r2 im hok
  have hh : hit k (enc k rd r1 r2 im) = true := by
    rw [hit_iff, e1, e2, e3, e4]
    exact ⟨hok, rfl⟩
  have hd := dec_hit h1 h2 hh
  exact ⟨hd, by rw [decV_hit h1 hd, e1, e2, e3, e4]⟩
/-- what is read is made of the same word -/
theorem enc_dec {n : Int} (h : dec n ≠ 0) : 1 ≤ dec n ∧ dec n ≤ 47 ∧ okF (fmN (dec n)) (dRd n) (dR1 n) (dR2 n) (dIm n) = true ∧ enc (dec n) (dRd n) (dR1 n) (dR2 n) (dIm n) = n := by
  cases hf : (List.range 48).find? fun k => decide (1 ≤ k) && hit k n with
  | none => exact absurd (by unfold dec; rw [hf]; rfl) h
  | some j =>
    have hp := List.find?_some hf
    have hm := List.mem_range.1 (List.mem_of_find?_eq_some hf)
    simp only [Bool.and_eq_true, decide_eq_true_eq] at hp
    have hd : dec n = j := dec_hit hp.1 (by omega) hp.2
    obtain ⟨g1, g2⟩ := (hit_iff j n).1 hp.2
    unfold dRd dR1 dR2 dIm
    rw [hd, if_neg (by omega), if_neg (by omega), if_neg (by omega), if_neg (by omega)]
    exact ⟨hp.1, by omega, g1, g2⟩
end Go.Proofs.YtomhmjhcbencmaaDoor.Pl
