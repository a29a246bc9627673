import Derived.Test.YtjdfffdeljgenaaGreatDoorS19
import Derived.Test.YtjdfffdeljgenaaGreatDoorS21
import Derived.Test.YtjdfffdeljgenaaGreatDoorS22
import Derived.Test.YtjdfffdeljgenaaGreatDoorS24
set_option linter.unusedVariables false
namespace Go.Proofs.YtjdfffdeljgenaaGreatDoor.Pl
theorem pw0 : pw 0 = 1 := by decide
theorem pw1 : pw 1 = 2 := by decide
theorem pw4 : pw 4 = 16 := by decide
theorem pw5 : pw 5 = 32 := by decide
theorem pw6 : pw 6 = 64 := by decide
theorem pw7 : pw 7 = 128 := by decide
theorem pw8 : pw 8 = 256 := by decide
theorem pw10 : pw 10 = 1024 := by decide
theorem pw11 : pw 11 = 2048 := by decide
theorem pw12 : pw 12 = 4096 := by decide
theorem pw20 : pw 20 = 1048576 := by decide
theorem rg_bd {r : Int} {u : Bool} (h : rg r u = true) : 0 ≤ r ∧ r ≤ 31 ∧ (u = true ∨ r = 0) := by unfold rg at h; exact of_decide_eq_true h
theorem imo_bd {f : Nat} {im : Int} (h : imo f im = true) : lo f ≤ im ∧ im ≤ hi f := by
  unfold imo at h; simp only [Bool.and_eq_true, decide_eq_true_eq] at h; exact h.1
theorem okF_parts {f : Nat} {rd r1 r2 im : Int} (h : okF f rd r1 r2 im = true) : rg rd (us f 0) = true ∧ rg r1 (us f 1) = true ∧ rg r2 (us f 2) = true ∧ imo f im = true := by
  unfold okF at h; simp only [Bool.and_eq_true] at h; exact ⟨h.1.1.1, h.1.1.2, h.1.2, h.2⟩
theorem lohi : ∀ f : Nat, f < 9 → -1048576 ≤ lo f ∧ hi f ≤ 1048575 := by decide +kernel
theorem imw_bd (f : Nat) (h1 : 1 ≤ f) (h2 : f ≤ 8) (im : Int) : 0 ≤ imw f im ∧ imw f im ≤ 8589934592 := by
  rcases form_cases f h1 h2 with rfl | rfl | rfl | rfl | rfl | rfl | rfl | rfl <;> (unfold imw; simp only [pw0, pw1, pw4, pw5, pw6, pw7, pw8, pw10, pw11, pw12, pw20]; omega)
theorem cc_zero : ∀ k : Nat, k < 43 → 1 ≤ k → cc k 3 = 0 ∧ (fmN k = 2 ∨ fmN k = 4 ∨ fmN k = 5 → cc k 2 = 0) := by decide +kernel
theorem fm_back1 (k : Nat) (h : k < 48) (h1 : 1 ≤ k) : (fmN k = 1 → k ≤ 18) ∧ (fmN k = 2 → (19 ≤ k ∧ k ≤ 24) ∨ (28 ≤ k ∧ k ≤ 33)) ∧ (fmN k = 3 → 25 ≤ k ∧ k ≤ 27) ∧ (fmN k = 4 → 34 ≤ k ∧ k ≤ 36) := by
  obtain ⟨a, c, b, d, e, f, g, i, j⟩ := fm_ranges k h
  omega
theorem fm_back2 (k : Nat) (h : k < 48) (h1 : 1 ≤ k) : (fmN k = 5 → 37 ≤ k ∧ k ≤ 42) ∧ (fmN k = 6 → k = 43 ∨ k = 44) ∧ (fmN k = 7 → k = 45) ∧ (fmN k = 8 → k = 46 ∨ k = 47) := by
  obtain ⟨a, c, b, d, e, f, g, i, j⟩ := fm_ranges k h
  omega
theorem cw43 : cw 43 = 55 := by decide +kernel
theorem cw44 : cw 44 = 23 := by decide +kernel
theorem cw45 : cw 45 = 111 := by decide +kernel
theorem cw46 : cw 46 = 115 := by decide +kernel
theorem cw47 : cw 47 = 1048691 := by decide +kernel
theorem wd_part (im : Int) : wd im = im % 4294967296 := rfl
end Go.Proofs.YtjdfffdeljgenaaGreatDoor.Pl
namespace Go.Proofs.YtjdfffdeljgenaaGreatDoor.W
open Go.RowKit
theorem specEnc_yes (k : Nat) (h1 : 1 ≤ k) (h2 : k ≤ 47) (rd r1 r2 im : Int) (h : iok k rd r1 r2 im = true) (w : World) :
    Calls Tryz.prog 69 #[.agg #[.int .i64 k, .int .i64 rd, .int .i64 r1, .int .i64 r2, .int .i64 im]] w fun e w' => e = .returned (.tuple #[.int .i64 (Pl.enc k rd r1 r2 im), .bool true]) ∧ Below w.heap.size w w' := by
  have hok : Pl.okF (Pl.fmN k) rd r1 r2 im = true := by
    have e : iok (k : Int) rd r1 r2 im = Pl.okF (Pl.fmN k) rd r1 r2 im := by simp [iok]; intro; omega
    rw [← e]; exact h
  obtain ⟨g0, g1, g2, g3⟩ := Pl.okF_parts hok
  obtain ⟨a1, a2, a3⟩ := Pl.rg_bd g0
  obtain ⟨b1, b2, b3⟩ := Pl.rg_bd g1
  obtain ⟨c1, c2, c3⟩ := Pl.rg_bd g2
  obtain ⟨i1, i2⟩ := Pl.imo_bd g3
  obtain ⟨f1, f2, _⟩ := fm_at k h1 h2
  obtain ⟨x1, x2⟩ := Pl.lohi (Pl.fmN k) (by omega)
  obtain ⟨y1, y2, y3, y4⟩ := Pl.fm_back1 k (by omega) h1
  obtain ⟨y5, y6, y7, y8⟩ := Pl.fm_back2 k (by omega) h1
  have fin : ∀ v : Int, v = Pl.enc k rd r1 r2 im → (Calls Tryz.prog 69 #[.agg #[.int .i64 k, .int .i64 rd, .int .i64 r1, .int .i64 r2, .int .i64 im]] w fun e w' => e = .returned (.tuple #[.int .i64 v, .bool true]) ∧ Below w.heap.size w w') → Calls Tryz.prog 69 #[.agg #[.int .i64 k, .int .i64 rd, .int .i64 r1, .int .i64 r2, .int .i64 im]] w fun e w' => e = .returned (.tuple #[.int .i64 (Pl.enc k rd r1 r2 im), .bool true]) ∧ Below w.heap.size w w' := fun v hv hc => by rw [← hv]; exact hc
  have hcase := Pl.form_cases (Pl.fmN k) f1 f2
  rcases hcase with e | e | e | e | e | e | e | e
  · have hk := y1 e
    obtain ⟨z3, _⟩ := Pl.cc_zero k (by omega) h1
    refine fin _ ?_ (specEnc_1 k h1 (by omega) e ⟨h1, hk⟩ rd r1 r2 im h w ⟨a1, a2⟩ ⟨b1, b2⟩ ⟨c1, c2⟩ (by omega))
    unfold Pl.enc Pl.cw; rw [e, z3]; unfold Pl.imw; simp only [Pl.pw0]; omega
  · have hk := y2 e
    obtain ⟨z3, z2⟩ := Pl.cc_zero k (by omega) h1
    refine fin _ ?_ (specEnc_2 k h1 (by omega) e hk rd r1 r2 im h w ⟨a1, a2⟩ ⟨b1, b2⟩ ⟨c1, c2⟩ (by omega))
    unfold Pl.enc Pl.cw; rw [e, z3, z2 (.inl e)]; unfold Pl.imw; simp only [Pl.wd_part, Pl.pw0, Pl.pw12]; omega
  · have hk := y3 e
    obtain ⟨z3, _⟩ := Pl.cc_zero k (by omega) h1
    rw [e] at i1 i2
    have i1' : 0 ≤ im := i1
    have i2' : im ≤ 31 := i2
    refine fin _ ?_ (specEnc_3 k h1 (by omega) e hk rd r1 r2 im h w ⟨a1, a2⟩ ⟨b1, b2⟩ ⟨c1, c2⟩ (by omega) i1')
    unfold Pl.enc Pl.cw; rw [e, z3]; unfold Pl.imw; simp only [Pl.pw0, Pl.pw5]; omega
  · have hk := y4 e
    obtain ⟨z3, z2⟩ := Pl.cc_zero k (by omega) h1
    refine fin _ ?_ (specEnc_4 k h1 (by omega) e hk rd r1 r2 im h w ⟨a1, a2⟩ ⟨b1, b2⟩ ⟨c1, c2⟩ (by omega))
    unfold Pl.enc Pl.cw; rw [e, z3, z2 (.inr (.inl e))]; unfold Pl.imw; simp only [Pl.wd_part, Pl.pw0, Pl.pw5, Pl.pw7]; omega
  · have hk := y5 e
    obtain ⟨z3, z2⟩ := Pl.cc_zero k (by omega) h1
    refine fin _ ?_ (specEnc_5 k h1 (by omega) e hk rd r1 r2 im h w ⟨a1, a2⟩ ⟨b1, b2⟩ ⟨c1, c2⟩ (by omega))
    unfold Pl.enc Pl.cw; rw [e, z3, z2 (.inr (.inr e))]; unfold Pl.imw; simp only [Pl.wd_part, Pl.pw1, Pl.pw4, Pl.pw5, Pl.pw6, Pl.pw11, Pl.pw12]; omega
  · rw [e] at i1 i2 b3
    have i1' : 0 ≤ im := i1
    have i2' : im ≤ 1048575 := i2
    have r1z : r1 = 0 := by rcases b3 with b3 | b3; · cases b3
                            · exact b3
    rcases y6 e with rfl | rfl
    · refine fin _ ?_ (specEnc_k43 rd r1 r2 im h w ⟨a1, a2⟩ ⟨c1, c2⟩ (by omega) i1')
      unfold Pl.enc; rw [Pl.cw43, e]; unfold Pl.imw; simp only [Pl.pw0, Pl.pw20]; omega
    · refine fin _ ?_ (specEnc_k44 rd r1 r2 im h w ⟨a1, a2⟩ ⟨c1, c2⟩ (by omega) i1')
      unfold Pl.enc; rw [Pl.cw44, e]; unfold Pl.imw; simp only [Pl.pw0, Pl.pw20]; omega
  · rw [e] at b3
    have r1z : r1 = 0 := by rcases b3 with b3 | b3; · cases b3
                            · exact b3
    obtain rfl := y7 e
    refine fin _ ?_ (specEnc_k45 rd r1 r2 im h w ⟨a1, a2⟩ ⟨c1, c2⟩ (by omega))
    unfold Pl.enc; rw [Pl.cw45, e]; unfold Pl.imw; simp only [Pl.wd_part, Pl.pw1, Pl.pw8, Pl.pw10, Pl.pw11, Pl.pw12, Pl.pw20]; omega
  · rw [e] at i1 i2 a3 b3 c3
    have i1' : 0 ≤ im := i1
    have i2' : im ≤ 0 := i2
    have rdz : rd = 0 := by rcases a3 with a3 | a3; · cases a3
                            · exact a3
    have r1z : r1 = 0 := by rcases b3 with b3 | b3; · cases b3
                            · exact b3
    have r2z : r2 = 0 := by rcases c3 with c3 | c3; · cases c3
                            · exact c3
    rcases y8 e with rfl | rfl
    · refine fin _ ?_ (specEnc_k46 rd r1 r2 im h w ⟨a1, a2⟩ ⟨c1, c2⟩ (by omega))
      unfold Pl.enc; rw [Pl.cw46, e]; unfold Pl.imw; simp only [Pl.pw0]; omega
    · refine fin _ ?_ (specEnc_k47 rd r1 r2 im h w ⟨a1, a2⟩ ⟨c1, c2⟩ (by omega))
      unfold Pl.enc; rw [Pl.cw47, e]; unfold Pl.imw; simp only [Pl.pw0]; omega
theorem implEnc_at (k : Nat) (h1 : 1 ≤ k) (h2 : k ≤ 47) (rd r1 r2 im : Int) (h : iok k rd r1 r2 im = true) (w : World) :
    Calls Tryz.prog 116 #[.agg #[.int .i64 k, .int .i64 rd, .int .i64 r1, .int .i64 r2, .int .i64 im]] w fun e w' => e = .returned (.tuple #[.int .i64 (Pl.enc k rd r1 r2 im), .bool true]) ∧ Below w.heap.size w w' := by
  have hok : Pl.okF (Pl.fmN k) rd r1 r2 im = true := by
    have e : iok (k : Int) rd r1 r2 im = Pl.okF (Pl.fmN k) rd r1 r2 im := by simp [iok]; intro; omega
    rw [← e]; exact h
  obtain ⟨g0, g1, g2, g3⟩ := Pl.okF_parts hok
  obtain ⟨a1, a2, _⟩ := Pl.rg_bd g0
  obtain ⟨b1, b2, _⟩ := Pl.rg_bd g1
  obtain ⟨c1, c2, _⟩ := Pl.rg_bd g2
  obtain ⟨i1, i2⟩ := Pl.imo_bd g3
  obtain ⟨f1, f2, hf⟩ := fm_at k h1 h2
  obtain ⟨x1, x2⟩ := Pl.lohi (Pl.fmN k) (by omega)
  exact implEnc_yes k _ h1 h2 f1 f2 hf rd r1 r2 im h w ⟨a1, a2⟩ ⟨b1, b2⟩ ⟨c1, c2⟩ (by omega) (Pl.imw_bd _ f1 f2 im)
end Go.Proofs.YtjdfffdeljgenaaGreatDoor.W
