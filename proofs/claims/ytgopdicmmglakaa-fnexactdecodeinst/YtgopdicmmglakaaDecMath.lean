import Derived.Test.YtgopdicmmglakaaEncL
set_option linter.unusedVariables false
namespace Go.Proofs.Ytgopdicmmglakaa.Pl
/-- the fixed parts that a word shows to a form -/
def rf (f : Nat) (w : Int) : Nat → Int
  | 0 => w % 128
  | 1 => if f = 6 ∨ f = 7 then 0 else w / 4096 % 8
  | 2 => if f = 1 ∨ f = 3 ∨ f = 8 then w / 33554432 % 128 else 0
  | 3 => if f = 8 then w / 1048576 % 32 else 0
  | _ => 0
def fits (k : Nat) (w : Int) : Bool := decide (cc k 0 = rf (fmN k) w 0) && decide (cc k 1 = rf (fmN k) w 1) && decide (cc k 2 = rf (fmN k) w 2) && decide (cc k 3 = rf (fmN k) w 3)
theorem fits_iff (k : Nat) (w : Int) : fits k w = true ↔ cc k 0 = rf (fmN k) w 0 ∧ cc k 1 = rf (fmN k) w 1 ∧ cc k 2 = rf (fmN k) w 2 ∧ cc k 3 = rf (fmN k) w 3 := by
  simp only [fits, Bool.and_eq_true, decide_eq_true_eq, and_assoc]
def b1 (f : Nat) : Bool := !(f == 6 || f == 7)
def b2 (f : Nat) : Bool := f == 1 || f == 3 || f == 8
def b3 (f : Nat) : Bool := f == 8
def clash (j k : Nat) : Bool := cc j 0 != cc k 0 || (b1 (fmN j) && b1 (fmN k) && cc j 1 != cc k 1) || (b2 (fmN j) && b2 (fmN k) && cc j 2 != cc k 2) || (b3 (fmN j) && b3 (fmN k) && cc j 3 != cc k 3)
theorem clash_all : ((List.range 48).all fun j => (List.range 48).all fun k => j == 0 || k == 0 || j == k || clash j k) = true := by decide +kernel
theorem fits_one {j k : Nat} (hj : 1 ≤ j) (hj' : j ≤ 47) (hk : 1 ≤ k) (hk' : k ≤ 47) {w : Int} (h1 : fits j w = true) (h2 : fits k w = true) : j = k := by
  have := clash_all
  rw [List.all_eq_true] at this
  have := this j (List.mem_range.mpr (by omega))
  rw [List.all_eq_true] at this
  have := this k (List.mem_range.mpr (by omega))
  rw [fits_iff] at h1 h2
  obtain ⟨x0, x1, x2, x3⟩ := h1
  obtain ⟨y0, y1, y2, y3⟩ := h2
  simp only [clash, b1, b2, b3, x0, x1, x2, x3, y0, y1, y2, y3, rf, Bool.or_eq_true, Bool.and_eq_true, bne_iff_ne, beq_iff_eq, Bool.not_eq_true', Bool.or_eq_false_iff, beq_eq_false_iff_ne] at this
  rcases this with ((h | h) | h) | h
  · omega
  · omega
  · exact h
  · exfalso
    rcases h with ((h | ⟨⟨p, q⟩, h⟩) | ⟨⟨p, q⟩, h⟩) | ⟨⟨p, q⟩, h⟩
    · exact h rfl
    · rw [if_neg (by omega), if_neg (by omega)] at h; exact h rfl
    · rw [if_pos (by omega), if_pos (by omega)] at h; exact h rfl
    · rw [if_pos (by omega), if_pos (by omega)] at h; exact h rfl
theorem cc_more : ∀ k : Nat, k < 48 → cc k 1 ≤ 7 ∧ cc k 3 ≤ 31 := by decide +kernel
theorem cc_forms : ((List.range 48).all fun k => k == 0 || ((b1 (fmN k) || cc k 1 == 0) && (b2 (fmN k) || cc k 2 == 0) && (b3 (fmN k) || cc k 3 == 0))) = true := by decide +kernel
theorem us_none : ∀ f : Nat, f < 9 → (f = 4 ∨ f = 5 ∨ f = 8 → us f 0 = false) ∧ (f = 6 ∨ f = 7 ∨ f = 8 → us f 1 = false) ∧ (f = 2 ∨ f = 3 ∨ f = 6 ∨ f = 7 ∨ f = 8 → us f 2 = false) := by decide +kernel
theorem enc_fits (k : Nat) (h1 : 1 ≤ k) (h2 : k ≤ 47) (rd r1 r2 im : Int) (hok : okF (fmN k) rd r1 r2 im = true) :
    fits k (enc k rd r1 r2 im) = true ∧ 0 ≤ enc k rd r1 r2 im ∧ enc k rd r1 r2 im ≤ 4294967295 := by
  obtain ⟨g0, g1, g2, g3⟩ := okF_parts hok
  obtain ⟨a1, a2, a3⟩ := rg_bd g0
  obtain ⟨b1, b2, b3⟩ := rg_bd g1
  obtain ⟨c1, c2, c3⟩ := rg_bd g2
  obtain ⟨i1, i2⟩ := imo_bd g3
  obtain ⟨f1, f2, _⟩ := fm_cases k (by omega) h1
  obtain ⟨u1, u2, u3⟩ := us_none (fmN k) (by omega)
  have z := cc_forms
  rw [List.all_eq_true] at z
  have z := z k (List.mem_range.mpr (by omega))
  simp only [Pl.b1, Pl.b2, Pl.b3, Bool.or_eq_true, Bool.and_eq_true, beq_iff_eq, Bool.not_eq_true', Bool.or_eq_false_iff, beq_eq_false_iff_ne] at z
  obtain ⟨m1, m3⟩ := cc_more k (by omega)
  obtain ⟨p0, q0⟩ := cc_bd' k (by omega) 0 (by omega)
  obtain ⟨p1, q1⟩ := cc_bd' k (by omega) 1 (by omega)
  obtain ⟨p2, q2⟩ := cc_bd' k (by omega) 2 (by omega)
  obtain ⟨p3, q3⟩ := cc_bd' k (by omega) 3 (by omega)
  rw [fits_iff]
  unfold enc cw
  generalize cc k 0 = C0 at *
  generalize cc k 1 = C1 at *
  generalize cc k 2 = C2 at *
  generalize cc k 3 = C3 at *
  generalize fmN k = f at *
  have hcase := form_cases f f1 f2
  have sa : us f 0 = false → rd = 0 := fun e => by rcases a3 with t | t; · rw [e] at t; cases t
                                                   · exact t
  have sb : us f 1 = false → r1 = 0 := fun e => by rcases b3 with t | t; · rw [e] at t; cases t
                                                   · exact t
  have sc : us f 2 = false → r2 = 0 := fun e => by rcases c3 with t | t; · rw [e] at t; cases t
                                                   · exact t
  have ta := fun h => sa (u1 h)
  have tb := fun h => sb (u2 h)
  have tc := fun h => sc (u3 h)
  clear sa sb sc u1 u2 u3 a3 b3 c3 g0 g1 g2 g3 hok
  rcases hcase with e | e | e | e | e | e | e | e <;> subst e <;> simp [rf, imw, lo, hi, pw0, pw1, pw4, pw5, pw6, pw7, pw8, pw10, pw11, pw12, pw20] at * <;> first | omega | skip
  have t1 : 0 ≤ im / 4096 % 2 ∧ im / 4096 % 2 ≤ 1 := by omega
  have t2 : 0 ≤ im / 32 % 64 ∧ im / 32 % 64 ≤ 63 := by omega
  have t3 : 0 ≤ im / 2 % 16 ∧ im / 2 % 16 ≤ 15 := by omega
  have t4 : 0 ≤ im / 2048 % 2 ∧ im / 2048 % 2 ≤ 1 := by omega
  clear i1 i2
  generalize im / 4096 % 2 = A at *
  generalize im / 32 % 64 = B at *
  generalize im / 2 % 16 = C at *
  generalize im / 2048 % 2 = D at *
  obtain ⟨rfl, rfl⟩ : rd = 0 ∧ C2 = 0 := by omega
  obtain rfl : C3 = 0 := by omega
  refine ⟨⟨?_, ?_⟩, ?_, ?_⟩ <;> omega
end Go.Proofs.Ytgopdicmmglakaa.Pl
