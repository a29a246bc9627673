import Derived.Test.YtgpmplcamdophaaDoorFormS
namespace Go.Proofs.YtgpmplcamdophaaDoor.Pl
def rr (rd r1 r2 : Int) (j : Nat) : Int := if j = 0 then rd else if j = 1 then r1 else r2
end Go.Proofs.YtgpmplcamdophaaDoor.Pl
namespace Go.Proofs.YtgpmplcamdophaaDoor.W
open Go.RowKit
def RegsTo (f : Nat) (rd r1 r2 : Int) (i : Value) : Prop := i = .int .i64 0 ∨ (i = .int .i64 1 ∧ Pl.rg rd (Pl.us f 0) = true) ∨ (i = .int .i64 2 ∧ Pl.rg rd (Pl.us f 0) = true ∧ Pl.rg r1 (Pl.us f 1) = true) ∨ (i = .int .i64 3 ∧ Pl.rg rd (Pl.us f 0) = true ∧ Pl.rg r1 (Pl.us f 1) = true ∧ Pl.rg r2 (Pl.us f 2) = true)
theorem specInstOk_no (n : Int) (h : n < 1 ∨ 47 < n) (rd r1 r2 im : Int) (w : World) : Calls Tryd.prog 30 #[.agg #[.int .i64 n, .int .i64 rd, .int .i64 r1, .int .i64 r2, .int .i64 im]] w fun e w' => e = .returned (.bool false) ∧ Below w.heap.size w w' := by
  go_enter Tryd.func30, Tryd.ntmps30
  go_wp2_with (go_at_call 29; refine (form_no n h _).mono ?_; rintro e u1 ⟨rfl, rfl⟩)
  go_ret
  exact ⟨rfl, (Below.refl _ _).alloc (Nat.le_refl _) _⟩
set_option maxHeartbeats 1000000 in
theorem specInstOk_yes (k f : Nat) (h1 : 1 ≤ k) (h2 : k ≤ 47) (f1 : 1 ≤ f) (f2 : f ≤ 8) (HF : Hid (Pl.fmN k = f)) (rd r1 r2 im : Int) (w : World) : Calls Tryd.prog 30 #[.agg #[.int .i64 k, .int .i64 rd, .int .i64 r1, .int .i64 r2, .int .i64 im]] w fun e w' => e = .returned (.bool (Pl.okF f rd r1 r2 im)) ∧ Below w.heap.size w w' := by
  have hk : ∀ w, Calls Tryd.prog 29 #[.int .i64 k] w fun e w' => e = .returned (.int .i64 (f : Int)) ∧ w' = w := fun w => by
    have := form_any k h1 h2 w
    rw [HF.out] at this; exact this
  have HK : Hid (∀ w, Calls Tryd.prog 29 #[.int .i64 k] w fun e w' => e = .returned (.int .i64 (f : Int)) ∧ w' = w) := hk
  clear hk
  have f0 : ((f : Int) == 0) = false := by simp; omega
  have pb := Pl.pts_bd f (by omega)
  go_enter Tryd.func30, Tryd.ntmps30
  go_wp2_with (first | (go_at_call 29; refine (HK.out _).mono ?_; rintro e u1 ⟨rfl, rfl⟩) | (go_at_call 50; refine (parts_any f f1 f2 _).mono ?_; rintro e u2 ⟨rfl, rfl⟩))
  go_loop [6] (fun i => RegsTo f rd r1 r2 i) (fun i => 3 - (intOf i).toNat)
  case atStart => exact Or.inl rfl
  case round =>
    rcases hrel with rfl | ⟨rfl, g0⟩ | ⟨rfl, g0, g1⟩ | ⟨rfl, g0, g1, g2⟩
    · have pp := Pl.pw_pos 0
      have pq1 : 0 ≤ Pl.pts f / Pl.pw 0 := Int.ediv_nonneg pb.1 (by omega)
      have pq2 : Pl.pts f / Pl.pw 0 ≤ 14 := by have := Int.ediv_le_self (Pl.pw 0) pb.1; omega
      have bit := Pl.pts_bit f (by omega) 0 (by decide)
      by_cases c1 : rd < 0
      · have hfalse : Pl.rg rd (Pl.us f 0) = false := by simp [Pl.rg]; omega
        have HO0 : Pl.okF f rd r1 r2 im = false := by simp [Pl.okF, hfalse]
        have HO : Hid (Pl.okF f rd r1 r2 im = false) := HO0
        clear HO0
        clear bit hfalse
        go_wp2_with (go_at_call 51; refine (specPower_any 0 0 rfl (by decide) _).mono ?_; rintro e u3 ⟨rfl, rfl⟩)
        go_ret
        exact ⟨ret_bool HO.out.symm, (by repeat (first | exact Below.refl _ _ | refine Below.alloc ?_ (by simp <;> omega) _))⟩
      by_cases c2 : 31 < rd
      · have hfalse : Pl.rg rd (Pl.us f 0) = false := by simp [Pl.rg]; omega
        have HO0 : Pl.okF f rd r1 r2 im = false := by simp [Pl.okF, hfalse]
        have HO : Hid (Pl.okF f rd r1 r2 im = false) := HO0
        clear HO0
        clear bit hfalse
        go_wp2_with (go_at_call 51; refine (specPower_any 0 0 rfl (by decide) _).mono ?_; rintro e u3 ⟨rfl, rfl⟩)
        go_ret
        exact ⟨ret_bool HO.out.symm, (by repeat (first | exact Below.refl _ _ | refine Below.alloc ?_ (by simp <;> omega) _))⟩
      cases hu : Pl.us f 0
      · by_cases c3 : rd = 0
        · subst c3
          have gN : Pl.rg 0 (Pl.us f 0) = true := by rw [hu]; simp [Pl.rg]
          rw [hu, if_neg (by simp)] at bit
          have GN : Hid (Pl.rg 0 (Pl.us f 0) = true) := gN
          clear gN hu
          go_wp2_with (go_at_call 51; refine (specPower_any 0 0 rfl (by decide) _).mono ?_; rintro e u3 ⟨rfl, rfl⟩)
          go_round
          case rel => have gN := GN.out; exact Or.inr (Or.inl ⟨rfl, gN⟩)
          case measure => simp [intOf]
        · have hfalse : Pl.rg rd (Pl.us f 0) = false := by rw [hu]; simp [Pl.rg]; omega
          have HO0 : Pl.okF f rd r1 r2 im = false := by simp [Pl.okF, hfalse]
          have HO : Hid (Pl.okF f rd r1 r2 im = false) := HO0
          clear HO0
          rw [hu, if_neg (by simp)] at bit
          have c4 : (rd == 0) = false := by simpa using c3
          clear hfalse hu
          go_wp2_with (go_at_call 51; refine (specPower_any 0 0 rfl (by decide) _).mono ?_; rintro e u3 ⟨rfl, rfl⟩)
          go_ret
          exact ⟨ret_bool HO.out.symm, (by repeat (first | exact Below.refl _ _ | refine Below.alloc ?_ (by simp <;> omega) _))⟩
      · have gN : Pl.rg rd (Pl.us f 0) = true := by rw [hu]; simp [Pl.rg]; omega
        rw [hu, if_pos rfl] at bit
        have GN : Hid (Pl.rg rd (Pl.us f 0) = true) := gN
        clear gN hu
        go_wp2_with (go_at_call 51; refine (specPower_any 0 0 rfl (by decide) _).mono ?_; rintro e u3 ⟨rfl, rfl⟩)
        go_round
        case rel => have gN := GN.out; exact Or.inr (Or.inl ⟨rfl, gN⟩)
        case measure => simp [intOf]
    · have pp := Pl.pw_pos 1
      have pq1 : 0 ≤ Pl.pts f / Pl.pw 1 := Int.ediv_nonneg pb.1 (by omega)
      have pq2 : Pl.pts f / Pl.pw 1 ≤ 14 := by have := Int.ediv_le_self (Pl.pw 1) pb.1; omega
      have bit := Pl.pts_bit f (by omega) 1 (by decide)
      by_cases c1 : r1 < 0
      · have hfalse : Pl.rg r1 (Pl.us f 1) = false := by simp [Pl.rg]; omega
        have HO0 : Pl.okF f rd r1 r2 im = false := by simp [Pl.okF, hfalse]
        have HO : Hid (Pl.okF f rd r1 r2 im = false) := HO0
        clear HO0
        clear bit hfalse
        go_wp2_with (go_at_call 51; refine (specPower_any 1 1 rfl (by decide) _).mono ?_; rintro e u3 ⟨rfl, rfl⟩)
        go_ret
        exact ⟨ret_bool HO.out.symm, (by repeat (first | exact Below.refl _ _ | refine Below.alloc ?_ (by simp <;> omega) _))⟩
      by_cases c2 : 31 < r1
      · have hfalse : Pl.rg r1 (Pl.us f 1) = false := by simp [Pl.rg]; omega
        have HO0 : Pl.okF f rd r1 r2 im = false := by simp [Pl.okF, hfalse]
        have HO : Hid (Pl.okF f rd r1 r2 im = false) := HO0
        clear HO0
        clear bit hfalse
        go_wp2_with (go_at_call 51; refine (specPower_any 1 1 rfl (by decide) _).mono ?_; rintro e u3 ⟨rfl, rfl⟩)
        go_ret
        exact ⟨ret_bool HO.out.symm, (by repeat (first | exact Below.refl _ _ | refine Below.alloc ?_ (by simp <;> omega) _))⟩
      cases hu : Pl.us f 1
      · by_cases c3 : r1 = 0
        · subst c3
          have gN : Pl.rg 0 (Pl.us f 1) = true := by rw [hu]; simp [Pl.rg]
          rw [hu, if_neg (by simp)] at bit
          have GN : Hid (Pl.rg 0 (Pl.us f 1) = true) := gN
          clear gN hu
          go_wp2_with (go_at_call 51; refine (specPower_any 1 1 rfl (by decide) _).mono ?_; rintro e u3 ⟨rfl, rfl⟩)
          go_round
          case rel => have gN := GN.out; exact Or.inr (Or.inr (Or.inl ⟨rfl, g0, gN⟩))
          case measure => simp [intOf]
        · have hfalse : Pl.rg r1 (Pl.us f 1) = false := by rw [hu]; simp [Pl.rg]; omega
          have HO0 : Pl.okF f rd r1 r2 im = false := by simp [Pl.okF, hfalse]
          have HO : Hid (Pl.okF f rd r1 r2 im = false) := HO0
          clear HO0
          rw [hu, if_neg (by simp)] at bit
          have c4 : (r1 == 0) = false := by simpa using c3
          clear hfalse hu
          go_wp2_with (go_at_call 51; refine (specPower_any 1 1 rfl (by decide) _).mono ?_; rintro e u3 ⟨rfl, rfl⟩)
          go_ret
          exact ⟨ret_bool HO.out.symm, (by repeat (first | exact Below.refl _ _ | refine Below.alloc ?_ (by simp <;> omega) _))⟩
      · have gN : Pl.rg r1 (Pl.us f 1) = true := by rw [hu]; simp [Pl.rg]; omega
        rw [hu, if_pos rfl] at bit
        have GN : Hid (Pl.rg r1 (Pl.us f 1) = true) := gN
        clear gN hu
        go_wp2_with (go_at_call 51; refine (specPower_any 1 1 rfl (by decide) _).mono ?_; rintro e u3 ⟨rfl, rfl⟩)
        go_round
        case rel => have gN := GN.out; exact Or.inr (Or.inr (Or.inl ⟨rfl, g0, gN⟩))
        case measure => simp [intOf]
    · have pp := Pl.pw_pos 2
      have pq1 : 0 ≤ Pl.pts f / Pl.pw 2 := Int.ediv_nonneg pb.1 (by omega)
      have pq2 : Pl.pts f / Pl.pw 2 ≤ 14 := by have := Int.ediv_le_self (Pl.pw 2) pb.1; omega
      have bit := Pl.pts_bit f (by omega) 2 (by decide)
      by_cases c1 : r2 < 0
      · have hfalse : Pl.rg r2 (Pl.us f 2) = false := by simp [Pl.rg]; omega
        have HO0 : Pl.okF f rd r1 r2 im = false := by simp [Pl.okF, hfalse]
        have HO : Hid (Pl.okF f rd r1 r2 im = false) := HO0
        clear HO0
        clear bit hfalse
        go_wp2_with (go_at_call 51; refine (specPower_any 2 2 rfl (by decide) _).mono ?_; rintro e u3 ⟨rfl, rfl⟩)
        go_ret
        exact ⟨ret_bool HO.out.symm, (by repeat (first | exact Below.refl _ _ | refine Below.alloc ?_ (by simp <;> omega) _))⟩
      by_cases c2 : 31 < r2
      · have hfalse : Pl.rg r2 (Pl.us f 2) = false := by simp [Pl.rg]; omega
        have HO0 : Pl.okF f rd r1 r2 im = false := by simp [Pl.okF, hfalse]
        have HO : Hid (Pl.okF f rd r1 r2 im = false) := HO0
        clear HO0
        clear bit hfalse
        go_wp2_with (go_at_call 51; refine (specPower_any 2 2 rfl (by decide) _).mono ?_; rintro e u3 ⟨rfl, rfl⟩)
        go_ret
        exact ⟨ret_bool HO.out.symm, (by repeat (first | exact Below.refl _ _ | refine Below.alloc ?_ (by simp <;> omega) _))⟩
      cases hu : Pl.us f 2
      · by_cases c3 : r2 = 0
        · subst c3
          have gN : Pl.rg 0 (Pl.us f 2) = true := by rw [hu]; simp [Pl.rg]
          rw [hu, if_neg (by simp)] at bit
          have GN : Hid (Pl.rg 0 (Pl.us f 2) = true) := gN
          clear gN hu
          go_wp2_with (go_at_call 51; refine (specPower_any 2 2 rfl (by decide) _).mono ?_; rintro e u3 ⟨rfl, rfl⟩)
          go_round
          case rel => have gN := GN.out; exact Or.inr (Or.inr (Or.inr ⟨rfl, g0, g1, gN⟩))
          case measure => simp [intOf]
        · have hfalse : Pl.rg r2 (Pl.us f 2) = false := by rw [hu]; simp [Pl.rg]; omega
          have HO0 : Pl.okF f rd r1 r2 im = false := by simp [Pl.okF, hfalse]
          have HO : Hid (Pl.okF f rd r1 r2 im = false) := HO0
          clear HO0
          rw [hu, if_neg (by simp)] at bit
          have c4 : (r2 == 0) = false := by simpa using c3
          clear hfalse hu
          go_wp2_with (go_at_call 51; refine (specPower_any 2 2 rfl (by decide) _).mono ?_; rintro e u3 ⟨rfl, rfl⟩)
          go_ret
          exact ⟨ret_bool HO.out.symm, (by repeat (first | exact Below.refl _ _ | refine Below.alloc ?_ (by simp <;> omega) _))⟩
      · have gN : Pl.rg r2 (Pl.us f 2) = true := by rw [hu]; simp [Pl.rg]; omega
        rw [hu, if_pos rfl] at bit
        have GN : Hid (Pl.rg r2 (Pl.us f 2) = true) := gN
        clear gN hu
        go_wp2_with (go_at_call 51; refine (specPower_any 2 2 rfl (by decide) _).mono ?_; rintro e u3 ⟨rfl, rfl⟩)
        go_round
        case rel => have gN := GN.out; exact Or.inr (Or.inr (Or.inr ⟨rfl, g0, g1, gN⟩))
        case measure => simp [intOf]
    · have hst := Pl.st_cases f
      have hs0 : ¬ Pl.st f = 0 := by omega
      have HO0 : Pl.okF f rd r1 r2 im = Pl.imo f im := by simp [Pl.okF, g0, g1, g2]
      have HO : Hid (Pl.okF f rd r1 r2 im = Pl.imo f im) := HO0
      clear HO0
      clear g0 g1 g2
      by_cases h3 : Pl.lo f ≤ im
      · by_cases h4 : im ≤ Pl.hi f
        · have HI0 : Pl.imo f im = (im.tmod (Pl.st f) == 0) := by simp [Pl.imo, h3, h4]
          have HI : Hid (Pl.imo f im = (im.tmod (Pl.st f) == 0)) := HI0
          clear HI0
          go_wp2_with (go_at_call 52; refine (range_any f f1 f2 _).mono ?_; rintro e u3 ⟨rfl, rfl⟩)
          go_ret
          exact ⟨ret_bool (by rw [HO.out, HI.out]), (by repeat (first | exact Below.refl _ _ | refine Below.alloc ?_ (by simp <;> omega) _))⟩
        · have HI0 : Pl.imo f im = false := by simp [Pl.imo, h4]
          have HI : Hid (Pl.imo f im = false) := HI0
          clear HI0
          go_wp2_with (go_at_call 52; refine (range_any f f1 f2 _).mono ?_; rintro e u3 ⟨rfl, rfl⟩)
          go_ret
          exact ⟨ret_bool (by rw [HO.out, HI.out]), (by repeat (first | exact Below.refl _ _ | refine Below.alloc ?_ (by simp <;> omega) _))⟩
      · have HI0 : Pl.imo f im = false := by simp [Pl.imo, h3]
        have HI : Hid (Pl.imo f im = false) := HI0
        clear HI0
        have h5 : decide (Pl.lo f ≤ im) = false := by simpa using h3
        go_wp2_with (go_at_call 52; refine (range_any f f1 f2 _).mono ?_; rintro e u3 ⟨rfl, rfl⟩)
        go_ret
        exact ⟨ret_bool (by rw [HO.out, HI.out]), (by repeat (first | exact Below.refl _ _ | refine Below.alloc ?_ (by simp <;> omega) _))⟩
end Go.Proofs.YtgpmplcamdophaaDoor.W
