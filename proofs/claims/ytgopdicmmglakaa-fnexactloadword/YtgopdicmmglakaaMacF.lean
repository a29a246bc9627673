import Derived.Test.YtgopdicmmglakaaMacM
set_option linter.unusedVariables false
namespace Go.Proofs.Ytgopdicmmglakaa.W
open Go.RowKit
set_option maxHeartbeats 4000000 in
theorem specMachineOk_any {lo : Nat} (v : MV) (m : Pl.Mac) (w : World) (h : MIs lo w v m) :
    Calls Try.prog 8 #[.agg #[.slice v.code.a v.code.len v.code.cap, .int .i64 m.pc, .slice v.regs.a v.regs.len v.regs.cap, .slice v.data.a v.data.len v.data.cap, .slice v.stk.a v.stk.len v.stk.cap, .slice v.inp.a v.inp.len v.inp.cap, .slice v.out.a v.out.len v.out.cap, .int .i64 m.steps, .int .i64 m.fin, .int .i64 m.val]] w fun e w' => e = .returned (.bool (Pl.mOk m)) ∧ Below w.heap.size w w' := by
  obtain ⟨⟨ca, cl, cc⟩, ⟨ra, rl, rc⟩, ⟨da, dl, dc⟩, ⟨sa, sl, sc⟩, ⟨ia, il, ic⟩, ⟨oa, ol, oc⟩⟩ := v
  obtain ⟨code, pc, regs, data, stk, inp, out, steps, fin, val⟩ := m
  have h' := h.keep (below_alloc w (.cells #[.slice ca cl cc, .int .i64 pc, .slice ra rl rc, .slice da dl dc, .slice sa sl sc, .slice ia il ic, .slice oa ol oc, .int .i64 steps, .int .i64 fin, .int .i64 val] 28))
  obtain ⟨r1, r2, r3, r4, r5, r6⟩ := h'
  dsimp only at r1 r2 r3 r4 r5 r6 ⊢
  have l2 := r2.small
  have l3 := r3.small
  have l4 := r4.small
  have l5 := r5.small
  have l6 := r6.small
  have E2 : Hid (regs.length = rl) := r2.1
  have E3 : Hid (data.length = dl) := r3.1
  have E4 : Hid (stk.length = sl) := r4.1
  have E5 : Hid (inp.length = il) := r5.1
  have E6 : Hid (out.length = ol) := r6.1
  have R1 : Hid _ := r1
  have R2 : Hid _ := r2
  clear r1 r2 r3 r4 r5 r6 h
  unfold Pl.mOk
  dsimp only
  rw [E2.out, E3.out, E4.out, E5.out, E6.out]
  cases c1 : Pl.cdOk code
  · go_enter Try.func8, Try.ntmps8
    go_wp2_with (first | (go_at_call 24; refine (specCodeOk_any _ _ _ code _ R1.out).mono ?_; rintro e w' ⟨rfl, rfl⟩; simp only [c1]))
    go_ret
    exact ⟨rfl, below_alloc _ _⟩
  rw [Bool.true_and]
  by_cases c2 : dl ≤ 65536
  rotate_left
  · rw [decide_eq_false c2, Bool.false_and]
    go_enter Try.func8, Try.ntmps8
    go_wp2_with (first | (go_at_call 24; refine (specCodeOk_any _ _ _ code _ R1.out).mono ?_; rintro e w' ⟨rfl, rfl⟩; simp only [c1]))
    go_ret
    exact ⟨rfl, below_alloc _ _⟩
  rw [decide_eq_true c2, Bool.true_and]
  have c2i : decide ((65536 : Int) < (dl : Int)) = false := by rw [decide_eq_false_iff_not]; omega
  cases c3 : Pl.skOk (sl : Int)
  · go_enter Try.func8, Try.ntmps8
    go_wp2_with (first | (go_at_call 24; refine (specCodeOk_any _ _ _ code _ R1.out).mono ?_; rintro e w' ⟨rfl, rfl⟩; simp only [c1]) | (go_at_call 25; refine (specStackOk_any _ _).mono ?_; rintro e w' ⟨rfl, rfl⟩; simp only [c3]))
    go_ret
    exact ⟨rfl, below_alloc _ _⟩
  rw [Bool.true_and]
  cases c4 : Pl.isW pc
  · go_enter Try.func8, Try.ntmps8
    go_wp2_with (first | (go_at_call 24; refine (specCodeOk_any _ _ _ code _ R1.out).mono ?_; rintro e w' ⟨rfl, rfl⟩; simp only [c1]) | (go_at_call 25; refine (specStackOk_any _ _).mono ?_; rintro e w' ⟨rfl, rfl⟩; simp only [c3]) | (go_at_call 26; refine (wordOk_any _ _).mono ?_; rintro e w' ⟨rfl, rfl⟩; simp only [c4]))
    go_ret
    exact ⟨rfl, below_alloc _ _⟩
  rw [Bool.true_and]
  by_cases c5 : rl = 32
  rotate_left
  · rw [decide_eq_false c5, Bool.false_and]
    go_enter Try.func8, Try.ntmps8
    go_wp2_with (first | (go_at_call 24; refine (specCodeOk_any _ _ _ code _ R1.out).mono ?_; rintro e w' ⟨rfl, rfl⟩; simp only [c1]) | (go_at_call 25; refine (specStackOk_any _ _).mono ?_; rintro e w' ⟨rfl, rfl⟩; simp only [c3]) | (go_at_call 26; refine (wordOk_any _ _).mono ?_; rintro e w' ⟨rfl, rfl⟩; simp only [c4]))
    go_ret
    exact ⟨rfl, below_alloc _ _⟩
  rw [decide_eq_true c5, Bool.true_and]
  subst c5
  obtain ⟨b, off, hra, _, _, hc⟩ := R2.out.2.2.2.2.resolve_left (by omega)
  subst hra
  obtain ⟨x, hx⟩ : ∃ x, x = regs.getD 0 0 := ⟨_, rfl⟩
  have hcell : (w.alloc (.cells #[.slice ca cl cc, .int .i64 pc, .slice (some ⟨b, off, none⟩) 32 rc, .slice da dl dc, .slice sa sl sc, .slice ia il ic, .slice oa ol oc, .int .i64 steps, .int .i64 fin, .int .i64 val] 28)).cell? ⟨b, off, none⟩ = some (.int .i64 x) := by rw [hx]; exact hc 0 (by omega)
  have HC : Hid (∀ i, i < 32 → (w.alloc (.cells #[.slice ca cl cc, .int .i64 pc, .slice (some ⟨b, off, none⟩) 32 rc, .slice da dl dc, .slice sa sl sc, .slice ia il ic, .slice oa ol oc, .int .i64 steps, .int .i64 fin, .int .i64 val] 28)).cell? ⟨b, off + i, none⟩ = some (.int .i64 (regs.getD i 0))) := hc
  clear hc
  rw [← hx]
  clear hx
  by_cases c6 : x = 0
  rotate_left
  · rw [decide_eq_false c6, Bool.false_and]
    have c6b : (x != 0) = true := by simpa using c6
    go_enter Try.func8, Try.ntmps8
    go_wp2_with (first | (go_at_call 24; refine (specCodeOk_any _ _ _ code _ R1.out).mono ?_; rintro e w' ⟨rfl, rfl⟩; simp only [c1]) | (go_at_call 25; refine (specStackOk_any _ _).mono ?_; rintro e w' ⟨rfl, rfl⟩; simp only [c3]) | (go_at_call 26; refine (wordOk_any _ _).mono ?_; rintro e w' ⟨rfl, rfl⟩; simp only [c4]))
    go_ret
    exact ⟨rfl, below_alloc _ _⟩
  rw [decide_eq_true c6, Bool.true_and]
  subst c6
  obtain ⟨R, hR⟩ : ∃ R : Bool, R = (regs.all Pl.isW && (decide (il ≤ 10000) && (decide (ol ≤ 10000) && (decide (0 ≤ steps) && (decide (steps ≤ 1000000) && (decide (0 ≤ fin) && (decide (fin ≤ 3) && Pl.isW val))))))) := ⟨_, rfl⟩
  rw [← hR]
  have HRes : Hid (R = (regs.all Pl.isW && (decide (il ≤ 10000) && (decide (ol ≤ 10000) && (decide (0 ≤ steps) && (decide (steps ≤ 1000000) && (decide (0 ≤ fin) && (decide (fin ≤ 3) && Pl.isW val)))))))) := hR
  clear hR
  go_enter Try.func8, Try.ntmps8
  go_wp2_with (first | (go_at_call 24; refine (specCodeOk_any _ _ _ code _ R1.out).mono ?_; rintro e w' ⟨rfl, rfl⟩; simp only [c1]) | (go_at_call 25; refine (specStackOk_any _ _).mono ?_; rintro e w' ⟨rfl, rfl⟩; simp only [c3]) | (go_at_call 26; refine (wordOk_any _ _).mono ?_; rintro e w' ⟨rfl, rfl⟩; simp only [c4]))
  go_loop [3] (fun i => ∃ k : Nat, k ≤ 32 ∧ i = .int .i64 k ∧ ∀ j, j < k → Pl.isW (regs.getD j 0) = true) (fun i => 32 - (intOf i).toNat)
  case atStart => exact ⟨0, Nat.zero_le _, rfl, fun j hj => absurd hj (Nat.not_lt_zero _)⟩
  case round =>
    obtain ⟨k, hk, rfl, hall⟩ := hrel
    have HA : Hid (∀ j, j < k → Pl.isW (regs.getD j 0) = true) := hall
    clear hall hcell
    by_cases hlt : k < 32
    · obtain ⟨y, hy⟩ : ∃ y, y = regs.getD k 0 := ⟨_, rfl⟩
      have hcell : (w.alloc (.cells #[.slice ca cl cc, .int .i64 pc, .slice (some ⟨b, off, none⟩) 32 rc, .slice da dl dc, .slice sa sl sc, .slice ia il ic, .slice oa ol oc, .int .i64 steps, .int .i64 fin, .int .i64 val] 28)).cell? ⟨b, off + k, none⟩ = some (.int .i64 y) := by rw [hy]; exact HC.out k hlt
      have HX : Hid (y = regs.getD k 0) := hy
      clear hy
      cases hb : Pl.isW y
      · have HF : Hid (regs.all Pl.isW = false) := Pl.not_all_of_getD (k := k) (by have := E2.out; omega) (by rw [← HX.out]; exact hb)
        go_wp2_with (go_at_call 26; refine (wordOk_any _ _).mono ?_; rintro e w' ⟨rfl, rfl⟩; simp only [hb])
        go_ret
        exact ⟨ret_bool (by rw [HRes.out, HF.out]; rfl), below_alloc _ _⟩
      · go_wp2_with (go_at_call 26; refine (wordOk_any _ _).mono ?_; rintro e w' ⟨rfl, rfl⟩; simp only [hb])
        go_round
        case rel =>
          refine ⟨k + 1, by omega, by go_num, fun j hj => ?_⟩
          by_cases hjk : j < k
          · exact HA.out j hjk
          · have : j = k := by omega
            subst this; rw [← HX.out]; exact hb
        case measure => simp [intOf]; omega
    · have hke : k = 32 := by omega
      subst hke
      have HT : Hid (regs.all Pl.isW = true) := Pl.all_of_getD (fun j hj => HA.out j (by have := E2.out; omega))
      clear HA HC hlt hk
      by_cases c8 : il ≤ 10000
      rotate_left
      · have F8 : Hid (decide (il ≤ 10000) = false) := decide_eq_false c8
        go_wp2
        go_ret
        exact ⟨ret_bool (by rw [HRes.out, HT.out, F8.out]; rfl), below_alloc _ _⟩
      have F8 : Hid (decide (il ≤ 10000) = true) := decide_eq_true c8
      by_cases c9 : ol ≤ 10000
      rotate_left
      · have F9 : Hid (decide (ol ≤ 10000) = false) := decide_eq_false c9
        go_wp2
        go_ret
        exact ⟨ret_bool (by rw [HRes.out, HT.out, F8.out, F9.out]; rfl), below_alloc _ _⟩
      have F9 : Hid (decide (ol ≤ 10000) = true) := decide_eq_true c9
      by_cases c10 : 0 ≤ steps
      rotate_left
      · have F10 : Hid (decide (0 ≤ steps) = false) := decide_eq_false c10
        go_wp2
        go_ret
        exact ⟨ret_bool (by rw [HRes.out, HT.out, F8.out, F9.out, F10.out]; rfl), below_alloc _ _⟩
      have F10 : Hid (decide (0 ≤ steps) = true) := decide_eq_true c10
      by_cases c11 : steps ≤ 1000000
      rotate_left
      · have F11 : Hid (decide (steps ≤ 1000000) = false) := decide_eq_false c11
        go_wp2
        go_ret
        exact ⟨ret_bool (by rw [HRes.out, HT.out, F8.out, F9.out, F10.out, F11.out]; rfl), below_alloc _ _⟩
      have F11 : Hid (decide (steps ≤ 1000000) = true) := decide_eq_true c11
      by_cases c12 : 0 ≤ fin
      rotate_left
      · have F12 : Hid (decide (0 ≤ fin) = false) := decide_eq_false c12
        go_wp2
        go_ret
        exact ⟨ret_bool (by rw [HRes.out, HT.out, F8.out, F9.out, F10.out, F11.out, F12.out]; rfl), below_alloc _ _⟩
      have F12 : Hid (decide (0 ≤ fin) = true) := decide_eq_true c12
      by_cases c13 : fin ≤ 3
      rotate_left
      · have F13 : Hid (decide (fin ≤ 3) = false) := decide_eq_false c13
        go_wp2
        go_ret
        exact ⟨ret_bool (by rw [HRes.out, HT.out, F8.out, F9.out, F10.out, F11.out, F12.out, F13.out]; rfl), below_alloc _ _⟩
      have F13 : Hid (decide (fin ≤ 3) = true) := decide_eq_true c13
      cases c14 : Pl.isW val
      all_goals
        go_wp2_with (go_at_call 26; refine (wordOk_any _ _).mono ?_; rintro e w' ⟨rfl, rfl⟩; simp only [c14])
        go_ret
        exact ⟨ret_bool (by rw [HRes.out, HT.out, F8.out, F9.out, F10.out, F11.out, F12.out, F13.out, c14]; rfl), below_alloc _ _⟩
end Go.Proofs.Ytgopdicmmglakaa.W
