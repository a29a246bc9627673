import Derived.Test.YtfcfnbncgadomaaQ01
set_option linter.unusedVariables false
namespace Go.Proofs.Ytfcfnbncgadomaa.W
open Go.RowKit
set_option maxHeartbeats 4000000 in
theorem implMachineOk_any {lo : Nat} (v : MV) (m : Pl.Mac) (w : World) (h : MIs lo w v m) :
    Calls Try.prog 27 #[.agg #[.slice v.code.a v.code.len v.code.cap, .int .i64 m.pc, .slice v.regs.a v.regs.len v.regs.cap, .slice v.data.a v.data.len v.data.cap, .slice v.stk.a v.stk.len v.stk.cap, .slice v.inp.a v.inp.len v.inp.cap, .slice v.out.a v.out.len v.out.cap, .int .i64 m.steps, .int .i64 m.fin, .int .i64 m.val]] w fun e w' => e = .returned (.bool (Pl.mOk m)) ∧ Below w.heap.size w w' := by
  obtain ⟨⟨ca, cl, cc⟩, ⟨ra, rl, rc⟩, ⟨da, dl, dc⟩, ⟨sa, sl, sc⟩, ⟨ia, il, ic⟩, ⟨oa, ol, oc⟩⟩ := v
  obtain ⟨code, pc, regs, data, stk, inp, out, steps, fin, val⟩ := m
  have h' := h.keep (below_alloc w (.cells #[.slice ca cl cc, .int .i64 pc, .slice ra rl rc, .slice da dl dc, .slice sa sl sc, .slice ia il ic, .slice oa ol oc, .int .i64 steps, .int .i64 fin, .int .i64 val] 25))
  obtain ⟨r1, r2, r3, r4, r5, r6⟩ := h'
  dsimp only at r1 r2 r3 r4 r5 r6 ⊢
  have l2 := r2.small
  have l3 := r3.small
  have l4 := r4.small
  have l5 := r5.small
  have l6 := r6.small
  have E2 : Hid (regs.length = rl) := r2.1
  have E3 : Hid (data.length = dl) := r3.1
  have E4 : Hid (stk.length = sl) := r4.1
  have E5 : Hid (inp.length = il) := r5.1
  have E6 : Hid (out.length = ol) := r6.1
  have R1 : Hid _ := r1
  have R2 : Hid _ := r2
  clear r1 r2 r3 r4 r5 r6 h
  unfold Pl.mOk
  dsimp only
  rw [E2.out, E3.out, E4.out, E5.out, E6.out]
  cases c1 : Pl.cdOk code
  · go_enter Try.func27, Try.ntmps27
    go_wp2_with (first | (go_at_call 56; refine (implCodeOk_any _ _ _ code _ R1.out).mono ?_; rintro e w' ⟨rfl, rfl⟩; simp only [c1]))
    go_ret
    exact ⟨rfl, below_alloc _ _⟩
  rw [Bool.true_and]
  by_cases c2 : dl ≤ 65536
  rotate_left
  · rw [decide_eq_false c2, Bool.false_and]
    go_enter Try.func27, Try.ntmps27
    go_wp2_with (first | (go_at_call 56; refine (implCodeOk_any _ _ _ code _ R1.out).mono ?_; rintro e w' ⟨rfl, rfl⟩; simp only [c1]))
    go_ret
    exact ⟨rfl, below_alloc _ _⟩
  rw [decide_eq_true c2, Bool.true_and]
  cases c3 : Pl.skOk (sl : Int)
  · go_enter Try.func27, Try.ntmps27
    go_wp2_with (first | (go_at_call 56; refine (implCodeOk_any _ _ _ code _ R1.out).mono ?_; rintro e w' ⟨rfl, rfl⟩; simp only [c1]) | (go_at_call 57; refine (implStackOk_any _ _).mono ?_; rintro e w' ⟨rfl, rfl⟩; simp only [c3]))
    go_ret
    exact ⟨rfl, below_alloc _ _⟩
  rw [Bool.true_and]
  cases c4 : Pl.isW pc
  · go_enter Try.func27, Try.ntmps27
    go_wp2_with (first | (go_at_call 56; refine (implCodeOk_any _ _ _ code _ R1.out).mono ?_; rintro e w' ⟨rfl, rfl⟩; simp only [c1]) | (go_at_call 57; refine (implStackOk_any _ _).mono ?_; rintro e w' ⟨rfl, rfl⟩; simp only [c3]) | (go_at_call 58; refine (isWord_any _ _).mono ?_; rintro e w' ⟨rfl, rfl⟩; simp only [c4]))
    go_ret
    exact ⟨rfl, below_alloc _ _⟩
  rw [Bool.true_and]
  by_cases c5 : rl = 32
  rotate_left
  · rw [decide_eq_false c5, Bool.false_and]
    go_enter Try.func27, Try.ntmps27
    go_wp2_with (first | (go_at_call 56; refine (implCodeOk_any _ _ _ code _ R1.out).mono ?_; rintro e w' ⟨rfl, rfl⟩; simp only [c1]) | (go_at_call 57; refine (implStackOk_any _ _).mono ?_; rintro e w' ⟨rfl, rfl⟩; simp only [c3]) | (go_at_call 58; refine (isWord_any _ _).mono ?_; rintro e w' ⟨rfl, rfl⟩; simp only [c4]))
    go_ret
    exact ⟨rfl, below_alloc _ _⟩
  rw [decide_eq_true c5, Bool.true_and]
  subst c5
  obtain ⟨b, off, hra, _, _, hc⟩ := R2.out.2.2.2.2.resolve_left (by omega)
  subst hra
  obtain ⟨x, hx⟩ : ∃ x, x = regs.getD 0 0 := ⟨_, rfl⟩
  have hcell : (w.alloc (.cells #[.slice ca cl cc, .int .i64 pc, .slice (some ⟨b, off, none⟩) 32 rc, .slice da dl dc, .slice sa sl sc, .slice ia il ic, .slice oa ol oc, .int .i64 steps, .int .i64 fin, .int .i64 val] 25)).cell? ⟨b, off, none⟩ = some (.int .i64 x) := by rw [hx]; exact hc 0 (by omega)
  clear hc
  rw [← hx]
  clear hx
  by_cases c6 : x = 0
  rotate_left
  · rw [decide_eq_false c6, Bool.false_and]
    go_enter Try.func27, Try.ntmps27
    go_wp2_with (first | (go_at_call 56; refine (implCodeOk_any _ _ _ code _ R1.out).mono ?_; rintro e w' ⟨rfl, rfl⟩; simp only [c1]) | (go_at_call 57; refine (implStackOk_any _ _).mono ?_; rintro e w' ⟨rfl, rfl⟩; simp only [c3]) | (go_at_call 58; refine (isWord_any _ _).mono ?_; rintro e w' ⟨rfl, rfl⟩; simp only [c4]))
    go_ret
    exact ⟨rfl, below_alloc _ _⟩
  rw [decide_eq_true c6, Bool.true_and]
  subst c6
  cases c7 : regs.all Pl.isW
  · go_enter Try.func27, Try.ntmps27
    go_wp2_with (first | (go_at_call 56; refine (implCodeOk_any _ _ _ code _ R1.out).mono ?_; rintro e w' ⟨rfl, rfl⟩; simp only [c1]) | (go_at_call 57; refine (implStackOk_any _ _).mono ?_; rintro e w' ⟨rfl, rfl⟩; simp only [c3]) | (go_at_call 58; refine (isWord_any _ _).mono ?_; rintro e w' ⟨rfl, rfl⟩; simp only [c4]) | (go_at_call 59; refine (allWords_any _ _ _ regs _ R2.out).mono ?_; rintro e w' ⟨rfl, rfl⟩; simp only [c7]))
    go_ret
    exact ⟨rfl, below_alloc _ _⟩
  rw [Bool.true_and]
  by_cases c8 : il ≤ 10000
  rotate_left
  · rw [decide_eq_false c8, Bool.false_and]
    go_enter Try.func27, Try.ntmps27
    go_wp2_with (first | (go_at_call 56; refine (implCodeOk_any _ _ _ code _ R1.out).mono ?_; rintro e w' ⟨rfl, rfl⟩; simp only [c1]) | (go_at_call 57; refine (implStackOk_any _ _).mono ?_; rintro e w' ⟨rfl, rfl⟩; simp only [c3]) | (go_at_call 58; refine (isWord_any _ _).mono ?_; rintro e w' ⟨rfl, rfl⟩; simp only [c4]) | (go_at_call 59; refine (allWords_any _ _ _ regs _ R2.out).mono ?_; rintro e w' ⟨rfl, rfl⟩; simp only [c7]))
    go_ret
    exact ⟨rfl, below_alloc _ _⟩
  rw [decide_eq_true c8, Bool.true_and]
  by_cases c9 : ol ≤ 10000
  rotate_left
  · rw [decide_eq_false c9, Bool.false_and]
    go_enter Try.func27, Try.ntmps27
    go_wp2_with (first | (go_at_call 56; refine (implCodeOk_any _ _ _ code _ R1.out).mono ?_; rintro e w' ⟨rfl, rfl⟩; simp only [c1]) | (go_at_call 57; refine (implStackOk_any _ _).mono ?_; rintro e w' ⟨rfl, rfl⟩; simp only [c3]) | (go_at_call 58; refine (isWord_any _ _).mono ?_; rintro e w' ⟨rfl, rfl⟩; simp only [c4]) | (go_at_call 59; refine (allWords_any _ _ _ regs _ R2.out).mono ?_; rintro e w' ⟨rfl, rfl⟩; simp only [c7]))
    go_ret
    exact ⟨rfl, below_alloc _ _⟩
  rw [decide_eq_true c9, Bool.true_and]
  by_cases c10 : 0 ≤ steps
  rotate_left
  · rw [decide_eq_false c10, Bool.false_and]
    go_enter Try.func27, Try.ntmps27
    go_wp2_with (first | (go_at_call 56; refine (implCodeOk_any _ _ _ code _ R1.out).mono ?_; rintro e w' ⟨rfl, rfl⟩; simp only [c1]) | (go_at_call 57; refine (implStackOk_any _ _).mono ?_; rintro e w' ⟨rfl, rfl⟩; simp only [c3]) | (go_at_call 58; refine (isWord_any _ _).mono ?_; rintro e w' ⟨rfl, rfl⟩; simp only [c4]) | (go_at_call 59; refine (allWords_any _ _ _ regs _ R2.out).mono ?_; rintro e w' ⟨rfl, rfl⟩; simp only [c7]))
    go_ret
    exact ⟨rfl, below_alloc _ _⟩
  rw [decide_eq_true c10, Bool.true_and]
  by_cases c11 : steps ≤ 1000000
  rotate_left
  · rw [decide_eq_false c11, Bool.false_and]
    go_enter Try.func27, Try.ntmps27
    go_wp2_with (first | (go_at_call 56; refine (implCodeOk_any _ _ _ code _ R1.out).mono ?_; rintro e w' ⟨rfl, rfl⟩; simp only [c1]) | (go_at_call 57; refine (implStackOk_any _ _).mono ?_; rintro e w' ⟨rfl, rfl⟩; simp only [c3]) | (go_at_call 58; refine (isWord_any _ _).mono ?_; rintro e w' ⟨rfl, rfl⟩; simp only [c4]) | (go_at_call 59; refine (allWords_any _ _ _ regs _ R2.out).mono ?_; rintro e w' ⟨rfl, rfl⟩; simp only [c7]))
    go_ret
    exact ⟨rfl, below_alloc _ _⟩
  rw [decide_eq_true c11, Bool.true_and]
  by_cases c12 : 0 ≤ fin
  rotate_left
  · rw [decide_eq_false c12, Bool.false_and]
    go_enter Try.func27, Try.ntmps27
    go_wp2_with (first | (go_at_call 56; refine (implCodeOk_any _ _ _ code _ R1.out).mono ?_; rintro e w' ⟨rfl, rfl⟩; simp only [c1]) | (go_at_call 57; refine (implStackOk_any _ _).mono ?_; rintro e w' ⟨rfl, rfl⟩; simp only [c3]) | (go_at_call 58; refine (isWord_any _ _).mono ?_; rintro e w' ⟨rfl, rfl⟩; simp only [c4]) | (go_at_call 59; refine (allWords_any _ _ _ regs _ R2.out).mono ?_; rintro e w' ⟨rfl, rfl⟩; simp only [c7]))
    go_ret
    exact ⟨rfl, below_alloc _ _⟩
  rw [decide_eq_true c12, Bool.true_and]
  by_cases c13 : fin ≤ 3
  rotate_left
  · rw [decide_eq_false c13, Bool.false_and]
    go_enter Try.func27, Try.ntmps27
    go_wp2_with (first | (go_at_call 56; refine (implCodeOk_any _ _ _ code _ R1.out).mono ?_; rintro e w' ⟨rfl, rfl⟩; simp only [c1]) | (go_at_call 57; refine (implStackOk_any _ _).mono ?_; rintro e w' ⟨rfl, rfl⟩; simp only [c3]) | (go_at_call 58; refine (isWord_any _ _).mono ?_; rintro e w' ⟨rfl, rfl⟩; simp only [c4]) | (go_at_call 59; refine (allWords_any _ _ _ regs _ R2.out).mono ?_; rintro e w' ⟨rfl, rfl⟩; simp only [c7]))
    go_ret
    exact ⟨rfl, below_alloc _ _⟩
  rw [decide_eq_true c13, Bool.true_and]
  cases c14 : Pl.isW val
  · go_enter Try.func27, Try.ntmps27
    go_wp2_with (first | (go_at_call 56; refine (implCodeOk_any _ _ _ code _ R1.out).mono ?_; rintro e w' ⟨rfl, rfl⟩; simp only [c1]) | (go_at_call 57; refine (implStackOk_any _ _).mono ?_; rintro e w' ⟨rfl, rfl⟩; simp only [c3]) | (go_at_call 58; refine (isWord_any _ _).mono ?_; rintro e w' ⟨rfl, rfl⟩; first | simp only [c4] | simp only [c14]) | (go_at_call 59; refine (allWords_any _ _ _ regs _ R2.out).mono ?_; rintro e w' ⟨rfl, rfl⟩; simp only [c7]) | (go_at_call 58; refine (isWord_any _ _).mono ?_; rintro e w' ⟨rfl, rfl⟩; simp only [c14]))
    go_ret
    exact ⟨rfl, below_alloc _ _⟩
  · go_enter Try.func27, Try.ntmps27
    go_wp2_with (first | (go_at_call 56; refine (implCodeOk_any _ _ _ code _ R1.out).mono ?_; rintro e w' ⟨rfl, rfl⟩; simp only [c1]) | (go_at_call 57; refine (implStackOk_any _ _).mono ?_; rintro e w' ⟨rfl, rfl⟩; simp only [c3]) | (go_at_call 58; refine (isWord_any _ _).mono ?_; rintro e w' ⟨rfl, rfl⟩; first | simp only [c4] | simp only [c14]) | (go_at_call 59; refine (allWords_any _ _ _ regs _ R2.out).mono ?_; rintro e w' ⟨rfl, rfl⟩; simp only [c7]) | (go_at_call 58; refine (isWord_any _ _).mono ?_; rintro e w' ⟨rfl, rfl⟩; simp only [c14]))
    go_ret
    exact ⟨rfl, below_alloc _ _⟩
end Go.Proofs.Ytfcfnbncgadomaa.W
