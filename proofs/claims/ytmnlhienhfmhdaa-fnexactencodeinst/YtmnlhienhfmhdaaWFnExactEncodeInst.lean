import Derived.Test.YtmnlhienhfmhdaaEncL
namespace Go.Proofs.Ytmnlhienhfmhdaa.W
open Go.RowKit
set_option linter.unusedVariables false
def ev (n rd r1 r2 im : Int) : Int := if iok n rd r1 r2 im = true then Pl.enc n.toNat rd r1 r2 im else 0
theorem specEnc_any (n rd r1 r2 im : Int) (w : World) : Calls Try.prog 34 #[.agg #[.int .i64 n, .int .i64 rd, .int .i64 r1, .int .i64 r2, .int .i64 im]] w fun e w' => e = .returned (.tuple #[.int .i64 (ev n rd r1 r2 im), .bool (iok n rd r1 r2 im)]) ∧ Below w.heap.size w w' := by
  cases h : iok n rd r1 r2 im
  · have e : ev n rd r1 r2 im = 0 := if_neg (by rw [h]; exact Bool.false_ne_true)
    rw [e]; exact specEnc_no n rd r1 r2 im h w
  · have e : ev n rd r1 r2 im = Pl.enc n.toNat rd r1 r2 im := if_pos h
    have hr : 1 ≤ n ∧ n ≤ 47 := by unfold iok at h; simp only [Bool.and_eq_true, decide_eq_true_eq] at h; exact h.1
    obtain ⟨k, rfl⟩ : ∃ k : Nat, n = k := ⟨n.toNat, by omega⟩
    rw [e]; exact specEnc_yes k (by omega) (by omega) rd r1 r2 im h w
theorem implEnc_any (n rd r1 r2 im : Int) (w : World) : Calls Try.prog 35 #[.agg #[.int .i64 n, .int .i64 rd, .int .i64 r1, .int .i64 r2, .int .i64 im]] w fun e w' => e = .returned (.tuple #[.int .i64 (ev n rd r1 r2 im), .bool (iok n rd r1 r2 im)]) ∧ Below w.heap.size w w' := by
  cases h : iok n rd r1 r2 im
  · have e : ev n rd r1 r2 im = 0 := if_neg (by rw [h]; exact Bool.false_ne_true)
    rw [e]; exact implEnc_no n rd r1 r2 im h w
  · have e : ev n rd r1 r2 im = Pl.enc n.toNat rd r1 r2 im := if_pos h
    have hr : 1 ≤ n ∧ n ≤ 47 := by unfold iok at h; simp only [Bool.and_eq_true, decide_eq_true_eq] at h; exact h.1
    obtain ⟨k, rfl⟩ : ∃ k : Nat, n = k := ⟨n.toNat, by omega⟩
    rw [e]; exact implEnc_at k (by omega) (by omega) rd r1 r2 im h w
set_option maxHeartbeats 400000 in
theorem fnExactEncodeInst_walk (x0 x1 x2 x3 x4 : Int) (w0 : (Lit.int .i64 x0).wf = true) (w1 : (Lit.int .i64 x1).wf = true) (w2 : (Lit.int .i64 x2).wf = true) (w3 : (Lit.int .i64 x3).wf = true) (w4 : (Lit.int .i64 x4).wf = true) (w : World) :
    Calls Try.prog 13 #[.agg #[.int .i64 x0, .int .i64 x1, .int .i64 x2, .int .i64 x3, .int .i64 x4]] w fun e w' => e = .returned (.bool true) ∧ Below w.heap.size w w' := by
  clear w0 w1 w2 w3 w4
  go_enter Try.func13, Try.ntmps13
  go_wp2_with fail
  refine (toInst_any _ _ _ _ _ _).mono ?_
  rintro e u1 ⟨rfl, hb1⟩
  go_wp2_with fail
  refine (specEnc_any _ _ _ _ _ _).mono ?_
  rintro e u2 ⟨rfl, hb2⟩
  have hB2 := hb1.trans (hb2.mono hb1.size)
  have hrow := kept_row hB2
  go_wp2_with (first | (refine wpList_load_row rfl 31 _ rfl _ rfl 31 _ (0, 0) _ hrow Try.underlying31 rfl (by kernel_rfl) ?_) | (go_at_call 28; refine (toInst_any _ _ _ _ _ _).mono ?_; rintro e u3 ⟨rfl, hb3⟩) | (go_at_call 35; refine (implEnc_any _ _ _ _ _ _).mono ?_; rintro e u4 ⟨rfl, hb4⟩))
  go_ret
  have hB3 := hB2.trans (hb3.mono hB2.size)
  have hB4 := hB3.trans (hb4.mono hB3.size)
  exact ⟨rfl, ((Below.refl _ _).alloc (Nat.le_refl _) _).trans (hB4.mono (by simp))⟩
end Go.Proofs.Ytmnlhienhfmhdaa.W
