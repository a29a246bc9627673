import Derived.Test.YtfcfnbncgadomaaTrD
set_option linter.unusedVariables false
set_option linter.unusedSimpArgs false
namespace Go.Proofs.Ytfcfnbncgadomaa.Pl
theorem sameT_len {xs ys : List Nd} (h : xs.length ≠ ys.length) : sameT xs ys = false := by unfold sameT; simp [h]
theorem sameT_bad {xs ys : List Nd} {k : Nat} (hk : k < xs.length) (h : sameN (xs.getD k Nd.zero) (ys.getD k Nd.zero) = false) : sameT xs ys = false := by
  unfold sameT
  rw [decide_eq_false_iff_not]
  intro hc
  have := hc.2 k hk
  rw [h] at this
  cases this
theorem sameT_yes {xs ys : List Nd} (hl : xs.length = ys.length) (h : ∀ i, i < xs.length → sameN (xs.getD i Nd.zero) (ys.getD i Nd.zero) = true) : sameT xs ys = true := by
  unfold sameT
  rw [decide_eq_true_eq]
  exact ⟨hl, h⟩
end Go.Proofs.Ytfcfnbncgadomaa.Pl
namespace Go.Proofs.Ytfcfnbncgadomaa.W
open Go.RowKit
set_option maxRecDepth 8000 in
set_option maxHeartbeats 4000000 in
theorem equalFunc_any {lo lo2 : Nat} (a a' : Option Addr) (len cap len' cap' : Nat) (xs ys : List Pl.Nd) (w : World) (h : NRow lo w a len cap xs) (h' : NRow lo2 w a' len' cap' ys) :
    Calls Try.prog 41 #[.slice a len cap, .slice a' len' cap', .func (.func 42) #[] #[]] w fun e w' => e = .returned (.bool (Pl.sameT xs ys)) ∧ Below w.heap.size w w' := by
  have hm : (len : Int) ≤ 9223372036854775807 := by have := h.2.1; have h3 := h.2.2.1; unfold maxLen at h3; omega
  have hm' : (len' : Int) ≤ 9223372036854775807 := by have := h'.2.1; have h3 := h'.2.2.1; unfold maxLen at h3; omega
  have HR : Hid (NRow lo w a len cap xs) := h
  have HR' : Hid (NRow lo2 w a' len' cap' ys) := h'
  clear h h'
  by_cases hne : len = len'
  rotate_left
  · have HP : Hid (Pl.sameT xs ys = false) := Pl.sameT_len (by rw [HR.out.1.1, HR'.out.1.1]; exact hne)
    have hne2 : ¬ (len : Int) = (len' : Int) := by omega
    go_enter Try.func41, Try.ntmps41
    go_wp2
    go_ret
    exact ⟨ret_bool HP.out.symm, Below.refl _ _⟩
  subst hne
  go_enter Try.func41, Try.ntmps41
  go_wp2_with fail
  go_loopw [17] (fun i wr => ∃ k : Nat, k ≤ len ∧ i = .int .i64 k ∧ (∀ j, j < k → Pl.sameN (xs.getD j Pl.Nd.zero) (ys.getD j Pl.Nd.zero) = true) ∧ Below w.heap.size w wr) (fun i _ => len - (intOf i).toNat)
  case atStart => exact ⟨0, Nat.zero_le _, rfl, fun j hj => absurd hj (Nat.not_lt_zero _), Below.refl _ _⟩
  case round =>
    obtain ⟨k, hk, rfl, hall, hbel⟩ := hrel
    have HA : Hid (∀ j, j < k → Pl.sameN (xs.getD j Pl.Nd.zero) (ys.getD j Pl.Nd.zero) = true) := hall
    have HB : Hid (Below w.heap.size w wr) := hbel
    clear hall hbel
    by_cases hlt : k < len
    · have hi : (k : Int) < (len : Int) := by omega
      obtain ⟨b, off, v, rfl, hlo, hb1, hc, hrow, hs⟩ := (HR.out.keep HB.out).at hlt
      obtain ⟨b', off', v2, rfl, hlo', hb1', hc', hrow', hs'⟩ := (HR'.out.keep HB.out).at hlt
      obtain ⟨x, hx⟩ : ∃ x, x = xs.getD k Pl.Nd.zero := ⟨_, rfl⟩
      obtain ⟨y, hy⟩ : ∃ y, y = ys.getD k Pl.Nd.zero := ⟨_, rfl⟩
      rw [← hx] at hc hrow
      rw [← hy] at hc' hrow'
      obtain ⟨c0, c1, c2, c3, c4, c5, c6⟩ := nd_cells hc
      have hca : ∀ o j, j < 7 → (wr.alloc o).cell? ⟨b', off' + k * 7 + j, none⟩ = (y.cells v2)[j]? := fun o j hj => ((below_alloc wr o).cell (p := ⟨b', off' + k * 7 + j, none⟩) hb1').trans (hc' j hj)
      obtain ⟨g0, g1, g2, g3, g4, g5, g6⟩ := nd_cells (hca (.cells #[.int .i64 x.k, .int .i64 x.m, .int .i64 x.n, .string x.s, .slice v.a v.len v.cap, .int .i64 x.line, .int .i64 x.col] 69))
      have HXY : Hid (x = xs.getD k Pl.Nd.zero ∧ y = ys.getD k Pl.Nd.zero) := ⟨hx, hy⟩
      have HW : Hid (Row .i64 lo wr v.a v.len v.cap x.kids) := hrow
      have HW' : Hid (Row .i64 lo2 wr v2.a v2.len v2.cap y.kids) := hrow'
      have B2 : Hid (∀ A B, Below wr.heap.size wr ((wr.alloc A).alloc B)) := fun A B => (below_alloc _ _).alloc (by simp) _
      have HS : Hid (∀ u : World, Below wr.heap.size wr u → Calls Try.prog 42 #[.agg #[.int .i64 x.k, .int .i64 x.m, .int .i64 x.n, .string x.s, .slice v.a v.len v.cap, .int .i64 x.line, .int .i64 x.col], .agg #[.int .i64 y.k, .int .i64 y.m, .int .i64 y.n, .string y.s, .slice v2.a v2.len v2.cap, .int .i64 y.line, .int .i64 y.col]] u fun e w' => e = .returned (.bool (Pl.sameN x y)) ∧ Below u.heap.size u w') := fun u hu => sameNode_any x y v v2 u (HW.out.keep hu) (HW'.out.keep hu)
      clear hc hc' hca hx hy hrow hrow' hs hs' HW HW'
      cases hq : Pl.sameN x y
      · rw [hq] at HS
        have HP : Hid (Pl.sameT xs ys = false) := Pl.sameT_bad (k := k) (by rw [HR.out.1.1]; exact hlt) (by rw [← HXY.out.1, ← HXY.out.2]; exact hq)
        clear hq
        go_wp2_with (go_at_call 42; refine (HS.out _ (B2.out _ _)).mono ?_; rintro e u1 ⟨rfl, d1⟩; have D1 : Hid (Below w.heap.size w u1) := (HB.out.trans ((B2.out _ _).mono HB.out.size)).trans (d1.mono (Nat.le_trans HB.out.size (B2.out _ _).size)); clear d1)
        go_ret
        exact ⟨ret_bool HP.out.symm, D1.out⟩
      · rw [hq] at HS
        have HQ : Hid (Pl.sameN x y = true) := hq
        clear hq
        go_wp2_with (go_at_call 42; refine (HS.out _ (B2.out _ _)).mono ?_; rintro e u1 ⟨rfl, d1⟩; have D1 : Hid (Below w.heap.size w u1) := (HB.out.trans ((B2.out _ _).mono HB.out.size)).trans (d1.mono (Nat.le_trans HB.out.size (B2.out _ _).size)); clear d1)
        go_roundw
        case rel => exact ⟨k + 1, by omega, by go_num, fun j hj => by
          by_cases e : j = k
          · rw [e, ← HXY.out.1, ← HXY.out.2]; exact HQ.out
          · exact HA.out j (by omega), D1.out⟩
        case measure => simp [intOf]; omega
    · have hkk : k = len := by omega
      have hi : ¬ ((k : Int) < (len : Int)) := by omega
      go_wp2
      go_ret
      exact ⟨ret_bool (Pl.sameT_yes (by rw [HR.out.1.1, HR'.out.1.1]) (fun j hj => HA.out j (by rw [HR.out.1.1] at hj; omega))).symm, HB.out⟩
theorem implSame_any {lo lo2 : Nat} (a a' : Option Addr) (len cap len' cap' : Nat) (xs ys : List Pl.Nd) (w : World) (h : NRow lo w a len cap xs) (h' : NRow lo2 w a' len' cap' ys) :
    Calls Try.prog 15 #[.agg #[.slice a len cap], .agg #[.slice a' len' cap']] w fun e w' => e = .returned (.bool (Pl.sameT xs ys)) ∧ Below w.heap.size w w' := by
  have HR : Hid (NRow lo w a len cap xs) := h
  have HR' : Hid (NRow lo2 w a' len' cap' ys) := h'
  have B2 : Hid (∀ A B, Below w.heap.size w ((w.alloc A).alloc B)) := fun A B => (below_alloc _ _).alloc (by simp) _
  clear h h'
  go_enter Try.func15, Try.ntmps15
  go_wp2_with (go_at_call 41; refine (equalFunc_any _ _ _ _ _ _ xs ys _ (HR.out.keep (B2.out _ _)) (HR'.out.keep (B2.out _ _))).mono ?_; rintro e u1 ⟨rfl, d1⟩)
  go_ret
  exact ⟨rfl, (B2.out _ _).trans (d1.mono (B2.out _ _).size)⟩
end Go.Proofs.Ytfcfnbncgadomaa.W
