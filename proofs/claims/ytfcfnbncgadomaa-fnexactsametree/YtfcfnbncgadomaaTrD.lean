import Derived.Test.YtfcfnbncgadomaaTrC
import Derived.Deep.QuietTactic
import Derived.BigQuiet
set_option linter.unusedVariables false
set_option linter.unusedSimpArgs false
namespace Go.Proofs.Ytfcfnbncgadomaa.Pl
/-- two nodes that are the same, but for their places -/
def sameN (x y : Nd) : Bool := (x.k == y.k) && (x.m == y.m) && (x.n == y.n) && (x.s.toList == y.s.toList) && (x.kids == y.kids)
def sameT (xs ys : List Nd) : Bool := decide (xs.length = ys.length ∧ ∀ i, i < xs.length → sameN (xs.getD i Nd.zero) (ys.getD i Nd.zero) = true)
end Go.Proofs.Ytfcfnbncgadomaa.Pl
namespace Go.Proofs.Ytfcfnbncgadomaa.W
open Go.RowKit
set_option maxHeartbeats 1000000 in
theorem slEqual_any {lo1 lo2 : Nat} (a1 a2 : Option Addr) (l1 c1 l2 c2 : Nat) (z1 z2 : List Int) (w : World) (h1 : Row .i64 lo1 w a1 l1 c1 z1) (h2 : Row .i64 lo2 w a2 l2 c2 z2) :
    Calls Try.prog 65 #[.slice a1 l1 c1, .slice a2 l2 c2] w fun e w' => e = .returned (.bool (z1 == z2)) ∧ Below w.heap.size w w' := by
  have hs1 := h1.small
  have hs2 := h2.small
  obtain ⟨hl1, _, _, _, hr1⟩ := h1
  obtain ⟨hl2, _, _, _, hr2⟩ := h2
  by_cases hne : l1 = l2
  · subst hne
    have HL1 : Hid (z1.length = l1) := hl1
    have HL2 : Hid (z2.length = l1) := hl2
    have HR1 : Hid (l1 = 0 ∨ ∃ b off, a1 = some ⟨b, off, none⟩ ∧ lo1 ≤ b ∧ b < w.heap.size ∧ ∀ i, i < l1 → w.cell? ⟨b, off + i, none⟩ = some (.int .i64 (z1.getD i 0))) := hr1
    have HR2 : Hid (l1 = 0 ∨ ∃ b off, a2 = some ⟨b, off, none⟩ ∧ lo2 ≤ b ∧ b < w.heap.size ∧ ∀ i, i < l1 → w.cell? ⟨b, off + i, none⟩ = some (.int .i64 (z2.getD i 0))) := hr2
    clear hl1 hl2 hr1 hr2
    go_enter Try.func65, Try.ntmps65
    go_wp2
    go_loopw [13] (fun i wr => ∃ k : Nat, k ≤ l1 ∧ i = .int .i64 k ∧ (∀ j, j < k → z1.getD j 0 = z2.getD j 0) ∧ Below w.heap.size w wr) (fun i _ => l1 - (intOf i).toNat)
    case atStart => exact ⟨0, Nat.zero_le _, rfl, fun j hj => absurd hj (Nat.not_lt_zero _), Below.refl _ _⟩
    case round =>
      obtain ⟨k, hk, rfl, hall, hb⟩ := hrel
      have HA : Hid (∀ j, j < k → z1.getD j 0 = z2.getD j 0) := hall
      have HB : Hid (Below w.heap.size w wr) := hb
      clear hall hb
      by_cases hlt : k < l1
      · obtain ⟨b1, o1, rfl, _, hb1, hc1⟩ := HR1.out.resolve_left (by omega)
        obtain ⟨b2, o2, rfl, _, hb2, hc2⟩ := HR2.out.resolve_left (by omega)
        obtain ⟨x, hx⟩ : ∃ x, x = z1.getD k 0 := ⟨_, rfl⟩
        obtain ⟨y, hy⟩ : ∃ y, y = z2.getD k 0 := ⟨_, rfl⟩
        have g1 : wr.cell? ⟨b1, o1 + k, none⟩ = some (.int .i64 x) := by rw [hx, HB.out.cell (by exact hb1)]; exact hc1 k hlt
        have g2 : wr.cell? ⟨b2, o2 + k, none⟩ = some (.int .i64 y) := by rw [hy, HB.out.cell (by exact hb2)]; exact hc2 k hlt
        have HX : Hid (x = z1.getD k 0) := hx
        have HY : Hid (y = z2.getD k 0) := hy
        clear hx hy hc1 hc2 HR1 HR2
        by_cases hxy : x = y
        · subst hxy
          go_wp2_with fail
          go_quiet (fail)
          go_wp2
          go_roundw
          case rel =>
            refine ⟨k + 1, by omega, by go_num, fun j hj => ?_, ?_⟩
            · by_cases hjk : j < k
              · exact HA.out j hjk
              · have : j = k := by omega
                subst this; exact HX.out.symm.trans HY.out
            · repeat (first | exact HB.out | refine below_drewN ?_ _)
          case measure => simp [intOf]; omega
        · go_wp2_with fail
          go_quiet (fail)
          go_wp2
          go_ret
          refine ⟨ret_bool ?_, ?_⟩
          · symm
            rw [beq_eq_false_iff_ne]
            intro hc
            exact hxy (by rw [HX.out, HY.out, hc])
          · repeat (first | exact HB.out | refine below_drewN ?_ _)
      · have hke : k = l1 := by omega
        subst hke
        go_wp2
        go_ret
        refine ⟨ret_bool ?_, HB.out⟩
        symm
        rw [beq_iff_eq]
        exact Pl.eq_of_getD (HL1.out.trans HL2.out.symm) (fun j hj => HA.out j (by have := HL1.out; omega))
  · have HP : Hid ((z1 == z2) = false) := by
      show (z1 == z2) = false
      rw [beq_eq_false_iff_ne]
      intro hc
      exact hne (by rw [← hl1, ← hl2, hc])
    clear hr1 hr2 hl1 hl2
    go_enter Try.func65, Try.ntmps65
    go_wp2
    go_ret
    exact ⟨ret_bool HP.out.symm, Below.refl _ _⟩
set_option maxHeartbeats 4000000 in
theorem sameNode_any {lo lo2 : Nat} (x y : Pl.Nd) (v v2 : SV) (w : World) (h : Row .i64 lo w v.a v.len v.cap x.kids) (h2 : Row .i64 lo2 w v2.a v2.len v2.cap y.kids) :
    Calls Try.prog 42 #[.agg #[.int .i64 x.k, .int .i64 x.m, .int .i64 x.n, .string x.s, .slice v.a v.len v.cap, .int .i64 x.line, .int .i64 x.col], .agg #[.int .i64 y.k, .int .i64 y.m, .int .i64 y.n, .string y.s, .slice v2.a v2.len v2.cap, .int .i64 y.line, .int .i64 y.col]] w fun e w' => e = .returned (.bool (Pl.sameN x y)) ∧ Below w.heap.size w w' := by
  have HR : Hid (Row .i64 lo w v.a v.len v.cap x.kids) := h
  have HR2 : Hid (Row .i64 lo2 w v2.a v2.len v2.cap y.kids) := h2
  clear h h2
  cases e1 : x.k == y.k
  · have HP : Hid (Pl.sameN x y = false) := by unfold Pl.sameN; rw [e1]; rfl
    go_enter Try.func42, Try.ntmps42
    go_wp2
    go_ret
    exact ⟨ret_bool HP.out.symm, (below_alloc _ _).alloc (by simp) _⟩
  cases e2 : x.m == y.m
  · have HP : Hid (Pl.sameN x y = false) := by unfold Pl.sameN; rw [e1, e2]; rfl
    go_enter Try.func42, Try.ntmps42
    go_wp2
    go_ret
    exact ⟨ret_bool HP.out.symm, (below_alloc _ _).alloc (by simp) _⟩
  cases e3 : x.n == y.n
  · have HP : Hid (Pl.sameN x y = false) := by unfold Pl.sameN; rw [e1, e2, e3]; rfl
    go_enter Try.func42, Try.ntmps42
    go_wp2
    go_ret
    exact ⟨ret_bool HP.out.symm, (below_alloc _ _).alloc (by simp) _⟩
  cases e4 : x.s.toList == y.s.toList
  · have HP : Hid (Pl.sameN x y = false) := by unfold Pl.sameN; rw [e1, e2, e3, e4]; rfl
    go_enter Try.func42, Try.ntmps42
    go_wp2
    go_ret
    exact ⟨ret_bool HP.out.symm, (below_alloc _ _).alloc (by simp) _⟩
  · have HP : Hid (Pl.sameN x y = (x.kids == y.kids)) := by unfold Pl.sameN; rw [e1, e2, e3, e4]; rfl
    have HE : Hid (∀ u : World, Below w.heap.size w u → Calls Try.prog 65 #[.slice v.a v.len v.cap, .slice v2.a v2.len v2.cap] u fun e w' => e = .returned (.bool (x.kids == y.kids)) ∧ Below u.heap.size u w') := fun u hu => slEqual_any _ _ _ _ _ _ _ _ u (HR.out.keep hu) (HR2.out.keep hu)
    generalize (x.kids == y.kids) = R at *
    have b2 : ∀ A B, Below w.heap.size w ((w.alloc A).alloc B) := fun A B => (below_alloc _ _).alloc (by simp) _
    have B2 : Hid (∀ A B, Below w.heap.size w ((w.alloc A).alloc B)) := b2
    clear b2
    go_enter Try.func42, Try.ntmps42
    go_wp2_with (go_at_call 65; refine (HE.out _ (B2.out _ _)).mono ?_; rintro e u1 ⟨rfl, d1⟩; have D1 : Hid (Below w.heap.size w u1) := (B2.out _ _).trans (d1.mono (B2.out _ _).size); clear d1)
    go_ret
    exact ⟨ret_bool HP.out.symm, D1.out⟩
end Go.Proofs.Ytfcfnbncgadomaa.W
