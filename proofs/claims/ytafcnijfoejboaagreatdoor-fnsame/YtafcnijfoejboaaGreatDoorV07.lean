import Derived.Test.YtafcnijfoejboaaGreatDoorV06
set_option linter.unusedVariables false
set_option linter.unusedSimpArgs false
namespace Go.Proofs.YtafcnijfoejboaaGreatDoor.W
open Go.RowKit
theorem TDrawn.low {B : Nat} {u u' : World} {v : Value} {n : Nat} (h : TDrawn B u v n) (hb : Below u.heap.size u u') {B' : Nat} (hB : B' ≤ B) : TDrawn B' u' v n := by
  obtain ⟨a, cap, xs, e, hT, hsm⟩ := h
  exact ⟨a, cap, xs, e, (hT.keep hb).lower hB, hsm⟩
theorem tab2_at (A B : Int) : ∀ j : Nat, j < 2 → ∃ n : Int, (#[.int .i64 A, .int .i64 B] : Array Value)[j]? = some (.int .i64 n) ∧ (n = A ∨ n = B)
  | 0, _ => ⟨_, rfl, .inl rfl⟩ | 1, _ => ⟨_, rfl, .inr rfl⟩
  | n + 2, h => absurd h (by omega)
set_option maxHeartbeats 8000000 in
set_option maxRecDepth 8000 in
theorem l7Pick_any (w : World) (c : Nat) (h : RdOk w c) (hc : c < w.heap.size) : Calls Tryz.prog 24 #[.pointer (some ⟨c, 0, none⟩)] w fun e w' => ∃ (v : Value) (n : Nat) (i : Int), e = .returned (.tuple #[v, .int .i64 i]) ∧ 0 < n ∧ n ≤ 2001 ∧ (-3000 ≤ i ∧ i ≤ 3000) ∧ TDrawn w.heap.size w' v n ∧ OnlyL c w w' := by
  have HR : Hid (RdOk w c) := h
  have HC : Hid (c < w.heap.size) := hc
  clear h hc
  go_enter Tryz.func24, Tryz.ntmps24
  go_wp2_with fail
  refine (next_onlyL _ c HR.out).mono ?_
  rintro e u1 ⟨kx, rfl, hkx, r1, o1⟩
  have HR1 : Hid (RdOk u1 c ∧ OnlyL c w u1) := ⟨r1, o1⟩
  have hz1 : w.heap.size ≤ u1.heap.size := o1.size
  clear r1 o1 HR
  go_wp2_with fail
  refine (l7Types_any u1 c HR1.out.1 (by have := HC.out; omega)).mono ?_
  rintro e u2 ⟨v, n, rfl, hn0, hn, hD, r2, o2⟩
  obtain ⟨a, cap, xs, rfl, hT, hsm⟩ := hD
  have HD : Hid (TDrawn w.heap.size u2 (.slice a n cap) n ∧ OnlyL c w u2) := ⟨⟨a, cap, xs, rfl, hT.lower hz1, hsm⟩, HR1.out.2.trans o2⟩
  clear hT hsm r2 o2 HR1
  by_cases h250 : 250 ≤ kx
  · have hki : (250 : Int) ≤ (kx : Int) := by omega
    obtain ⟨r, hr, hr2⟩ : ∃ r : Nat, ((kx : Int) % 2) = (r : Int) ∧ r < 2 := ⟨kx % 2, by omega, by omega⟩
    have hrt : (kx : Int).tmod 2 = (r : Int) := by rw [Int.tmod_eq_emod_of_nonneg (by omega)]; exact hr
    have hri : (r : Int) < 2 := by omega
    obtain ⟨x, hx, hxs⟩ := tab2_at (-1) (n : Int) r hr2
    have hcx : ((u2.alloc (.cells #[.int .i64 (-1), .int .i64 (n : Int)] 3)).drew).cell? ⟨u2.heap.size, r, none⟩ = some (.int .i64 x) := by
      show (u2.alloc (.cells #[.int .i64 (-1), .int .i64 (n : Int)] 3)).cell? ⟨u2.heap.size, r, none⟩ = _
      rw [cell_of_row _ _ _ _ _ (0, 0) (heap_alloc_new u2 _)]; exact hx
    have HX : Hid (-3000 ≤ x ∧ x ≤ 3000) := by show -3000 ≤ x ∧ x ≤ 3000; rcases hxs with rfl | rfl <;> omega
    clear hx hxs
    go_wp2_with fail
    go_region
    all_goals
      go_wp2_with fail
      go_ret2
      have bb : Below u2.heap.size u2 ((u2.alloc (.cells #[.int .i64 (-1), .int .i64 (n : Int)] 3)).drew) := Below.drew (below_alloc _ _)
      first
        | exact ⟨_, n, x, rfl, hn0, hn, HX.out, HD.out.1.low bb (Nat.le_refl _), HD.out.2.trans (OnlyL.of_below bb)⟩
        | exact ⟨_, rfl, n, hn0, hn, HX.out, HD.out.1.low bb (Nat.le_refl _), HD.out.2.trans (OnlyL.of_below bb)⟩
  · have hki : ¬ ((250 : Int) ≤ (kx : Int)) := by omega
    obtain ⟨p, hp, hpn⟩ : ∃ p : Nat, ((kx : Int).tmod (n : Int)) = (p : Int) ∧ p < n := ⟨kx % n, by rw [Int.tmod_eq_emod_of_nonneg (by omega)]; exact (Int.natCast_emod _ _).symm, Nat.mod_lt _ (by omega)⟩
    have hpe : ((kx : Int) % (n : Int)) = (p : Int) := by rw [← hp, Int.tmod_eq_emod_of_nonneg (by omega)]
    have hnz : ((n : Int) == 0) = false := by rw [beq_eq_false_iff_ne]; omega
    have hnz2 : ¬ (n = 0) := by omega
    have hnz3 : ¬ ((n : Int) = 0) := by omega
    have hrem : ∀ (a : Int) (w : World), (binOp .rem 3 (.int .i64 a) (.int .i64 (n : Int))).run Tryz.prog w = .ok (.int .i64 (a.tmod (n : Int))) w := fun a w => by simp [go_sem, hnz2, hnz3]
    have hwn : IntKind.i64.wrap ((n : Int) - 1) = (n : Int) - 1 := by rw [IntKind.wrap_i64]; omega
    have hwp : IntKind.i64.wrap ((n : Int) - 1 - (p : Int)) = (n : Int) - 1 - (p : Int) := by rw [IntKind.wrap_i64]; omega
    go_wp2_with fail
    go_region
    all_goals
      go_wp2_with fail
      go_ret2
      have bb : Below u2.heap.size u2 u2.drew := Below.drew (Below.refl _ _)
      first
        | exact ⟨_, n, (n : Int) - 1 - (p : Int), rfl, hn0, hn, by omega, HD.out.1.low bb (Nat.le_refl _), HD.out.2.trans (OnlyL.of_below bb)⟩
        | exact ⟨_, rfl, n, hn0, hn, by omega, HD.out.1.low bb (Nat.le_refl _), HD.out.2.trans (OnlyL.of_below bb)⟩
set_option maxHeartbeats 8000000 in
set_option maxRecDepth 8000 in
theorem drawSame_any (w : World) (a : Option Addr) (len cap : Nat) (h : IsBytes w a len cap) : Calls Tryz.prog 17 #[.slice a len cap] w fun e w' => ∃ (v : Value) (n : Nat) (i j : Int), e = .returned (.tuple #[v, .int .i64 i, .int .i64 j]) ∧ 0 < n ∧ n ≤ 2001 ∧ (-3000 ≤ i ∧ i ≤ 3000) ∧ (-3000 ≤ j ∧ j ≤ 3000) ∧ TDrawn w.heap.size w' v n ∧ Below w.heap.size w w' := by
  have HI : Hid (IsBytes w a len cap) := h
  clear h
  go_enter Tryz.func17, Tryz.ntmps17
  go_wp2_with fail
  refine (open_any _ a len cap HI.out).mono ?_
  rintro e u1 ⟨rfl, R1, B1⟩
  have H1 : Hid (RdOk u1 w.heap.size ∧ Below w.heap.size w u1) := ⟨R1, B1⟩
  clear R1 B1 HI
  go_wp2_with fail
  refine (next_onlyL _ _ H1.out.1).mono ?_
  rintro e u2 ⟨kx, rfl, hkx, r2, o2⟩
  have H2 : Hid (RdOk u2 w.heap.size ∧ Below w.heap.size w u2) := ⟨r2, H1.out.2.trans (o2.below (Nat.le_refl _) H1.out.2.size)⟩
  have hz2 : w.heap.size < u2.heap.size := r2.lt
  clear r2 o2 H1
  go_wp2_with fail
  refine (l7Pick_any u2 _ H2.out.1 hz2).mono ?_
  rintro e u3 ⟨v, n, i, rfl, hn0, hn, hi, hD, o3⟩
  have HI3 : Hid (-3000 ≤ i ∧ i ≤ 3000) := hi
  obtain ⟨b, cp, xs, rfl, hT, hsm⟩ := hD
  have HD : Hid (TDrawn w.heap.size u3 (.slice b n cp) n ∧ Below w.heap.size w u3) := ⟨⟨b, cp, xs, rfl, hT.lower (by omega), hsm⟩, H2.out.2.trans (o3.below (Nat.le_refl _) (by omega))⟩
  clear hi hT hsm o3 H2
  obtain ⟨p, hp, hpn⟩ : ∃ p : Nat, ((kx : Int).tmod ((n : Int) + 2)) = (p : Int) ∧ p < n + 2 := ⟨kx % (n + 2), by rw [Int.tmod_eq_emod_of_nonneg (by omega)]; have := Int.natCast_emod kx (n + 2); rw [this]; rfl, Nat.mod_lt _ (by omega)⟩
  have hpe : ((kx : Int) % ((n : Int) + 2)) = (p : Int) := by rw [← hp, Int.tmod_eq_emod_of_nonneg (by omega)]
  have hnz3 : ¬ ((n : Int) + 2 = 0) := by omega
  have hnz : ((n : Int) + 2 == 0) = false := by rw [beq_eq_false_iff_ne]; omega
  have hwn : IntKind.i64.wrap ((n : Int) + 2) = (n : Int) + 2 := by rw [IntKind.wrap_i64]; omega
  have hwp : IntKind.i64.wrap ((p : Int) - 1) = (p : Int) - 1 := by rw [IntKind.wrap_i64]; omega
  have hrem : ∀ (a : Int) (w : World), (binOp .rem 3 (.int .i64 a) (.int .i64 ((n : Int) + 2))).run Tryz.prog w = .ok (.int .i64 (a.tmod ((n : Int) + 2))) w := fun a w => by simp [go_sem, hnz3]
  go_wp2_with fail
  go_region
  all_goals
    go_wp2_with fail
    go_ret3
    have bb : Below u3.heap.size u3 u3.drew := Below.drew (Below.refl _ _)
    first
      | exact ⟨_, n, i, (p : Int) - 1, rfl, hn0, hn, HI3.out, by omega, HD.out.1.low bb (Nat.le_refl _), HD.out.2.trans (bb.mono HD.out.2.size)⟩
      | exact ⟨_, rfl, n, hn0, hn, HI3.out, by omega, HD.out.1.low bb (Nat.le_refl _), HD.out.2.trans (bb.mono HD.out.2.size)⟩
set_option maxHeartbeats 8000000 in
set_option maxRecDepth 8000 in
theorem drawSize_any (w : World) (a : Option Addr) (len cap : Nat) (h : IsBytes w a len cap) : Calls Tryz.prog 9 #[.slice a len cap] w fun e w' => ∃ (v : Value) (n : Nat) (i : Int), e = .returned (.tuple #[v, .int .i64 i]) ∧ 0 < n ∧ n ≤ 2001 ∧ (-3000 ≤ i ∧ i ≤ 3000) ∧ TDrawn w.heap.size w' v n ∧ Below w.heap.size w w' := by
  have HI : Hid (IsBytes w a len cap) := h
  clear h
  go_enter Tryz.func9, Tryz.ntmps9
  go_wp2_with fail
  refine (open_any _ a len cap HI.out).mono ?_
  rintro e u1 ⟨rfl, R1, B1⟩
  have H1 : Hid (RdOk u1 w.heap.size ∧ Below w.heap.size w u1) := ⟨R1, B1⟩
  have hz1 : w.heap.size < u1.heap.size := R1.lt
  clear R1 B1 HI
  go_wp2_with fail
  refine (l7Pick_any u1 _ H1.out.1 hz1).mono ?_
  rintro e u3 ⟨v, n, i, rfl, hn0, hn, hi, hD, o3⟩
  have HI3 : Hid (-3000 ≤ i ∧ i ≤ 3000) := hi
  obtain ⟨b, cp, xs, rfl, hT, hsm⟩ := hD
  have HD : Hid (TDrawn w.heap.size u3 (.slice b n cp) n ∧ Below w.heap.size w u3) := ⟨⟨b, cp, xs, rfl, hT.lower (by omega), hsm⟩, H1.out.2.trans (o3.below (Nat.le_refl _) (by omega))⟩
  clear hi hT hsm o3 H1
  go_wp2_with fail
  go_ret2
  first
    | exact ⟨_, n, i, rfl, hn0, hn, HI3.out, HD.out.1, HD.out.2⟩
    | exact ⟨_, rfl, n, hn0, hn, HI3.out, HD.out.1, HD.out.2⟩
end Go.Proofs.YtafcnijfoejboaaGreatDoor.W
