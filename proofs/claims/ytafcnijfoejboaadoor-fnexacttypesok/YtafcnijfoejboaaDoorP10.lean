import Derived.Test.YtafcnijfoejboaaDoorP03
set_option linter.unusedVariables false
set_option linter.unusedSimpArgs false
namespace Go.Proofs.YtafcnijfoejboaaDoor.Pl
def rng (n : Nat) (zs : List Int) : Bool := decide (∀ p, p < zs.length → 0 ≤ zs.getD p 0 ∧ zs.getD p 0 < n)
def funOk (xs : List Ty) (i : Nat) (zs : List Int) : Bool := decide (∀ p, p < zs.length → zs.getD p 0 < i ∧ (scal (xs.getD (zs.getD p 0).toNat Ty.zero).k = true ∨ (p = 0 ∧ (xs.getD (zs.getD p 0).toNat Ty.zero).k = 1)))
def formK (xs : List Ty) (i : Nat) (x : Ty) : Bool :=
  if 1 ≤ x.k ∧ x.k ≤ 7 then decide (x.of.length = 0)
  else if x.k = 8 then decide (x.of.length = 1) && (decide (x.of.getD 0 0 < i) || tagd (xs.getD (x.of.getD 0 0).toNat Ty.zero).k)
  else if x.k = 9 then decide (x.of.length = 1) && decide (x.of.getD 0 0 < i) && decide (1 ≤ x.n) && decide (x.n ≤ 60000)
  else if tagd x.k = true then decide (x.of.length ≤ 100) && decide (x.names.length = x.of.length) && apart x.names
  else decide (x.k = 12) && decide (1 ≤ x.of.length) && decide (x.of.length ≤ 9) && funOk xs i x.of
def form (xs : List Ty) (i : Nat) : Bool :=
  rng xs.length (xs.getD i Ty.zero).of && (decide ((xs.getD i Ty.zero).k = 9) || decide ((xs.getD i Ty.zero).n = 0)) && (tagd (xs.getD i Ty.zero).k || decide ((xs.getD i Ty.zero).names.length = 0)) && formK xs i (xs.getD i Ty.zero)
end Go.Proofs.YtafcnijfoejboaaDoor.Pl
namespace Go.Proofs.YtafcnijfoejboaaDoor.W
open Go.RowKit
set_option maxRecDepth 8000 in
set_option maxHeartbeats 8000000 in
theorem l7Form_any {lo : Nat} (a : Option Addr) (len cap : Nat) (xs : List Pl.Ty) (i : Nat) (hi : i < len) (w : World) (h : TRow lo w a len cap xs) :
    Calls Tryd.prog 10 #[.slice a len cap, .int .i64 i] w fun e w' => e = .returned (.bool (Pl.form xs i)) ∧ Below w.heap.size w w' := by
  have hm : (len : Int) ≤ 9223372036854775807 := by have := h.small; omega
  have HXL : Hid (xs.length = len) := h.1
  have HR : Hid (TRow lo w a len cap xs) := h
  obtain ⟨b, off, v, s, rfl, hlo, hb1, hc, hrow, hs⟩ := h.at hi
  obtain ⟨va, vl, vc⟩ := v
  obtain ⟨x, hx⟩ : ∃ x, x = xs.getD i Pl.Ty.zero := ⟨_, rfl⟩
  rw [← hx] at hc hrow hs
  obtain ⟨kk, nn, zs, nms⟩ := x
  have hvl : (vl : Int) ≤ 9223372036854775807 := by have := hrow.small; simp only at this; omega
  have hsl : (s.len : Int) ≤ 9223372036854775807 := by have := hs.small; omega
  obtain ⟨c0, c1, c2, c3⟩ := ty_cells hc
  change w.cell? _ = some (.int .i64 kk) at c0
  change w.cell? _ = some (.int .i64 nn) at c1
  have HX : Hid (Pl.Ty.mk kk nn zs nms = xs.getD i Pl.Ty.zero) := hx
  have HS : Hid (SRow lo w s.a s.len s.cap nms) := hs
  have HO : Hid (Row .i64 lo w va vl vc zs) := hrow
  have HOL : Hid (zs.length = vl) := hrow.1
  have HSL : Hid (nms.length = s.len) := hs.1.1
  have hii : (i : Int) < (len : Int) := by omega
  clear hx hs hrow hc h
  go_enter Tryd.func10, Tryd.ntmps10
  go_wp2_with fail
  go_loop [7] (fun j => ∃ k : Nat, k ≤ vl ∧ j = .int .i64 k ∧ (∀ p, p < k → 0 ≤ zs.getD p 0 ∧ zs.getD p 0 < (len : Int))) (fun j => vl - (intOf j).toNat)
  case atStart => exact ⟨0, Nat.zero_le _, rfl, fun j hj => absurd hj (Nat.not_lt_zero _)⟩
  case round =>
    obtain ⟨k, hk, rfl, hall⟩ := hrel
    have HA : Hid (∀ p, p < k → 0 ≤ zs.getD p 0 ∧ zs.getD p 0 < (len : Int)) := hall
    clear hall
    by_cases hlt : k < vl
    · have hj : (k : Int) < (vl : Int) := by omega
      obtain ⟨b2, o2, rfl, _, hb2, hcp⟩ := HO.out.2.2.2.2.resolve_left (by omega)
      have cz := hcp k hlt
      obtain ⟨z, hz⟩ : ∃ z, z = zs.getD k 0 := ⟨_, rfl⟩
      rw [← hz] at cz
      have HZ : Hid (z = zs.getD k 0) := hz
      clear hz hcp
      by_cases hin : 0 ≤ z ∧ z < (len : Int)
      · obtain ⟨hz0, hz1⟩ := hin
        go_wp2_with fail
        go_round
        case rel => exact ⟨k + 1, by omega, by go_num, fun j hj => by
          by_cases e : j = k
          · rw [e, ← HZ.out]; exact ⟨hz0, hz1⟩
          · exact HA.out j (by omega)⟩
        case measure => simp [intOf]; omega
      · have HN : Hid (Pl.form xs i = false) := by
          have : Pl.rng xs.length (xs.getD i Pl.Ty.zero).of = false := decide_eq_false fun hc => by
            have h1 := hc k (by rw [← HX.out, HOL.out]; exact hlt)
            rw [← HX.out, ← HZ.out, HXL.out] at h1
            exact hin h1
          unfold Pl.form
          rw [this]; rfl
        by_cases hz0 : z < 0
        · go_wp2_with fail
          go_ret
          exact ⟨ret_bool HN.out.symm, below_alloc _ _⟩
        · have hz1 : (len : Int) ≤ z := by omega
          go_wp2_with fail
          go_ret
          exact ⟨ret_bool HN.out.symm, below_alloc _ _⟩
    · have hkk : k = vl := by omega
      subst hkk
      have hj : ¬ ((k : Int) < (k : Int)) := by omega
      have HF : Hid (Pl.form xs i = ((decide (kk = 9) || decide (nn = 0)) && (Pl.tagd kk || decide (s.len = 0)) && Pl.formK xs i ⟨kk, nn, zs, nms⟩)) := by
        have : Pl.rng xs.length (xs.getD i Pl.Ty.zero).of = true := decide_eq_true fun p hp => by
          rw [← HX.out, HOL.out] at hp
          rw [← HX.out, HXL.out]
          exact HA.out p hp
        unfold Pl.form
        rw [this, ← HX.out]
        show (true && (decide (kk = 9) || decide (nn = 0)) && (Pl.tagd kk || decide (nms.length = 0)) && Pl.formK xs i ⟨kk, nn, zs, nms⟩) = _
        rw [HSL.out, Bool.true_and]
      by_cases kA : 1 ≤ kk ∧ kk ≤ 7
      · have ht : Pl.tagd kk = false := by simp [Pl.tagd]; omega
        have h9 : ¬ kk = 9 := by omega
        have HK : Hid (Pl.form xs i = (decide (nn = 0) && decide (s.len = 0) && decide (k = 0))) := by
          show Pl.form xs i = _
          rw [HF.out]; simp [Pl.formK, kA, ht, h9, HOL.out]
        obtain ⟨hA1, hA2⟩ := kA
        go_wp2_with (go_at_call 12; refine (l7Tagged_any _ _).mono ?_; rintro e u1 ⟨rfl, rfl⟩; first | rw [ht] | rw [hty])
        all_goals (go_ret; refine ⟨ret_bool ?_, below_alloc _ _⟩; rw [HK.out, Bool.eq_iff_iff]; simp <;> omega)
      by_cases k8 : kk = 8
      · subst k8
        by_cases hk1 : k = 1
        · subst hk1
          obtain ⟨b2, o2, rfl, _, hb2, hcp⟩ := HO.out.2.2.2.2.resolve_left (by omega)
          have hr0 := HA.out 0 (by omega)
          have cz0 := hcp 0 (by omega)
          obtain ⟨z, hz⟩ : ∃ z, z = zs.getD 0 0 := ⟨_, rfl⟩
          rw [← hz] at cz0 hr0
          obtain ⟨j, rfl⟩ : ∃ j : Nat, z = j := ⟨z.toNat, by omega⟩
          have cz : w.cell? ⟨b2, o2, none⟩ = some (.int .i64 (j : Int)) := by rwa [Nat.add_zero] at cz0
          have hjl : j < len := by omega
          have hjj : (j : Int) < (len : Int) := by omega
          clear cz0 hcp
          obtain ⟨b', off', v2, s2, e, _, _, hc', hrow', hs'⟩ := HR.out.at hjl
          injection e with e
          injection e with e1 e2 _
          subst e1
          subst e2
          obtain ⟨y, hy⟩ : ∃ y, y = xs.getD j Pl.Ty.zero := ⟨_, rfl⟩
          rw [← hy] at hc'
          obtain ⟨d0, _, _, _⟩ := ty_cells hc'
          have HK : Hid (Pl.form xs i = (decide (nn = 0) && decide (s.len = 0) && (decide ((j : Int) < (i : Int)) || Pl.tagd y.k))) := by
            show Pl.form xs i = _
            rw [HF.out]
            unfold Pl.formK
            rw [if_neg (by simp), if_pos rfl]
            show ((decide ((8 : Int) = 9) || decide (nn = 0)) && (Pl.tagd 8 || decide (s.len = 0)) && (decide (zs.length = 1) && (decide (zs.getD 0 0 < (i : Int)) || Pl.tagd (xs.getD (zs.getD 0 0).toNat Pl.Ty.zero).k))) = _
            rw [← hz, Int.toNat_natCast, ← hy, HOL.out]
            simp [show Pl.tagd 8 = false from rfl]
          clear hc' hrow' hs' hy hz
          cases hty : Pl.tagd y.k <;> by_cases hji : (j : Int) < (i : Int)
          all_goals
            rw [hty] at HK
            go_wp2_with (go_at_call 12; refine (l7Tagged_any _ _).mono ?_; rintro e u1 ⟨rfl, rfl⟩; first | rw [hty] | rw [show Pl.tagd 8 = false from rfl])
            all_goals (go_ret; refine ⟨ret_bool ?_, below_alloc _ _⟩; rw [HK.out, Bool.eq_iff_iff]; simp <;> omega)
        · have hk1' : ¬ ((k : Int) = 1) := by omega
          have HK : Hid (Pl.form xs i = false) := by
            show Pl.form xs i = _
            rw [HF.out]; simp [Pl.formK, HOL.out, hk1]
          go_wp2_with (go_at_call 12; refine (l7Tagged_any _ _).mono ?_; rintro e u1 ⟨rfl, rfl⟩; first | rw [show Pl.tagd 8 = false from rfl])
          all_goals (go_ret; exact ⟨ret_bool HK.out.symm, below_alloc _ _⟩)
      by_cases k9 : kk = 9
      · subst k9
        by_cases hk1 : k = 1
        · subst hk1
          obtain ⟨b2, o2, rfl, _, hb2, hcp⟩ := HO.out.2.2.2.2.resolve_left (by omega)
          have hr0 := HA.out 0 (by omega)
          have cz0 := hcp 0 (by omega)
          obtain ⟨z, hz⟩ : ∃ z, z = zs.getD 0 0 := ⟨_, rfl⟩
          rw [← hz] at cz0 hr0
          obtain ⟨j, rfl⟩ : ∃ j : Nat, z = j := ⟨z.toNat, by omega⟩
          have cz : w.cell? ⟨b2, o2, none⟩ = some (.int .i64 (j : Int)) := by rwa [Nat.add_zero] at cz0
          have hjl : j < len := by omega
          have hjj : (j : Int) < (len : Int) := by omega
          clear cz0 hcp
          have HK : Hid (Pl.form xs i = (decide (s.len = 0) && (decide ((j : Int) < (i : Int)) && decide (1 ≤ nn) && decide (nn ≤ 60000)))) := by
            show Pl.form xs i = _
            rw [HF.out]
            unfold Pl.formK
            rw [if_neg (by simp), if_neg (by simp), if_pos rfl]
            show ((decide ((9 : Int) = 9) || decide (nn = 0)) && (Pl.tagd 9 || decide (s.len = 0)) && (decide (zs.length = 1) && decide (zs.getD 0 0 < (i : Int)) && decide (1 ≤ nn) && decide (nn ≤ 60000))) = _
            rw [← hz, HOL.out]
            simp [show Pl.tagd 9 = false from rfl]
          clear hz
          go_wp2_with (go_at_call 12; refine (l7Tagged_any _ _).mono ?_; rintro e u1 ⟨rfl, rfl⟩; rw [show Pl.tagd 9 = false from rfl])
          all_goals (go_ret; refine ⟨ret_bool ?_, below_alloc _ _⟩; rw [HK.out, Bool.eq_iff_iff]; simp <;> omega)
        · have hk1' : ¬ ((k : Int) = 1) := by omega
          have HK : Hid (Pl.form xs i = false) := by
            show Pl.form xs i = _
            rw [HF.out]; simp [Pl.formK, HOL.out, hk1]
          go_wp2_with (go_at_call 12; refine (l7Tagged_any _ _).mono ?_; rintro e u1 ⟨rfl, rfl⟩; rw [show Pl.tagd 9 = false from rfl])
          all_goals (go_ret; exact ⟨ret_bool HK.out.symm, below_alloc _ _⟩)
      by_cases k10 : kk = 10
      · subst k10
        have HK : Hid (Pl.form xs i = (decide (nn = 0) && (decide (k ≤ 100) && decide (s.len = k) && Pl.apart nms))) := by
          show Pl.form xs i = _
          rw [HF.out]; simp [Pl.formK, show Pl.tagd 10 = true from rfl, HOL.out, HSL.out]
        by_cases n0 : nn = 0
        · by_cases c1 : (k : Int) ≤ 100
          · by_cases c2 : (s.len : Int) = (k : Int)
            · go_wp2_with (first | (go_at_call 12; refine (l7Tagged_any _ _).mono ?_; rintro e u1 ⟨rfl, rfl⟩; rw [show Pl.tagd 10 = true from rfl]) | (go_at_call 19; refine (l7Apart_any s.a s.len s.cap nms _ (HS.out.keep (below_alloc _ _))).mono ?_; rintro e u1 ⟨rfl, g1⟩; have G1 : Hid _ := g1; clear g1))
              go_ret
              refine ⟨ret_bool ?_, (below_alloc _ _).trans (G1.out.mono (by simp))⟩
              rw [HK.out, Bool.eq_iff_iff]; simp [n0] <;> omega
            · go_wp2_with (go_at_call 12; refine (l7Tagged_any _ _).mono ?_; rintro e u1 ⟨rfl, rfl⟩; rw [show Pl.tagd 10 = true from rfl])
              all_goals (go_ret; refine ⟨ret_bool ?_, below_alloc _ _⟩; rw [HK.out, Bool.eq_iff_iff]; simp [n0] <;> omega)
          · go_wp2_with (go_at_call 12; refine (l7Tagged_any _ _).mono ?_; rintro e u1 ⟨rfl, rfl⟩; rw [show Pl.tagd 10 = true from rfl])
            all_goals (go_ret; refine ⟨ret_bool ?_, below_alloc _ _⟩; rw [HK.out, Bool.eq_iff_iff]; simp [n0] <;> omega)
        · go_wp2_with (go_at_call 12; refine (l7Tagged_any _ _).mono ?_; rintro e u1 ⟨rfl, rfl⟩; rw [show Pl.tagd 10 = true from rfl])
          all_goals (go_ret; refine ⟨ret_bool ?_, below_alloc _ _⟩; rw [HK.out, Bool.eq_iff_iff]; simp [n0] <;> omega)
      by_cases k11 : kk = 11
      · subst k11
        have HK : Hid (Pl.form xs i = (decide (nn = 0) && (decide (k ≤ 100) && decide (s.len = k) && Pl.apart nms))) := by
          show Pl.form xs i = _
          rw [HF.out]; simp [Pl.formK, show Pl.tagd 11 = true from rfl, HOL.out, HSL.out]
        by_cases n0 : nn = 0
        · by_cases c1 : (k : Int) ≤ 100
          · by_cases c2 : (s.len : Int) = (k : Int)
            · go_wp2_with (first | (go_at_call 12; refine (l7Tagged_any _ _).mono ?_; rintro e u1 ⟨rfl, rfl⟩; rw [show Pl.tagd 11 = true from rfl]) | (go_at_call 19; refine (l7Apart_any s.a s.len s.cap nms _ (HS.out.keep (below_alloc _ _))).mono ?_; rintro e u1 ⟨rfl, g1⟩; have G1 : Hid _ := g1; clear g1))
              go_ret
              refine ⟨ret_bool ?_, (below_alloc _ _).trans (G1.out.mono (by simp))⟩
              rw [HK.out, Bool.eq_iff_iff]; simp [n0] <;> omega
            · go_wp2_with (go_at_call 12; refine (l7Tagged_any _ _).mono ?_; rintro e u1 ⟨rfl, rfl⟩; rw [show Pl.tagd 11 = true from rfl])
              all_goals (go_ret; refine ⟨ret_bool ?_, below_alloc _ _⟩; rw [HK.out, Bool.eq_iff_iff]; simp [n0] <;> omega)
          · go_wp2_with (go_at_call 12; refine (l7Tagged_any _ _).mono ?_; rintro e u1 ⟨rfl, rfl⟩; rw [show Pl.tagd 11 = true from rfl])
            all_goals (go_ret; refine ⟨ret_bool ?_, below_alloc _ _⟩; rw [HK.out, Bool.eq_iff_iff]; simp [n0] <;> omega)
        · go_wp2_with (go_at_call 12; refine (l7Tagged_any _ _).mono ?_; rintro e u1 ⟨rfl, rfl⟩; rw [show Pl.tagd 11 = true from rfl])
          all_goals (go_ret; refine ⟨ret_bool ?_, below_alloc _ _⟩; rw [HK.out, Bool.eq_iff_iff]; simp [n0] <;> omega)
      by_cases k12 : kk = 12
      · subst k12
        have HK : Hid (Pl.form xs i = (decide (nn = 0) && decide (s.len = 0) && (decide (1 ≤ k) && decide (k ≤ 9) && Pl.funOk xs i zs))) := by
          show Pl.form xs i = _
          rw [HF.out]; simp [Pl.formK, show Pl.tagd 12 = false from rfl, HOL.out]
        by_cases n0 : nn = 0
        rotate_left
        · have HK0 : Hid (Pl.form xs i = false) := by
            show Pl.form xs i = _
            rw [HK.out]; simp [n0]
          go_wp2_with (go_at_call 12; refine (l7Tagged_any _ _).mono ?_; rintro e u1 ⟨rfl, rfl⟩; rw [show Pl.tagd 12 = false from rfl])
          all_goals (go_ret; exact ⟨ret_bool HK0.out.symm, below_alloc _ _⟩)
        by_cases s0 : s.len = 0
        rotate_left
        · have s0' : (0 : Int) < (s.len : Int) := by omega
          have HK0 : Hid (Pl.form xs i = false) := by
            show Pl.form xs i = _
            rw [HK.out]; simp [s0]
          go_wp2_with (go_at_call 12; refine (l7Tagged_any _ _).mono ?_; rintro e u1 ⟨rfl, rfl⟩; rw [show Pl.tagd 12 = false from rfl])
          all_goals (go_ret; exact ⟨ret_bool HK0.out.symm, below_alloc _ _⟩)
        by_cases a1 : 1 ≤ k
        rotate_left
        · have a1' : (k : Int) < 1 := by omega
          have HK0 : Hid (Pl.form xs i = false) := by
            show Pl.form xs i = _
            rw [HK.out]; simp [a1]
          go_wp2_with (go_at_call 12; refine (l7Tagged_any _ _).mono ?_; rintro e u1 ⟨rfl, rfl⟩; rw [show Pl.tagd 12 = false from rfl])
          all_goals (go_ret; exact ⟨ret_bool HK0.out.symm, below_alloc _ _⟩)
        by_cases a9 : k ≤ 9
        rotate_left
        · have a9' : (9 : Int) < (k : Int) := by omega
          have HK0 : Hid (Pl.form xs i = false) := by
            show Pl.form xs i = _
            rw [HK.out]; simp [a9]
          go_wp2_with (go_at_call 12; refine (l7Tagged_any _ _).mono ?_; rintro e u1 ⟨rfl, rfl⟩; rw [show Pl.tagd 12 = false from rfl])
          all_goals (go_ret; exact ⟨ret_bool HK0.out.symm, below_alloc _ _⟩)
        have HK1 : Hid (Pl.form xs i = Pl.funOk xs i zs) := by
          show Pl.form xs i = _
          rw [HK.out]; simp [n0, s0, a1, a9]
        have s0' : ¬ ((0 : Int) < (s.len : Int)) := by omega
        have a1' : ¬ ((k : Int) < 1) := by omega
        have a9' : ¬ ((9 : Int) < (k : Int)) := by omega
        go_wp2_with (go_at_call 12; refine (l7Tagged_any _ _).mono ?_; rintro e u1 ⟨rfl, rfl⟩; rw [show Pl.tagd 12 = false from rfl])
        go_loop [8] (fun j => ∃ p : Nat, p ≤ k ∧ j = .int .i64 p ∧ (∀ q, q < p → zs.getD q 0 < i ∧ (Pl.scal (xs.getD (zs.getD q 0).toNat Pl.Ty.zero).k = true ∨ (q = 0 ∧ (xs.getD (zs.getD q 0).toNat Pl.Ty.zero).k = 1)))) (fun j => k - (intOf j).toNat)
        case atStart => exact ⟨0, Nat.zero_le _, rfl, fun q hq => absurd hq (Nat.not_lt_zero _)⟩
        case round =>
          obtain ⟨p, hp, rfl, hall⟩ := hrel
          have HP : Hid (∀ q, q < p → zs.getD q 0 < i ∧ (Pl.scal (xs.getD (zs.getD q 0).toNat Pl.Ty.zero).k = true ∨ (q = 0 ∧ (xs.getD (zs.getD q 0).toNat Pl.Ty.zero).k = 1))) := hall
          clear hall
          by_cases hpk : p < k
          · have hpk' : (p : Int) < (k : Int) := by omega
            obtain ⟨b2, o2, rfl, _, hb2, hcp⟩ := HO.out.2.2.2.2.resolve_left (by omega)
            have hr0 := HA.out p hpk
            have cz := hcp p hpk
            obtain ⟨z, hz⟩ : ∃ z, z = zs.getD p 0 := ⟨_, rfl⟩
            rw [← hz] at cz hr0
            obtain ⟨j, rfl⟩ : ∃ j : Nat, z = j := ⟨z.toNat, by omega⟩
            have hjl : j < len := by omega
            have hjj : (j : Int) < (len : Int) := by omega
            clear hcp
            obtain ⟨b', off', v2, s2, e, _, _, hc', hrow', hs'⟩ := HR.out.at hjl
            injection e with e
            injection e with e1 e2 _
            subst e1
            subst e2
            obtain ⟨y, hy⟩ : ∃ y, y = xs.getD j Pl.Ty.zero := ⟨_, rfl⟩
            rw [← hy] at hc'
            obtain ⟨d0, _, _, _⟩ := ty_cells hc'
            have HN : Hid (¬ ((j : Int) < i ∧ (Pl.scal y.k = true ∨ (p = 0 ∧ y.k = 1))) → Pl.form xs i = false) := fun hno => by
              rw [HK1.out]
              refine decide_eq_false fun hc => hno ?_
              have h1 := hc p (by rw [HOL.out]; exact hpk)
              rw [← hz, Int.toNat_natCast, ← hy] at h1
              exact h1
            have HY : Hid (((j : Int) < i ∧ (Pl.scal y.k = true ∨ (p = 0 ∧ y.k = 1))) → zs.getD p 0 < i ∧ (Pl.scal (xs.getD (zs.getD p 0).toNat Pl.Ty.zero).k = true ∨ (p = 0 ∧ (xs.getD (zs.getD p 0).toNat Pl.Ty.zero).k = 1))) := fun hyes => by
              rw [← hz, Int.toNat_natCast, ← hy]
              exact hyes
            clear hc' hrow' hs' hy hz hr0
            by_cases hji : (j : Int) < (i : Int)
            · have hji' : ¬ ((i : Int) ≤ (j : Int)) := by omega
              cases hsc : Pl.scal y.k
              · rcases Nat.eq_zero_or_pos p with hp0 | hp0
                · subst hp0
                  have cz' : w.cell? ⟨b2, o2, none⟩ = some (.int .i64 (j : Int)) := by rwa [Nat.add_zero] at cz
                  by_cases hy1 : y.k = 1
                  · go_wp2_with (go_at_call 20; refine (l7Scalar_any _ _).mono ?_; rintro e u1 ⟨rfl, rfl⟩; first | rw [hsc] | rw [show Pl.scal 1 = false from rfl])
                    go_round
                    case rel => exact ⟨0 + 1, by omega, by go_num, fun q hq => by
                      have e : q = 0 := by omega
                      have hy2 := HY.out ⟨hji, .inr ⟨by first | rfl | trivial, by first | exact hy1 | trivial⟩⟩
                      rw [e]; exact ⟨hy2.1, hy2.2.imp id fun t => ⟨rfl, t.2⟩⟩⟩
                    case measure => simp [intOf]; omega
                  · go_wp2_with (go_at_call 20; refine (l7Scalar_any _ _).mono ?_; rintro e u1 ⟨rfl, rfl⟩; first | rw [hsc] | rw [show Pl.scal 1 = false from rfl])
                    go_ret
                    exact ⟨ret_bool (HN.out (by rintro ⟨_, h | h⟩ <;> first | (rw [hsc] at h; cases h) | exact hy1 h.2)).symm, below_alloc _ _⟩
                · have hp0' : (0 : Int) < (p : Int) := by omega
                  go_wp2_with (go_at_call 20; refine (l7Scalar_any _ _).mono ?_; rintro e u1 ⟨rfl, rfl⟩; first | rw [hsc] | rw [show Pl.scal 1 = false from rfl])
                  go_ret
                  exact ⟨ret_bool (HN.out (by rintro ⟨_, h | h⟩ <;> first | (rw [hsc] at h; cases h) | omega)).symm, below_alloc _ _⟩
              · go_wp2_with (go_at_call 20; refine (l7Scalar_any _ _).mono ?_; rintro e u1 ⟨rfl, rfl⟩; first | rw [hsc] | rw [show Pl.scal 1 = false from rfl])
                go_round
                case rel => exact ⟨p + 1, by omega, by go_num, fun q hq => by
                  by_cases e : q = p
                  · rw [e]; exact HY.out ⟨hji, .inl hsc⟩
                  · exact HP.out q (by omega)⟩
                case measure => simp [intOf]; omega
            · have hji' : (i : Int) ≤ (j : Int) := by omega
              go_wp2_with fail
              go_ret
              exact ⟨ret_bool (HN.out (fun h => absurd h.1 (by omega))).symm, below_alloc _ _⟩
          · have hpe : p = k := by omega
            have hpk' : ¬ ((p : Int) < (k : Int)) := by omega
            go_wp2_with fail
            go_ret
            exact ⟨ret_bool (by rw [HK1.out]; exact (decide_eq_true fun q hq => HP.out q (by rw [HOL.out] at hq; omega)).symm), below_alloc _ _⟩
      have ht : Pl.tagd kk = false := by simp [Pl.tagd]; omega
      have HK : Hid (Pl.form xs i = false) := by
        show Pl.form xs i = _
        rw [HF.out]; simp [Pl.formK, kA, k8, k9, k12, ht]
      by_cases hlow : kk < 1
      · go_wp2_with (go_at_call 12; refine (l7Tagged_any _ _).mono ?_; rintro e u1 ⟨rfl, rfl⟩; rw [ht])
        all_goals (go_ret; exact ⟨ret_bool HK.out.symm, below_alloc _ _⟩)
      · have hhi : 12 < kk := by omega
        go_wp2_with (go_at_call 12; refine (l7Tagged_any _ _).mono ?_; rintro e u1 ⟨rfl, rfl⟩; rw [ht])
        all_goals (go_ret; exact ⟨ret_bool HK.out.symm, below_alloc _ _⟩)
end Go.Proofs.YtafcnijfoejboaaDoor.W
