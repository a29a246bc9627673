import Derived.Test.YtafcnijfoejboaaDoorP13
set_option linter.unusedVariables false
set_option linter.unusedSimpArgs false
namespace Go.Proofs.YtafcnijfoejboaaDoor.Pl
theorem form_shp {len : Nat} {xs : List Ty} (hxl : xs.length = len) (h : ∀ i, i < len → form xs i = true) : W.Shp len xs := by
  intro i hi
  have hf := h i hi
  unfold form at hf
  obtain ⟨x, hx⟩ : ∃ x, x = xs.getD i Ty.zero := ⟨_, rfl⟩
  rw [← hx] at hf ⊢
  rw [hxl] at hf
  simp only [Bool.and_eq_true, Bool.or_eq_true, decide_eq_true_eq] at hf
  obtain ⟨⟨⟨h1, h2⟩, h3⟩, h4⟩ := hf
  refine ⟨by simpa [rng] using h1, ?_, ?_⟩
  · intro h9
    unfold formK at h4
    rw [h9] at h4
    simp at h4
    omega
  · unfold formK at h4
    by_cases c1 : 1 ≤ x.k ∧ x.k ≤ 7
    · rw [if_pos c1] at h4; simp at h4; simp [h4]
    · rw [if_neg c1] at h4
      by_cases c2 : x.k = 8
      · rw [if_pos c2] at h4; simp at h4; omega
      · rw [if_neg c2] at h4
        by_cases c3 : x.k = 9
        · rw [if_pos c3] at h4; simp at h4; omega
        · rw [if_neg c3] at h4
          by_cases c4 : tagd x.k = true
          · rw [if_pos c4] at h4; simp at h4; omega
          · rw [if_neg c4] at h4; simp at h4; omega
theorem fitP_x {xs : List Ty} {i p : Nat} {x : Ty} (hx : x = xs.getD i Ty.zero) : fitPart xs i p = (within (x.of.getD p 0) 0 ((xs.length : Int) - 1) && fitP x.k i p (x.of.getD p 0) (xs.getD (x.of.getD p 0).toNat Ty.zero)) := by
  unfold fitPart ofAt
  rw [← hx]
theorem fitR_iff {xs : List Ty} {i : Nat} {x : Ty} {r : TRule} : fitR xs i x r = true ↔ ((r.lowN ≤ x.n ∧ x.n ≤ r.highN) ∧ (r.least ≤ (x.of.length : Int) ∧ (x.of.length : Int) ≤ r.most)) ∧ (∀ p, p < x.of.length → fitPart xs i p = true) ∧ (if r.names = true then x.names.length = x.of.length ∧ apart x.names = true else x.names.length = 0) := by
  unfold fitR within
  cases hn : r.names
  · simp only [Bool.and_eq_true, decide_eq_true_eq, Bool.false_eq_true, if_false]
    exact ⟨fun ⟨⟨⟨a, b⟩, c⟩, d⟩ => ⟨⟨a, b⟩, c, d⟩, fun ⟨⟨a, b⟩, c, d⟩ => ⟨⟨⟨a, b⟩, c⟩, d⟩⟩
  · simp only [Bool.and_eq_true, decide_eq_true_eq, if_true]
    exact ⟨fun ⟨⟨⟨a, b⟩, c⟩, d⟩ => ⟨⟨a, b⟩, c, d⟩, fun ⟨⟨a, b⟩, c, d⟩ => ⟨⟨⟨a, b⟩, c⟩, d⟩⟩
theorem fit_form {len : Nat} {xs : List Ty} {i : Nat} (hxl : xs.length = len) : fit xs i = true ↔ form xs i = true ∧ ((xs.getD i Ty.zero).k = 9 ∨ tagd (xs.getD i Ty.zero).k = true → ∀ p, p < (xs.getD i Ty.zero).of.length → (xs.getD ((xs.getD i Ty.zero).of.getD p 0).toNat Ty.zero).whole = true) := by
  unfold fit form
  obtain ⟨x, hx⟩ : ∃ x, x = xs.getD i Ty.zero := ⟨_, rfl⟩
  rw [← hx]
  have hP : ∀ p, fitPart xs i p = (within (x.of.getD p 0) 0 ((xs.length : Int) - 1) && fitP x.k i p (x.of.getD p 0) (xs.getD (x.of.getD p 0).toNat Ty.zero)) := fun p => fitP_x hx
  rw [hxl] at hP ⊢
  have hW : ∀ z : Int, within z 0 ((len : Int) - 1) = true ↔ 0 ≤ z ∧ z < len := fun z => by unfold within; rw [decide_eq_true_eq]; omega
  clear hx
  obtain ⟨k, n, zs, nms⟩ := x
  simp only at hP ⊢
  have hF : ∀ F : Bool, ((((rng len zs && (decide (k = 9) || decide (n = 0))) && (tagd k || decide (nms.length = 0))) && F) = true) ↔ ((∀ p, p < zs.length → 0 ≤ zs.getD p 0 ∧ zs.getD p 0 < len) ∧ (k = 9 ∨ n = 0) ∧ (tagd k = true ∨ nms.length = 0) ∧ F = true) := fun F => by
    unfold rng
    simp only [Bool.and_eq_true, Bool.or_eq_true, decide_eq_true_eq]
    exact ⟨fun ⟨⟨⟨a, b⟩, c⟩, d⟩ => ⟨a, b, c, d⟩, fun ⟨a, b, c, d⟩ => ⟨⟨⟨a, b⟩, c⟩, d⟩⟩
  rw [hF]
  clear hF
  have hPI : ∀ p, fitPart xs i p = true ↔ (0 ≤ zs.getD p 0 ∧ zs.getD p 0 < len) ∧ fitP k i p (zs.getD p 0) (xs.getD (zs.getD p 0).toNat Ty.zero) = true := fun p => by
    rw [hP, Bool.and_eq_true, hW]
  clear hP hW
  unfold formK
  simp only
  by_cases c1 : 1 ≤ k ∧ k ≤ 7
  · have t : tagd k = false := by unfold tagd; rw [decide_eq_false_iff_not]; omega
    have r : tRule k = some ⟨0, 0, 0, 0, false⟩ := by unfold tRule; rw [if_pos c1]
    rw [r, if_pos c1]
    simp only [fitR_iff, decide_eq_true_eq, t, Bool.false_eq_true, if_false, false_or]
    constructor
    · rintro ⟨⟨a1, a2⟩, a3, a4⟩
      exact ⟨⟨fun p hp => by omega, .inr (by omega), a4, by omega⟩, fun hc p hp => absurd hp (by omega)⟩
    · rintro ⟨⟨b1, b2, b3, b4⟩, _⟩
      exact ⟨⟨by omega, by omega⟩, fun p hp => by omega, b3⟩
  rw [if_neg c1]
  by_cases c2 : k = 8
  · have t : tagd k = false := by unfold tagd; rw [decide_eq_false_iff_not]; omega
    have r : tRule k = some ⟨0, 0, 1, 1, false⟩ := by unfold tRule; rw [if_neg c1, if_pos c2]
    have hq : ∀ p z y, fitP k i p z y = (decide (z < i) || tagd y.k) := fun p z y => by unfold fitP; rw [if_pos c2]
    rw [r, if_pos c2]
    simp only [fitR_iff, Bool.and_eq_true, decide_eq_true_eq, t, Bool.false_eq_true, if_false, false_or]
    constructor
    · rintro ⟨⟨a1, a2⟩, a3, a4⟩
      have a5 := fun p (hp : p < zs.length) => (hPI p).1 (a3 p hp)
      refine ⟨⟨fun p hp => (a5 p hp).1, .inr (by omega), a4, by omega, ?_⟩, fun hc => by
        rcases hc with q | q
        · omega
        · exact absurd q (by simp)⟩
      rw [← hq 0]; exact (a5 0 (by omega)).2
    · rintro ⟨⟨b1, b2, b3, b4, b5⟩, _⟩
      refine ⟨⟨by omega, by omega⟩, fun p hp => (hPI p).2 ⟨b1 p hp, ?_⟩, b3⟩
      have hp0 : p = 0 := by omega
      rw [hp0, hq]; exact b5
  rw [if_neg c2]
  by_cases c3 : k = 9
  · have t : tagd k = false := by unfold tagd; rw [decide_eq_false_iff_not]; omega
    have r : tRule k = some ⟨1, 60000, 1, 1, false⟩ := by unfold tRule; rw [if_neg c1, if_neg c2, if_pos c3]
    have hq : ∀ p z y, fitP k i p z y = (decide (z < i) && y.whole) := fun p z y => by unfold fitP; rw [if_neg c2, if_pos c3]
    rw [r, if_pos c3]
    simp only [fitR_iff, Bool.and_eq_true, decide_eq_true_eq, t, Bool.false_eq_true, if_false, false_or]
    constructor
    · rintro ⟨⟨a1, a2⟩, a3, a4⟩
      have a5 := fun p (hp : p < zs.length) => (hPI p).1 (a3 p hp)
      have a6 := fun p (hp : p < zs.length) => (show zs.getD p 0 < i ∧ (xs.getD (zs.getD p 0).toNat Ty.zero).whole = true by have := (a5 p hp).2; rw [hq, Bool.and_eq_true, decide_eq_true_eq] at this; exact this)
      exact ⟨⟨fun p hp => (a5 p hp).1, .inl c3, a4, ⟨⟨by omega, (a6 0 (by omega)).1⟩, by omega⟩, by omega⟩, fun _ p hp => (a6 p hp).2⟩
    · rintro ⟨⟨b1, b2, b3, ⟨⟨b4, b5⟩, b6⟩, b7⟩, b8⟩
      refine ⟨⟨by omega, by omega⟩, fun p hp => (hPI p).2 ⟨b1 p hp, ?_⟩, b3⟩
      have hp0 : p = 0 := by omega
      rw [hq, Bool.and_eq_true, decide_eq_true_eq, hp0]
      exact ⟨b5, b8 (.inl c3) 0 (by omega)⟩
  rw [if_neg c3]
  by_cases c4 : tagd k = true
  · have ck : k = 10 ∨ k = 11 := by unfold tagd at c4; rw [decide_eq_true_eq] at c4; exact c4
    have r : tRule k = some ⟨0, 0, 0, 100, true⟩ := by unfold tRule; rw [if_neg c1, if_neg c2, if_neg c3, if_pos ck]
    have hq : ∀ p z y, fitP k i p z y = y.whole := fun p z y => by unfold fitP; rw [if_neg c2, if_neg c3, if_neg (by omega)]
    rw [r, if_pos c4]
    simp only [fitR_iff, Bool.and_eq_true, decide_eq_true_eq, if_true]
    constructor
    · rintro ⟨⟨a1, a2⟩, a3, a4, a5⟩
      have a6 := fun p (hp : p < zs.length) => (hPI p).1 (a3 p hp)
      exact ⟨⟨fun p hp => (a6 p hp).1, .inr (by omega), .inl c4, ⟨by omega, a4⟩, a5⟩, fun _ p hp => by have := (a6 p hp).2; rw [hq] at this; exact this⟩
    · rintro ⟨⟨b1, b2, b3, ⟨b4, b5⟩, b6⟩, b7⟩
      exact ⟨⟨by omega, by omega⟩, fun p hp => (hPI p).2 ⟨b1 p hp, by rw [hq]; exact b7 (.inr c4) p hp⟩, b5, b6⟩
  rw [if_neg c4]
  have ck : ¬ (k = 10 ∨ k = 11) := fun h => c4 (by unfold tagd; rw [decide_eq_true_eq]; exact h)
  by_cases c5 : k = 12
  · have r : tRule k = some ⟨0, 0, 1, 9, false⟩ := by unfold tRule; rw [if_neg c1, if_neg c2, if_neg c3, if_neg ck, if_pos c5]
    have hq : ∀ p z y, fitP k i p z y = (decide (z < i) && (scal y.k || (decide (p = 0) && decide (y.k = 1)))) := fun p z y => by unfold fitP; rw [if_neg c2, if_neg c3, if_pos c5]
    rw [r]
    unfold funOk
    simp only [fitR_iff, Bool.and_eq_true, decide_eq_true_eq, Bool.false_eq_true, if_false, c4, false_or]
    constructor
    · rintro ⟨⟨a1, a2⟩, a3, a4⟩
      have a5 := fun p (hp : p < zs.length) => (hPI p).1 (a3 p hp)
      refine ⟨⟨fun p hp => (a5 p hp).1, .inr (by omega), a4, ⟨⟨c5, by omega⟩, by omega⟩, fun p hp => ?_⟩, fun hc => absurd hc (by rintro (h | h) <;> omega)⟩
      have := (a5 p hp).2
      rw [hq] at this
      simp only [Bool.and_eq_true, Bool.or_eq_true, decide_eq_true_eq] at this
      exact this
    · rintro ⟨⟨b1, b2, b3, ⟨⟨b4, b5⟩, b6⟩, b7⟩, _⟩
      refine ⟨⟨by omega, by omega⟩, fun p hp => (hPI p).2 ⟨b1 p hp, ?_⟩, b3⟩
      rw [hq]
      simp only [Bool.and_eq_true, Bool.or_eq_true, decide_eq_true_eq]
      exact b7 p hp
  · have r : tRule k = none := by unfold tRule; rw [if_neg c1, if_neg c2, if_neg c3, if_neg ck, if_neg c5]
    rw [r]
    simp only [Bool.and_eq_true, decide_eq_true_eq, c5, false_and, and_false, Bool.false_eq_true]
theorem lays_whole {xs : List Ty} {f i : Nat} (h : lays f xs i = true) : (xs.getD i Ty.zero).whole = true := by
  cases f with
  | zero => simp [lays] at h
  | succ f => exact ((lays_succ f xs i).1 h).1
theorem fits_iff {len : Nat} {xs : List Ty} (hxl : xs.length = len) (hg : ∀ i, i < len → good xs i) : (∀ i, i < len → fit xs i = true) ↔ ∀ i, i < len → form xs i = true := by
  constructor
  · exact fun h i hi => ((fit_form hxl).1 (h i hi)).1
  · intro h i hi
    refine (fit_form hxl).2 ⟨h i hi, fun hk p hp => ?_⟩
    have hth : (xs.getD i Ty.zero).thick := by
      rcases hk with q | q
      · exact .inl q
      · exact .inr ⟨q, Nat.lt_of_le_of_lt (Nat.zero_le _) hp⟩
    obtain ⟨f, hf⟩ := hg i hi hth
    obtain ⟨g, _, h3, _⟩ := lays_least f hf
    have h4 := ((lays_succ g xs i).1 h3).2
    rcases h4 with q | q
    · rcases hk with c | c
      · rw [c] at q; exact absurd q (by decide)
      · have ck : (xs.getD i Ty.zero).k = 10 ∨ (xs.getD i Ty.zero).k = 11 := by unfold tagd at c; rw [decide_eq_true_eq] at c; exact c
        rcases ck with c | c <;> rw [c] at q <;> exact absurd q (by decide)
    · exact lays_whole (q p hp)
end Go.Proofs.YtafcnijfoejboaaDoor.Pl
namespace Go.Proofs.YtafcnijfoejboaaDoor.W
open Go.RowKit
set_option maxHeartbeats 4000000 in
set_option maxRecDepth 8000 in
theorem specTypesOk {lo : Nat} (a : Option Addr) (len cap : Nat) (xs : List Pl.Ty) (w : World) (hT : TRow lo w a len cap xs) :
    Calls Tryd.prog 5 #[.slice a len cap] w fun e w' => e = .returned (.bool (Pl.dec (TOk len xs))) ∧ Below w.heap.size w w' := by
  have hm : (len : Int) ≤ 9223372036854775807 := by have := hT.small; omega
  by_cases hbig : (2000 : Int) < (len : Int)
  · go_enter Tryd.func5, Tryd.ntmps5
    go_wp2_with fail
    go_ret
    exact ⟨ret_bool (Pl.dec_no (fun h => absurd h.1 (by omega))).symm, Below.refl _ _⟩
  have HT : Hid (TRow lo w a len cap xs) := hT
  have HXL : Hid (xs.length = len) := hT.1
  clear hT
  go_enter Tryd.func5, Tryd.ntmps5
  go_wp2_with fail
  go_loopw [3] (fun i wr => ∃ k : Nat, k ≤ len ∧ i = .int .i64 k ∧ Hid ((∀ j, j < k → Pl.form xs j = true) ∧ Below w.heap.size w wr)) (fun i _ => len - (intOf i).toNat)
  case atStart => exact ⟨0, Nat.zero_le _, rfl, fun j hj => absurd hj (Nat.not_lt_zero _), Below.refl _ _⟩
  case round =>
    obtain ⟨k, hk, rfl, H⟩ := hrel
    by_cases hlt : k < len
    · have hi : (k : Int) < (len : Int) := by omega
      cases hf : Pl.form xs k
      · go_wp2_with (go_at_call 10; refine (l7Form_any a len cap xs k hlt _ (HT.out.keep H.out.2)).mono ?_; rintro e u1 ⟨rfl, g1⟩; rw [hf]; have G1 : Hid _ := g1; clear g1)
        go_ret
        refine ⟨ret_bool (Pl.dec_no (fun h => ?_)).symm, H.out.2.trans (G1.out.mono H.out.2.size)⟩
        have := (Pl.fits_iff HXL.out h.2.2).1 h.2.1 k hlt
        rw [hf] at this
        cases this
      · go_wp2_with (go_at_call 10; refine (l7Form_any a len cap xs k hlt _ (HT.out.keep H.out.2)).mono ?_; rintro e u1 ⟨rfl, g1⟩; rw [hf]; have G1 : Hid _ := g1; clear g1)
        go_roundw
        case rel => exact ⟨k + 1, by omega, by go_num, fun j hj => by
          by_cases e : j = k
          · rw [e]; exact hf
          · exact H.out.1 j (by omega), H.out.2.trans (G1.out.mono H.out.2.size)⟩
        case measure => simp [intOf]; omega
    · have hke : k = len := by omega
      have hi : ¬ ((k : Int) < (len : Int)) := by omega
      have HF : Hid (∀ j, j < len → Pl.form xs j = true) := fun j hj => H.out.1 j (by omega)
      subst hke
      clear hi hlt
      go_wp2_with fail
      refine (l7Lay_any a k cap xs _ (HT.out.keep H.out.2) (by omega) (Pl.form_shp HXL.out HF.out)).mono ?_
      rintro e u1 ⟨rfl, L, hS, hR, hD⟩
      obtain ⟨z, hz⟩ : ∃ z, wr.heap.size = z := ⟨_, rfl⟩
      have HB : Hid (Below w.heap.size w u1) := H.out.2.trans (hS.b.mono H.out.2.size)
      have HL : Hid (LaRow u1 z k L) := by rw [← hz]; exact hS.r
      have HR : Hid (Pl.right xs L) := hR
      have HW : Hid (∀ f i, Pl.lays f xs i = true → (L.getD i Pl.La.zero).whole = true) := Pl.can_done hS.r.1 HXL.out hD
      clear hS hR hD
      rw [hz]
      clear hz
      go_wp2_with fail
      go_loopw [5] (fun i ws => ∃ q : Nat, q ≤ k ∧ i = .int .i64 q ∧ ws = u1 ∧ Hid (∀ j, j < q → (xs.getD j Pl.Ty.zero).thick → (L.getD j Pl.La.zero).whole = true)) (fun i _ => k - (intOf i).toNat)
      case atStart => exact ⟨0, Nat.zero_le _, rfl, rfl, fun j hj => absurd hj (Nat.not_lt_zero _)⟩
      case round =>
        obtain ⟨q, hq, rfl, rfl, G⟩ := hrel
        by_cases hlq : q < k
        · have hi : (q : Int) < (k : Int) := by omega
          obtain ⟨b, off, v, s, rfl, hlo, hb1, hc, hrow, hs⟩ := (HT.out.keep HB.out).at hlq
          obtain ⟨x, hx⟩ : ∃ x, x = xs.getD q Pl.Ty.zero := ⟨_, rfl⟩
          rw [← hx] at hc hrow
          obtain ⟨kk, nn, zs, nms⟩ := x
          obtain ⟨e0, e1, e2, e3⟩ := ty_cells hc
          change World.cell? _ _ = some (.int .i64 kk) at e0
          have HX : Hid (Pl.Ty.mk kk nn zs nms = xs.getD q Pl.Ty.zero) := hx
          have HZL : Hid (zs.length = v.len) := hrow.1
          obtain ⟨vq, q0, q1, q2, q3⟩ := HL.out.at hlq
          have hvl : (v.len : Int) ≤ 9223372036854775807 := by have := hrow.small; omega
          clear hx hc hrow hs e1 e3 q1 q2 q3
          cases hwh : (L.getD q Pl.La.zero).whole
          · rw [hwh] at q0
            by_cases k9 : kk = 9
            · have HTH : Hid (xs.getD q Pl.Ty.zero).thick := by rw [← HX.out]; exact .inl k9
              subst k9
              go_wp2_with fail
              go_ret
              refine ⟨ret_bool (Pl.dec_no (fun h => ?_)).symm, HB.out⟩
              obtain ⟨f, hf⟩ := h.2.2 q hlq HTH.out
              have := HW.out f q hf
              rw [hwh] at this
              cases this
            · cases htg : Pl.tagd kk
              · go_wp2_with (go_at_call 12; refine (l7Tagged_any _ _).mono ?_; rintro e uu ⟨rfl, ek⟩; rw [ek]; clear ek; rw [htg])
                go_roundw
                case rel => exact ⟨q + 1, by omega, by go_num, by first | rfl | trivial, fun j hj hth => by
                  by_cases e : j = q
                  · rw [e, ← HX.out] at hth
                    rcases hth with c | c
                    · exact absurd c k9
                    · have c1 : Pl.tagd kk = true := c.1
                      rw [htg] at c1; cases c1
                  · exact G.out j (by omega) hth⟩
                case measure => simp [intOf]; omega
              · by_cases hz0 : (0 : Int) < (v.len : Int)
                · have HTH : Hid (xs.getD q Pl.Ty.zero).thick := by rw [← HX.out]; exact .inr ⟨htg, by show 0 < zs.length; rw [HZL.out]; omega⟩
                  go_wp2_with (go_at_call 12; refine (l7Tagged_any _ _).mono ?_; rintro e uu ⟨rfl, ek⟩; rw [ek]; clear ek; rw [htg])
                  go_ret
                  refine ⟨ret_bool (Pl.dec_no (fun h => ?_)).symm, HB.out⟩
                  obtain ⟨f, hf⟩ := h.2.2 q hlq HTH.out
                  have := HW.out f q hf
                  rw [hwh] at this
                  cases this
                · go_wp2_with (go_at_call 12; refine (l7Tagged_any _ _).mono ?_; rintro e uu ⟨rfl, ek⟩; rw [ek]; clear ek; rw [htg])
                  go_roundw
                  case rel => exact ⟨q + 1, by omega, by go_num, by first | rfl | trivial, fun j hj hth => by
                    by_cases e : j = q
                    · rw [e, ← HX.out] at hth
                      rcases hth with c | c
                      · exact absurd c k9
                      · have c2 : 0 < zs.length := c.2
                        rw [HZL.out] at c2; omega
                    · exact G.out j (by omega) hth⟩
                  case measure => simp [intOf]; omega
          · rw [hwh] at q0
            by_cases k9 : kk = 9
            · subst k9
              go_wp2_with fail
              go_roundw
              case rel => exact ⟨q + 1, by omega, by go_num, by first | rfl | trivial, fun j hj hth => by
                by_cases e : j = q
                · rw [e]; exact hwh
                · exact G.out j (by omega) hth⟩
              case measure => simp [intOf]; omega
            · cases htg : Pl.tagd kk
              · go_wp2_with (go_at_call 12; refine (l7Tagged_any _ _).mono ?_; rintro e uu ⟨rfl, ek⟩; rw [ek]; clear ek; rw [htg])
                go_roundw
                case rel => exact ⟨q + 1, by omega, by go_num, by first | rfl | trivial, fun j hj hth => by
                  by_cases e : j = q
                  · rw [e]; exact hwh
                  · exact G.out j (by omega) hth⟩
                case measure => simp [intOf]; omega
              · by_cases hz0 : (0 : Int) < (v.len : Int)
                · go_wp2_with (go_at_call 12; refine (l7Tagged_any _ _).mono ?_; rintro e uu ⟨rfl, ek⟩; rw [ek]; clear ek; rw [htg])
                  go_roundw
                  case rel => exact ⟨q + 1, by omega, by go_num, by first | rfl | trivial, fun j hj hth => by
                    by_cases e : j = q
                    · rw [e]; exact hwh
                    · exact G.out j (by omega) hth⟩
                  case measure => simp [intOf]; omega
                · go_wp2_with (go_at_call 12; refine (l7Tagged_any _ _).mono ?_; rintro e uu ⟨rfl, ek⟩; rw [ek]; clear ek; rw [htg])
                  go_roundw
                  case rel => exact ⟨q + 1, by omega, by go_num, by first | rfl | trivial, fun j hj hth => by
                    by_cases e : j = q
                    · rw [e]; exact hwh
                    · exact G.out j (by omega) hth⟩
                  case measure => simp [intOf]; omega
        · have hqe : q = k := by omega
          have hi : ¬ ((q : Int) < (k : Int)) := by omega
          have HG : Hid (∀ i, i < k → Pl.good xs i) := fun i hi2 hth => (HR.out i (G.out i (by omega) hth)).1
          go_wp2_with fail
          go_ret
          exact ⟨ret_bool (Pl.dec_yes ⟨by omega, (Pl.fits_iff HXL.out HG.out).2 HF.out, HG.out⟩).symm, HB.out⟩
end Go.Proofs.YtafcnijfoejboaaDoor.W
