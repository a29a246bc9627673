import Derived.Test.YtafcnijfoejboaaGreatDoorV14
import Derived.Deep.WholeRow
import Derived.ProofKit
import Derived.BigQuiet
import Derived.Deep.AppendLies
import Derived.Test.YtafcnijfoejboaaGreatDoorV09
import Derived.Test.YtafcnijfoejboaaGreatDoorV02
set_option linter.unusedVariables false
set_option linter.unusedSimpArgs false
namespace Go.Proofs.YtafcnijfoejboaaGreatDoor.Pl
theorem form_shp {len : Nat} {xs : List Ty} (hxl : xs.length = len) (h : ∀ i, i < len → form xs i = true) : W.Shp len xs := by
  intro i hi
  have hf := h i hi
  unfold form at hf
  obtain ⟨x, hx⟩ : ∃ x, x = xs.getD i Ty.zero := ⟨_, rfl⟩
  rw [← hx] at hf ⊢
  rw [hxl] at hf
  simp only [Bool.and_eq_true, Bool.or_eq_true, decide_eq_true_eq] at hf
  obtain ⟨⟨⟨h1, h2⟩, h3⟩, h4⟩ := hf
  refine ⟨by simpa [rng] using h1, ?_, ?_⟩
  · intro h9
    unfold formK at h4
    rw [h9] at h4
    simp at h4
    omega
  · unfold formK at h4
    by_cases c1 : 1 ≤ x.k ∧ x.k ≤ 7
    · rw [if_pos c1] at h4; simp at h4; simp [h4]
    · rw [if_neg c1] at h4
      by_cases c2 : x.k = 8
      · rw [if_pos c2] at h4; simp at h4; omega
      · rw [if_neg c2] at h4
        by_cases c3 : x.k = 9
        · rw [if_pos c3] at h4; simp at h4; omega
        · rw [if_neg c3] at h4
          by_cases c4 : tagd x.k = true
          · rw [if_pos c4] at h4; simp at h4; omega
          · rw [if_neg c4] at h4; simp at h4; omega
theorem fitP_x {xs : List Ty} {i p : Nat} {x : Ty} (hx : x = xs.getD i Ty.zero) : fitPart xs i p = (within (x.of.getD p 0) 0 ((xs.length : Int) - 1) && fitP x.k i p (x.of.getD p 0) (xs.getD (x.of.getD p 0).toNat Ty.zero)) := by
  unfold fitPart ofAt
  rw [← hx]
theorem fitR_iff {xs : List Ty} {i : Nat} {x : Ty} {r : TRule} : fitR xs i x r = true ↔ ((r.lowN ≤ x.n ∧ x.n ≤ r.highN) ∧ (r.least ≤ (x.of.length : Int) ∧ (x.of.length : Int) ≤ r.most)) ∧ (∀ p, p < x.of.length → fitPart xs i p = true) ∧ (if r.names = true then x.names.length = x.of.length ∧ apart x.names = true else x.names.length = 0) := by
  unfold fitR within
  cases hn : r.names
  · simp only [Bool.and_eq_true, decide_eq_true_eq, Bool.false_eq_true, if_false]
    exact ⟨fun ⟨⟨⟨a, b⟩, c⟩, d⟩ => ⟨⟨a, b⟩, c, d⟩, fun ⟨⟨a, b⟩, c, d⟩ => ⟨⟨⟨a, b⟩, c⟩, d⟩⟩
  · simp only [Bool.and_eq_true, decide_eq_true_eq, if_true]
    exact ⟨fun ⟨⟨⟨a, b⟩, c⟩, d⟩ => ⟨⟨a, b⟩, c, d⟩, fun ⟨⟨a, b⟩, c, d⟩ => ⟨⟨⟨a, b⟩, c⟩, d⟩⟩
theorem fit_form {len : Nat} {xs : List Ty} {i : Nat} (hxl : xs.length = len) : fit xs i = true ↔ form xs i = true ∧ ((xs.getD i Ty.zero).k = 9 ∨ tagd (xs.getD i Ty.zero).k = true → ∀ p, p < (xs.getD i Ty.zero).of.length → (xs.getD ((xs.getD i Ty.zero).of.getD p 0).toNat Ty.zero).whole = true) := by
  unfold fit form
  obtain ⟨x, hx⟩ : ∃ x, x = xs.getD i Ty.zero := ⟨_, rfl⟩
  rw [← hx]
  have hP : ∀ p, fitPart xs i p = (within (x.of.getD p 0) 0 ((xs.length : Int) - 1) && fitP x.k i p (x.of.getD p 0) (xs.getD (x.of.getD p 0).toNat Ty.zero)) := fun p => fitP_x hx
  rw [hxl] at hP ⊢
  have hW : ∀ z : Int, within z 0 ((len : Int) - 1) = true ↔ 0 ≤ z ∧ z < len := fun z => by unfold within; rw [decide_eq_true_eq]; omega
  clear hx
  obtain ⟨k, n, zs, nms⟩ := x
  simp only at hP ⊢
  have hF : ∀ F : Bool, ((((rng len zs && (decide (k = 9) || decide (n = 0))) && (tagd k || decide (nms.length = 0))) && F) = true) ↔ ((∀ p, p < zs.length → 0 ≤ zs.getD p 0 ∧ zs.getD p 0 < len) ∧ (k = 9 ∨ n = 0) ∧ (tagd k = true ∨ nms.length = 0) ∧ F = true) := fun F => by
    unfold rng
    simp only [Bool.and_eq_true, Bool.or_eq_true, decide_eq_true_eq]
    exact ⟨fun ⟨⟨⟨a, b⟩, c⟩, d⟩ => ⟨a, b, c, d⟩, fun ⟨a, b, c, d⟩ => ⟨⟨⟨a, b⟩, c⟩, d⟩⟩
  rw [hF]
  clear hF
  have hPI : ∀ p, fitPart xs i p = true ↔ (0 ≤ zs.getD p 0 ∧ zs.getD p 0 < len) ∧ fitP k i p (zs.getD p 0) (xs.getD (zs.getD p 0).toNat Ty.zero) = true := fun p => by
    rw [hP, Bool.and_eq_true, hW]
  clear hP hW
  unfold formK
  simp only
  by_cases c1 : 1 ≤ k ∧ k ≤ 7
  · have t : tagd k = false := by unfold tagd; rw [decide_eq_false_iff_not]; omega
    have r : tRule k = some ⟨0, 0, 0, 0, false⟩ := by unfold tRule; rw [if_pos c1]
    rw [r, if_pos c1]
    simp only [fitR_iff, decide_eq_true_eq, t, Bool.false_eq_true, if_false, false_or]
    constructor
    · rintro ⟨⟨a1, a2⟩, a3, a4⟩
      exact ⟨⟨fun p hp => by omega, .inr (by omega), a4, by omega⟩, fun hc p hp => absurd hp (by omega)⟩
    · rintro ⟨⟨b1, b2, b3, b4⟩, _⟩
      exact ⟨⟨by omega, by omega⟩, fun p hp => by omega, b3⟩
  rw [if_neg c1]
  by_cases c2 : k = 8
  · have t : tagd k = false := by unfold tagd; rw [decide_eq_false_iff_not]; omega
    have r : tRule k = some ⟨0, 0, 1, 1, false⟩ := by unfold tRule; rw [if_neg c1, if_pos c2]
    have hq : ∀ p z y, fitP k i p z y = (decide (z < i) || tagd y.k) := fun p z y => by unfold fitP; rw [if_pos c2]
    rw [r, if_pos c2]
    simp only [fitR_iff, Bool.and_eq_true, decide_eq_true_eq, t, Bool.false_eq_true, if_false, false_or]
    constructor
    · rintro ⟨⟨a1, a2⟩, a3, a4⟩
      have a5 := fun p (hp : p < zs.length) => (hPI p).1 (a3 p hp)
      refine ⟨⟨fun p hp => (a5 p hp).1, .inr (by omega), a4, by omega, ?_⟩, fun hc => by
        rcases hc with q | q
        · omega
        · exact absurd q (by simp)⟩
      rw [← hq 0]; exact (a5 0 (by omega)).2
    · rintro ⟨⟨b1, b2, b3, b4, b5⟩, _⟩
      refine ⟨⟨by omega, by omega⟩, fun p hp => (hPI p).2 ⟨b1 p hp, ?_⟩, b3⟩
      have hp0 : p = 0 := by omega
      rw [hp0, hq]; exact b5
  rw [if_neg c2]
  by_cases c3 : k = 9
  · have t : tagd k = false := by unfold tagd; rw [decide_eq_false_iff_not]; omega
    have r : tRule k = some ⟨1, 60000, 1, 1, false⟩ := by unfold tRule; rw [if_neg c1, if_neg c2, if_pos c3]
    have hq : ∀ p z y, fitP k i p z y = (decide (z < i) && y.whole) := fun p z y => by unfold fitP; rw [if_neg c2, if_pos c3]
    rw [r, if_pos c3]
    simp only [fitR_iff, Bool.and_eq_true, decide_eq_true_eq, t, Bool.false_eq_true, if_false, false_or]
    constructor
    · rintro ⟨⟨a1, a2⟩, a3, a4⟩
      have a5 := fun p (hp : p < zs.length) => (hPI p).1 (a3 p hp)
      have a6 := fun p (hp : p < zs.length) => (show zs.getD p 0 < i ∧ (xs.getD (zs.getD p 0).toNat Ty.zero).whole = true by have := (a5 p hp).2; rw [hq, Bool.and_eq_true, decide_eq_true_eq] at this; exact this)
      exact ⟨⟨fun p hp => (a5 p hp).1, .inl c3, a4, ⟨⟨by omega, (a6 0 (by omega)).1⟩, by omega⟩, by omega⟩, fun _ p hp => (a6 p hp).2⟩
    · rintro ⟨⟨b1, b2, b3, ⟨⟨b4, b5⟩, b6⟩, b7⟩, b8⟩
      refine ⟨⟨by omega, by omega⟩, fun p hp => (hPI p).2 ⟨b1 p hp, ?_⟩, b3⟩
      have hp0 : p = 0 := by omega
      rw [hq, Bool.and_eq_true, decide_eq_true_eq, hp0]
      exact ⟨b5, b8 (.inl c3) 0 (by omega)⟩
  rw [if_neg c3]
  by_cases c4 : tagd k = true
  · have ck : k = 10 ∨ k = 11 := by unfold tagd at c4; rw [decide_eq_true_eq] at c4; exact c4
    have r : tRule k = some ⟨0, 0, 0, 100, true⟩ := by unfold tRule; rw [if_neg c1, if_neg c2, if_neg c3, if_pos ck]
    have hq : ∀ p z y, fitP k i p z y = y.whole := fun p z y => by unfold fitP; rw [if_neg c2, if_neg c3, if_neg (by omega)]
    rw [r, if_pos c4]
    simp only [fitR_iff, Bool.and_eq_true, decide_eq_true_eq, if_true]
    constructor
    · rintro ⟨⟨a1, a2⟩, a3, a4, a5⟩
      have a6 := fun p (hp : p < zs.length) => (hPI p).1 (a3 p hp)
      exact ⟨⟨fun p hp => (a6 p hp).1, .inr (by omega), .inl c4, ⟨by omega, a4⟩, a5⟩, fun _ p hp => by have := (a6 p hp).2; rw [hq] at this; exact this⟩
    · rintro ⟨⟨b1, b2, b3, ⟨b4, b5⟩, b6⟩, b7⟩
      exact ⟨⟨by omega, by omega⟩, fun p hp => (hPI p).2 ⟨b1 p hp, by rw [hq]; exact b7 (.inr c4) p hp⟩, b5, b6⟩
  rw [if_neg c4]
  have ck : ¬ (k = 10 ∨ k = 11) := fun h => c4 (by unfold tagd; rw [decide_eq_true_eq]; exact h)
  by_cases c5 : k = 12
  · have r : tRule k = some ⟨0, 0, 1, 9, false⟩ := by unfold tRule; rw [if_neg c1, if_neg c2, if_neg c3, if_neg ck, if_pos c5]
    have hq : ∀ p z y, fitP k i p z y = (decide (z < i) && (scal y.k || (decide (p = 0) && decide (y.k = 1)))) := fun p z y => by unfold fitP; rw [if_neg c2, if_neg c3, if_pos c5]
    rw [r]
    unfold funOk
    simp only [fitR_iff, Bool.and_eq_true, decide_eq_true_eq, Bool.false_eq_true, if_false, c4, false_or]
    constructor
    · rintro ⟨⟨a1, a2⟩, a3, a4⟩
      have a5 := fun p (hp : p < zs.length) => (hPI p).1 (a3 p hp)
      refine ⟨⟨fun p hp => (a5 p hp).1, .inr (by omega), a4, ⟨⟨c5, by omega⟩, by omega⟩, fun p hp => ?_⟩, fun hc => absurd hc (by rintro (h | h) <;> omega)⟩
      have := (a5 p hp).2
      rw [hq] at this
      simp only [Bool.and_eq_true, Bool.or_eq_true, decide_eq_true_eq] at this
      exact this
    · rintro ⟨⟨b1, b2, b3, ⟨⟨b4, b5⟩, b6⟩, b7⟩, _⟩
      refine ⟨⟨by omega, by omega⟩, fun p hp => (hPI p).2 ⟨b1 p hp, ?_⟩, b3⟩
      rw [hq]
      simp only [Bool.and_eq_true, Bool.or_eq_true, decide_eq_true_eq]
      exact b7 p hp
  · have r : tRule k = none := by unfold tRule; rw [if_neg c1, if_neg c2, if_neg c3, if_neg ck, if_neg c5]
    rw [r]
    simp only [Bool.and_eq_true, decide_eq_true_eq, c5, false_and, and_false, Bool.false_eq_true]
theorem lays_whole {xs : List Ty} {f i : Nat} (h : lays f xs i = true) : (xs.getD i Ty.zero).whole = true := by
  cases f with
  | zero => simp [lays] at h
  | succ f => exact ((lays_succ f xs i).1 h).1
theorem fits_iff {len : Nat} {xs : List Ty} (hxl : xs.length = len) (hg : ∀ i, i < len → good xs i) : (∀ i, i < len → fit xs i = true) ↔ ∀ i, i < len → form xs i = true := by
  constructor
  · exact fun h i hi => ((fit_form hxl).1 (h i hi)).1
  · intro h i hi
    refine (fit_form hxl).2 ⟨h i hi, fun hk p hp => ?_⟩
    have hth : (xs.getD i Ty.zero).thick := by
      rcases hk with q | q
      · exact .inl q
      · exact .inr ⟨q, Nat.lt_of_le_of_lt (Nat.zero_le _) hp⟩
    obtain ⟨f, hf⟩ := hg i hi hth
    obtain ⟨g, _, h3, _⟩ := lays_least f hf
    have h4 := ((lays_succ g xs i).1 h3).2
    rcases h4 with q | q
    · rcases hk with c | c
      · rw [c] at q; exact absurd q (by decide)
      · have ck : (xs.getD i Ty.zero).k = 10 ∨ (xs.getD i Ty.zero).k = 11 := by unfold tagd at c; rw [decide_eq_true_eq] at c; exact c
        rcases ck with c | c <;> rw [c] at q <;> exact absurd q (by decide)
    · exact lays_whole (q p hp)
end Go.Proofs.YtafcnijfoejboaaGreatDoor.Pl
namespace Go.Proofs.YtafcnijfoejboaaGreatDoor.W
open Go.RowKit
set_option maxHeartbeats 4000000 in
set_option maxRecDepth 8000 in
theorem specTypesOk {lo : Nat} (a : Option Addr) (len cap : Nat) (xs : List Pl.Ty) (w : World) (hT : TRow lo w a len cap xs) :
    Calls Tryz.prog 15 #[.slice a len cap] w fun e w' => e = .returned (.bool (Pl.dec (TOk len xs))) ∧ Below w.heap.size w w' := by
  have hm : (len : Int) ≤ 9223372036854775807 := by have := hT.small; omega
  by_cases hbig : (2000 : Int) < (len : Int)
  · go_enter Tryz.func15, Tryz.ntmps15
    go_wp2_with fail
    go_ret
    exact ⟨ret_bool (Pl.dec_no (fun h => absurd h.1 (by omega))).symm, Below.refl _ _⟩
  have HT : Hid (TRow lo w a len cap xs) := hT
  have HXL : Hid (xs.length = len) := hT.1
  clear hT
  go_enter Tryz.func15, Tryz.ntmps15
  go_wp2_with fail
  go_loopw [3] (fun i wr => ∃ k : Nat, k ≤ len ∧ i = .int .i64 k ∧ Hid ((∀ j, j < k → Pl.form xs j = true) ∧ Below w.heap.size w wr)) (fun i _ => len - (intOf i).toNat)
  case atStart => exact ⟨0, Nat.zero_le _, rfl, fun j hj => absurd hj (Nat.not_lt_zero _), Below.refl _ _⟩
  case round =>
    obtain ⟨k, hk, rfl, H⟩ := hrel
    by_cases hlt : k < len
    · have hi : (k : Int) < (len : Int) := by omega
      cases hf : Pl.form xs k
      · go_wp2_with (go_at_call 30; refine (l7Form_any a len cap xs k hlt _ (HT.out.keep H.out.2)).mono ?_; rintro e u1 ⟨rfl, g1⟩; rw [hf]; have G1 : Hid _ := g1; clear g1)
        go_ret
        refine ⟨ret_bool (Pl.dec_no (fun h => ?_)).symm, H.out.2.trans (G1.out.mono H.out.2.size)⟩
        have := (Pl.fits_iff HXL.out h.2.2).1 h.2.1 k hlt
        rw [hf] at this
        cases this
      · go_wp2_with (go_at_call 30; refine (l7Form_any a len cap xs k hlt _ (HT.out.keep H.out.2)).mono ?_; rintro e u1 ⟨rfl, g1⟩; rw [hf]; have G1 : Hid _ := g1; clear g1)
        go_roundw
        case rel => exact ⟨k + 1, by omega, by go_num, fun j hj => by
          by_cases e : j = k
          · rw [e]; exact hf
          · exact H.out.1 j (by omega), H.out.2.trans (G1.out.mono H.out.2.size)⟩
        case measure => simp [intOf]; omega
    · have hke : k = len := by omega
      have hi : ¬ ((k : Int) < (len : Int)) := by omega
      have HF : Hid (∀ j, j < len → Pl.form xs j = true) := fun j hj => H.out.1 j (by omega)
      subst hke
      clear hi hlt
      go_wp2_with fail
      refine (l7Lay_any a k cap xs _ (HT.out.keep H.out.2) (by omega) (Pl.form_shp HXL.out HF.out)).mono ?_
      rintro e u1 ⟨rfl, L, hS, hR, hD⟩
      obtain ⟨z, hz⟩ : ∃ z, wr.heap.size = z := ⟨_, rfl⟩
      have HB : Hid (Below w.heap.size w u1) := H.out.2.trans (hS.b.mono H.out.2.size)
      have HL : Hid (LaRow u1 z k L) := by rw [← hz]; exact hS.r
      have HR : Hid (Pl.right xs L) := hR
      have HW : Hid (∀ f i, Pl.lays f xs i = true → (L.getD i Pl.La.zero).whole = true) := Pl.can_done hS.r.1 HXL.out hD
      clear hS hR hD
      rw [hz]
      clear hz
      go_wp2_with fail
      go_loopw [5] (fun i ws => ∃ q : Nat, q ≤ k ∧ i = .int .i64 q ∧ ws = u1 ∧ Hid (∀ j, j < q → (xs.getD j Pl.Ty.zero).thick → (L.getD j Pl.La.zero).whole = true)) (fun i _ => k - (intOf i).toNat)
      case atStart => exact ⟨0, Nat.zero_le _, rfl, rfl, fun j hj => absurd hj (Nat.not_lt_zero _)⟩
      case round =>
        obtain ⟨q, hq, rfl, rfl, G⟩ := hrel
        by_cases hlq : q < k
        · have hi : (q : Int) < (k : Int) := by omega
          obtain ⟨b, off, v, s, rfl, hlo, hb1, hc, hrow, hs⟩ := (HT.out.keep HB.out).at hlq
          obtain ⟨x, hx⟩ : ∃ x, x = xs.getD q Pl.Ty.zero := ⟨_, rfl⟩
          rw [← hx] at hc hrow
          obtain ⟨kk, nn, zs, nms⟩ := x
          obtain ⟨e0, e1, e2, e3⟩ := ty_cells hc
          change World.cell? _ _ = some (.int .i64 kk) at e0
          have HX : Hid (Pl.Ty.mk kk nn zs nms = xs.getD q Pl.Ty.zero) := hx
          have HZL : Hid (zs.length = v.len) := hrow.1
          obtain ⟨vq, q0, q1, q2, q3⟩ := HL.out.at hlq
          have hvl : (v.len : Int) ≤ 9223372036854775807 := by have := hrow.small; omega
          clear hx hc hrow hs e1 e3 q1 q2 q3
          cases hwh : (L.getD q Pl.La.zero).whole
          · rw [hwh] at q0
            by_cases k9 : kk = 9
            · have HTH : Hid (xs.getD q Pl.Ty.zero).thick := by rw [← HX.out]; exact .inl k9
              subst k9
              go_wp2_with fail
              go_ret
              refine ⟨ret_bool (Pl.dec_no (fun h => ?_)).symm, HB.out⟩
              obtain ⟨f, hf⟩ := h.2.2 q hlq HTH.out
              have := HW.out f q hf
              rw [hwh] at this
              cases this
            · cases htg : Pl.tagd kk
              · go_wp2_with (go_at_call 31; refine (l7Tagged_any _ _).mono ?_; rintro e uu ⟨rfl, ek⟩; rw [ek]; clear ek; rw [htg])
                go_roundw
                case rel => exact ⟨q + 1, by omega, by go_num, by first | rfl | trivial, fun j hj hth => by
                  by_cases e : j = q
                  · rw [e, ← HX.out] at hth
                    rcases hth with c | c
                    · exact absurd c k9
                    · have c1 : Pl.tagd kk = true := c.1
                      rw [htg] at c1; cases c1
                  · exact G.out j (by omega) hth⟩
                case measure => simp [intOf]; omega
              · by_cases hz0 : (0 : Int) < (v.len : Int)
                · have HTH : Hid (xs.getD q Pl.Ty.zero).thick := by rw [← HX.out]; exact .inr ⟨htg, by show 0 < zs.length; rw [HZL.out]; omega⟩
                  go_wp2_with (go_at_call 31; refine (l7Tagged_any _ _).mono ?_; rintro e uu ⟨rfl, ek⟩; rw [ek]; clear ek; rw [htg])
                  go_ret
                  refine ⟨ret_bool (Pl.dec_no (fun h => ?_)).symm, HB.out⟩
                  obtain ⟨f, hf⟩ := h.2.2 q hlq HTH.out
                  have := HW.out f q hf
                  rw [hwh] at this
                  cases this
                · go_wp2_with (go_at_call 31; refine (l7Tagged_any _ _).mono ?_; rintro e uu ⟨rfl, ek⟩; rw [ek]; clear ek; rw [htg])
                  go_roundw
                  case rel => exact ⟨q + 1, by omega, by go_num, by first | rfl | trivial, fun j hj hth => by
                    by_cases e : j = q
                    · rw [e, ← HX.out] at hth
                      rcases hth with c | c
                      · exact absurd c k9
                      · have c2 : 0 < zs.length := c.2
                        rw [HZL.out] at c2; omega
                    · exact G.out j (by omega) hth⟩
                  case measure => simp [intOf]; omega
          · rw [hwh] at q0
            by_cases k9 : kk = 9
            · subst k9
              go_wp2_with fail
              go_roundw
              case rel => exact ⟨q + 1, by omega, by go_num, by first | rfl | trivial, fun j hj hth => by
                by_cases e : j = q
                · rw [e]; exact hwh
                · exact G.out j (by omega) hth⟩
              case measure => simp [intOf]; omega
            · cases htg : Pl.tagd kk
              · go_wp2_with (go_at_call 31; refine (l7Tagged_any _ _).mono ?_; rintro e uu ⟨rfl, ek⟩; rw [ek]; clear ek; rw [htg])
                go_roundw
                case rel => exact ⟨q + 1, by omega, by go_num, by first | rfl | trivial, fun j hj hth => by
                  by_cases e : j = q
                  · rw [e]; exact hwh
                  · exact G.out j (by omega) hth⟩
                case measure => simp [intOf]; omega
              · by_cases hz0 : (0 : Int) < (v.len : Int)
                · go_wp2_with (go_at_call 31; refine (l7Tagged_any _ _).mono ?_; rintro e uu ⟨rfl, ek⟩; rw [ek]; clear ek; rw [htg])
                  go_roundw
                  case rel => exact ⟨q + 1, by omega, by go_num, by first | rfl | trivial, fun j hj hth => by
                    by_cases e : j = q
                    · rw [e]; exact hwh
                    · exact G.out j (by omega) hth⟩
                  case measure => simp [intOf]; omega
                · go_wp2_with (go_at_call 31; refine (l7Tagged_any _ _).mono ?_; rintro e uu ⟨rfl, ek⟩; rw [ek]; clear ek; rw [htg])
                  go_roundw
                  case rel => exact ⟨q + 1, by omega, by go_num, by first | rfl | trivial, fun j hj hth => by
                    by_cases e : j = q
                    · rw [e]; exact hwh
                    · exact G.out j (by omega) hth⟩
                  case measure => simp [intOf]; omega
        · have hqe : q = k := by omega
          have hi : ¬ ((q : Int) < (k : Int)) := by omega
          have HG : Hid (∀ i, i < k → Pl.good xs i) := fun i hi2 hth => (HR.out.1 i (G.out i (by omega) hth)).1
          go_wp2_with fail
          go_ret
          exact ⟨ret_bool (Pl.dec_yes ⟨by omega, (Pl.fits_iff HXL.out HG.out).2 HF.out, HG.out⟩).symm, HB.out⟩
end Go.Proofs.YtafcnijfoejboaaGreatDoor.W
namespace Go.Proofs.YtafcnijfoejboaaGreatDoor.W
open Go.RowKit Go.Maps Go.WideMaps
theorem cKey : Tryz.prog.cellsOf 100 = 13 := by kernel_rfl
theorem cA9 : Tryz.prog.cellsOf 98 = 9 := by kernel_rfl
theorem cInt : Tryz.prog.cellsOf 3 = 1 := by kernel_rfl
theorem ktKey : Tryz.prog.keyType 100 = true := by kernel_rfl
theorem lawKey : Keyed Tryz.prog 100 := Keyed.of_law (deep_law_laid (by kernel_rfl) (m := 20) (by decide) (of_decide_eq_true (by kernel_rfl)) (by kernel_rfl) (by kernel_rfl))
theorem key13 (n0 n1 n2 n3 n4 n5 n6 n7 n8 n9 n10 n11 n12 : Int) (h0 : (Lit.int .i64 n0).wf = true) (h1 : (Lit.int .i64 n1).wf = true) (h2 : (Lit.int .i64 n2).wf = true) (h3 : (Lit.int .i64 n3).wf = true) (h4 : (Lit.int .i64 n4).wf = true) (h5 : (Lit.int .i64 n5).wf = true) (h6 : (Lit.int .i64 n6).wf = true) (h7 : (Lit.int .i64 n7).wf = true) (h8 : (Lit.int .i64 n8).wf = true) (h9 : (Lit.int .i64 n9).wf = true) (h10 : (Lit.int .i64 n10).wf = true) (h11 : (Lit.int .i64 n11).wf = true) (h12 : (Lit.int .i64 n12).wf = true) : ∃ kl, keyOf Tryz.prog 100 (.agg #[.int .i64 n0, .int .i64 n1, .int .i64 n2, .int .i64 n3, .int .i64 n4, .int .i64 n5, .int .i64 n6, .int .i64 n7, .int .i64 n8, .int .i64 n9, .int .i64 n10, .int .i64 n11, .int .i64 n12]) = some kl := by
  have ht : ∃ m, Tryz.prog.types.size + 1 = m + 1 + 1 + 1 := ⟨Tryz.prog.types.size - 2, by have : 2 < Tryz.prog.types.size := of_decide_eq_true (by kernel_rfl); omega⟩
  obtain ⟨m, hm⟩ := ht
  unfold keyOf
  rw [Tryz.underlying100]
  have hf : Value.formed Tryz.prog 100 (.agg #[.int .i64 n0, .int .i64 n1, .int .i64 n2, .int .i64 n3, .int .i64 n4, .int .i64 n5, .int .i64 n6, .int .i64 n7, .int .i64 n8, .int .i64 n9, .int .i64 n10, .int .i64 n11, .int .i64 n12]) = true := by simp [Value.formed, cKey]
  simp only [ktKey, hf, hm, Bool.and_self, if_true]
  have e : Tryz.prog.keyLits (m + 1 + 1 + 1) 100 [.int .i64 n0, .int .i64 n1, .int .i64 n2, .int .i64 n3, .int .i64 n4, .int .i64 n5, .int .i64 n6, .int .i64 n7, .int .i64 n8, .int .i64 n9, .int .i64 n10, .int .i64 n11, .int .i64 n12] = some [.int .i64 n0, .int .i64 n1, .int .i64 n2, .int .i64 n3, .int .i64 n4, .int .i64 n5, .int .i64 n6, .int .i64 n7, .int .i64 n8, .int .i64 n9, .int .i64 n10, .int .i64 n11, .int .i64 n12] := by
    simp [Program.keyLits, Tryz.underlying100, Tryz.underlying98, Tryz.underlying3, cKey, cInt, cA9, List.range_succ, h0, h1, h2, h3, h4, h5, h6, h7, h8, h9, h10, h11, h12]
  simp only [Value.cells]
  rw [e]
  exact ⟨_, rfl⟩
def kc (zs : List Int) : Array Value := (zs.map fun x => Value.int .i64 x).toArray
def kok (zs : List Int) : Prop := zs.length = 13 ∧ ∀ n ∈ zs, (Lit.int .i64 n).wf = true
theorem key_of (zs : List Int) (h : kok zs) : ∃ kl, keyOf Tryz.prog 100 (.agg (kc zs)) = some kl := by
  obtain ⟨hl, hb⟩ := h
  match zs, hl with
  | [n0, n1, n2, n3, n4, n5, n6, n7, n8, n9, n10, n11, n12], _ =>
    have h0 := hb n0 (by simp)
    have h1 := hb n1 (by simp)
    have h2 := hb n2 (by simp)
    have h3 := hb n3 (by simp)
    have h4 := hb n4 (by simp)
    have h5 := hb n5 (by simp)
    have h6 := hb n6 (by simp)
    have h7 := hb n7 (by simp)
    have h8 := hb n8 (by simp)
    have h9 := hb n9 (by simp)
    have h10 := hb n10 (by simp)
    have h11 := hb n11 (by simp)
    have h12 := hb n12 (by simp)
    exact key13 n0 n1 n2 n3 n4 n5 n6 n7 n8 n9 n10 n11 n12 h0 h1 h2 h3 h4 h5 h6 h7 h8 h9 h10 h11 h12
theorem kc_inj {zs ys : List Int} (h : kc zs = kc ys) : zs = ys := by
  unfold kc at h
  have h2 : (zs.map fun x => Value.int .i64 x) = (ys.map fun x => Value.int .i64 x) := by simpa using congrArg Array.toList h
  clear h
  induction zs generalizing ys with
  | nil => cases ys with
    | nil => rfl
    | cons b l => cases h2
  | cons a l ih => cases ys with
    | nil => cases h2
    | cons b m =>
      simp only [List.map_cons, List.cons.injEq, Value.int.injEq, true_and] at h2
      rw [h2.1, ih h2.2]
open Classical in
noncomputable def klOf (zs : List Int) : Lit := if h : ∃ kl, keyOf Tryz.prog 100 (.agg (kc zs)) = some kl then Classical.choose h else .bool false
theorem klOf_key {zs : List Int} (h : kok zs) : keyOf Tryz.prog 100 (.agg (kc zs)) = some (klOf zs) := by
  have := key_of zs h
  unfold klOf
  rw [dif_pos this]
  exact Classical.choose_spec this
theorem klOf_inj {zs ys : List Int} (h : kok zs) (h' : kok ys) (e : klOf zs = klOf ys) : zs = ys := by
  have h1 := klOf_key h
  have h2 := klOf_key h'
  rw [← e] at h2
  have := lawKey.inj h1 h2
  simp only [Value.agg.injEq] at this
  exact kc_inj this
def Fnd (D : DataW Unit) (Ks : List (List Int)) : Prop := IsMap D ∧ ∀ zs, kok zs → Maps.has D (klOf zs) = decide (zs ∈ Ks) ∧ (zs ∈ Ks → ∀ z, D.atKey (klOf zs) z = .lit (.int .i64 (Ks.idxOf zs : Int)))
theorem Fnd.nil : Fnd (.map []) [] := ⟨isMap_empty, fun zs _ => ⟨by simp; rfl, fun h => absurd h (List.not_mem_nil)⟩⟩
theorem klOf_lit {zs : List Int} (h : kok zs) : WideAt.IsKeyLit (klOf zs) := lawKey.key (klOf_key h)
theorem Fnd.put {D : DataW Unit} {Ks : List (List Int)} {ks : List Int} (h : Fnd D Ks) (hk : kok ks) (hn : ks ∉ Ks) : Fnd (D.put (klOf ks) (.lit (.int .i64 (Ks.length : Int)))) (Ks ++ [ks]) := by
  refine ⟨h.1.put _ _, fun zs hz => ?_⟩
  by_cases e : zs = ks
  · subst e
    refine ⟨by rw [has_put_same h.1 (klOf_lit hz)]; simp, fun _ z => ?_⟩
    rw [atKey_put_same h.1 (klOf_lit hz), List.idxOf_append, if_neg hn]
    simp
  · have hne : klOf zs ≠ klOf ks := fun c => e (klOf_inj hz hk c)
    obtain ⟨h1, h2⟩ := h.2 zs hz
    refine ⟨by rw [has_put_other hne, h1]; simp [e], fun hm z => ?_⟩
    have hm2 : zs ∈ Ks := by simpa [e] using hm
    rw [atKey_put_other hne, h2 hm2 z, List.idxOf_append, if_pos hm2]
theorem Fnd.again {D : DataW Unit} {Ks : List (List Int)} {ks : List Int} (h : Fnd D Ks) (hn : ks ∈ Ks) : Fnd D (Ks ++ [ks]) := by
  refine ⟨h.1, fun zs hz => ?_⟩
  obtain ⟨h1, h2⟩ := h.2 zs hz
  have hm : zs ∈ Ks ++ [ks] ↔ zs ∈ Ks := by
    simp only [List.mem_append, List.mem_singleton]
    exact ⟨fun q => q.elim id (fun c => c ▸ hn), .inl⟩
  refine ⟨by rw [h1]; exact decide_eq_decide.2 hm.symm, fun hq z => ?_⟩
  have hq2 := hm.1 hq
  rw [h2 hq2 z, List.idxOf_append, if_pos hq2]
end Go.Proofs.YtafcnijfoejboaaGreatDoor.W
namespace Go.Proofs.YtafcnijfoejboaaGreatDoor.Pl
def fstF (xs : List Ty) (Ks : List (List Int)) (z : Int) : Int := if tagd (xs.getD z.toNat Ty.zero).k = true then z else (Ks.idxOf (Ks.getD z.toNat []) : Int)
def pad9 (l : List Int) : List Int := l ++ List.replicate (9 - l.length) 0
def keyF (xs : List Ty) (Ks : List (List Int)) (x : Ty) (i : Nat) : List Int := if tagd x.k = true then [x.k, 0, 0, 0, 0, 0, 0, 0, 0, 0, 0, 0, (i : Int)] else [x.k, x.n, (x.of.length : Int)] ++ pad9 (x.of.map (fstF xs Ks)) ++ [0]
def keys (xs : List Ty) : Nat → List (List Int)
  | 0 => []
  | i + 1 => keys xs i ++ [keyF xs (keys xs i) (xs.getD i Ty.zero) i]
theorem keys_len (xs : List Ty) : ∀ i, (keys xs i).length = i
  | 0 => rfl
  | i + 1 => by show (keys xs i ++ [_]).length = _; rw [List.length_append, keys_len xs i]; rfl
end Go.Proofs.YtafcnijfoejboaaGreatDoor.Pl
namespace Go.Proofs.YtafcnijfoejboaaGreatDoor.W
open Go.RowKit Go.Maps Go.WideMaps
theorem uMap : Tryz.prog.underlying 92 = some (.map 100 3) := by kernel_rfl
def flat (Ks : List (List Int)) : List Value := Ks.flatten.map fun x => Value.int .i64 x
theorem flat_at : ∀ {Ks : List (List Int)} {j q : Nat}, (∀ K ∈ Ks, K.length = 13) → j < Ks.length → q < 13 → (flat Ks)[j * 13 + q]? = some (.int .i64 ((Ks.getD j []).getD q 0))
  | [], j, q, _, hj, _ => absurd hj (Nat.not_lt_zero _)
  | K :: Ks, 0, q, h, _, hq => by
    have hl : K.length = 13 := h K (by simp)
    unfold flat
    rw [List.flatten_cons, List.map_append, List.getElem?_append_left (by rw [List.length_map]; omega), List.getElem?_map, Nat.zero_mul, Nat.zero_add, List.getElem?_eq_getElem (by omega)]
    simp [List.getElem?_eq_getElem (show q < K.length by omega)]
  | K :: Ks, j + 1, q, h, hj, hq => by
    have hl : K.length = 13 := h K (by simp)
    have ih := flat_at (Ks := Ks) (j := j) (q := q) (fun K' hK' => h K' (by simp [hK'])) (by simpa using hj) hq
    unfold flat at ih ⊢
    rw [List.flatten_cons, List.map_append, List.getElem?_append_right (by rw [List.length_map]; omega), List.length_map, hl]
    have e : (j + 1) * 13 + q - 13 = j * 13 + q := by omega
    rw [e, ih]
    simp
structure TSt (w0 : World) (z : Nat) (a : Option Addr) (len cap : Nat) (lc : Array Value) (Ks : List (List Int)) (kv : Value) (u : World) : Prop where
  b : Below w0.heap.size w0 u
  lo : w0.heap.size ≤ z
  gc : u.heap[z + 2]? = some (.cells #[.slice a len cap, kv, .map (some z), .slice (some ⟨z + 1, 0, none⟩) len len] 95 (0, 0))
  ks : u.ownsRow (z + 3) 100 13 kv Ks.length (flat Ks)
  kk : ∀ K ∈ Ks, kok K
  mp : ∃ D : DataW Unit, u.ownsMap Tryz.prog 100 (plainElem Tryz.prog 3) z Ks.length D ∧ Fnd D Ks
  ll : u.heap[z + 1]? = some (.cells lc 49 (0, 0))
theorem TSt.size {w0 : World} {z : Nat} {a : Option Addr} {len cap : Nat} {lc : Array Value} {Ks : List (List Int)} {kv : Value} {u : World} (h : TSt w0 z a len cap lc Ks kv u) : z + 2 < u.heap.size := (Array.getElem?_eq_some_iff.1 h.gc).1
theorem TSt.keep {w0 : World} {z : Nat} {a : Option Addr} {len cap : Nat} {lc : Array Value} {Ks : List (List Int)} {kv : Value} {u u' : World} (h : TSt w0 z a len cap lc Ks kv u) (hb : Below u.heap.size u u') : TSt w0 z a len cap lc Ks kv u' := by
  have hs := h.size
  obtain ⟨D, hD, hF⟩ := h.mp
  refine ⟨h.b.trans (hb.mono h.b.size), h.lo, (hb.block _ hs).trans h.gc, ?_, h.kk, ⟨D, ownsMap_keep hD hb (by omega), hF⟩, (hb.block _ (by omega)).trans h.ll⟩
  refine ⟨h.ks.1, ?_⟩
  rcases h.ks.2 with q | ⟨g, c, cur, e, hg, hh, r⟩
  · exact .inl q
  · exact .inr ⟨g, c, cur, e, hg, (hb.block g (Array.getElem?_eq_some_iff.1 hh).1).trans hh, r⟩
theorem TSt.cells {w0 : World} {z : Nat} {a : Option Addr} {len cap : Nat} {lc : Array Value} {Ks : List (List Int)} {kv : Value} {u : World} (h : TSt w0 z a len cap lc Ks kv u) : u.cell? ⟨z + 2, 0, none⟩ = some (.slice a len cap) ∧ u.cell? ⟨z + 2, 1, none⟩ = some kv ∧ u.cell? ⟨z + 2, 2, none⟩ = some (.map (some z)) ∧ u.cell? ⟨z + 2, 3, none⟩ = some (.slice (some ⟨z + 1, 0, none⟩) len len) :=
  ⟨by rw [cell_of_row u _ 0 _ _ _ h.gc]; rfl, by rw [cell_of_row u _ 1 _ _ _ h.gc]; rfl, by rw [cell_of_row u _ 2 _ _ _ h.gc]; rfl, by rw [cell_of_row u _ 3 _ _ _ h.gc]; rfl⟩
theorem TSt.key {w0 : World} {z : Nat} {a : Option Addr} {len cap : Nat} {lc : Array Value} {Ks : List (List Int)} {kv : Value} {u : World} (h : TSt w0 z a len cap lc Ks kv u) {j : Nat} (hj : j < Ks.length) :
    ∃ g c, kv = .slice (some ⟨g, 0, none⟩) Ks.length c ∧ g < u.heap.size ∧ Ks.length ≤ c ∧ c ≤ maxLen ∧ ∀ q, q < 13 → u.cell? ⟨g, j * 13 + q, none⟩ = some (.int .i64 ((Ks.getD j []).getD q 0)) := by
  rcases h.ks.2 with ⟨_, q⟩ | ⟨g, c, cur, e, hg, hh, hc, hm, hs, ht⟩
  · omega
  · refine ⟨g, c, e, (Array.getElem?_eq_some_iff.1 hh).1, hc, hm, fun q hq => ?_⟩
    rw [cell_of_row u g _ _ _ _ hh]
    have e1 := flat_at (fun K hK => (h.kk K hK).1) hj hq
    rw [← ht, List.getElem?_take, if_pos (by omega), Array.getElem?_toList] at e1
    exact e1
set_option maxHeartbeats 4000000 in
set_option maxRecDepth 8000 in
theorem first_any {w0 : World} {lo z : Nat} {a : Option Addr} {len cap : Nat} {lc : Array Value} {Ks : List (List Int)} {kv : Value} {xs : List Pl.Ty} (hT : TRow lo w0 a len cap xs) (j : Nat) (hj : j < len) (hk : Pl.tagd (xs.getD j Pl.Ty.zero).k = true ∨ j < Ks.length) (u : World) (h : TSt w0 z a len cap lc Ks kv u) :
    Calls Tryz.prog 81 #[.pointer (some ⟨z + 2, 0, none⟩), .int .i64 j] u fun e u' => e = .returned (.int .i64 (Pl.fstF xs Ks j)) ∧ Below u.heap.size u u' := by
  have hm : (len : Int) ≤ 9223372036854775807 := by have := hT.small; omega
  obtain ⟨b, off, v, s, rfl, hlo, hb1, hc, hrow, hs⟩ := (hT.keep h.b).at hj
  obtain ⟨x, hx⟩ : ∃ x, x = xs.getD j Pl.Ty.zero := ⟨_, rfl⟩
  rw [← hx] at hc hk
  obtain ⟨kk, nn, zs, nms⟩ := x
  have e0 := (ty_cells hc).1
  change u.cell? _ = some (.int .i64 kk) at e0
  have HX : Hid (Pl.Ty.mk kk nn zs nms = xs.getD j Pl.Ty.zero) := hx
  have hjj : (j : Int) < (len : Int) := by omega
  obtain ⟨g0, g1, g2, _⟩ := h.cells
  have H : Hid (TSt w0 z (some ⟨b, off, none⟩) len cap lc Ks kv u) := h
  have E : Hid (Pl.fstF xs Ks j = if Pl.tagd kk = true then (j : Int) else (Ks.idxOf (Ks.getD j []) : Int)) := by
    show Pl.fstF xs Ks j = _
    unfold Pl.fstF
    rw [Int.toNat_natCast, ← hx]
  clear hc hrow hs hx h
  cases ht : Pl.tagd kk
  rotate_left
  · go_enter Tryz.func81, Tryz.ntmps81
    go_wp2_with (go_at_call 51; refine (isRecord_any _ _).mono ?_; rintro e uu ⟨rfl, ek⟩; rw [ek]; clear ek; rw [ht])
    go_ret
    exact ⟨by rw [E.out, if_pos ht]; rfl, Below.refl _ _⟩
  have hjk : j < Ks.length := hk.resolve_left (by show ¬ Pl.tagd kk = true; rw [ht]; decide)
  obtain ⟨gk, ck, rfl, hgk, hck, hcm, hcell⟩ := H.out.key hjk
  obtain ⟨K, hK⟩ : ∃ K, K = Ks.getD j [] := ⟨_, rfl⟩
  have hKm : K ∈ Ks := by
    rw [hK, List.getD_eq_getElem?_getD, List.getElem?_eq_getElem hjk]
    exact List.getElem_mem _
  have hko := H.out.kk K hKm
  rw [← hK] at hcell
  have HK : Hid (K = Ks.getD j []) := hK
  clear hK
  have hkl := klOf_key hko
  obtain ⟨D, hD, hF⟩ := H.out.mp
  have hzs := H.out.size
  have hrun : ∀ n, (Instr.lookup 92 (.map (some z)) (.agg (kc K)) false).run Tryz.prog (u.drewN n) = .ok (.int .i64 (Ks.idxOf K : Int)) (u.drewN n) := fun n => by
    obtain ⟨c, hr, hat, _⟩ := (ownsMap_keep hD (below_drewN (Below.refl u.heap.size u) n) (by omega)).lookup_int lawKey uMap Tryz.underlying3 (zeroI _) hkl
    rw [(hF.2 K hko).2 hKm] at hat
    simp only [DataW.lit.injEq, Lit.int.injEq, true_and] at hat
    rw [hr, hat]
  obtain ⟨ix, hix⟩ : ∃ ix, ix = (Ks.idxOf K : Int) := ⟨_, rfl⟩
  rw [← hix] at hrun
  have HC : Hid (ix = (Ks.idxOf K : Int)) := hix
  have hlk : (j : Int) < (Ks.length : Int) := by omega
  have hKl : (Ks.length : Int) ≤ 9223372036854775807 := by unfold maxLen at hcm; omega
  obtain ⟨hl, _⟩ := hko
  clear hF hD hkl hKm hix hzs
  obtain ⟨n0, n1, n2, n3, n4, n5, n6, n7, n8, n9, n10, n11, n12, rfl⟩ : ∃ n0 n1 n2 n3 n4 n5 n6 n7 n8 n9 n10 n11 n12, K = [n0, n1, n2, n3, n4, n5, n6, n7, n8, n9, n10, n11, n12] := by
    match K, hl with
    | [n0, n1, n2, n3, n4, n5, n6, n7, n8, n9, n10, n11, n12], _ => exact ⟨n0, n1, n2, n3, n4, n5, n6, n7, n8, n9, n10, n11, n12, rfl⟩
  have f0 : u.cell? ⟨gk, j * 13, none⟩ = some (.int .i64 n0) := hcell 0 (by decide)
  have f1 : u.cell? ⟨gk, j * 13 + 1, none⟩ = some (.int .i64 n1) := hcell 1 (by decide)
  have f2 : u.cell? ⟨gk, j * 13 + 2, none⟩ = some (.int .i64 n2) := hcell 2 (by decide)
  have f3 : u.cell? ⟨gk, j * 13 + 3, none⟩ = some (.int .i64 n3) := hcell 3 (by decide)
  have f4 : u.cell? ⟨gk, j * 13 + 4, none⟩ = some (.int .i64 n4) := hcell 4 (by decide)
  have f5 : u.cell? ⟨gk, j * 13 + 5, none⟩ = some (.int .i64 n5) := hcell 5 (by decide)
  have f6 : u.cell? ⟨gk, j * 13 + 6, none⟩ = some (.int .i64 n6) := hcell 6 (by decide)
  have f7 : u.cell? ⟨gk, j * 13 + 7, none⟩ = some (.int .i64 n7) := hcell 7 (by decide)
  have f8 : u.cell? ⟨gk, j * 13 + 8, none⟩ = some (.int .i64 n8) := hcell 8 (by decide)
  have f9 : u.cell? ⟨gk, j * 13 + 9, none⟩ = some (.int .i64 n9) := hcell 9 (by decide)
  have f10 : u.cell? ⟨gk, j * 13 + 10, none⟩ = some (.int .i64 n10) := hcell 10 (by decide)
  have f11 : u.cell? ⟨gk, j * 13 + 11, none⟩ = some (.int .i64 n11) := hcell 11 (by decide)
  have f12 : u.cell? ⟨gk, j * 13 + 12, none⟩ = some (.int .i64 n12) := hcell 12 (by decide)
  clear hcell hl
  change ∀ n, (Instr.lookup 92 (.map (some z)) (.agg #[.int .i64 n0, .int .i64 n1, .int .i64 n2, .int .i64 n3, .int .i64 n4, .int .i64 n5, .int .i64 n6, .int .i64 n7, .int .i64 n8, .int .i64 n9, .int .i64 n10, .int .i64 n11, .int .i64 n12]) false).run Tryz.prog (u.drewN n) = _ at hrun
  go_enter Tryz.func81, Tryz.ntmps81
  go_wp2_with (go_at_call 51; refine (isRecord_any _ _).mono ?_; rintro e uu ⟨rfl, ek⟩; rw [ek]; clear ek; rw [ht])
  go_quiet (fail)
  go_wp2_with fail
  go_ret
  exact ⟨by rw [E.out, if_neg (by rw [ht]; decide), ← HK.out, ← HC.out]; rfl, by repeat (first | exact Below.refl _ _ | refine below_drewN ?_ _)⟩
end Go.Proofs.YtafcnijfoejboaaGreatDoor.W
namespace Go.Proofs.YtafcnijfoejboaaGreatDoor.Pl
theorem pad9_len {l : List Int} (h : l.length ≤ 9) : (pad9 l).length = 9 := by
  unfold pad9
  rw [List.length_append, List.length_replicate]
  omega
theorem pad9_set {l : List Int} (v : Int) (h : l.length < 9) : (pad9 l).set l.length v = pad9 (l ++ [v]) := by
  unfold pad9
  rw [List.set_append_right _ _ (Nat.le_refl _), Nat.sub_self, List.length_append, List.append_assoc]
  congr 1
  obtain ⟨m, hm⟩ : ∃ m, 9 - l.length = m + 1 := ⟨8 - l.length, by omega⟩
  have e : 9 - (l.length + [v].length) = m := by simp; omega
  rw [hm, e, List.replicate_succ]
  rfl
def kpart (k n c : Int) (l : List Int) : List Int := [k, n, c] ++ pad9 l ++ [0]
theorem kpart_set {k n c : Int} {l : List Int} (v : Int) (h : l.length < 9) : (kpart k n c l).set (3 + l.length) v = kpart k n c (l ++ [v]) := by
  unfold kpart
  have e : 3 + l.length = l.length + 1 + 1 + 1 := by omega
  rw [e, ← pad9_set v h]
  show k :: n :: c :: ((pad9 l ++ [0]).set l.length v) = _
  rw [List.set_append_left _ _ (by rw [pad9_len (by omega)]; exact h)]
  rfl
theorem kpart_len {k n c : Int} {l : List Int} (h : l.length ≤ 9) : (kpart k n c l).length = 13 := by
  unfold kpart
  rw [List.length_append, List.length_append, pad9_len h]
  rfl
end Go.Proofs.YtafcnijfoejboaaGreatDoor.Pl
namespace Go.Proofs.YtafcnijfoejboaaGreatDoor.W
open Go.RowKit Go.Maps Go.WideMaps
theorem kc_set (zs : List Int) (j : Nat) (x : Int) : (kc zs).setIfInBounds j (.int .i64 x) = kc (zs.set j x) := by
  unfold kc
  rw [List.map_set]
  simp
theorem kc_size (zs : List Int) : (kc zs).size = zs.length := by unfold kc; simp
theorem kc_get (zs : List Int) (j : Nat) (h : j < zs.length) : (kc zs)[j]? = some (.int .i64 (zs.getD j 0)) := ints_get zs j h
def zero13 : List Int := [0, 0, 0, 0, 0, 0, 0, 0, 0, 0, 0, 0, 0]
structure KSt (u : World) (K : List Int) (wr : World) : Prop where
  b : Below u.heap.size u wr
  r : wr.heap[u.heap.size + 1]? = some (.cells (kc zero13) 100 (0, 0))
  k : wr.heap[u.heap.size + 2]? = some (.cells (kc K) 100 (0, 0))
theorem KSt.start (u : World) (tc : Array Value) (K : List Int) : KSt u K (((u.alloc (.cells tc 31)).alloc (.cells (kc zero13) 100)).alloc (.cells (kc K) 100)) := by
  have z1 : (u.alloc (.cells tc 31)).heap.size = u.heap.size + 1 := by simp
  have z2 : ((u.alloc (.cells tc 31)).alloc (.cells (kc zero13) 100)).heap.size = u.heap.size + 2 := by simp
  have b1 := below_alloc u (.cells tc 31)
  have b2 := below_alloc (u.alloc (.cells tc 31)) (.cells (kc zero13) 100)
  have b3 := below_alloc ((u.alloc (.cells tc 31)).alloc (.cells (kc zero13) 100)) (.cells (kc K) 100)
  have r := heap_alloc_new (u.alloc (.cells tc 31)) (.cells (kc zero13) 100)
  have o := heap_alloc_new ((u.alloc (.cells tc 31)).alloc (.cells (kc zero13) 100)) (.cells (kc K) 100)
  rw [z1] at r b2
  rw [z2] at o b3
  exact ⟨b1.trans ((b2.mono (by omega)).trans (b3.mono (by omega))), (b3.block _ (by omega)).trans r, o⟩
theorem KSt.size {u : World} {K : List Int} {wr : World} (h : KSt u K wr) : u.heap.size + 2 < wr.heap.size := (Array.getElem?_eq_some_iff.1 h.k).1
theorem KSt.keep {u : World} {K : List Int} {wr w' : World} (h : KSt u K wr) (hb : Below wr.heap.size wr w') : KSt u K w' := by
  have hs := h.size
  exact ⟨h.b.trans (hb.mono (by omega)), (hb.block _ (by omega)).trans h.r, (hb.block _ hs).trans h.k⟩
theorem KSt.set {u : World} {K : List Int} {wr : World} (h : KSt u K wr) (j : Nat) (x : Int) : KSt u (K.set j x) (wr.setCell ⟨u.heap.size + 2, j, none⟩ (.int .i64 x)) := by
  refine ⟨h.b.setCell (p := ⟨u.heap.size + 2, j, none⟩) (by show _ ≤ u.heap.size + 2; omega) _, ?_, ?_⟩
  · exact (Below.heap_setCell wr ⟨u.heap.size + 2, j, none⟩ _ _ (by show _ ≠ u.heap.size + 2; omega)).trans h.r
  · rw [setCell_eq_setRow wr _ j _ _ _ _ h.k, setRow_heap wr _ _ _ _ _ h.k, kc_set]
def KPre (len n : Nat) (xs : List Pl.Ty) (x : Pl.Ty) : Prop := Pl.tagd x.k = true ∨ (x.of.length ≤ 9 ∧ ∀ p, p < x.of.length → 0 ≤ x.of.getD p 0 ∧ x.of.getD p 0 < len ∧ (Pl.tagd (xs.getD (x.of.getD p 0).toNat Pl.Ty.zero).k = true ∨ x.of.getD p 0 < n))
set_option maxHeartbeats 4000000 in
set_option maxRecDepth 8000 in
theorem keyOf_any {w0 : World} {lo lo2 z : Nat} {a : Option Addr} {len cap : Nat} {lc : Array Value} {Ks : List (List Int)} {kv : Value} {xs : List Pl.Ty} (hT : TRow lo w0 a len cap xs) (kk nn : Int) (zs : List Int) (nms : List ByteArray) (v s : SV) (i : Nat) (hi : i ≤ 2000) (u : World) (h : TSt w0 z a len cap lc Ks kv u)
    (hrow : Row .i64 lo2 u v.a v.len v.cap zs) (hp : KPre len Ks.length xs ⟨kk, nn, zs, nms⟩) :
    Calls Tryz.prog 73 #[.pointer (some ⟨z + 2, 0, none⟩), .agg #[.int .i64 kk, .int .i64 nn, .slice v.a v.len v.cap, .slice s.a s.len s.cap], .int .i64 i] u fun e u' => e = .returned (.agg (kc (Pl.keyF xs Ks ⟨kk, nn, zs, nms⟩ i))) ∧ Below u.heap.size u u' := by
  have H : Hid (TSt w0 z a len cap lc Ks kv u) := h
  have HT : Hid (TRow lo w0 a len cap xs) := hT
  have HR : Hid (Row .i64 lo2 u v.a v.len v.cap zs) := hrow
  have HL : Hid (zs.length = v.len) := hrow.1
  have hvl0 : (v.len : Int) ≤ 9223372036854775807 := by have := hrow.small; omega
  clear h hT hrow
  cases ht : Pl.tagd kk
  rotate_left
  · have E : Hid (Pl.keyF xs Ks ⟨kk, nn, zs, nms⟩ i = [kk, 0, 0, 0, 0, 0, 0, 0, 0, 0, 0, 0, (i : Int)]) := by
      show Pl.keyF xs Ks ⟨kk, nn, zs, nms⟩ i = _
      unfold Pl.keyF
      rw [if_pos ht]
    clear hp
    go_enter Tryz.func73, Tryz.ntmps73
    go_wp2_with (go_at_call 51; refine (isRecord_any _ _).mono ?_; rintro e uu ⟨rfl, ek⟩; rw [ek]; clear ek; rw [ht])
    exact bodyPost_ret (v := .agg #[.int .i64 kk, .int .i64 0, .int .i64 0, .int .i64 0, .int .i64 0, .int .i64 0, .int .i64 0, .int .i64 0, .int .i64 0, .int .i64 0, .int .i64 0, .int .i64 0, .int .i64 i]) (by simp [results, Tryz.results73, go_sem]) rfl ⟨by rw [E.out]; rfl, (below_alloc _ _).trans ((below_alloc _ _).mono (by simp))⟩
  · obtain ⟨hl9, hpp⟩ := hp.resolve_left (by show ¬ Pl.tagd kk = true; rw [ht]; decide)
    have hl9' : zs.length ≤ 9 := hl9
    have HP : Hid (∀ p, p < zs.length → 0 ≤ zs.getD p 0 ∧ zs.getD p 0 < len ∧ (Pl.tagd (xs.getD (zs.getD p 0).toNat Pl.Ty.zero).k = true ∨ zs.getD p 0 < Ks.length)) := hpp
    have E : Hid (Pl.keyF xs Ks ⟨kk, nn, zs, nms⟩ i = Pl.kpart kk nn (v.len : Int) (zs.map (Pl.fstF xs Ks))) := by
      show Pl.keyF xs Ks ⟨kk, nn, zs, nms⟩ i = _
      unfold Pl.keyF
      rw [if_neg (by rw [ht]; decide)]
      show [kk, nn, (zs.length : Int)] ++ _ ++ _ = _
      rw [HL.out]
      rfl
    clear hpp hl9 hp
    obtain ⟨va, vl, vc⟩ := v
    simp only at HR HL hvl0 E ⊢
    have hvl : (vl : Int) ≤ 9 := by have := HL.out; omega
    go_enter Tryz.func73, Tryz.ntmps73
    go_wp2_with (go_at_call 51; refine (isRecord_any _ _).mono ?_; rintro e uu ⟨rfl, ek⟩; rw [ek]; clear ek; rw [ht])
    go_loopw [28] (fun j wr => ∃ p : Nat, p ≤ vl ∧ j = .int .i64 p ∧ Hid (KSt u (Pl.kpart kk nn (vl : Int) ((zs.take p).map (Pl.fstF xs Ks))) wr)) (fun j _ => vl - (intOf j).toNat)
    case atStart => exact ⟨0, Nat.zero_le _, rfl, KSt.start u _ (Pl.kpart kk nn (vl : Int) [])⟩
    case round =>
      obtain ⟨p, hp, rfl, S⟩ := hrel
      by_cases hlt : p < vl
      · have hii : (p : Int) < (vl : Int) := by omega
        have hpz : p < zs.length := by rw [HL.out]; exact hlt
        obtain ⟨b2, o2, rfl, _, hb2, hcp⟩ := (HR.out.2.2.2.2).resolve_left (by omega)
        have hcw := hcp p hlt
        obtain ⟨zz, hzz⟩ : ∃ zz, zz = zs.getD p 0 := ⟨_, rfl⟩
        rw [← hzz] at hcw
        obtain ⟨hz0, hz1, hz2⟩ := HP.out p hpz
        rw [← hzz] at hz0 hz1 hz2
        obtain ⟨j, rfl⟩ : ∃ j : Nat, zz = j := ⟨zz.toNat, by omega⟩
        rw [Int.toNat_natCast] at hz2
        have hc : wr.cell? ⟨b2, o2 + p, none⟩ = some (.int .i64 (j : Int)) := (S.out.b.cell (p := ⟨b2, o2 + p, none⟩) hb2).trans hcw
        have HJ : Hid (zs.getD p 0 = (j : Int)) := hzz.symm
        have HH : Hid (Pl.tagd (xs.getD j Pl.Ty.zero).k = true ∨ j < Ks.length) := hz2.imp id (fun q => by omega)
        clear hzz hcp hcw hz2
        go_wp2_with fail
        refine (first_any HT.out j (by omega) HH.out wr (H.out.keep S.out.b)).mono ?_
        rintro e u2 ⟨rfl, g2⟩
        have S2 : Hid (KSt u (Pl.kpart kk nn (vl : Int) ((zs.take p).map (Pl.fstF xs Ks))) u2) := S.out.keep g2
        clear g2
        obtain ⟨f, hf⟩ : ∃ f, f = Pl.fstF xs Ks (j : Int) := ⟨_, rfl⟩
        rw [← hf]
        have HFF : Hid (f = Pl.fstF xs Ks (j : Int)) := hf
        clear hf
        have hlp : ((zs.take p).map (Pl.fstF xs Ks)).length = p := by rw [List.length_map, List.length_take]; omega
        have k1 : u2.cell? ⟨u.heap.size + 2, 3 + p, none⟩ = some (.int .i64 ((Pl.kpart kk nn (vl : Int) ((zs.take p).map (Pl.fstF xs Ks))).getD (3 + p) 0)) := by
          rw [cell_of_row u2 _ _ _ _ _ S2.out.k]
          exact kc_get _ _ (by rw [Pl.kpart_len (by omega)]; omega)
        have k2 : u2.frozen? ⟨u.heap.size + 2, 3 + p, none⟩ = false := frozen_of_row u2 _ _ _ _ S2.out.k
        have hp9 : (p : Int) < 9 := by omega
        go_wp2_with fail
        go_roundw
        case rel =>
          refine ⟨p + 1, by omega, by go_num, ?_⟩
          have hs := S2.out.set (3 + p) f
          rw [show (3 + p) = 3 + ((zs.take p).map (Pl.fstF xs Ks)).length from by rw [hlp], Pl.kpart_set f (by omega), hlp] at hs
          have e2 : (zs.take p).map (Pl.fstF xs Ks) ++ [f] = (zs.take (p + 1)).map (Pl.fstF xs Ks) := by
            rw [List.take_add_one, List.getElem?_eq_getElem hpz, List.map_append, HFF.out, ← HJ.out, List.getD_eq_getElem?_getD, List.getElem?_eq_getElem hpz]
            rfl
          rw [e2] at hs
          exact hs
        case measure => simp [intOf]; omega
      · have hpe : p = vl := by omega
        have hii : ¬ ((p : Int) < (vl : Int)) := by omega
        have S3 : Hid (KSt u (Pl.keyF xs Ks ⟨kk, nn, zs, nms⟩ i) wr) := by
          show KSt u _ wr
          rw [E.out]
          have := S.out
          rw [hpe, ← HL.out, List.take_length, HL.out] at this
          exact this
        have HK13 : Hid ((Pl.keyF xs Ks ⟨kk, nn, zs, nms⟩ i).length = 13) := by
          show List.length _ = 13
          rw [E.out]
          exact Pl.kpart_len (by rw [List.length_map]; exact hl9')
        obtain ⟨K, hK⟩ : ∃ K, K = Pl.keyF xs Ks ⟨kk, nn, zs, nms⟩ i := ⟨_, rfl⟩
        rw [← hK] at S3 HK13
        have HKE : Hid (K = Pl.keyF xs Ks ⟨kk, nn, zs, nms⟩ i) := hK
        clear hK
        have hi1 : (Tryz.prog.info? 100).map (·.size) = some (kc K).size := by rw [kc_size, HK13.out]; kernel_rfl
        have ho1 : (kc zero13).size = (kc K).size := by rw [kc_size, kc_size, HK13.out]; rfl
        have h11 : (kc K).all (·.oneCell') = true := by
          unfold kc
          simp [Value.oneCell']
        have X1 : Hid ((Tryz.prog.info? 100).map (·.size) = some (kc K).size ∧ (kc zero13).size = (kc K).size ∧ (kc K).all (·.oneCell') = true) := ⟨hi1, ho1, h11⟩
        clear hi1 ho1 h11
        go_wp2_with (first
          | (refine wpList_load_row rfl 100 _ rfl (u.heap.size + 2) ?hx 100 (kc K) (0, 0) _ ?hg Tryz.underlying100 ?hd ?hi ?_; (case hx => rfl); (case hg => exact S3.out.k); (case hd => rfl); (case hi => exact X1.out.1))
          | (refine wpList_store_row rfl 100 _ _ rfl (u.heap.size + 1) (kc K) ?hx ?hy 100 (kc zero13) ?hg ?hi ?ho ?h1 ?_; (case hx => rfl); (case hy => rfl); (case hg => exact S3.out.r); (case hi => exact X1.out.1); (case ho => exact X1.out.2.1); (case h1 => exact X1.out.2.2)))
        refine bodyPost_ret (v := .agg (kc K)) ?hr ?hdf ?hQQ
        case hr =>
          refine results_c4 Tryz.results73 _ _ (u.heap.size + 1) 100 (kc K) (0, 0) _ ?hp ?hg Tryz.underlying100 ?hd ?hi
          case hp => rfl
          case hg => exact setRow_heap _ _ _ _ _ _ S3.out.r
          case hd => rfl
          case hi => exact X1.out.1
        case hdf => rfl
        case hQQ => exact ⟨by rw [HKE.out], below_setRow S3.out.b (Nat.le_succ _) _⟩
end Go.Proofs.YtafcnijfoejboaaGreatDoor.W
namespace Go.Proofs.YtafcnijfoejboaaGreatDoor.W
open Go.RowKit Go.Maps Go.WideMaps
theorem fl_al {u : World} {p : Addr} {x : Value} (h : u.cell? p = some x) (o : Obj) : (u.alloc o).cell? p = some x := by
  have hlt := block_lt_of_cell h
  exact ((below_alloc u o).cell (p := p) hlt).trans h
theorem Tryz.infokey : (Tryz.prog.info? 100).map (fun i => (i.zero, i.size, i.bytes)) = some (some (.agg (kc zero13)), 13, 104) := by kernel_rfl
structure TMd (w0 : World) (z : Nat) (a : Option Addr) (len cap : Nat) (lc : Array Value) (Ks : List (List Int)) (K : List Int) (kv : Value) (u : World) : Prop where
  b : Below w0.heap.size w0 u
  lo : w0.heap.size ≤ z
  gc : u.heap[z + 2]? = some (.cells #[.slice a len cap, kv, .map (some z), .slice (some ⟨z + 1, 0, none⟩) len len] 95 (0, 0))
  ks : u.ownsRow (z + 3) 100 13 kv (Ks.length + 1) (flat (Ks ++ [K]))
  kk : ∀ K ∈ Ks, kok K
  mp : ∃ D : DataW Unit, u.ownsMap Tryz.prog 100 (plainElem Tryz.prog 3) z Ks.length D ∧ Fnd D Ks
  ll : u.heap[z + 1]? = some (.cells lc 49 (0, 0))
theorem flat_app (Ks : List (List Int)) (K : List Int) : flat (Ks ++ [K]) = flat Ks ++ (kc K).toList := by
  unfold flat kc
  rw [List.flatten_append, List.map_append]
  simp
theorem TSt.app {w0 : World} {z : Nat} {a : Option Addr} {len cap : Nat} {lc : Array Value} {Ks : List (List Int)} {K : List Int} {kv kv' : Value} {u u1 u' : World} (h : TSt w0 z a len cap lc Ks kv u) (hb : Below u.heap.size u u1) (hg : u1.grownBy u' kv.ownBlock) (ho : u'.ownsRow (z + 3) 100 13 kv' (Ks.length + 1) (flat Ks ++ (kc K).toList)) :
    TMd w0 z a len cap lc Ks K kv' (u'.setCell ⟨z + 2, 1, none⟩ kv') := by
  have h1 := h.keep hb
  have hs := h1.size
  have hlo := h1.lo
  have hne : ∀ j, j ≤ z + 2 → some j ≠ kv.ownBlock := fun j hj e => by
    rcases h1.ks.2 with ⟨q, _⟩ | ⟨g, cap, cur, q, hb, _⟩
    · rw [q] at e; cases e
    · rw [q] at e; injection e with e; simp only at e; omega
  have hbw : Below w0.heap.size w0 u' := h1.b.grown hg h1.b.size (fun j e => by
    apply Nat.le_of_not_lt
    intro hc
    exact hne j (by omega) e.symm)
  have gc := (hg.block (z + 2) (by omega) (hne _ (by omega))).trans h1.gc
  have ll := (hg.block (z + 1) (by omega) (hne _ (by omega))).trans h1.ll
  have mb := hg.block z (by omega) (hne _ (by omega))
  obtain ⟨D, ⟨es, clk, q1, q2⟩, hF⟩ := h1.mp
  refine ⟨hbw.setCell (p := ⟨z + 2, 1, none⟩) (by show _ ≤ z + 2; omega) kv', hlo, ?_, ?_, h.kk, ⟨D, ⟨es, clk, (Below.heap_setCell u' ⟨z + 2, 1, none⟩ kv' _ (by show _ ≠ z + 2; omega)).trans (mb.trans q1), q2⟩, hF⟩, ?_⟩
  · rw [setCell_eq_setRow u' _ 1 _ _ _ _ gc, setRow_heap u' _ _ _ _ _ gc]
    rfl
  · rw [flat_app]
    refine ⟨ho.1, ?_⟩
    rcases ho.2 with q | ⟨g, c, cur, rfl, hb2, hg2, hr⟩
    · exact .inl q
    · exact .inr ⟨g, c, cur, rfl, hb2, (Below.heap_setCell u' ⟨z + 2, 1, none⟩ _ g (by show g ≠ z + 2; omega)).trans hg2, hr⟩
  · exact (Below.heap_setCell u' ⟨z + 2, 1, none⟩ kv' _ (by show _ ≠ z + 2; omega)).trans ll
theorem TMd.keep {w0 : World} {z : Nat} {a : Option Addr} {len cap : Nat} {lc : Array Value} {Ks : List (List Int)} {K : List Int} {kv : Value} {u u' : World} (h : TMd w0 z a len cap lc Ks K kv u) (hb : Below u.heap.size u u') : TMd w0 z a len cap lc Ks K kv u' := by
  have hs : z + 2 < u.heap.size := (Array.getElem?_eq_some_iff.1 h.gc).1
  obtain ⟨D, hD, hF⟩ := h.mp
  refine ⟨h.b.trans (hb.mono h.b.size), h.lo, (hb.block _ hs).trans h.gc, ?_, h.kk, ⟨D, ownsMap_keep hD hb (by omega), hF⟩, (hb.block _ (by omega)).trans h.ll⟩
  refine ⟨h.ks.1, ?_⟩
  rcases h.ks.2 with q | ⟨g, c, cur, e, hg, hh, r⟩
  · exact .inl q
  · exact .inr ⟨g, c, cur, e, hg, (hb.block g (Array.getElem?_eq_some_iff.1 hh).1).trans hh, r⟩
theorem TMd.done {w0 : World} {z : Nat} {a : Option Addr} {len cap : Nat} {lc : Array Value} {Ks : List (List Int)} {K : List Int} {kv : Value} {u : World} (h : TMd w0 z a len cap lc Ks K kv u) (hk : kok K) (hm : K ∈ Ks) : TSt w0 z a len cap lc (Ks ++ [K]) kv u := by
  obtain ⟨D, hD, hF⟩ := h.mp
  have hl : (Ks ++ [K]).length = Ks.length + 1 := by simp
  refine ⟨h.b, h.lo, h.gc, by rw [hl]; exact h.ks, fun K' hK' => ?_, ⟨D, by rw [hl]; exact hD.mono (by omega), hF.again hm⟩, h.ll⟩
  rcases List.mem_append.1 hK' with q | q
  · exact h.kk K' q
  · rw [List.mem_singleton.1 q]; exact hk
theorem TMd.put {w0 : World} {z : Nat} {a : Option Addr} {len cap : Nat} {lc : Array Value} {Ks : List (List Int)} {K : List Int} {kv : Value} {u u' : World} {D : DataW Unit} (h : TMd w0 z a len cap lc Ks K kv u) (hk : kok K) (hm : K ∉ Ks) (hF : Fnd D Ks) (hD : u'.ownsMap Tryz.prog 100 (plainElem Tryz.prog 3) z (Ks.length + 1) (D.put (klOf K) (.lit (.int .i64 (Ks.length : Int))))) (hg : u.grownBy u' (some z)) : TSt w0 z a len cap lc (Ks ++ [K]) kv u' := by
  have hs : z + 2 < u.heap.size := (Array.getElem?_eq_some_iff.1 h.gc).1
  have hlo := h.lo
  have hl : (Ks ++ [K]).length = Ks.length + 1 := by simp
  refine ⟨h.b.grown hg h.b.size (fun j e => by injection e with e; omega), hlo, (hg.block _ (by omega) (fun e => by injection e with e; omega)).trans h.gc, ?_, fun K' hK' => ?_, ⟨_, by rw [hl]; exact hD, hF.put hk hm⟩, (hg.block _ (by omega) (fun e => by injection e with e; omega)).trans h.ll⟩
  · rw [hl]
    refine ⟨h.ks.1, ?_⟩
    rcases h.ks.2 with q | ⟨g, c, cur, e, hgg, hh, r⟩
    · exact .inl q
    · exact .inr ⟨g, c, cur, e, hgg, (hg.block g (Array.getElem?_eq_some_iff.1 hh).1 (fun e => by injection e with e; omega)).trans hh, r⟩
  · rcases List.mem_append.1 hK' with q | q
    · exact h.kk K' q
    · rw [List.mem_singleton.1 q]; exact hk
def LrnMk (z i kb b off len cap : Nat) (kk nn : Int) (v s : SV) (n0 n1 n2 n3 n4 n5 n6 n7 n8 n9 n10 n11 n12 : Int) (kv : Value) (n Hb : Nat) (G cp : Nat) (L : Array Bool) : Act := { tmps := #[.pointer (some ⟨z + 2, 0, none⟩), .int .i64 (i : Int), undef, undef, .pointer (some ⟨kb, 0, none⟩), undef, undef, .pointer (some ⟨z + 2, 0, none⟩), .pointer (some ⟨z + 2, 0, none⟩), .pointer (some ⟨z + 2, 0, none⟩), .pointer (some ⟨z + 2, 0, none⟩), .slice (some ⟨b, off, none⟩) len cap, .int .i64 (i : Int), .pointer (some ⟨b, off + i * 4, none⟩), .agg #[.int .i64 kk, .int .i64 nn, .slice v.a v.len v.cap, .slice s.a s.len s.cap], .int .i64 (i : Int), .agg #[.int .i64 n0, .int .i64 n1, .int .i64 n2, .int .i64 n3, .int .i64 n4, .int .i64 n5, .int .i64 n6, .int .i64 n7, .int .i64 n8, .int .i64 n9, .int .i64 n10, .int .i64 n11, .int .i64 n12], sl L 0 (.pointer (some ⟨z + 2, 0, none⟩)), sl L 1 (.pointer (some ⟨z + 2, 0, none⟩)), sl L 2 (.pointer (some ⟨z + 2, 0, none⟩)), sl L 3 (.pointer (some ⟨z + 2, 1, none⟩)), sl L 4 (kv), sl L 5 (.agg #[.int .i64 n0, .int .i64 n1, .int .i64 n2, .int .i64 n3, .int .i64 n4, .int .i64 n5, .int .i64 n6, .int .i64 n7, .int .i64 n8, .int .i64 n9, .int .i64 n10, .int .i64 n11, .int .i64 n12]), sl L 6 (.slice (some ⟨Hb, 0, none⟩) 1 1), sl L 7 (.slice (some ⟨G, 0, none⟩) (n + 1) cp), sl L 8 (.pointer (some ⟨z + 2, 0, none⟩)), sl L 9 (.pointer (some ⟨z + 2, 1, none⟩)), undef, undef, undef, undef, undef, undef, undef, undef, undef, undef, undef, undef, undef, undef, undef, undef, undef], defers := [] }
def LrnW (z : Nat) (n0 n1 n2 n3 n4 n5 n6 n7 n8 n9 n10 n11 n12 : Int) (kv : Value) (n : Nat) (fl : List Value) (u : World) (G cp : Nat) (L : Array Bool) (w : World) : Prop :=
  (up L 6 = false → w = u) ∧ (up L 6 = true → up L 7 = false → w = u.alloc (.cells #[.int .i64 n0, .int .i64 n1, .int .i64 n2, .int .i64 n3, .int .i64 n4, .int .i64 n5, .int .i64 n6, .int .i64 n7, .int .i64 n8, .int .i64 n9, .int .i64 n10, .int .i64 n11, .int .i64 n12] 100)) ∧ (up L 7 = true → ∃ w1 : World, w1.ownsRow (z + 3) 100 13 (.slice (some ⟨G, 0, none⟩) (n + 1) cp) (n + 1) (fl ++ [.int .i64 n0, .int .i64 n1, .int .i64 n2, .int .i64 n3, .int .i64 n4, .int .i64 n5, .int .i64 n6, .int .i64 n7, .int .i64 n8, .int .i64 n9, .int .i64 n10, .int .i64 n11, .int .i64 n12]) ∧ (u.alloc (.cells #[.int .i64 n0, .int .i64 n1, .int .i64 n2, .int .i64 n3, .int .i64 n4, .int .i64 n5, .int .i64 n6, .int .i64 n7, .int .i64 n8, .int .i64 n9, .int .i64 n10, .int .i64 n11, .int .i64 n12] 100)).grownBy w1 kv.ownBlock ∧ (up L 10 = false → w = w1) ∧ (up L 10 = true → w = w1.setCell ⟨z + 2, 1, none⟩ (.slice (some ⟨G, 0, none⟩) (n + 1) cp)))
theorem LrnW.keep {z : Nat} {n0 n1 n2 n3 n4 n5 n6 n7 n8 n9 n10 n11 n12 : Int} {kv : Value} {n : Nat} {fl : List Value} {u : World} {G cp : Nat} {L : Array Bool} {w : World} (h : LrnW z n0 n1 n2 n3 n4 n5 n6 n7 n8 n9 n10 n11 n12 kv n fl u G cp L w) {i : Nat} (hi : i < L.size) (m1 : i ≠ 6) (m2 : i ≠ 7) (m3 : i ≠ 10) : LrnW z n0 n1 n2 n3 n4 n5 n6 n7 n8 n9 n10 n11 n12 kv n fl u G cp (L.setIfInBounds i true) w := by
  unfold LrnW at h ⊢
  rw [up_set hi, up_set hi, up_set hi, if_neg m1, if_neg m2, if_neg m3]
  exact h
theorem LrnW.early {z : Nat} {n0 n1 n2 n3 n4 n5 n6 n7 n8 n9 n10 n11 n12 : Int} {kv : Value} {n : Nat} {fl : List Value} {u : World} {G cp : Nat} {L : Array Bool} {w : World} (h : LrnW z n0 n1 n2 n3 n4 n5 n6 n7 n8 n9 n10 n11 n12 kv n fl u G cp L w) (m : up L 7 = false) {a : Addr} {y : Value} (hc : u.cell? a = some y) : w.cell? a = some y := by
  cases q : up L 6
  · rw [h.1 q]; exact hc
  · rw [h.2.1 q m]; exact fl_al hc _
set_option maxHeartbeats 8000000 in
set_option maxRecDepth 8000 in
theorem learn_any {w0 : World} {lo z : Nat} {a : Option Addr} {len cap : Nat} {lc : Array Value} {Ks : List (List Int)} {kv : Value} {xs : List Pl.Ty} (hT : TRow lo w0 a len cap xs) (i : Nat) (hi : i < len) (hlen : len ≤ 2000) (hKs : Ks.length = i) (u : World) (h : TSt w0 z a len cap lc Ks kv u)
    (hp : KPre len Ks.length xs (xs.getD i Pl.Ty.zero)) (hko : kok (Pl.keyF xs Ks (xs.getD i Pl.Ty.zero) i)) :
    Calls Tryz.prog 54 #[.pointer (some ⟨z + 2, 0, none⟩), .int .i64 i] u fun e u' => e = .returned (.tuple #[]) ∧ ∃ kv', TSt w0 z a len cap lc (Ks ++ [Pl.keyF xs Ks (xs.getD i Pl.Ty.zero) i]) kv' u' := by
  have hm : (len : Int) ≤ 9223372036854775807 := by omega
  have H : Hid (TSt w0 z a len cap lc Ks kv u) := h
  have HT : Hid (TRow lo w0 a len cap xs) := hT
  obtain ⟨b, off, v, s, rfl, hlo, hb1, hc, hrow, hs⟩ := (hT.keep h.b).at hi
  obtain ⟨x, hx⟩ : ∃ x, x = xs.getD i Pl.Ty.zero := ⟨_, rfl⟩
  rw [← hx] at hc hrow hs hp hko ⊢
  obtain ⟨kk, nn, zs, nms⟩ := x
  obtain ⟨e0, e1, e2, e3⟩ := ty_cells hc
  change u.cell? _ = some (.int .i64 kk) at e0
  change u.cell? _ = some (.int .i64 nn) at e1
  have HR : Hid (Row .i64 lo u v.a v.len v.cap zs) := hrow
  have HP : Hid (KPre len Ks.length xs ⟨kk, nn, zs, nms⟩) := hp
  obtain ⟨K, hK⟩ : ∃ K, K = Pl.keyF xs Ks ⟨kk, nn, zs, nms⟩ i := ⟨_, rfl⟩
  rw [← hK] at hko ⊢
  have HKE : Hid (K = Pl.keyF xs Ks ⟨kk, nn, zs, nms⟩ i) := hK
  have HKO : Hid (kok K) := hko
  have HKS : Hid (Ks.length = i) := hKs
  have hii : (i : Int) < (len : Int) := by omega
  obtain ⟨g0, _, _, _⟩ := h.cells
  clear h hT hc hrow hs hp hK hx hKs
  go_enter Tryz.func54, Tryz.ntmps54
  go_wp2_with fail
  refine (keyOf_any HT.out kk nn zs nms v s i (by omega) u H.out HR.out HP.out).mono ?_
  rintro e u1 ⟨rfl, d1⟩
  rw [← HKE.out]
  have H1 : Hid (TSt w0 z (some ⟨b, off, none⟩) len cap lc Ks kv u1) := H.out.keep d1
  clear d1 e0 e1 e2 e3 g0
  obtain ⟨hl, _⟩ := hko
  obtain ⟨n0, n1, n2, n3, n4, n5, n6, n7, n8, n9, n10, n11, n12, rfl⟩ : ∃ n0 n1 n2 n3 n4 n5 n6 n7 n8 n9 n10 n11 n12, K = [n0, n1, n2, n3, n4, n5, n6, n7, n8, n9, n10, n11, n12] := by
    match K, hl with
    | [n0, n1, n2, n3, n4, n5, n6, n7, n8, n9, n10, n11, n12], _ => exact ⟨n0, n1, n2, n3, n4, n5, n6, n7, n8, n9, n10, n11, n12, rfl⟩
  clear hl
  rw [show kc [n0, n1, n2, n3, n4, n5, n6, n7, n8, n9, n10, n11, n12] = #[.int .i64 n0, .int .i64 n1, .int .i64 n2, .int .i64 n3, .int .i64 n4, .int .i64 n5, .int .i64 n6, .int .i64 n7, .int .i64 n8, .int .i64 n9, .int .i64 n10, .int .i64 n11, .int .i64 n12] from rfl]
  obtain ⟨i0, hi0, hz0, hz1, hz2⟩ := info_parts Tryz.infokey
  have HI : Hid (Tryz.prog.info? 100 = some i0 ∧ i0.zero = some (.agg (kc zero13)) ∧ i0.size = 13 ∧ i0.bytes = 104) := ⟨hi0, hz0, hz1, hz2⟩
  clear hi0 hz0 hz1 hz2
  have hkl : Ks.length ≤ 2000 := by have := HKS.out; omega
  have hzs := H1.out.size
  have dk0 := H1.out.cells.2.1
  go_upto_region 1 with fail
  refine wp_region_any (by kernel_rfl) ?_
  change wpAny _ _ _ _ _ _ _ (World.drew _)
  obtain ⟨Ud, hUd⟩ : ∃ Ud, Ud = (u1.alloc (.cells #[.int .i64 n0, .int .i64 n1, .int .i64 n2, .int .i64 n3, .int .i64 n4, .int .i64 n5, .int .i64 n6, .int .i64 n7, .int .i64 n8, .int .i64 n9, .int .i64 n10, .int .i64 n11, .int .i64 n12] 100)).drew := ⟨_, rfl⟩
  have bU : Below u1.heap.size u1 Ud := by rw [hUd]; exact Below.drew (below_alloc _ _)
  have SU : Hid (TSt w0 z (some ⟨b, off, none⟩) len cap lc Ks kv Ud) := H1.out.keep bU
  have dk : Ud.cell? ⟨z + 2, 1, none⟩ = some kv := SU.out.cells.2.1
  have hrowK : Ud.heap[u1.heap.size]? = some (.cells #[.int .i64 n0, .int .i64 n1, .int .i64 n2, .int .i64 n3, .int .i64 n4, .int .i64 n5, .int .i64 n6, .int .i64 n7, .int .i64 n8, .int .i64 n9, .int .i64 n10, .int .i64 n11, .int .i64 n12] 100) := by rw [hUd]; exact heap_alloc_new u1 _
  have f0 : Ud.cell? ⟨u1.heap.size, 0, none⟩ = some (.int .i64 n0) := by rw [cell_of_row Ud _ 0 _ _ _ hrowK]; rfl
  have f1 : Ud.cell? ⟨u1.heap.size, 1, none⟩ = some (.int .i64 n1) := by rw [cell_of_row Ud _ 1 _ _ _ hrowK]; rfl
  have f2 : Ud.cell? ⟨u1.heap.size, 2, none⟩ = some (.int .i64 n2) := by rw [cell_of_row Ud _ 2 _ _ _ hrowK]; rfl
  have f3 : Ud.cell? ⟨u1.heap.size, 3, none⟩ = some (.int .i64 n3) := by rw [cell_of_row Ud _ 3 _ _ _ hrowK]; rfl
  have f4 : Ud.cell? ⟨u1.heap.size, 4, none⟩ = some (.int .i64 n4) := by rw [cell_of_row Ud _ 4 _ _ _ hrowK]; rfl
  have f5 : Ud.cell? ⟨u1.heap.size, 5, none⟩ = some (.int .i64 n5) := by rw [cell_of_row Ud _ 5 _ _ _ hrowK]; rfl
  have f6 : Ud.cell? ⟨u1.heap.size, 6, none⟩ = some (.int .i64 n6) := by rw [cell_of_row Ud _ 6 _ _ _ hrowK]; rfl
  have f7 : Ud.cell? ⟨u1.heap.size, 7, none⟩ = some (.int .i64 n7) := by rw [cell_of_row Ud _ 7 _ _ _ hrowK]; rfl
  have f8 : Ud.cell? ⟨u1.heap.size, 8, none⟩ = some (.int .i64 n8) := by rw [cell_of_row Ud _ 8 _ _ _ hrowK]; rfl
  have f9 : Ud.cell? ⟨u1.heap.size, 9, none⟩ = some (.int .i64 n9) := by rw [cell_of_row Ud _ 9 _ _ _ hrowK]; rfl
  have f10 : Ud.cell? ⟨u1.heap.size, 10, none⟩ = some (.int .i64 n10) := by rw [cell_of_row Ud _ 10 _ _ _ hrowK]; rfl
  have f11 : Ud.cell? ⟨u1.heap.size, 11, none⟩ = some (.int .i64 n11) := by rw [cell_of_row Ud _ 11 _ _ _ hrowK]; rfl
  have f12 : Ud.cell? ⟨u1.heap.size, 12, none⟩ = some (.int .i64 n12) := by rw [cell_of_row Ud _ 12 _ _ _ hrowK]; rfl
  have HOW : Hid (Ud.ownsRow (z + 3) 100 13 kv Ks.length (flat Ks)) := SU.out.ks
  have hzu := SU.out.size
  have HGF : Hid (∀ w1 : World, (Ud.alloc (.cells #[.int .i64 n0, .int .i64 n1, .int .i64 n2, .int .i64 n3, .int .i64 n4, .int .i64 n5, .int .i64 n6, .int .i64 n7, .int .i64 n8, .int .i64 n9, .int .i64 n10, .int .i64 n11, .int .i64 n12] 100)).grownBy w1 kv.ownBlock → w1.cell? ⟨z + 2, 1, none⟩ = some kv ∧ w1.frozen? ⟨z + 2, 1, none⟩ = false) := fun w1 hg => by
    have S2 := SU.out.keep (below_alloc Ud (.cells #[.int .i64 n0, .int .i64 n1, .int .i64 n2, .int .i64 n3, .int .i64 n4, .int .i64 n5, .int .i64 n6, .int .i64 n7, .int .i64 n8, .int .i64 n9, .int .i64 n10, .int .i64 n11, .int .i64 n12] 100))
    have hne : some (z + 2) ≠ kv.ownBlock := fun e => by
      rcases S2.ks.2 with ⟨q, _⟩ | ⟨g, cap, cur, q, hb, _⟩
      · rw [q] at e; cases e
      · rw [q] at e; injection e with e; simp only at e; omega
    have o := (hg.block (z + 2) S2.size hne).trans S2.gc
    exact ⟨by rw [cell_of_row w1 _ 1 _ _ _ o]; rfl, frozen_of_row w1 _ 1 _ _ o⟩
  have HBU : Hid (Below u1.heap.size u1 Ud) := bU
  rw [← hUd]
  clear bU hUd
  refine wpAny_inw (fun L a w => ∃ G cp, a = LrnMk z i u1.heap.size b off len cap kk nn v s n0 n1 n2 n3 n4 n5 n6 n7 n8 n9 n10 n11 n12 kv Ks.length Ud.heap.size G cp L ∧ LrnW z n0 n1 n2 n3 n4 n5 n6 n7 n8 n9 n10 n11 n12 kv Ks.length (flat Ks) Ud G cp L w) ?done (by kernel_rfl) ?step _ 11 _ _ (by kernel_rfl) ?init (by decide)
  case init => exact ⟨0, 0, by simp only [LrnMk, sl_no (up_init _ _)], fun _ => rfl, fun q => absurd (q.symm.trans (up_init _ _)) (by decide), fun q => absurd (q.symm.trans (up_init _ _)) (by decide)⟩
  case step =>
    intro L act w i o hI hlt hs nl hC hd ho K hK
    obtain ⟨G, cp, rfl, hW⟩ := hI
    have hi_lt : i < 11 := (Array.getElem?_eq_some_iff.1 ho).1
    rcases (show i = 0 ∨ i = 1 ∨ i = 2 ∨ i = 3 ∨ i = 4 ∨ i = 5 ∨ i = 6 ∨ i = 7 ∨ i = 8 ∨ i = 9 ∨ i = 10 by omega) with rfl | rfl | rfl | rfl | rfl | rfl | rfl | rfl | rfl | rfl | rfl
    · change some _ = some o at ho
      cases ho
      simp only [LrnMk]
      go_simp
      exact hK _ _ ⟨G, cp, by simp only [LrnMk, sl_set hlt, reduceIte, Nat.reduceEqDiff]; try rfl, (hW.keep hlt (by decide) (by decide) (by decide))⟩
    · change some _ = some o at ho
      cases ho
      simp only [LrnMk]
      go_simp
      exact hK _ _ ⟨G, cp, by simp only [LrnMk, sl_set hlt, reduceIte, Nat.reduceEqDiff]; try rfl, (hW.keep hlt (by decide) (by decide) (by decide))⟩
    · change some _ = some o at ho
      cases ho
      have q1 : up L 1 = true := (by first | exact hd { on := 1, ground := .data } (by simp) rfl | exact hd { on := 1, ground := .chain } (by simp) rfl | exact hd { on := 1, ground := .phase } (by simp) rfl)
      simp only [LrnMk, sl_yes q1]
      go_simp
      exact hK _ _ ⟨G, cp, by simp only [LrnMk, sl_set hlt, sl_yes q1, reduceIte, Nat.reduceEqDiff]; try rfl, (hW.keep hlt (by decide) (by decide) (by decide))⟩
    · change some _ = some o at ho
      cases ho
      have q2 : up L 2 = true := (by first | exact hd { on := 2, ground := .data } (by simp) rfl | exact hd { on := 2, ground := .chain } (by simp) rfl | exact hd { on := 2, ground := .phase } (by simp) rfl)
      simp only [LrnMk, sl_yes q2]
      go_simp
      exact hK _ _ ⟨G, cp, by simp only [LrnMk, sl_set hlt, sl_yes q2, reduceIte, Nat.reduceEqDiff]; try rfl, (hW.keep hlt (by decide) (by decide) (by decide))⟩
    · change some _ = some o at ho
      cases ho
      have q3 : up L 3 = true := (by first | exact hd { on := 3, ground := .data } (by simp) rfl | exact hd { on := 3, ground := .chain } (by simp) rfl | exact hd { on := 3, ground := .phase } (by simp) rfl)
      have m7 : up L 7 = false := hC.no nl 7 rfl (by kernel_rfl)
      have cx := hW.early m7 dk
      simp only [LrnMk, sl_yes q3]
      go_simp
      exact hK _ _ ⟨G, cp, by simp only [LrnMk, sl_set hlt, sl_yes q3, reduceIte, Nat.reduceEqDiff]; try rfl, (hW.keep hlt (by decide) (by decide) (by decide))⟩
    · change some _ = some o at ho
      cases ho
      have m6 : up L 6 = false := hC.no nl 6 rfl (by kernel_rfl)
      obtain rfl := hW.1 m6
      simp only [LrnMk]
      go_simp
      exact hK _ _ ⟨G, cp, by simp only [LrnMk, sl_set hlt, reduceIte, Nat.reduceEqDiff]; try rfl, (hW.keep hlt (by decide) (by decide) (by decide))⟩
    · change some _ = some o at ho
      cases ho
      have q5 : up L 5 = true := (by first | exact hd { on := 5, ground := .data } (by simp) rfl | exact hd { on := 5, ground := .chain } (by simp) rfl | exact hd { on := 5, ground := .phase } (by simp) rfl)
      have m7 : up L 7 = false := hC.no nl 7 rfl (by kernel_rfl)
      obtain rfl := hW.1 nl
      simp only [LrnMk, sl_yes q5]
      go_simp
      exact hK _ _ ⟨G, cp, by simp only [LrnMk, sl_set hlt, sl_yes q5, reduceIte, Nat.reduceEqDiff]; try rfl, ⟨fun q => absurd (q.symm.trans ((up_set hlt _).trans (if_pos rfl))) (by decide), fun _ _ => rfl, fun q => absurd (q.symm.trans ((up_set hlt 7).trans m7)) (by decide)⟩⟩
    · change some _ = some o at ho
      cases ho
      have q4 : up L 4 = true := (by first | exact hd { on := 4, ground := .data } (by simp) rfl | exact hd { on := 4, ground := .chain } (by simp) rfl | exact hd { on := 4, ground := .phase } (by simp) rfl)
      have q6 : up L 6 = true := (by first | exact hd { on := 6, ground := .data } (by simp) rfl | exact hd { on := 6, ground := .chain } (by simp) rfl | exact hd { on := 6, ground := .phase } (by simp) rfl)
      have m10 : up L 10 = false := hC.no nl 10 rfl (by kernel_rfl)
      obtain rfl := hW.2.1 q6 nl
      simp only [LrnMk, sl_yes q4, sl_yes q6]
      rw [if_pos (by rfl)]
      refine wp_append_lies _ (.tmp 21) (.tmp 23) 91 (by rfl) (z + 3) 100 i0 (.agg (kc zero13)) 13 104 Tryz.underlying91 HI.out.1 HI.out.2.1 HI.out.2.2.1 HI.out.2.2.2 rfl (by decide) kv Ks.length (flat Ks) (by rfl) (HOW.out.alloc _) ⟨Ud.heap.size, 0, none⟩ 1 1 [.int .i64 n0, .int .i64 n1, .int .i64 n2, .int .i64 n3, .int .i64 n4, .int .i64 n5, .int .i64 n6, .int .i64 n7, .int .i64 n8, .int .i64 n9, .int .i64 n10, .int .i64 n11, .int .i64 n12] (by rfl) rfl (World.news_of_block (heap_alloc_new Ud _)) (by intro q hq; simp at hq; rcases hq with rfl | rfl | rfl | rfl | rfl | rfl | rfl | rfl | rfl | rfl | rfl | rfl | rfl <;> rfl) (by decide) (by unfold maxLen; omega) (by omega) (by simp; omega) _ rfl ?_
      intro G' cap' w1 hown1 hgrow hat hlt1
      exact hK _ _ ⟨G', cap', by simp only [LrnMk, sl_set hlt, sl_yes q4, sl_yes q6, reduceIte, Nat.reduceEqDiff]; try rfl, ⟨fun q => absurd (q.symm.trans ((up_set hlt 6).trans q6)) (by decide), fun _ q => absurd (q.symm.trans ((up_set hlt _).trans (if_pos rfl))) (by decide), fun _ => ⟨w1, hown1, hgrow, fun _ => rfl, fun q => absurd (q.symm.trans ((up_set hlt 10).trans m10)) (by decide)⟩⟩⟩
    · change some _ = some o at ho
      cases ho
      have q0 : up L 0 = true := (by first | exact hd { on := 0, ground := .data } (by simp) rfl | exact hd { on := 0, ground := .chain } (by simp) rfl | exact hd { on := 0, ground := .phase } (by simp) rfl)
      simp only [LrnMk, sl_yes q0]
      go_simp
      exact hK _ _ ⟨G, cp, by simp only [LrnMk, sl_set hlt, sl_yes q0, reduceIte, Nat.reduceEqDiff]; try rfl, (hW.keep hlt (by decide) (by decide) (by decide))⟩
    · change some _ = some o at ho
      cases ho
      have q8 : up L 8 = true := (by first | exact hd { on := 8, ground := .data } (by simp) rfl | exact hd { on := 8, ground := .chain } (by simp) rfl | exact hd { on := 8, ground := .phase } (by simp) rfl)
      simp only [LrnMk, sl_yes q8]
      go_simp
      exact hK _ _ ⟨G, cp, by simp only [LrnMk, sl_set hlt, sl_yes q8, reduceIte, Nat.reduceEqDiff]; try rfl, (hW.keep hlt (by decide) (by decide) (by decide))⟩
    · change some _ = some o at ho
      cases ho
      have q7 : up L 7 = true := (by first | exact hd { on := 7, ground := .data } (by simp) rfl | exact hd { on := 7, ground := .chain } (by simp) rfl | exact hd { on := 7, ground := .phase } (by simp) rfl)
      have q9 : up L 9 = true := (by first | exact hd { on := 9, ground := .data } (by simp) rfl | exact hd { on := 9, ground := .chain } (by simp) rfl | exact hd { on := 9, ground := .phase } (by simp) rfl)
      have q6 : up L 6 = true := hC 7 _ rfl q7 { on := 6, ground := .data } (by simp) rfl
      obtain ⟨w1, y1, y2, y5, _⟩ := hW.2.2 q7
      obtain rfl := y5 nl
      obtain ⟨q6c, q6f⟩ := HGF.out _ y2
      simp only [LrnMk, sl_yes q7, sl_yes q9]
      go_simp
      exact hK _ _ ⟨G, cp, by simp only [LrnMk, sl_set hlt, sl_yes q7, sl_yes q9, reduceIte, Nat.reduceEqDiff]; try rfl, ⟨fun q => absurd (q.symm.trans ((up_set hlt 6).trans q6)) (by decide), fun _ q => absurd (q.symm.trans ((up_set hlt 7).trans q7)) (by decide), fun _ => ⟨w, y1, y2, fun q => absurd (q.symm.trans ((up_set hlt _).trans (if_pos rfl))) (by decide), fun _ => rfl⟩⟩⟩
  case done =>
    rintro L a w ⟨G, cp, rfl, hW⟩ hall
    obtain ⟨w1, y1, y2, _, y5⟩ := hW.2.2 (hall 7 (by decide))
    obtain rfl := y5 (hall 10 (by decide))
    simp only [LrnMk, sl_yes (hall 0 (by decide)), sl_yes (hall 1 (by decide)), sl_yes (hall 2 (by decide)), sl_yes (hall 3 (by decide)), sl_yes (hall 4 (by decide)), sl_yes (hall 5 (by decide)), sl_yes (hall 6 (by decide)), sl_yes (hall 7 (by decide)), sl_yes (hall 8 (by decide)), sl_yes (hall 9 (by decide))]
    have M1 : Hid (TMd w0 z (some ⟨b, off, none⟩) len cap lc Ks [n0, n1, n2, n3, n4, n5, n6, n7, n8, n9, n10, n11, n12] (.slice (some ⟨G, 0, none⟩) (Ks.length + 1) cp) (w1.setCell ⟨z + 2, 1, none⟩ (.slice (some ⟨G, 0, none⟩) (Ks.length + 1) cp))) := H1.out.app (HBU.out.trans ((below_alloc _ _).mono HBU.out.size)) y2 y1
    have hKB : (w1.setCell ⟨z + 2, 1, none⟩ (.slice (some ⟨G, 0, none⟩) (Ks.length + 1) cp)).heap[u1.heap.size]? = some (.cells #[.int .i64 n0, .int .i64 n1, .int .i64 n2, .int .i64 n3, .int .i64 n4, .int .i64 n5, .int .i64 n6, .int .i64 n7, .int .i64 n8, .int .i64 n9, .int .i64 n10, .int .i64 n11, .int .i64 n12] 100) := by
      have hne : some u1.heap.size ≠ kv.ownBlock := fun e => by
        rcases H1.out.ks.2 with ⟨q, _⟩ | ⟨g, cc, cur, q, hb, hh, _⟩
        · rw [q] at e; cases e
        · rw [q] at e; injection e with e; simp only at e; have := (Array.getElem?_eq_some_iff.1 hh).1; omega
      have hlt : u1.heap.size < Ud.heap.size := (Array.getElem?_eq_some_iff.1 hrowK).1
      have b1 := (below_alloc Ud (.cells #[.int .i64 n0, .int .i64 n1, .int .i64 n2, .int .i64 n3, .int .i64 n4, .int .i64 n5, .int .i64 n6, .int .i64 n7, .int .i64 n8, .int .i64 n9, .int .i64 n10, .int .i64 n11, .int .i64 n12] 100)).block u1.heap.size hlt
      refine (Below.heap_setCell w1 ⟨z + 2, 1, none⟩ _ _ (by show _ ≠ z + 2; omega)).trans ((y2.block u1.heap.size (by simp; omega) hne).trans (b1.trans hrowK))
    obtain ⟨X, hX⟩ : ∃ X, X = w1.setCell ⟨z + 2, 1, none⟩ (.slice (some ⟨G, 0, none⟩) (Ks.length + 1) cp) := ⟨_, rfl⟩
    rw [← hX] at M1 hKB ⊢
    clear hX y1 y2 hW hall SU HOW HGF dk hrowK f0 f1 f2 f3 f4 f5 f6 f7 f8 f9 f10 f11 f12 dk0 hzu HBU
    have hXs : z + 2 < X.heap.size := (Array.getElem?_eq_some_iff.1 M1.out.gc).1
    have g2 : X.cell? ⟨z + 2, 2, none⟩ = some (.map (some z)) := by rw [cell_of_row X _ 2 _ _ _ M1.out.gc]; rfl
    have f0 : X.cell? ⟨u1.heap.size, 0, none⟩ = some (.int .i64 n0) := by rw [cell_of_row X _ 0 _ _ _ hKB]; rfl
    have f1 : X.cell? ⟨u1.heap.size, 1, none⟩ = some (.int .i64 n1) := by rw [cell_of_row X _ 1 _ _ _ hKB]; rfl
    have f2 : X.cell? ⟨u1.heap.size, 2, none⟩ = some (.int .i64 n2) := by rw [cell_of_row X _ 2 _ _ _ hKB]; rfl
    have f3 : X.cell? ⟨u1.heap.size, 3, none⟩ = some (.int .i64 n3) := by rw [cell_of_row X _ 3 _ _ _ hKB]; rfl
    have f4 : X.cell? ⟨u1.heap.size, 4, none⟩ = some (.int .i64 n4) := by rw [cell_of_row X _ 4 _ _ _ hKB]; rfl
    have f5 : X.cell? ⟨u1.heap.size, 5, none⟩ = some (.int .i64 n5) := by rw [cell_of_row X _ 5 _ _ _ hKB]; rfl
    have f6 : X.cell? ⟨u1.heap.size, 6, none⟩ = some (.int .i64 n6) := by rw [cell_of_row X _ 6 _ _ _ hKB]; rfl
    have f7 : X.cell? ⟨u1.heap.size, 7, none⟩ = some (.int .i64 n7) := by rw [cell_of_row X _ 7 _ _ _ hKB]; rfl
    have f8 : X.cell? ⟨u1.heap.size, 8, none⟩ = some (.int .i64 n8) := by rw [cell_of_row X _ 8 _ _ _ hKB]; rfl
    have f9 : X.cell? ⟨u1.heap.size, 9, none⟩ = some (.int .i64 n9) := by rw [cell_of_row X _ 9 _ _ _ hKB]; rfl
    have f10 : X.cell? ⟨u1.heap.size, 10, none⟩ = some (.int .i64 n10) := by rw [cell_of_row X _ 10 _ _ _ hKB]; rfl
    have f11 : X.cell? ⟨u1.heap.size, 11, none⟩ = some (.int .i64 n11) := by rw [cell_of_row X _ 11 _ _ _ hKB]; rfl
    have f12 : X.cell? ⟨u1.heap.size, 12, none⟩ = some (.int .i64 n12) := by rw [cell_of_row X _ 12 _ _ _ hKB]; rfl
    obtain ⟨D, hD, hF⟩ := M1.out.mp
    have hkl2 := klOf_key HKO.out
    have HDD : Hid (X.ownsMap Tryz.prog 100 (plainElem Tryz.prog 3) z Ks.length D ∧ Fnd D Ks) := ⟨hD, hF⟩
    obtain ⟨c0, hc0⟩ : ∃ c0 : Int, ∀ n, (Instr.lookup 92 (.map (some z)) (.agg (kc [n0, n1, n2, n3, n4, n5, n6, n7, n8, n9, n10, n11, n12])) true).run Tryz.prog (X.drewN n) = .ok (.tuple #[.int .i64 c0, .bool (decide ([n0, n1, n2, n3, n4, n5, n6, n7, n8, n9, n10, n11, n12] ∈ Ks))]) (X.drewN n) := by
      have look : ∀ n, ∃ c : Int, (Instr.lookup 92 (.map (some z)) (.agg (kc [n0, n1, n2, n3, n4, n5, n6, n7, n8, n9, n10, n11, n12])) true).run Tryz.prog (X.drewN n) = .ok (.tuple #[.int .i64 c, .bool (decide ([n0, n1, n2, n3, n4, n5, n6, n7, n8, n9, n10, n11, n12] ∈ Ks))]) (X.drewN n) ∧ D.atKey (klOf [n0, n1, n2, n3, n4, n5, n6, n7, n8, n9, n10, n11, n12]) (.lit (.int .i64 0)) = .lit (.int .i64 c) := fun n => by
        obtain ⟨vv, ps, hr, hv⟩ := (ownsMap_keep hD (below_drewN (Below.refl X.heap.size X) n) (by omega)).look_ok lawKey uMap (zeroI _) (plainElem_int Tryz.underlying3 (by decide)) hkl2
        obtain ⟨c, rfl, hc, _⟩ := plainElem_int_inv Tryz.underlying3 hv
        rw [(hF.2 _ HKO.out).1] at hr
        exact ⟨c, hr, congrArg Prod.fst hc⟩
      obtain ⟨c0, _, h0⟩ := look 0
      refine ⟨c0, fun n => ?_⟩
      obtain ⟨c, h1, h2⟩ := look n
      rw [h0] at h2
      simp only [DataW.lit.injEq, Lit.int.injEq, true_and] at h2
      rw [h1, h2]
    change ∀ n, (Instr.lookup 92 (.map (some z)) (.agg #[.int .i64 n0, .int .i64 n1, .int .i64 n2, .int .i64 n3, .int .i64 n4, .int .i64 n5, .int .i64 n6, .int .i64 n7, .int .i64 n8, .int .i64 n9, .int .i64 n10, .int .i64 n11, .int .i64 n12]) true).run Tryz.prog (X.drewN n) = _ at hc0
    clear hD hF hKB
    by_cases hmem : [n0, n1, n2, n3, n4, n5, n6, n7, n8, n9, n10, n11, n12] ∈ Ks
    · rw [decide_eq_true hmem] at hc0
      go_wp2_with fail
      go_quiet (fail)
      go_wp2_with fail
      go_end0
      exact ⟨rfl, _, (M1.out.keep (by repeat (first | exact Below.refl _ _ | refine below_drewN ?_ _))).done HKO.out hmem⟩
    · rw [decide_eq_false hmem] at hc0
      go_wp2_with fail
      go_quiet (fail)
      go_wp2_with fail
      generalize hYe : World.drewN X _ = Y
      have bY : Below X.heap.size X Y := by rw [← hYe]; exact below_drewN (Below.refl _ _) _
      have M2 : Hid (TMd w0 z (some ⟨b, off, none⟩) len cap lc Ks [n0, n1, n2, n3, n4, n5, n6, n7, n8, n9, n10, n11, n12] (.slice (some ⟨G, 0, none⟩) (Ks.length + 1) cp) Y) := M1.out.keep bY
      have hDY := ownsMap_keep HDD.out.1 bY (by omega)
      have hYs : z + 2 < Y.heap.size := Nat.lt_of_lt_of_le hXs bY.size
      have h0y : Y.cell? ⟨u1.heap.size, 0, none⟩ = some (.int .i64 n0) := (bY.cell (p := ⟨u1.heap.size, 0, none⟩) (block_lt_of_cell f0)).trans f0
      have h1y : Y.cell? ⟨u1.heap.size, 1, none⟩ = some (.int .i64 n1) := (bY.cell (p := ⟨u1.heap.size, 1, none⟩) (block_lt_of_cell f1)).trans f1
      have h2y : Y.cell? ⟨u1.heap.size, 2, none⟩ = some (.int .i64 n2) := (bY.cell (p := ⟨u1.heap.size, 2, none⟩) (block_lt_of_cell f2)).trans f2
      have h3y : Y.cell? ⟨u1.heap.size, 3, none⟩ = some (.int .i64 n3) := (bY.cell (p := ⟨u1.heap.size, 3, none⟩) (block_lt_of_cell f3)).trans f3
      have h4y : Y.cell? ⟨u1.heap.size, 4, none⟩ = some (.int .i64 n4) := (bY.cell (p := ⟨u1.heap.size, 4, none⟩) (block_lt_of_cell f4)).trans f4
      have h5y : Y.cell? ⟨u1.heap.size, 5, none⟩ = some (.int .i64 n5) := (bY.cell (p := ⟨u1.heap.size, 5, none⟩) (block_lt_of_cell f5)).trans f5
      have h6y : Y.cell? ⟨u1.heap.size, 6, none⟩ = some (.int .i64 n6) := (bY.cell (p := ⟨u1.heap.size, 6, none⟩) (block_lt_of_cell f6)).trans f6
      have h7y : Y.cell? ⟨u1.heap.size, 7, none⟩ = some (.int .i64 n7) := (bY.cell (p := ⟨u1.heap.size, 7, none⟩) (block_lt_of_cell f7)).trans f7
      have h8y : Y.cell? ⟨u1.heap.size, 8, none⟩ = some (.int .i64 n8) := (bY.cell (p := ⟨u1.heap.size, 8, none⟩) (block_lt_of_cell f8)).trans f8
      have h9y : Y.cell? ⟨u1.heap.size, 9, none⟩ = some (.int .i64 n9) := (bY.cell (p := ⟨u1.heap.size, 9, none⟩) (block_lt_of_cell f9)).trans f9
      have h10y : Y.cell? ⟨u1.heap.size, 10, none⟩ = some (.int .i64 n10) := (bY.cell (p := ⟨u1.heap.size, 10, none⟩) (block_lt_of_cell f10)).trans f10
      have h11y : Y.cell? ⟨u1.heap.size, 11, none⟩ = some (.int .i64 n11) := (bY.cell (p := ⟨u1.heap.size, 11, none⟩) (block_lt_of_cell f11)).trans f11
      have h12y : Y.cell? ⟨u1.heap.size, 12, none⟩ = some (.int .i64 n12) := (bY.cell (p := ⟨u1.heap.size, 12, none⟩) (block_lt_of_cell f12)).trans f12
      have k2 : Y.cell? ⟨z + 2, 2, none⟩ = some (.map (some z)) := (bY.cell (p := ⟨z + 2, 2, none⟩) hXs).trans g2
      have hi63 : (Lit.int .i64 (i : Int)).wf = true := WalkArith.wf_i64 (by omega)
      obtain ⟨Y2, hup, hown2, hgr2⟩ := (ownsMap_keep hDY (Below.drew (Below.refl Y.heap.size Y)) (by omega)).update lawKey uMap (by unfold maxLen; omega) hkl2 (plainElem_int Tryz.underlying3 hi63)
      change (Instr.mapUpdate 92 (.map (some z)) (.agg #[.int .i64 n0, .int .i64 n1, .int .i64 n2, .int .i64 n3, .int .i64 n4, .int .i64 n5, .int .i64 n6, .int .i64 n7, .int .i64 n8, .int .i64 n9, .int .i64 n10, .int .i64 n11, .int .i64 n12]) (.int .i64 (i : Int))).run Tryz.prog Y.drew = _ at hup
      have HFIN : Hid (TSt w0 z (some ⟨b, off, none⟩) len cap lc (Ks ++ [[n0, n1, n2, n3, n4, n5, n6, n7, n8, n9, n10, n11, n12]]) (.slice (some ⟨G, 0, none⟩) (Ks.length + 1) cp) Y2) := by
        refine TMd.put (M2.out.keep (Below.drew (Below.refl Y.heap.size Y))) HKO.out hmem HDD.out.2 ?_ hgr2
        rw [HKS.out]
        rw [HKS.out] at hown2
        exact hown2
      clear hDY hown2 hgr2 bY hYe hc0 hmem f0 f1 f2 f3 f4 f5 f6 f7 f8 f9 f10 f11 f12 g2
      go_region
      all_goals
        go_wp2_with fail
        go_end0
        exact ⟨rfl, _, HFIN.out⟩
end Go.Proofs.YtafcnijfoejboaaGreatDoor.W
namespace Go.Proofs.YtafcnijfoejboaaGreatDoor.Pl
theorem fit_rule {xs : List Ty} {i : Nat} (h : fit xs i = true) : (1 ≤ (xs.getD i Ty.zero).k ∧ (xs.getD i Ty.zero).k ≤ 12) ∧ (0 ≤ (xs.getD i Ty.zero).n ∧ (xs.getD i Ty.zero).n ≤ 60000) ∧ (tagd (xs.getD i Ty.zero).k = true ∨ (xs.getD i Ty.zero).of.length ≤ 9) := by
  unfold fit at h
  obtain ⟨x, hx⟩ : ∃ x, x = xs.getD i Ty.zero := ⟨_, rfl⟩
  rw [← hx] at h ⊢
  clear hx
  cases hr : tRule x.k with
  | none => rw [hr] at h; cases h
  | some r =>
    rw [hr] at h
    simp only [fitR_iff] at h
    obtain ⟨⟨h1, h2⟩, _⟩ := h
    unfold tRule at hr
    by_cases c1 : 1 ≤ x.k ∧ x.k ≤ 7
    · rw [if_pos c1] at hr; injection hr with hr; subst hr; simp only at h1 h2; exact ⟨by omega, by omega, .inr (by omega)⟩
    rw [if_neg c1] at hr
    by_cases c2 : x.k = 8
    · rw [if_pos c2] at hr; injection hr with hr; subst hr; simp only at h1 h2; exact ⟨by omega, by omega, .inr (by omega)⟩
    rw [if_neg c2] at hr
    by_cases c3 : x.k = 9
    · rw [if_pos c3] at hr; injection hr with hr; subst hr; simp only at h1 h2; exact ⟨by omega, by omega, .inr (by omega)⟩
    rw [if_neg c3] at hr
    by_cases c4 : x.k = 10 ∨ x.k = 11
    · rw [if_pos c4] at hr; injection hr with hr; subst hr; simp only at h1 h2; exact ⟨by omega, by omega, .inl (by unfold tagd; rw [decide_eq_true_eq]; exact c4)⟩
    rw [if_neg c4] at hr
    by_cases c5 : x.k = 12
    · rw [if_pos c5] at hr; injection hr with hr; subst hr; simp only at h1 h2; exact ⟨by omega, by omega, .inr (by omega)⟩
    rw [if_neg c5] at hr
    cases hr
theorem fit_part {xs : List Ty} {i p : Nat} (h : fit xs i = true) (hp : p < (xs.getD i Ty.zero).of.length) : fitPart xs i p = true := by
  unfold fit at h
  cases ht : tRule (xs.getD i Ty.zero).k with
  | none => rw [ht] at h; cases h
  | some r =>
    rw [ht] at h
    simp only [fitR_iff] at h
    exact h.2.1 p hp
end Go.Proofs.YtafcnijfoejboaaGreatDoor.Pl
namespace Go.Proofs.YtafcnijfoejboaaGreatDoor.W
open Go.RowKit Go.Maps Go.WideMaps
theorem kpre_of {len : Nat} {xs : List Pl.Ty} {i : Nat} (hxl : xs.length = len) (h : Pl.fit xs i = true) : KPre len i xs (xs.getD i Pl.Ty.zero) := by
  have hr := Pl.fit_rule h
  cases ht : Pl.tagd (xs.getD i Pl.Ty.zero).k
  rotate_left
  · exact .inl ht
  refine .inr ⟨hr.2.2.resolve_left (by rw [ht]; decide), fun p hp => ?_⟩
  have hq := Pl.fit_part h hp
  rw [Pl.fitP_x rfl, Bool.and_eq_true] at hq
  obtain ⟨q1, q2⟩ := hq
  have q3 : 0 ≤ (xs.getD i Pl.Ty.zero).of.getD p 0 ∧ (xs.getD i Pl.Ty.zero).of.getD p 0 ≤ (xs.length : Int) - 1 := by simpa [Pl.within] using q1
  refine ⟨q3.1, by omega, ?_⟩
  unfold Pl.fitP at q2
  by_cases c8 : (xs.getD i Pl.Ty.zero).k = 8
  · rw [if_pos c8, Bool.or_eq_true, decide_eq_true_eq] at q2
    exact q2.symm.imp id (fun q => by omega)
  rw [if_neg c8] at q2
  by_cases c9 : (xs.getD i Pl.Ty.zero).k = 9
  · rw [if_pos c9, Bool.and_eq_true, decide_eq_true_eq] at q2
    exact .inr (by omega)
  rw [if_neg c9] at q2
  by_cases c12 : (xs.getD i Pl.Ty.zero).k = 12
  · rw [if_pos c12, Bool.and_eq_true, decide_eq_true_eq] at q2
    exact .inr (by omega)
  · exfalso
    have hp9 := hr.2.2.resolve_left (by rw [ht]; decide)
    have hk := hr.1
    have htt : ¬ ((xs.getD i Pl.Ty.zero).k = 10 ∨ (xs.getD i Pl.Ty.zero).k = 11) := by
      intro c
      have : Pl.tagd (xs.getD i Pl.Ty.zero).k = true := by unfold Pl.tagd; rw [decide_eq_true_eq]; exact c
      rw [ht] at this; cases this
    have hz : (xs.getD i Pl.Ty.zero).of.length = 0 := by
      unfold Pl.fit at h
      have r : Pl.tRule (xs.getD i Pl.Ty.zero).k = some ⟨0, 0, 0, 0, false⟩ := by unfold Pl.tRule; rw [if_pos (by omega)]
      rw [r] at h
      simp only [Pl.fitR_iff] at h
      omega
    omega
theorem kok_of {len : Nat} {xs : List Pl.Ty} {Ks : List (List Int)} {i : Nat} (hxl : xs.length = len) (hlen : len ≤ 2000) (hi : i < len) (hK : Ks.length = i) (h : Pl.fit xs i = true) : kok (Pl.keyF xs Ks (xs.getD i Pl.Ty.zero) i) := by
  have hr := Pl.fit_rule h
  have hp := kpre_of hxl h
  have w64 : ∀ n : Int, 0 ≤ n → n ≤ 60000 → (Lit.int .i64 n).wf = true := fun n h1 h2 => WalkArith.wf_i64 (by omega)
  unfold Pl.keyF
  cases ht : Pl.tagd (xs.getD i Pl.Ty.zero).k
  · rw [if_neg (by decide)]
    obtain ⟨h9, hpp⟩ := hp.resolve_left (by rw [ht]; decide)
    refine ⟨Pl.kpart_len (by rw [List.length_map]; exact h9), fun n hn => ?_⟩
    simp only [List.mem_append, List.mem_cons, List.not_mem_nil, or_false] at hn
    rcases hn with ((rfl | rfl | rfl) | hn) | rfl
    · exact w64 _ (by omega) (by omega)
    · exact w64 _ (by omega) (by omega)
    · exact w64 _ (by omega) (by omega)
    · unfold Pl.pad9 at hn
      rcases List.mem_append.1 hn with q | q
      · obtain ⟨y, hy, rfl⟩ := List.mem_map.1 q
        obtain ⟨p, hpl, hpe⟩ := List.mem_iff_getElem.1 hy
        have := hpp p hpl
        have e : (xs.getD i Pl.Ty.zero).of.getD p 0 = y := by rw [List.getD_eq_getElem?_getD, List.getElem?_eq_getElem hpl, ← hpe]; rfl
        rw [e] at this
        unfold Pl.fstF
        split
        · exact w64 _ (by omega) (by omega)
        · have := List.idxOf_le_length (a := Ks.getD y.toNat []) (l := Ks)
          exact w64 _ (by omega) (by omega)
      · rw [(List.mem_replicate.1 q).2]; decide
    · decide
  · rw [if_pos rfl]
    refine ⟨rfl, fun n hn => ?_⟩
    simp only [List.mem_cons, List.not_mem_nil, or_false] at hn
    rcases hn with rfl | rfl | rfl | rfl | rfl | rfl | rfl | rfl | rfl | rfl | rfl | rfl | rfl
    · exact w64 _ (by omega) (by omega)
    all_goals first | decide | exact w64 _ (by omega) (by omega)
def lay0 (len : Nat) : Array Value := madeCells #[.int .i64 0, .int .i64 0] (len * 2)
def StoreOf (w : World) (a : Option Addr) (len cap : Nat) (xs : List Pl.Ty) (g : Nat) (w' : World) : Prop :=
  (TOk len xs ∧ ∃ z kv, g = z + 2 ∧ TSt w z a len cap (lay0 len) (Pl.keys xs len) kv w') ∨ (¬ TOk len xs ∧ w'.heap[g]? = some (.cells #[.slice none 0 0, .slice none 0 0, .map none, .slice none 0 0] 95 (0, 0)))
set_option maxHeartbeats 4000000 in
set_option maxRecDepth 8000 in
theorem storeOf_any {lo : Nat} (a : Option Addr) (len cap : Nat) (xs : List Pl.Ty) (w : World) (hT : TRow lo w a len cap xs) (hE : Errs w) (hsm : ∀ i, i < len → ∀ j, j < (xs.getD i Pl.Ty.zero).names.length → ((xs.getD i Pl.Ty.zero).names.getD j ⟨#[]⟩).size ≤ 1048576) :
    Calls Tryz.prog 32 #[.slice a len cap] w fun e w' => ∃ g, e = .returned (.pointer (some ⟨g, 0, none⟩)) ∧ StoreOf w a len cap xs g w' ∧ Below w.heap.size w w' := by
  have hm : (len : Int) ≤ 9223372036854775807 := by have := hT.small; omega
  have HT : Hid (TRow lo w a len cap xs) := hT
  have HXL : Hid (xs.length = len) := hT.1
  have HIM : Hid _ := implTypesOk a len cap xs w hT hE hsm
  clear hT hE hsm
  by_cases hok : TOk len xs
  rotate_left
  · have HN : Hid (¬ TOk len xs) := hok
    go_enter Tryz.func32, Tryz.ntmps32
    go_wp2_with fail
    refine Calls.mono HIM.out ?_
    rintro e u1 ⟨rfl, d1⟩
    rw [Pl.dec_no HN.out]
    have D1 : Hid (Below w.heap.size w u1) := d1
    clear d1
    go_wp2_with fail
    go_ret
    exact ⟨_, rfl, .inr ⟨HN.out, heap_alloc_new u1 _⟩, D1.out.trans ((below_alloc _ _).mono D1.out.size)⟩
  · have HY : Hid (TOk len xs) := hok
    have hlen : len ≤ 2000 := hok.1
    clear hok
    have hinfo : (Tryz.prog.info? 49).map (fun i => (i.zero, i.size, i.bytes)) = some (some (.agg #[.int .i64 0, .int .i64 0]), 2, 16) := by kernel_rfl
    obtain ⟨i0, hi0, hz0, hz1, hz2⟩ := info_parts hinfo
    have hmk : ∀ u : World, (Instr.makeSlice 93 (.int .i64 (len : Int)) (.int .i64 (len : Int))).run Tryz.prog u = .ok (.slice (some ⟨u.heap.size, 0, none⟩) len len) (u.alloc (.cells (lay0 len) 49)) := fun u => by
      have := run_makeSlice u 93 49 i0 _ Tryz.underlying93 hi0 hz0 .i64 .i64 (len : Int) (len : Int) (by omega) (by omega) (by rw [hz1]; simp; omega) (by rw [hz2]; omega) (by omega)
      rw [hz1, Int.toNat_natCast] at this
      exact this
    clear hinfo hi0 hz0 hz1 hz2
    have hmm := @run_makeMap Tryz.prog
    go_enter Tryz.func32, Tryz.ntmps32
    go_wp2_with fail
    refine Calls.mono HIM.out ?_
    rintro e u1 ⟨rfl, d1⟩
    rw [Pl.dec_yes HY.out]
    have D1 : Hid (Below w.heap.size w u1) := d1
    clear d1
    go_wp2_with fail
    obtain ⟨z, hz⟩ : ∃ z, u1.heap.size = z := ⟨_, rfl⟩
    have HZ : Hid (w.heap.size ≤ z) := by rw [← hz]; exact D1.out.size
    have HST : Hid (TSt w z a len cap (lay0 len) [] (.slice none 0 0) (((u1.alloc (.map #[] 0)).alloc (.cells (lay0 len) 49)).alloc (.cells #[.slice a len cap, .slice none 0 0, .map (some z), .slice (some ⟨z + 1, 0, none⟩) len len] 95))) := by
      have b1 := below_alloc u1 (.map #[] 0)
      have b2 := below_alloc (u1.alloc (.map #[] 0)) (.cells (lay0 len) 49)
      have b3 := below_alloc ((u1.alloc (.map #[] 0)).alloc (.cells (lay0 len) 49)) (.cells #[.slice a len cap, .slice none 0 0, .map (some z), .slice (some ⟨z + 1, 0, none⟩) len len] 95)
      have o2 := heap_alloc_new (u1.alloc (.map #[] 0)) (.cells (lay0 len) 49)
      have o3 := heap_alloc_new ((u1.alloc (.map #[] 0)).alloc (.cells (lay0 len) 49)) (.cells #[.slice a len cap, .slice none 0 0, .map (some z), .slice (some ⟨z + 1, 0, none⟩) len len] 95)
      have z1 : (u1.alloc (.map #[] 0)).heap.size = z + 1 := by simp [hz]
      have z2 : ((u1.alloc (.map #[] 0)).alloc (.cells (lay0 len) 49)).heap.size = z + 2 := by simp [hz]
      have om := World.ownsMap_made (H := Unit) u1 Tryz.prog 100 (plainElem Tryz.prog 3)
      rw [hz] at b1 om
      rw [z1] at b2 o2
      rw [z2] at b3 o3
      have bb : Below z u1 (((u1.alloc (.map #[] 0)).alloc (.cells (lay0 len) 49)).alloc (.cells #[.slice a len cap, .slice none 0 0, .map (some z), .slice (some ⟨z + 1, 0, none⟩) len len] 95)) := b1.trans ((b2.mono (by omega)).trans (b3.mono (by omega)))
      exact ⟨D1.out.trans (bb.mono HZ.out), HZ.out, o3, World.ownsRow_nil _ _ _ _, fun K hK => absurd hK (List.not_mem_nil), ⟨.map [], ownsMap_keep (ownsMap_keep om b2 (by omega)) b3 (by omega), Fnd.nil⟩, (b3.block _ (by omega)).trans o2⟩
    rw [hz]
    clear hmk hmm hz
    go_loopw [19] (fun j wr => ∃ (k : Nat) (kv : Value), k ≤ len ∧ j = .int .i64 k ∧ Hid (TSt w z a len cap (lay0 len) (Pl.keys xs k) kv wr)) (fun j _ => len - (intOf j).toNat)
    case atStart => exact ⟨0, _, Nat.zero_le _, rfl, HST⟩
    case round =>
      obtain ⟨k, kv, hk, rfl, S⟩ := hrel
      by_cases hlt : k < len
      · have hi : (k : Int) < (len : Int) := by omega
        have hfit := HY.out.2.1 k hlt
        have HKP : Hid (KPre len (Pl.keys xs k).length xs (xs.getD k Pl.Ty.zero)) := by rw [Pl.keys_len]; exact kpre_of HXL.out hfit
        have HKO : Hid (kok (Pl.keyF xs (Pl.keys xs k) (xs.getD k Pl.Ty.zero) k)) := kok_of HXL.out hlen hlt (Pl.keys_len xs k) hfit
        clear hfit
        go_wp2_with fail
        refine (learn_any HT.out k hlt hlen (Pl.keys_len xs k) wr S.out HKP.out HKO.out).mono ?_
        rintro e u2 ⟨rfl, kv2, s2⟩
        have S2 : Hid (TSt w z a len cap (lay0 len) (Pl.keys xs (k + 1)) kv2 u2) := s2
        clear s2
        go_wp2_with fail
        go_roundw
        case rel => exact ⟨k + 1, kv2, by omega, by go_num, S2⟩
        case measure => simp [intOf]; omega
      · have hke : k = len := by omega
        have hi : ¬ ((k : Int) < (len : Int)) := by omega
        have S2 : Hid (TSt w z a len cap (lay0 len) (Pl.keys xs len) kv wr) := by
          have h0 := S.out
          rw [hke] at h0
          exact h0
        go_wp2_with fail
        go_ret
        exact ⟨_, rfl, .inl ⟨HY.out, z, kv, rfl, S2.out⟩, S2.out.b⟩
end Go.Proofs.YtafcnijfoejboaaGreatDoor.W
namespace Go.Proofs.YtafcnijfoejboaaGreatDoor.Pl
theorem up_ge {n a : Int} (h : 0 ≤ n) (h2 : 1 ≤ a ∧ a ≤ 4) : n ≤ up n a := by
  unfold up
  rw [Int.tdiv_eq_ediv_of_nonneg (by omega)]
  have h3 : a = 1 ∨ a = 2 ∨ a = 3 ∨ a = 4 := by omega
  rcases h3 with rfl | rfl | rfl | rfl <;> omega
theorem cap_up {b a : Int} (h : 0 ≤ b) (h2 : 1 ≤ a ∧ a ≤ 4) : capn (up (capn b) a) = capn (up b a) := by
  by_cases hb : 60000 < b
  · have e : capn b = 60001 := by unfold capn; rw [if_pos hb]
    rw [e]
    have h1 := up_ge (n := 60001) (by decide) h2
    have h3 := up_ge h h2
    unfold capn
    rw [if_pos (by omega), if_pos (by omega)]
  · have e : capn b = b := by unfold capn; rw [if_neg hb]
    rw [e]
def beh (kk : Int) (G : Nat → Int × Int) : Nat → Int
  | 0 => 0
  | k + 1 => if kk = 10 then capn (up (beh kk G k) (G k).2) + (G k).1 else beh kk G k
def foff (kk : Int) (G : Nat → Int × Int) (k : Nat) : Int := capn (up (beh kk G k) (G k).2)
def big (kk : Int) (G : Nat → Int × Int) : Nat → Int
  | 0 => 0
  | k + 1 => max (big kk G k) (foff kk G k + (G k).1)
def gal (G : Nat → Int × Int) : Nat → Int
  | 0 => 0
  | k + 1 => max (gal G k) (G k).2
theorem beh_nn {kk : Int} {G : Nat → Int × Int} : ∀ n, (∀ p, p < n → nb (G p)) → 0 ≤ beh kk G n ∧ beh kk G n ≤ 120002
  | 0, _ => ⟨Int.le_refl _, by show (0 : Int) ≤ 120002; decide⟩
  | n + 1, h => by
    have ih := beh_nn (kk := kk) n (fun p hp => h p (by omega))
    have hg := h n (by omega)
    show 0 ≤ (if kk = 10 then _ else _) ∧ (if kk = 10 then _ else _) ≤ 120002
    by_cases c : kk = 10
    · rw [if_pos c]
      have h1 := capn_bdd (up_bdd ih.1 hg.2).1
      have h2 := hg.1
      omega
    · rw [if_neg c]; exact ih
theorem gal_eq {kk : Int} {G : Nat → Int × Int} : ∀ n, (∀ p, p < n → nb (G p)) → (fl kk G n).2 = max 1 (gal G n) ∧ (0 < n → 1 ≤ gal G n ∧ gal G n ≤ 4) ∧ 0 ≤ gal G n
  | 0, _ => ⟨rfl, fun h => absurd h (Nat.lt_irrefl _), Int.le_refl _⟩
  | n + 1, h => by
    obtain ⟨h1, h2, h3⟩ := gal_eq (kk := kk) n (fun p hp => h p (by omega))
    have hg := (h n (by omega)).2
    have e : (fl kk G (n + 1)).2 = if (fl kk G n).2 < (G n).2 then (G n).2 else (fl kk G n).2 := rfl
    have e2 : gal G (n + 1) = max (gal G n) (G n).2 := rfl
    have h4 : gal G n ≤ 4 := by
      rcases Nat.eq_zero_or_pos n with q | q
      · rw [q]; show (0 : Int) ≤ 4; decide
      · exact (h2 q).2
    rw [e, e2, h1]
    refine ⟨?_, fun _ => by omega, by omega⟩
    split <;> omega
theorem fl_beh {kk : Int} {G : Nat → Int × Int} (hk : kk = 10) : ∀ n, (∀ p, p < n → nb (G p)) → (fl kk G n).1 = capn (beh kk G n) ∧ (big kk G n = beh kk G n ∨ (60000 < big kk G n ∧ 60000 < beh kk G n)) ∧ 0 ≤ big kk G n ∧ big kk G n ≤ 120002
  | 0, _ => ⟨rfl, .inl rfl, Int.le_refl _, by show (0 : Int) ≤ 120002; decide⟩
  | n + 1, h => by
    obtain ⟨h1, h2, h3, h4⟩ := fl_beh hk n (fun p hp => h p (by omega))
    have hg := h n (by omega)
    have hb := beh_nn (kk := kk) n (fun p hp => h p (by omega))
    have e1 : (fl kk G (n + 1)).1 = capn (capn (up (fl kk G n).1 (G n).2) + (G n).1) := by show (if kk = 10 then _ else _) = _; rw [if_pos hk]
    have e2 : beh kk G (n + 1) = capn (up (beh kk G n) (G n).2) + (G n).1 := by show (if kk = 10 then _ else _) = _; rw [if_pos hk]
    have e3 : big kk G (n + 1) = max (big kk G n) (capn (up (beh kk G n) (G n).2) + (G n).1) := rfl
    have hu := up_ge hb.1 hg.2
    have hc := capn_bdd (up_bdd hb.1 hg.2).1
    refine ⟨by rw [e1, e2, h1, cap_up hb.1 hg.2], ?_, ?_⟩
    · rw [e2, e3]
      have hs := hg.1
      by_cases q : 60000 < beh kk G n
      · right
        have e4 : capn (up (beh kk G n) (G n).2) = 60001 := by unfold capn; rw [if_pos (by omega)]
        rw [e4]
        have h5 : 60000 < big kk G n := by rcases h2 with c | c <;> omega
        omega
      · have e5 : big kk G n = beh kk G n := by
          rcases h2 with c | c
          · exact c
          · omega
        left
        have e6 : beh kk G n ≤ capn (up (beh kk G n) (G n).2) := by unfold capn; split <;> omega
        rw [e5]
        omega
    · rw [e3]
      have hs := hg.1
      omega
theorem fl_uni {kk : Int} {G : Nat → Int × Int} (hk : kk ≠ 10) : ∀ n, (∀ p, p < n → nb (G p)) → (fl kk G n).1 = big kk G n ∧ beh kk G n = 0 ∧ 0 ≤ big kk G n ∧ big kk G n ≤ 60001
  | 0, _ => ⟨rfl, rfl, Int.le_refl _, by show (0 : Int) ≤ 60001; decide⟩
  | n + 1, h => by
    obtain ⟨h1, h2, h3, h4⟩ := fl_uni hk n (fun p hp => h p (by omega))
    have hg := h n (by omega)
    have e1 : (fl kk G (n + 1)).1 = if (fl kk G n).1 < (G n).1 then (G n).1 else (fl kk G n).1 := by show (if kk = 10 then _ else _) = _; rw [if_neg hk]
    have e2 : beh kk G (n + 1) = beh kk G n := by show (if kk = 10 then _ else _) = _; rw [if_neg hk]
    have e3 : big kk G (n + 1) = max (big kk G n) (capn (up (beh kk G n) (G n).2) + (G n).1) := rfl
    have e4 : capn (up (beh kk G n) (G n).2) = 0 := by
      rw [h2]
      have := up_bdd (n := 0) (Int.le_refl _) hg.2
      have hm : up 0 (G n).2 = 0 := by
        have hg2 := hg.2
        unfold up
        have h3 : (G n).2 = 1 ∨ (G n).2 = 2 ∨ (G n).2 = 3 ∨ (G n).2 = 4 := by omega
        rcases h3 with q | q | q | q <;> rw [q] <;> decide
      rw [hm]; decide
    rw [e1, e3, e4, h1]
    have hs := hg.1
    refine ⟨?_, by rw [e2, h2], ?_⟩
    · split <;> omega
    · omega
theorem around_eq {kk : Int} {G : Nat → Int × Int} {n : Nat} (hn : 0 < n) (h : ∀ p, p < n → nb (G p)) : flds kk G n = (capn (up (big kk G n) (gal G n)), gal G n) ∧ 0 ≤ big kk G n ∧ big kk G n ≤ 120002 ∧ 1 ≤ gal G n ∧ gal G n ≤ 4 := by
  obtain ⟨g1, g2, _⟩ := gal_eq (kk := kk) n h
  have g3 := g2 hn
  have g4 : (fl kk G n).2 = gal G n := by rw [g1]; omega
  by_cases hk : kk = 10
  · obtain ⟨f1, f2, f3, f4⟩ := fl_beh hk n h
    refine ⟨?_, f3, f4, g3⟩
    unfold flds
    rw [g4, f1]
    have hb := beh_nn (kk := kk) n h
    rw [cap_up hb.1 g3]
    congr 1
    rcases f2 with q | q
    · rw [q]
    · have h1 := up_ge hb.1 g3
      have h2 := up_ge f3 g3
      unfold capn
      rw [if_pos (by omega), if_pos (by omega)]
  · obtain ⟨f1, _, f3, f4⟩ := fl_uni hk n h
    refine ⟨?_, f3, by omega, g3⟩
    unfold flds
    rw [g4, f1]
theorem Lay.nb {xs : List Ty} (hn : ∀ i, (xs.getD i Ty.zero).k = 9 → 1 ≤ (xs.getD i Ty.zero).n) {i : Nat} {s a : Int} (h : Lay xs i s a) : Pl.nb (s, a) := by
  induction h with
  | scal i hs =>
    have : (szK (xs.getD i Ty.zero).k = 1 ∨ szK (xs.getD i Ty.zero).k = 2 ∨ szK (xs.getD i Ty.zero).k = 4) := by
      unfold szK
      split
      · exact .inl rfl
      · split
        · exact .inr (.inl rfl)
        · exact .inr (.inr rfl)
    unfold Pl.nb
    simp only
    omega
  | arr i s a h9 _ ih =>
    exact ⟨capn_bdd (Int.mul_nonneg ih.1.1 (by have := hn i h9; omega)), ih.2⟩
  | rcd i G ht hl _ ih => exact flds_nb (fun p hp => ih p hp)
theorem Lay.fn {xs : List Ty} {i : Nat} {s a : Int} (h : Lay xs i s a) : ∀ {s' a' : Int}, Lay xs i s' a' → s = s' ∧ a = a' := by
  induction h with
  | scal i hs =>
    intro s' a' h'
    cases h' with
    | scal _ _ => exact ⟨rfl, rfl⟩
    | arr _ _ _ h9 _ => rw [h9] at hs; exact absurd hs (by decide)
    | rcd _ _ ht _ _ =>
      have ck : (xs.getD i Ty.zero).k = 10 ∨ (xs.getD i Ty.zero).k = 11 := by unfold tagd at ht; rw [decide_eq_true_eq] at ht; exact ht
      rcases ck with c | c <;> rw [c] at hs <;> exact absurd hs (by decide)
  | arr i s a h9 _ ih =>
    intro s' a' h'
    cases h' with
    | scal _ hs => rw [h9] at hs; exact absurd hs (by decide)
    | arr _ s2 a2 _ h2 => obtain ⟨e1, e2⟩ := ih h2; rw [e1]; exact ⟨rfl, e2⟩
    | rcd _ _ ht _ _ => rw [h9] at ht; exact absurd ht (by decide)
  | rcd i G ht hl _ ih =>
    intro s' a' h'
    cases h' with
    | scal _ hs =>
      have ck : (xs.getD i Ty.zero).k = 10 ∨ (xs.getD i Ty.zero).k = 11 := by unfold tagd at ht; rw [decide_eq_true_eq] at ht; exact ht
      rcases ck with c | c <;> rw [c] at hs <;> exact absurd hs (by decide)
    | arr _ _ _ h9 _ => rw [h9] at ht; exact absurd ht (by decide)
    | rcd _ G2 _ _ h2 =>
      have e : ∀ n, n ≤ (xs.getD i Ty.zero).of.length → fl (xs.getD i Ty.zero).k G n = fl (xs.getD i Ty.zero).k G2 n := by
        intro n
        induction n with
        | zero => intro _; rfl
        | succ n ihn =>
          intro hle
          obtain ⟨e1, e2⟩ := ih n (by omega) (h2 n (by omega))
          have eg : G n = G2 n := Prod.ext e1 e2
          show flStep _ _ (G n) = flStep _ _ (G2 n)
          rw [ihn (by omega), eg]
      unfold flds
      rw [e _ (Nat.le_refl _)]
      exact ⟨rfl, rfl⟩
end Go.Proofs.YtafcnijfoejboaaGreatDoor.Pl
namespace Go.Proofs.YtafcnijfoejboaaGreatDoor.W
open Go.RowKit
theorem bounded_any (n : Int) (w : World) : Calls Tryz.prog 55 #[.int .i64 n] w fun e w' => e = .returned (.int .i64 (Pl.capn n)) ∧ w' = w := by
  have e : Pl.capn n = min n 60001 := by unfold Pl.capn; split <;> omega
  have HE : Hid (Pl.capn n = min n 60001) := e
  clear e
  go_enter Tryz.func55, Tryz.ntmps55
  go_wp2
  go_ret
  exact ⟨by rw [HE.out]; rfl, rfl⟩
theorem nextMultiple_any (n a : Int) (h : 0 ≤ n ∧ n ≤ 120002) (h2 : 1 ≤ a ∧ a ≤ 4) (w : World) : Calls Tryz.prog 56 #[.int .i64 n, .int .i64 a] w fun e w' => e = .returned (.int .i64 (Pl.up n a)) ∧ w' = w := by
  have hb := Pl.up_bdd h.1 h2
  have hne : a ≠ 0 := by omega
  have HU : Hid (Pl.up n a = (n + a - 1).tdiv a * a) := rfl
  have hd0 : 0 ≤ (n + a - 1).tdiv a := Int.tdiv_nonneg (by omega) (by omega)
  have hd1 : (n + a - 1).tdiv a ≤ 120006 := by
    rw [Int.tdiv_eq_ediv_of_nonneg (by omega)]
    exact Int.le_trans (Int.ediv_le_self _ (by omega)) (by omega)
  have hw : IntKind.i64.wrap ((n + a - 1).tdiv a * a) = (n + a - 1).tdiv a * a := by
    rw [IntKind.wrap_i64]
    unfold Pl.up at hb
    generalize (n + a - 1).tdiv a * a = y at hb
    omega
  go_enter Tryz.func56, Tryz.ntmps56
  go_wp2
  go_ret
  refine ⟨?_, rfl⟩
  rw [HU.out]
  first | rfl | (congr 2; exact hw) | skip
theorem scalarSize_any (k : Int) (h : 2 ≤ k ∧ k ≤ 8) (w : World) : Calls Tryz.prog 75 #[.int .i64 k] w fun e w' => e = .returned (.int .i64 (Pl.szK k)) ∧ w' = w := by
  rcases (show k = 2 ∨ k = 3 ∨ k = 4 ∨ k = 5 ∨ k = 6 ∨ k = 7 ∨ k = 8 by omega) with rfl | rfl | rfl | rfl | rfl | rfl | rfl
  all_goals
    go_enter Tryz.func75, Tryz.ntmps75
    go_wp2
    go_ret
    exact ⟨rfl, rfl⟩
end Go.Proofs.YtafcnijfoejboaaGreatDoor.W
namespace Go.Proofs.YtafcnijfoejboaaGreatDoor.Pl
def Lok (xs : List Ty) (Q : Nat → Int × Int) : Prop := ∀ i, Q i = (0, 0) ∨ Lay xs i (Q i).1 (Q i).2
def cel (Q : Nat → Int × Int) (j : Nat) : Int := if j % 2 = 0 then (Q (j / 2)).1 else (Q (j / 2)).2
def upd (Q : Nat → Int × Int) (i : Nat) (p : Int × Int) : Nat → Int × Int := fun j => if j = i then p else Q j
theorem cel_even (Q : Nat → Int × Int) (i : Nat) : cel Q (i * 2) = (Q i).1 := by
  have e : i * 2 / 2 = i := by omega
  unfold cel
  rw [if_pos (by omega), e]
theorem cel_odd (Q : Nat → Int × Int) (i : Nat) : cel Q (i * 2 + 1) = (Q i).2 := by
  have e : (i * 2 + 1) / 2 = i := by omega
  unfold cel
  rw [if_neg (by omega), e]
theorem cel_upd (Q : Nat → Int × Int) (i j : Nat) (s a : Int) : cel (upd Q i (s, a)) j = if j = i * 2 + 1 then a else if j = i * 2 then s else cel Q j := by
  by_cases h1 : j = i * 2 + 1
  · rw [if_pos h1, h1, cel_odd]; show (if i = i then _ else _ : Int × Int).2 = _; rw [if_pos rfl]
  · rw [if_neg h1]
    by_cases h2 : j = i * 2
    · rw [if_pos h2, h2, cel_even]; show (if i = i then _ else _ : Int × Int).1 = _; rw [if_pos rfl]
    · rw [if_neg h2]
      have e : j / 2 ≠ i := by omega
      unfold cel upd
      rw [if_neg e]
theorem Lok.upd {xs : List Ty} {Q : Nat → Int × Int} (h : Lok xs Q) {i : Nat} {s a : Int} (hl : Lay xs i s a) : Lok xs (upd Q i (s, a)) := fun j => by
  unfold Pl.upd
  by_cases e : j = i
  · rw [if_pos e, e]; exact .inr hl
  · rw [if_neg e]; exact h j
theorem Lay.whole {xs : List Ty} (hn : ∀ i, (xs.getD i Ty.zero).k = 9 → 1 ≤ (xs.getD i Ty.zero).n) {i : Nat} {s a : Int} (h : Lay xs i s a) : (xs.getD i Ty.zero).whole = true := by
  cases h with
  | scal _ hs => unfold Ty.whole; rw [hs]; rfl
  | arr _ s a h9 _ =>
    have h1 := hn i h9
    have h2 : 0 < (xs.getD i Ty.zero).n := by omega
    clear hn h1
    revert h9 h2
    generalize xs.getD i Ty.zero = x
    intro h9 h2
    simp [Ty.whole, h9, h2]
  | rcd _ G ht hl _ =>
    revert ht hl
    clear hn
    generalize xs.getD i Ty.zero = x
    intro ht hl
    simp [Ty.whole, ht, hl]
end Go.Proofs.YtafcnijfoejboaaGreatDoor.Pl
namespace Go.Proofs.YtafcnijfoejboaaGreatDoor.W
open Go.RowKit
def lcs (len : Nat) (Q : Nat → Int × Int) : Array Value := Array.ofFn (n := len * 2) fun j => .int .i64 (Pl.cel Q j.1)
theorem lcs_get {len : Nat} {Q : Nat → Int × Int} {j : Nat} (h : j < len * 2) : (lcs len Q)[j]? = some (.int .i64 (Pl.cel Q j)) := by
  unfold lcs
  rw [Array.getElem?_ofFn, dif_pos h]
theorem lcs_set (len : Nat) (Q : Nat → Int × Int) (i : Nat) (s a : Int) : ((lcs len Q).setIfInBounds (i * 2) (.int .i64 s)).setIfInBounds (i * 2 + 1) (.int .i64 a) = lcs len (Pl.upd Q i (s, a)) := by
  have hsz : (lcs len Q).size = len * 2 := by unfold lcs; simp
  apply Array.ext_getElem?
  intro j
  by_cases hj : j < len * 2
  · rw [Array.getElem?_setIfInBounds, Array.getElem?_setIfInBounds, lcs_get hj, lcs_get hj, Pl.cel_upd, Array.size_setIfInBounds, hsz]
    by_cases e1 : i * 2 + 1 = j
    · rw [if_pos e1, if_pos (by omega), if_pos e1.symm]
    · have n1 : ¬ j = i * 2 + 1 := fun q => e1 q.symm
      rw [if_neg e1, if_neg n1]
      by_cases e2 : i * 2 = j
      · rw [if_pos e2, if_pos (by omega), if_pos e2.symm]
      · have n2 : ¬ j = i * 2 := fun q => e2 q.symm
        rw [if_neg e2, if_neg n2]
  · rw [Array.getElem?_eq_none (by rw [Array.size_setIfInBounds, Array.size_setIfInBounds, hsz]; omega), Array.getElem?_eq_none (by unfold lcs; simp; omega)]
structure Lst (w0 : World) (z : Nat) (a : Option Addr) (len cap : Nat) (kv : Value) (Q : Nat → Int × Int) (u : World) : Prop where
  b : Below w0.heap.size w0 u
  lo : w0.heap.size ≤ z
  gc : u.heap[z + 2]? = some (.cells #[.slice a len cap, kv, .map (some z), .slice (some ⟨z + 1, 0, none⟩) len len] 95 (0, 0))
  ll : u.heap[z + 1]? = some (.cells (lcs len Q) 49 (0, 0))
theorem Lst.size {w0 : World} {z : Nat} {a : Option Addr} {len cap : Nat} {kv : Value} {Q : Nat → Int × Int} {u : World} (h : Lst w0 z a len cap kv Q u) : z + 2 < u.heap.size := (Array.getElem?_eq_some_iff.1 h.gc).1
theorem Lst.keep {w0 : World} {z : Nat} {a : Option Addr} {len cap : Nat} {kv : Value} {Q : Nat → Int × Int} {u u' : World} (h : Lst w0 z a len cap kv Q u) (hb : Below u.heap.size u u') : Lst w0 z a len cap kv Q u' := by
  have hs := h.size
  exact ⟨h.b.trans (hb.mono h.b.size), h.lo, (hb.block _ hs).trans h.gc, (hb.block _ (by omega)).trans h.ll⟩
theorem Lst.cells {w0 : World} {z : Nat} {a : Option Addr} {len cap : Nat} {kv : Value} {Q : Nat → Int × Int} {u : World} (h : Lst w0 z a len cap kv Q u) : u.cell? ⟨z + 2, 0, none⟩ = some (.slice a len cap) ∧ u.cell? ⟨z + 2, 3, none⟩ = some (.slice (some ⟨z + 1, 0, none⟩) len len) ∧ (∀ i, i < len → u.cell? ⟨z + 1, i * 2, none⟩ = some (.int .i64 (Q i).1) ∧ u.cell? ⟨z + 1, i * 2 + 1, none⟩ = some (.int .i64 (Q i).2)) ∧ ∀ j, u.frozen? ⟨z + 1, j, none⟩ = false :=
  ⟨by rw [cell_of_row u _ 0 _ _ _ h.gc]; rfl, by rw [cell_of_row u _ 3 _ _ _ h.gc]; rfl, fun i hi => ⟨by rw [cell_of_row u _ _ _ _ _ h.ll, lcs_get (by omega), Pl.cel_even], by rw [cell_of_row u _ _ _ _ _ h.ll, lcs_get (by omega), Pl.cel_odd]⟩, fun j => frozen_of_row u _ j _ _ h.ll⟩
theorem Lst.high {w0 : World} {z : Nat} {a : Option Addr} {len cap : Nat} {kv : Value} {Q : Nat → Int × Int} {u : World} (h : Lst w0 z a len cap kv Q u) (g q : Nat) (x : Value) (hg : z + 2 < g) : Lst w0 z a len cap kv Q (u.setCell ⟨g, q, none⟩ x) := by
  have hlo := h.lo
  exact ⟨h.b.setCell (p := ⟨g, q, none⟩) (by show _ ≤ g; omega) _, hlo, (Below.heap_setCell u ⟨g, q, none⟩ _ _ (by show _ ≠ g; omega)).trans h.gc, (Below.heap_setCell u ⟨g, q, none⟩ _ _ (by show _ ≠ g; omega)).trans h.ll⟩
def setP (u : World) (z i : Nat) (s al : Int) : World := (u.setCell ⟨z + 1, i * 2, none⟩ (.int .i64 s)).setCell ⟨z + 1, i * 2 + 1, none⟩ (.int .i64 al)
theorem Lst.set {w0 : World} {z : Nat} {a : Option Addr} {len cap : Nat} {kv : Value} {Q : Nat → Int × Int} {u : World} (h : Lst w0 z a len cap kv Q u) (i : Nat) (s al : Int) : Lst w0 z a len cap kv (Pl.upd Q i (s, al)) (setP u z i s al) := by
  have hlo := h.lo
  refine ⟨(h.b.setCell (p := ⟨z + 1, i * 2, none⟩) (by show _ ≤ z + 1; omega) _).setCell (p := ⟨z + 1, i * 2 + 1, none⟩) (by show _ ≤ z + 1; omega) _, hlo, ?_, ?_⟩
  · exact (Below.heap_setCell _ ⟨z + 1, i * 2 + 1, none⟩ _ _ (by show _ ≠ z + 1; omega)).trans ((Below.heap_setCell u ⟨z + 1, i * 2, none⟩ _ _ (by show _ ≠ z + 1; omega)).trans h.gc)
  · have e1 : (u.setCell ⟨z + 1, i * 2, none⟩ (.int .i64 s)).heap[z + 1]? = some (.cells ((lcs len Q).setIfInBounds (i * 2) (.int .i64 s)) 49 (0, 0)) := by
      rw [setCell_eq_setRow u _ _ _ _ _ _ h.ll, setRow_heap u _ _ _ _ _ h.ll]
    unfold setP
    rw [setCell_eq_setRow _ _ _ _ _ _ _ e1, setRow_heap _ _ _ _ _ _ e1, lcs_set]
theorem setP_only {c : World} {u : World} {z i : Nat} {s al : Int} (h : OnlyL (z + 1) c u) : OnlyL (z + 1) c (setP u z i s al) := (h.setCell _ _).setCell _ _
def LaySaid (P : Program) (F : Nat) (w0 : World) (z : Nat) (a : Option Addr) (len cap : Nat) (kv : Value) (xs : List Pl.Ty) (f : Nat) : Prop :=
  ∀ (Q : Nat → Int × Int) (u : World) (i : Nat), i < len → Lst w0 z a len cap kv Q u → Pl.Lok xs Q → Pl.lays f xs i = true →
    Calls P F #[.pointer (some ⟨z + 2, 0, none⟩), .int .i64 i] u fun e u' => ∃ s al : Int, e = .returned (.agg #[.int .i64 s, .int .i64 al]) ∧ Pl.Lay xs i s al ∧ ∃ Q', Lst w0 z a len cap kv Q' u' ∧ Pl.Lok xs Q' ∧ OnlyL (z + 1) u u'
end Go.Proofs.YtafcnijfoejboaaGreatDoor.W
namespace Go.Proofs.YtafcnijfoejboaaGreatDoor.W
open Go.RowKit
set_option maxHeartbeats 4000000 in
set_option maxRecDepth 8000 in
theorem layoutOf_of {w0 : World} {lo z : Nat} {a : Option Addr} {len cap : Nat} {kv : Value} {xs : List Pl.Ty} {f : Nat} (hT : TRow lo w0 a len cap xs) (hn : ∀ i, (xs.getD i Pl.Ty.zero).k = 9 → 1 ≤ (xs.getD i Pl.Ty.zero).n) (HI : Hid (LaySaid Tryz.prog 66 w0 z a len cap kv xs f)) : LaySaid Tryz.prog 42 w0 z a len cap kv xs f := by
  intro Q u i hi h hq hf
  have hm : (len : Int) ≤ 9223372036854775807 := by have := hT.small; omega
  have hii : (i : Int) < (len : Int) := by omega
  obtain ⟨g0, g3, gl, gf⟩ := h.cells
  obtain ⟨p0, p1⟩ := gl i hi
  have hz2 := h.size
  have hz1 : z + 1 < u.heap.size := by omega
  rcases hq i with q | q
  rotate_left
  · have hb := (q.nb hn).2
    obtain ⟨s, hs⟩ : ∃ s, s = (Q i).1 := ⟨_, rfl⟩
    obtain ⟨al, hal⟩ : ∃ al, al = (Q i).2 := ⟨_, rfl⟩
    rw [← hs] at p0 q
    rw [← hal] at p1 q
    have hb1 : 1 ≤ al := by rw [hal]; exact hb.1
    have hne : al ≠ 0 := by omega
    have HQ : Hid (Pl.Lay xs i s al) := q
    have HR : Hid (Lst w0 z a len cap kv Q u ∧ Pl.Lok xs Q) := ⟨h, hq⟩
    clear gl q hs hal hb h hq hf g0 hb1
    by_cases h0 : s = 0
    · subst h0
      go_enter Tryz.func42, Tryz.ntmps42
      go_wp2_with fail
      exact bodyPost_ret (v := .agg #[.int .i64 0, .int .i64 al]) (by simp [results, Tryz.results42, go_sem]) rfl ⟨_, _, rfl, HQ.out, Q, HR.out.1.keep (below_alloc _ _), HR.out.2, .of_below (below_alloc _ _)⟩
    · go_enter Tryz.func42, Tryz.ntmps42
      go_wp2_with fail
      exact bodyPost_ret (v := .agg #[.int .i64 s, .int .i64 al]) (by simp [results, Tryz.results42, go_sem]) rfl ⟨_, _, rfl, HQ.out, Q, HR.out.1.keep (below_alloc _ _), HR.out.2, .of_below (below_alloc _ _)⟩
  · rw [q] at p0 p1
    obtain ⟨b, off, v, s, rfl, hlo, hb1, hc, hrow, hs⟩ := (hT.keep h.b).at hi
    have hvl := hrow.1
    obtain ⟨x, hx⟩ : ∃ x, x = xs.getD i Pl.Ty.zero := ⟨_, rfl⟩
    have hw : x.whole = true := by
      cases f with
      | zero => simp [Pl.lays] at hf
      | succ f => rw [hx]; exact ((Pl.lays_succ f xs i).1 hf).1
    rw [← hx] at hc hvl
    obtain ⟨c0, c1, c2, c3⟩ := ty_cells hc
    have HR : Hid (Lst w0 z (some ⟨b, off, none⟩) len cap kv Q u ∧ Pl.Lok xs Q ∧ Pl.lays f xs i = true ∧ i < len) := ⟨h, hq, hf, hi⟩
    have HV : Hid (x.of.length = v.len) := hvl
    have HW : Hid (x.whole = true) := hw
    clear gl q hc hrow hs hx h hq hf hvl hw
    go_enter Tryz.func42, Tryz.ntmps42
    go_wp2_with (go_at_call 65; refine (isComplete_any x v s HV.out _).mono ?_; rintro e u1 ⟨rfl, d1⟩; rw [HW.out]; have D1 : Hid _ := d1; clear d1)
    have hsz : (u.alloc (.cells #[.int .i64 0, .int .i64 0] 49)).heap.size = u.heap.size + 1 := by simp
    have hr0 := heap_alloc_new u (.cells #[.int .i64 0, .int .i64 0] 49)
    have D1' : Below (u.heap.size + 1) (u.alloc (.cells #[.int .i64 0, .int .i64 0] 49)) u1 := by rw [← hsz]; exact D1.out
    have hr1 : Hid (u1.heap[u.heap.size]? = some (.cells #[.int .i64 0, .int .i64 0] 49 (0, 0))) := (D1'.block _ (by omega)).trans hr0
    have B1 : Hid (Below u.heap.size u u1) := (below_alloc u _).trans (D1'.mono (by omega))
    have H1 : Hid (Lst w0 z (some ⟨b, off, none⟩) len cap kv Q u1) := HR.out.1.keep B1.out
    clear D1 D1' hr0 hsz c0 c1 c2 c3 g0 g3 gf p0 p1 hb1
    obtain ⟨_, g3, gl, gf⟩ := H1.out.cells
    clear gl gf
    go_region_with (go_at_call 66; refine (HI.out Q _ i HR.out.2.2.2 (H1.out.keep (by repeat (first | exact Below.refl _ _ | refine below_drewN ?_ _))) HR.out.2.1 HR.out.2.2.1).mono ?_; rintro e u2 ⟨s2, al2, rfl, hL, Q2, hS, hK, hO⟩; have h3 := hS.cells.2.1; have hp0 := (hS.cells.2.2.1 i HR.out.2.2.2).1; have hp1 := (hS.cells.2.2.1 i HR.out.2.2.2).2; have hf2 := hS.cells.2.2.2; have HH : Hid _ := And.intro hL (And.intro hS (And.intro hK hO)); clear hL hS hK hO)
    all_goals
      change Exit.then _ _ _ _ (setP u2 z i s2 al2)
      have B2 : Hid (Below u.heap.size u u1) := B1.out
      have O1 : Hid (OnlyL (z + 1) u1 (setP u2 z i s2 al2)) := setP_only ((OnlyL.of_below (by repeat (first | exact Below.refl _ _ | refine below_drewN ?_ _))).trans HH.out.2.2.2)
      have S1 : Hid (Lst w0 z (some ⟨b, off, none⟩) len cap kv (Pl.upd Q2 i (s2, al2)) (setP u2 z i s2 al2)) := HH.out.2.1.set i s2 al2
      have K1 : Hid (Pl.Lay xs i s2 al2 ∧ Pl.Lok xs (Pl.upd Q2 i (s2, al2))) := ⟨HH.out.1, HH.out.2.2.1.upd HH.out.1⟩
      clear HH h3 hp0 hp1 hf2
      generalize setP u2 z i s2 al2 = X at O1 S1 ⊢
      have hr2 : Hid (X.heap[u.heap.size]? = some (.cells #[.int .i64 0, .int .i64 0] 49 (0, 0))) := (O1.out.block _ (Array.getElem?_eq_some_iff.1 hr1.out).1 (by omega)).trans hr1.out
      have r0 : X.cell? ⟨u.heap.size, 0, none⟩ = some (.int .i64 0) := by rw [cell_of_row X _ 0 _ _ _ hr2.out]; rfl
      have r1 : X.cell? ⟨u.heap.size, 1, none⟩ = some (.int .i64 0) := by rw [cell_of_row X _ 1 _ _ _ hr2.out]; rfl
      have rf : ∀ j, X.frozen? ⟨u.heap.size, j, none⟩ = false := fun j => frozen_of_row X _ j _ _ hr2.out
      obtain ⟨_, x3, xl, _⟩ := S1.out.cells
      obtain ⟨x0, x1⟩ := xl i hi
      have eu : Pl.upd Q2 i (s2, al2) i = (s2, al2) := by unfold Pl.upd; rw [if_pos rfl]
      rw [eu] at x0 x1
      simp only at x0 x1
      clear xl eu g3
      go_wp2_with fail
      exact bodyPost_ret (v := .agg #[.int .i64 s2, .int .i64 al2]) (by simp [results, Tryz.results42, go_sem, r0, r1]) rfl ⟨_, _, rfl, K1.out.1, _, (S1.out.high _ _ _ hz2).high _ _ _ hz2, K1.out.2, ((OnlyL.of_below B1.out).trans O1.out).low (((Below.refl u.heap.size X).setCell (p := ⟨u.heap.size, 0, none⟩) (Nat.le_refl _) _).setCell (p := ⟨u.heap.size, 1, none⟩) (Nat.le_refl _) _)⟩
end Go.Proofs.YtafcnijfoejboaaGreatDoor.W
namespace Go.Proofs.YtafcnijfoejboaaGreatDoor.W
open Go.RowKit
set_option maxHeartbeats 4000000 in
set_option maxRecDepth 8000 in
theorem layOut_scal {w0 : World} {lo z : Nat} {a : Option Addr} {len cap : Nat} {kv : Value} {xs : List Pl.Ty} (hT : TRow lo w0 a len cap xs)
    (Q : Nat → Int × Int) (u : World) (i : Nat) (hi : i < len) (h : Lst w0 z a len cap kv Q u) (hq : Pl.Lok xs Q) (hs : Pl.scal (xs.getD i Pl.Ty.zero).k = true) :
    Calls Tryz.prog 66 #[.pointer (some ⟨z + 2, 0, none⟩), .int .i64 i] u fun e u' => ∃ s al : Int, e = .returned (.agg #[.int .i64 s, .int .i64 al]) ∧ Pl.Lay xs i s al ∧ ∃ Q', Lst w0 z a len cap kv Q' u' ∧ Pl.Lok xs Q' ∧ OnlyL (z + 1) u u' := by
  have hm : (len : Int) ≤ 9223372036854775807 := by have := hT.small; omega
  have hii : (i : Int) < (len : Int) := by omega
  obtain ⟨g0, _, _, _⟩ := h.cells
  have hz2 := h.size
  have HL : Hid (Pl.Lay xs i (Pl.szK (xs.getD i Pl.Ty.zero).k) (Pl.szK (xs.getD i Pl.Ty.zero).k)) := Pl.Lay.scal i hs
  obtain ⟨b, off, v, s, rfl, hlo, hb1, hc, hrow, hs2⟩ := (hT.keep h.b).at hi
  obtain ⟨x, hx⟩ : ∃ x, x = xs.getD i Pl.Ty.zero := ⟨_, rfl⟩
  rw [← hx] at hc hs HL
  obtain ⟨c0, c1, c2, c3⟩ := ty_cells hc
  have hk : 2 ≤ x.k ∧ x.k ≤ 8 := by simpa [Pl.scal] using hs
  have HK : Hid (2 ≤ x.k ∧ x.k ≤ 8) := hk
  have h9 : x.k ≠ 9 := by omega
  have h10 : x.k ≠ 10 := by omega
  have h11 : x.k ≠ 11 := by omega
  have HR : Hid (Lst w0 z (some ⟨b, off, none⟩) len cap kv Q u ∧ Pl.Lok xs Q) := ⟨h, hq⟩
  obtain ⟨sz, hsz⟩ : ∃ sz, sz = Pl.szK x.k := ⟨_, rfl⟩
  have HS : Hid (Pl.szK x.k = sz) := hsz.symm
  clear hc hrow hs hs2 hx h hq hk hsz
  go_enter Tryz.func66, Tryz.ntmps66
  go_wp2_with (go_at_call 75; refine (scalarSize_any x.k HK.out _).mono ?_; rintro e u1 ⟨rfl, ew⟩; rw [ew, HS.out]; clear ew)
  exact bodyPost_ret (v := .agg #[.int .i64 sz, .int .i64 sz]) (by simp [results, Tryz.results66, go_sem]) rfl ⟨_, _, rfl, by rw [← HS.out]; exact HL.out, Q, HR.out.1.keep ((below_alloc _ _).trans ((below_alloc _ _).mono (by simp))), HR.out.2, .of_below ((below_alloc _ _).trans ((below_alloc _ _).mono (by simp)))⟩
end Go.Proofs.YtafcnijfoejboaaGreatDoor.W
