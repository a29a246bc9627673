import Derived.Test.YtcgfgmlfbgbkfaaGreatDoorQ10
import Derived.Test.YtcgfgmlfbgbkfaaGreatDoorL22
import Derived.BigQuiet
set_option linter.unusedVariables false
set_option linter.unusedSimpArgs false
namespace Go.Proofs.YtcgfgmlfbgbkfaaGreatDoor.Pl
/-- the marks -/
def mkS (i : Nat) : Sp := ⟨3 * (i : Int) + 1, 3 * (i : Int) + 2, true⟩
end Go.Proofs.YtcgfgmlfbgbkfaaGreatDoor.Pl
namespace Go.Proofs.YtcgfgmlfbgbkfaaGreatDoor.W
open Go.RowKit
theorem OnlyG.tr {g lo hi : Nat} {w w' : World} (h : OnlyG g w w') (h1 : lo ≤ g) (h2 : g < hi) : Tr lo hi w w' := ⟨h.os, h.tape, h.output, Nat.le_of_eq h.size.symm, fun q hq hz => h.block q (by omega)⟩
/-- spans that are read -/
def RS (w : World) (a : Option Addr) (n : Nat) (S : Nat → Pl.Sp) : Prop := n ≤ 8000 ∧ (n = 0 ∨ ∃ g, a = some ⟨g, 0, none⟩ ∧ g < w.heap.size ∧ ∀ i, i < n → ∀ j, j < 3 → w.cell? ⟨g, i * 3 + j, none⟩ = (S i).cells[j]?)
theorem RS.keep {w w' : World} {a : Option Addr} {n : Nat} {S : Nat → Pl.Sp} (h : RS w a n S) (hb : Below w.heap.size w w') : RS w' a n S := by
  rcases h with ⟨h0, h | ⟨g, e, hg, h⟩⟩
  · exact ⟨h0, .inl h⟩
  · exact ⟨h0, .inr ⟨g, e, Nat.lt_of_lt_of_le hg hb.size, fun i hi j hj => (hb.cell (p := ⟨g, i * 3 + j, none⟩) hg).trans (h i hi j hj)⟩⟩
set_option maxRecDepth 100000 in
set_option maxHeartbeats 4000000 in
theorem eqSpan_same (fr tt : Int) (cr : Bool) (w : World) : Calls Tryz.prog 42 #[.agg #[.int .i64 fr, .int .i64 tt, .bool cr], .agg #[.int .i64 fr, .int .i64 tt, .bool cr]] w fun e w' => e = .returned (.bool true) ∧ Below w.heap.size w w' := by
  have h1 : (fr != fr) = false := by simp
  have h2 : (tt != tt) = false := by simp
  have h3 : (cr != cr) = false := by simp
  go_enter Tryz.func42, Tryz.ntmps42
  go_wp2
  go_ret
  exact ⟨rfl, (below_alloc w _).trans ((below_alloc _ _).mono (by simp))⟩
set_option maxRecDepth 100000 in
set_option maxHeartbeats 8000000 in
theorem eqSpanS_same (a a' : Option Addr) (n cap cap' : Nat) (S : Nat → Pl.Sp) (w : World) (h : RS w a n S) (h' : RS w a' n S) : Calls Tryz.prog 17 #[.slice a n cap, .slice a' n cap'] w fun e w' => e = .returned (.bool true) ∧ Below w.heap.size w w' := by
  have HR : Hid (RS w a n S ∧ RS w a' n S) := ⟨h, h'⟩
  have hnm : (n : Int) ≤ 8000 := by have := h.1; omega
  clear h h'
  go_enter Tryz.func17, Tryz.ntmps17
  go_wp2_with fail
  go_loopw [5] (fun t wr => ∃ (i : Nat), i ≤ n ∧ t = .int .i64 (i : Int) ∧ Hid (Below w.heap.size w wr)) (fun t _ => n - (intOf t).toNat)
  case atStart => exact ⟨0, Nat.zero_le _, rfl, Below.refl _ _⟩
  case round =>
    obtain ⟨i, hi, rfl, HB⟩ := hrel
    by_cases hlt : i < n
    rotate_left
    · have hii : ¬ ((i : Int) < (n : Int)) := by omega
      go_wp2_with fail
      go_ret
      exact ⟨rfl, HB.out⟩
    have hii : (i : Int) < (n : Int) := by omega
    obtain ⟨g, rfl, hg, hA⟩ := (HR.out.1.keep HB.out).2.resolve_left (by omega)
    obtain ⟨g', rfl, hg', hA'⟩ := (HR.out.2.keep HB.out).2.resolve_left (by omega)
    obtain ⟨fr, tt, cr, hS⟩ : ∃ fr tt cr, S i = ⟨fr, tt, cr⟩ := ⟨_, _, _, rfl⟩
    have c0 : wr.cell? ⟨g, i * 3, none⟩ = some (.int .i64 fr) := by have := hA i hlt 0 (by omega); rw [hS] at this; exact this
    have c1 : wr.cell? ⟨g, i * 3 + 1, none⟩ = some (.int .i64 tt) := by have := hA i hlt 1 (by omega); rw [hS] at this; exact this
    have c2 : wr.cell? ⟨g, i * 3 + 2, none⟩ = some (.bool cr) := by have := hA i hlt 2 (by omega); rw [hS] at this; exact this
    have e0 : wr.cell? ⟨g', i * 3, none⟩ = some (.int .i64 fr) := by have := hA' i hlt 0 (by omega); rw [hS] at this; exact this
    have e1 : wr.cell? ⟨g', i * 3 + 1, none⟩ = some (.int .i64 tt) := by have := hA' i hlt 1 (by omega); rw [hS] at this; exact this
    have e2 : wr.cell? ⟨g', i * 3 + 2, none⟩ = some (.bool cr) := by have := hA' i hlt 2 (by omega); rw [hS] at this; exact this
    clear hA hA' hS
    go_upto_region 6 with fail
    go_region_with (go_at_call 42; refine (eqSpan_same fr tt cr _).mono ?_; rintro e u1 ⟨rfl, d1⟩; have HD : Hid (Below wr.heap.size wr u1) := (Below.drew (Below.refl _ _)).trans d1; clear d1)
    all_goals (
      have HN : Hid (Below w.heap.size w u1) := HB.out.trans (HD.out.mono HB.out.size)
      clear HD
      go_wp2_with fail
      go_roundw
      (case rel => exact ⟨i + 1, by omega, by go_num, HN⟩)
      (case measure => simp [intOf]; omega))
/-- spans that a call made, or none -/
def RO (lo : Nat) (w : World) (a : Option Addr) (n : Nat) (S : Nat → Pl.Sp) : Prop := n = 0 ∨ ∃ go cs, a = some ⟨go, 0, none⟩ ∧ lo ≤ go ∧ w.heap[go]? = some (.cells cs 73 (0, 0)) ∧ n * 3 ≤ cs.size ∧ ∀ i, i < n → ∀ j, j < 3 → cs[i * 3 + j]? = (S i).cells[j]?
theorem RO.rs {lo : Nat} {w : World} {a : Option Addr} {n : Nat} {S : Nat → Pl.Sp} (h : RO lo w a n S) (hn : n ≤ 8000) : RS w a n S := by
  refine ⟨hn, ?_⟩
  rcases h with h | ⟨go, cs, e, hlo, hb, hs, h⟩
  · exact .inl h
  · exact .inr ⟨go, e, (Array.getElem?_eq_some_iff.1 hb).1, fun i hi j hj => (cell_of_row w go _ _ _ (0, 0) hb).trans (h i hi j hj)⟩
theorem RO.later {lo : Nat} {w w' : World} {a : Option Addr} {n : Nat} {S : Nat → Pl.Sp} (h : RO lo w a n S) (hb : Below w.heap.size w w') : RO lo w' a n S := by
  rcases h with h | ⟨go, cs, e, hlo, hk, hs, h⟩
  · exact .inl h
  · exact .inr ⟨go, cs, e, hlo, (hb.block _ (Array.getElem?_eq_some_iff.1 hk).1).trans hk, hs, h⟩
theorem RO.tr {lo l h' : Nat} {w w' : World} {a : Option Addr} {n : Nat} {S : Nat → Pl.Sp} (h : RO lo w a n S) (ht : Tr l h' w w') (hl : h' ≤ lo) : RO lo w' a n S := by
  rcases h with h | ⟨go, cs, e, hlo, hk, hs, h⟩
  · exact .inl h
  · exact .inr ⟨go, cs, e, hlo, (ht.block _ (Array.getElem?_eq_some_iff.1 hk).1 (.inr (by omega))).trans hk, hs, h⟩
theorem RO.own {lo : Nat} {w : World} {go n cap : Nat} {S : Nat → Pl.Sp} (h : w.ownsRow lo 73 3 (.slice (some ⟨go, 0, none⟩) n cap) n (Pl.spV n S)) : RO lo w (some ⟨go, 0, none⟩) n S := by
  rcases h.2 with ⟨e, _⟩ | ⟨g, c, cur, e, hlo, hb, h1, h2, h3, h4⟩
  · cases e
  · injection e with e1 e2 e3
    injection e1 with e1
    injection e1 with e1
    subst e1
    refine .inr ⟨go, cur, rfl, hlo, hb, by omega, fun i hi j hj => ?_⟩
    rw [← Pl.spV_at S hi hj, ← h4, List.getElem?_take_of_lt (by omega)]
    simp
set_option maxRecDepth 100000 in
set_option maxHeartbeats 8000000 in
theorem markSpanS_any {lo : Nat} (a : Option Addr) (n cap : Nat) (S : Nat → Pl.Sp) (w : World) (h : RO lo w a n S) (hn : n ≤ 8000) : Calls Tryz.prog 18 #[.slice a n cap, .int .i64 1] w fun e w' => e = .returned (.int .i64 (3 * (n : Int) + 1)) ∧ RO lo w' a n Pl.mkS ∧ Tr lo w.heap.size w w' := by
  have HR : Hid (RO lo w a n S) := h
  have hnm : (n : Int) ≤ 8000 := by omega
  clear h
  go_enter Tryz.func18, Tryz.ntmps18
  go_wp2_with fail
  go_loopw [1, 5] (fun kv t wr => ∃ (i : Nat), i ≤ n ∧ t = .int .i64 (i : Int) ∧ kv = .int .i64 (3 * (i : Int) + 1) ∧ Hid ((n = 0 ∨ ∃ go cs, a = some ⟨go, 0, none⟩ ∧ lo ≤ go ∧ go < w.heap.size ∧ wr.heap[go]? = some (.cells cs 73 (0, 0)) ∧ n * 3 ≤ cs.size ∧ ∀ q, q < i → ∀ j, j < 3 → cs[q * 3 + j]? = (Pl.mkS q).cells[j]?) ∧ Tr lo w.heap.size w wr ∧ wr.heap.size = w.heap.size)) (fun _ t _ => n - (intOf t).toNat)
  case atStart =>
    refine ⟨0, Nat.zero_le _, rfl, by go_num, ?_, Tr.refl _ _ _, rfl⟩
    rcases HR.out with h | ⟨go, cs, e, hlo, hb, hs, h⟩
    · exact .inl h
    · exact .inr ⟨go, cs, e, hlo, (Array.getElem?_eq_some_iff.1 hb).1, hb, hs, fun q hq => absurd hq (Nat.not_lt_zero _)⟩
  case round =>
    obtain ⟨i, hi, rfl, rfl, HS⟩ := hrel
    by_cases hlt : i < n
    rotate_left
    · have hii : ¬ ((i : Int) < (n : Int)) := by omega
      have hie : i = n := by omega
      have HE : Hid (3 * (i : Int) + 1 = 3 * (n : Int) + 1 ∧ RO lo wr a n Pl.mkS ∧ Tr lo w.heap.size w wr) := by
        subst hie
        refine ⟨rfl, ?_, HS.out.2.1⟩
        rcases HS.out.1 with h | ⟨go, cs, e, hlo, _, hb, hs, h⟩
        · exact .inl h
        · exact .inr ⟨go, cs, e, hlo, hb, hs, h⟩
      clear hie HS
      go_wp2_with fail
      go_ret
      exact ⟨by rw [← HE.out.1]; rfl, HE.out.2⟩
    have hii : (i : Int) < (n : Int) := by omega
    obtain ⟨go, cs, rfl, hlo, hgo, hb, hs, hc⟩ := HS.out.1.resolve_left (by omega)
    have HB : Hid (wr.heap[go]? = some (.cells cs 73 (0, 0)) ∧ n * 3 ≤ cs.size ∧ (∀ q, q < i → ∀ j, j < 3 → cs[q * 3 + j]? = (Pl.mkS q).cells[j]?) ∧ Tr lo w.heap.size w wr ∧ wr.heap.size = w.heap.size) := ⟨hb, hs, hc, HS.out.2⟩
    obtain ⟨v0, hv0⟩ : ∃ v, wr.cell? ⟨go, i * 3, none⟩ = some v := by rw [cell_of_row wr _ (i * 3) _ _ (0, 0) hb]; exact ⟨_, Array.getElem?_eq_getElem (by omega)⟩
    obtain ⟨v1, hv1⟩ : ∃ v, wr.cell? ⟨go, i * 3 + 1, none⟩ = some v := by rw [cell_of_row wr _ (i * 3 + 1) _ _ (0, 0) hb]; exact ⟨_, Array.getElem?_eq_getElem (by omega)⟩
    obtain ⟨v2, hv2⟩ : ∃ v, wr.cell? ⟨go, i * 3 + 2, none⟩ = some v := by rw [cell_of_row wr _ (i * 3 + 2) _ _ (0, 0) hb]; exact ⟨_, Array.getElem?_eq_getElem (by omega)⟩
    have fz : ∀ q, wr.frozen? ⟨go, q, none⟩ = false := fun q => frozen_of_row wr _ q _ _ hb
    obtain ⟨k, hk⟩ : ∃ k : Int, k = 3 * (i : Int) + 1 := ⟨_, rfl⟩
    rw [← hk]
    have hkb : 1 ≤ k ∧ k ≤ 24001 := by omega
    have hm3 : (k + 1 + 1).tmod 3 = 0 := by rw [Int.tmod_eq_emod_of_nonneg (by omega)]; omega
    have hm4 : (k + 2).tmod 3 = 0 := by rw [Int.tmod_eq_emod_of_nonneg (by omega)]; omega
    have HK : Hid (k = 3 * (i : Int) + 1) := hk
    clear hb hs hc HS hk
    go_wp2_with fail
    have HO : Hid (OnlyG go wr (((wr.setCell ⟨go, i * 3, none⟩ (.int .i64 k)).setCell ⟨go, i * 3 + 1, none⟩ (.int .i64 (k + 1))).setCell ⟨go, i * 3 + 2, none⟩ (.bool true))) := ((OnlyG.setCell wr go _ _).trans (OnlyG.setCell _ go _ _)).trans (OnlyG.setCell _ go _ _)
    refine ⟨⟨i + 1, by omega, by go_num, congrArg (Value.int .i64) (by have := HK.out; omega), .inr ⟨go, _, rfl, hlo, hgo, set3_block HB.out.1 _ _ _ _, by simp; exact HB.out.2.1, fun q hq j hj => ?_⟩, HB.out.2.2.2.1.trans (HO.out.tr hlo hgo), HO.out.size.trans HB.out.2.2.2.2⟩, by simp [intOf]; omega⟩
    have := set3_at (S := Pl.mkS) (fr := k) (tt := k + 1) (b := true) (by have := HB.out.2.1; omega) HB.out.2.2.1 hq hj
    rw [this]
    by_cases e : q = i
    · subst e; rw [if_pos rfl, HK.out]; unfold Pl.mkS; rw [show 3 * (q : Int) + 1 + 1 = 3 * (q : Int) + 2 by omega]
    · rw [if_neg e]
set_option maxRecDepth 100000 in
set_option maxHeartbeats 8000000 in
theorem heldSpanS_any {lo : Nat} (a : Option Addr) (n cap : Nat) (w : World) (h : RO lo w a n Pl.mkS) (hn : n ≤ 8000) : Calls Tryz.prog 19 #[.slice a n cap, .int .i64 1] w fun e w' => e = .returned (.int .i64 (3 * (n : Int) + 1)) ∧ Below w.heap.size w w' := by
  have HR : Hid (RS w a n Pl.mkS) := h.rs hn
  have hnm : (n : Int) ≤ 8000 := by omega
  clear h
  go_enter Tryz.func19, Tryz.ntmps19
  go_wp2_with fail
  go_loopw [1, 5] (fun kv t wr => ∃ (i : Nat), i ≤ n ∧ t = .int .i64 (i : Int) ∧ kv = .int .i64 (3 * (i : Int) + 1) ∧ wr = w) (fun _ t _ => n - (intOf t).toNat)
  case atStart => exact ⟨0, Nat.zero_le _, rfl, by go_num, rfl⟩
  case round =>
    obtain ⟨i, hi, rfl, rfl, rfl⟩ := hrel
    by_cases hlt : i < n
    rotate_left
    · have hii : ¬ ((i : Int) < (n : Int)) := by omega
      have HE : Hid (3 * (i : Int) + 1 = 3 * (n : Int) + 1) := by show _ = _; omega
      go_wp2_with fail
      go_ret
      exact ⟨by rw [← HE.out]; rfl, Below.refl _ _⟩
    have hii : (i : Int) < (n : Int) := by omega
    obtain ⟨g, rfl, hg, hA⟩ := HR.out.2.resolve_left (by omega)
    obtain ⟨k, hk⟩ : ∃ k : Int, k = 3 * (i : Int) + 1 := ⟨_, rfl⟩
    have hkb : 1 ≤ k ∧ k ≤ 24001 := by omega
    have c0 : wr.cell? ⟨g, i * 3, none⟩ = some (.int .i64 k) := by have := hA i hlt 0 (by omega); rw [hk]; exact this
    have c1 : wr.cell? ⟨g, i * 3 + 1, none⟩ = some (.int .i64 (k + 1)) := by have := hA i hlt 1 (by omega); rw [hk, show 3 * (i : Int) + 1 + 1 = 3 * (i : Int) + 2 by omega]; exact this
    have c2 : wr.cell? ⟨g, i * 3 + 2, none⟩ = some (.bool true) := hA i hlt 2 (by omega)
    rw [← hk]
    have h1 : (k != k) = false := by simp
    have h2 : (k + 1 != k + 1) = false := by simp
    have hm3 : (k + 1 + 1).tmod 3 = 0 := by rw [Int.tmod_eq_emod_of_nonneg (by omega)]; omega
    have hm4 : (k + 2).tmod 3 = 0 := by rw [Int.tmod_eq_emod_of_nonneg (by omega)]; omega
    have HK : Hid (k = 3 * (i : Int) + 1) := hk
    clear hA hk
    go_wp2_with fail
    exact ⟨⟨i + 1, by omega, by go_num, congrArg (Value.int .i64) (by have := HK.out; omega), trivial⟩, by simp [intOf]; omega⟩
end Go.Proofs.YtcgfgmlfbgbkfaaGreatDoor.W
