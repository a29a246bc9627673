import Derived.Test.YtcgfgmlfbgbkfaaGreatDoorL22
set_option linter.unusedVariables false
set_option linter.unusedSimpArgs false
namespace Go.Proofs.YtcgfgmlfbgbkfaaGreatDoor.Pl
/-- the least and the greatest of those below k that are P -/
def Bd (P : Nat → Prop) (k : Nat) (fr tt : Int) : Prop := (tt = -1 ∧ fr = 0 ∧ ∀ i, i < k → ¬ P i) ∨ ∃ a b : Nat, fr = (a : Int) ∧ tt = (b : Int) ∧ a < k ∧ b < k ∧ P a ∧ P b ∧ ∀ i, i < k → P i → a ≤ i ∧ i ≤ b
theorem Bd.nil (P : Nat → Prop) : Bd P 0 0 (-1) := .inl ⟨rfl, rfl, fun i hi => absurd hi (Nat.not_lt_zero _)⟩
theorem Bd.no {P : Nat → Prop} {k : Nat} {fr tt : Int} (h : Bd P k fr tt) (hn : ¬ P k) : Bd P (k + 1) fr tt := by
  rcases h with ⟨h1, h2, h3⟩ | ⟨a, b, h1, h2, h3, h4, h5, h6, h7⟩
  · exact .inl ⟨h1, h2, fun i hi q => if e : i = k then hn (e ▸ q) else h3 i (by omega) q⟩
  · exact .inr ⟨a, b, h1, h2, by omega, by omega, h5, h6, fun i hi q => if e : i = k then absurd (e ▸ q) hn else h7 i (by omega) q⟩
theorem Bd.first {P : Nat → Prop} {k : Nat} {fr tt : Int} (h : Bd P k fr tt) (hp : P k) (ht : tt < 0) : Bd P (k + 1) (k : Int) (k : Int) := by
  rcases h with ⟨h1, h2, h3⟩ | ⟨a, b, h1, h2, h3, h4, h5, h6, h7⟩
  · exact .inr ⟨k, k, rfl, rfl, by omega, by omega, hp, hp, fun i hi q => if e : i = k then by omega else absurd q (h3 i (by omega))⟩
  · omega
theorem Bd.more {P : Nat → Prop} {k : Nat} {fr tt : Int} (h : Bd P k fr tt) (hp : P k) (ht : ¬ tt < 0) : Bd P (k + 1) fr (k : Int) := by
  rcases h with ⟨h1, h2, h3⟩ | ⟨a, b, h1, h2, h3, h4, h5, h6, h7⟩
  · omega
  · exact .inr ⟨a, k, h1, rfl, by omega, by omega, h5, hp, fun i hi q => if e : i = k then by omega else by have := h7 i (by omega) q; omega⟩
theorem Bd.bound {P : Nat → Prop} {k : Nat} {fr tt : Int} (h : Bd P k fr tt) : 0 ≤ fr ∧ fr ≤ k ∧ -1 ≤ tt ∧ tt < k ∧ (tt = -1 → fr = 0) ∧ (tt ≠ -1 → 0 ≤ tt) := by
  rcases h with ⟨h1, h2, h3⟩ | ⟨a, b, h1, h2, h3, h4, h5, h6, h7⟩ <;> omega
theorem Bd.fn {P : Nat → Prop} {k : Nat} {fr tt fr' tt' : Int} (h : Bd P k fr tt) (h' : Bd P k fr' tt') : fr = fr' ∧ tt = tt' := by
  rcases h with ⟨h1, h2, h3⟩ | ⟨a, b, h1, h2, h3, h4, h5, h6, h7⟩ <;> rcases h' with ⟨g1, g2, g3⟩ | ⟨c, d, g1, g2, g3, g4, g5, g6, g7⟩
  · omega
  · exact absurd g5 (h3 c g3)
  · exact absurd h5 (g3 a h3)
  · have q1 := h7 c g3 g5; have q2 := h7 d g4 g6; have q3 := g7 a h3 h5; have q4 := g7 b h4 h6; omega
/-- a register stands at a step -/
def Sd (code : List IrI) (r : Int) (i : Nat) : Prop := Live code r i ∨ Se code i r
/-- a step is a call -/
def isCall (code : List IrI) (i : Nat) : Prop := (code.getD i IrI.zero).op = 9 ∨ (code.getD i IrI.zero).op = 10
/-- a call lies strictly between, below k -/
def Crs (code : List IrI) (fr : Int) (k : Int) (cr : Bool) : Prop := cr = true ↔ ∃ i : Nat, fr < (i : Int) ∧ (i : Int) < k ∧ isCall code i
theorem Crs.yes {code : List IrI} {fr : Int} {k : Nat} (h : fr < (k : Int)) (hc : isCall code k) : Crs code fr ((k : Int) + 1) true := ⟨fun _ => ⟨k, h, by omega, hc⟩, fun _ => rfl⟩
theorem Crs.no {code : List IrI} {fr : Int} {k : Nat} {cr : Bool} (h : Crs code fr (k : Int) cr) (hc : ¬ isCall code k) : Crs code fr ((k : Int) + 1) cr := by
  unfold Crs at *
  rw [h]
  constructor
  · rintro ⟨i, h1, h2, h3⟩; exact ⟨i, h1, by omega, h3⟩
  · rintro ⟨i, h1, h2, h3⟩; exact ⟨i, h1, if e : i = k then absurd (e ▸ h3) hc else by omega, h3⟩
theorem Crs.end_ {code : List IrI} {fr j tt : Int} {cr : Bool} (h : Crs code fr j cr) (he : j = tt ∨ (j ≤ fr + 1 ∧ tt ≤ fr + 1)) : Crs code fr tt cr := by
  unfold Crs at *
  rw [h]
  constructor
  · rintro ⟨i, h1, h2, h3⟩; exact ⟨i, h1, by omega, h3⟩
  · rintro ⟨i, h1, h2, h3⟩; exact ⟨i, h1, by omega, h3⟩
structure Sp where
  fr : Int
  tt : Int
  cr : Bool
open Classical in
/-- the span of a register -/
def SpanIs (f : IrF) (r : Nat) (s : Sp) : Prop := ∃ fr0, Bd (Sd f.code (r : Int)) f.code.length fr0 s.tt ∧ s.fr = (if (r : Int) < f.params ∧ Live f.code (r : Int) 0 then -1 else fr0) ∧ Crs f.code s.fr s.tt s.cr
theorem SpanIs.fn {f : IrF} {r : Nat} {s s' : Sp} (h : SpanIs f r s) (h' : SpanIs f r s') : s = s' := by
  obtain ⟨a, h1, h2, h3⟩ := h
  obtain ⟨b, g1, g2, g3⟩ := h'
  obtain ⟨e1, e2⟩ := h1.fn g1
  subst e1
  obtain ⟨fr, tt, cr⟩ := s
  obtain ⟨fr', tt', cr'⟩ := s'
  simp only at e2 h2 g2 h3 g3
  subst e2
  have e3 : fr = fr' := h2.trans g2.symm
  subst e3
  have e4 : cr = cr' := by rw [Bool.eq_iff_iff]; exact h3.trans g3.symm
  rw [e4]
def Sp.cells (s : Sp) : List Value := [.int .i64 s.fr, .int .i64 s.tt, .bool s.cr]
def spV (n : Nat) (S : Nat → Sp) : List Value := (List.range n).flatMap fun r => (S r).cells
theorem spV_len (n : Nat) (S : Nat → Sp) : (spV n S).length = n * 3 := by
  unfold spV
  induction n with
  | zero => rfl
  | succ n ih => rw [List.range_succ, List.flatMap_append, List.length_append, ih]; simp [Sp.cells]; omega
theorem spV_succ (n : Nat) (S : Nat → Sp) (s : Sp) (h : S n = s) : spV (n + 1) S = spV n S ++ s.cells := by
  unfold spV
  rw [List.range_succ, List.flatMap_append]
  simp [h]
theorem spV_congr {n : Nat} {S S' : Nat → Sp} (h : ∀ r, r < n → S r = S' r) : spV n S = spV n S' := by
  induction n with
  | zero => rfl
  | succ n ih => rw [spV_succ n S _ rfl, spV_succ n S' _ rfl, ih (fun r hr => h r (by omega)), h n (by omega)]
theorem spV_at {n r j : Nat} (S : Nat → Sp) (hr : r < n) (hj : j < 3) : (spV n S)[r * 3 + j]? = (S r).cells[j]? := by
  induction n with
  | zero => omega
  | succ n ih =>
    rw [spV_succ n S _ rfl]
    by_cases e : r = n
    · subst e
      rw [List.getElem?_append_right (by rw [spV_len]; omega), spV_len]
      congr 1; omega
    · rw [List.getElem?_append_left (by rw [spV_len]; omega)]
      exact ih (by omega)
end Go.Proofs.YtcgfgmlfbgbkfaaGreatDoor.Pl
