import Derived.Test.YtfcfnbncgadomaaOpen2
import Derived.Test.YtfcfnbncgadomaaOpen3
import Derived.Test.YtfcfnbncgadomaaTrA
import Derived.Deep.Slices
import Derived.Lib.LaidTab
set_option linter.unusedVariables false
namespace Go.Proofs.Ytfcfnbncgadomaa.Kit
open Go Go.ChangeShapes Go.WideShapes Go.ChangeAt Go.RowKit
section
variable {H : Type} {enc : TypeId × Value → H} {w : World} {base : Nat} {spare : Nat → Bool} {held : Bool}
set_option maxRecDepth 100000 in
set_option maxHeartbeats 1000000 in
theorem node_cells {fuel : Nat} {cs : List Value} {x : DataW H × List MemPlace} (hf : DataW.trod enc Try.prog w base spare held fuel 92 cs = some x) : ∃ (l : Pl.Nd) (v : W.SV), cs = (l.cells v).toList ∧ l.s.size ≤ maxLen ∧ W.Row .i64 0 w v.a v.len v.cap l.kids := by
  have hC : Try.prog.cellsOf 92 = 7 := by kernel_rfl
  have hsz : cs.length = 7 := by
    obtain ⟨xs, n, _, _, hl, _⟩ := DataW.trod_struct Try.underlying92 hf
    exact hl.trans hC
  obtain ⟨c0, c1, c2, c3, c4, c5, c6, rfl⟩ : ∃ c0 c1 c2 c3 c4 c5 c6, cs = [c0, c1, c2, c3, c4, c5, c6] := by
    match cs, hsz with
    | [c0, c1, c2, c3, c4, c5, c6], _ => exact ⟨c0, c1, c2, c3, c4, c5, c6, rfl⟩
  clear hsz hC
  have h3 : Try.prog.cellsOf 3 = 1 := by kernel_rfl
  have h9 : Try.prog.cellsOf 9 = 1 := by kernel_rfl
  have hI : Try.prog.cellsOf 23 = 1 := by kernel_rfl
  obtain ⟨x0, rfl, w0⟩ := field_int Try.underlying92 hf 0 _ rfl rfl (k := .i64) Try.underlying3 h3 c0 rfl
  obtain ⟨x1, rfl, w1⟩ := field_int Try.underlying92 hf 1 _ rfl rfl (k := .i64) Try.underlying3 h3 c1 rfl
  obtain ⟨x2, rfl, w2⟩ := field_int Try.underlying92 hf 2 _ rfl rfl (k := .i64) Try.underlying3 h3 c2 rfl
  obtain ⟨n3, y3, g3⟩ := field_cells Try.underlying92 hf 3 _ 3 1 rfl rfl h9
  have g3' : DataW.trod enc Try.prog w base spare held n3 9 [c3] = some y3 := g3
  obtain ⟨s, e3, _, hs⟩ := DataW.trod_string Try.underlying9 g3'
  obtain rfl : c3 = .string s := by simpa using e3
  obtain ⟨a4, l4, k4, z4, rfl, r4⟩ := field_slice Try.underlying92 hf 4 _ 4 rfl rfl Try.underlying23 Try.underlying3 h3 hI c4 rfl
  obtain ⟨x5, rfl, w5⟩ := field_int Try.underlying92 hf 5 _ rfl rfl (k := .i64) Try.underlying3 h3 c5 rfl
  obtain ⟨x6, rfl, w6⟩ := field_int Try.underlying92 hf 6 _ rfl rfl (k := .i64) Try.underlying3 h3 c6 rfl
  exact ⟨⟨x0, x1, x2, s, z4, x5, x6⟩, ⟨a4, l4, k4⟩, rfl, hs, r4⟩
set_option maxRecDepth 100000 in
theorem nodes_row {fuel : Nat} {c : Value} {x : DataW H × List MemPlace} (hf : DataW.trod enc Try.prog w base spare held fuel 36 [c] = some x) :
    ∃ (a : Option Addr) (len cap : Nat) (xs : List Pl.Nd), c = .slice a len cap ∧ W.NRow 0 w a len cap xs := by
  have hC : Try.prog.cellsOf 92 = 7 := by kernel_rfl
  rcases Deep.open_slice Try.underlying36 hf with ⟨h0, _⟩ | ⟨a', len, cap, m, n, D, Q, h0, hb, hl, hm, hmm, _, hx⟩
  · have hc0 : c = .slice none 0 0 := by simpa using h0
    exact ⟨none, 0, 0, [], hc0, ⟨rfl, fun x hx => nomatch hx⟩, Nat.le_refl _, Nat.zero_le _, .inl rfl⟩
  · have hc0 : c = .slice (some a') len cap := by simpa using h0
    have hlm : len ≤ m := by rw [hmm]; split <;> omega
    rw [hC] at hx
    have key : ∀ i, i < len → ∃ (l : Pl.Nd) (v : W.SV), (∀ j, j < 7 → w.cell? (a'.add (i * 7 + j)) = (l.cells v)[j]?) ∧ l.s.size ≤ maxLen ∧ W.Row .i64 0 w v.a v.len v.cap l.kids := by
      intro i hi
      obtain ⟨cs', h1, h2⟩ := hx i (by omega)
      obtain ⟨l, v, rfl, hs, hr⟩ := node_cells h2
      refine ⟨l, v, fun j hj => ?_, hs, hr⟩
      unfold World.cells? at h1
      split at h1
      · obtain ⟨v', e1, e2⟩ := Lib.mapM_at h1 j j (by simp [hj])
        rw [Deep.add_add] at e2
        rw [e2, ← e1, Array.getElem?_toList]
      · cases h1
    obtain ⟨X, hX⟩ : ∃ X : Nat → Pl.Nd, ∀ i, i < len → ∃ v : W.SV, (∀ j, j < 7 → w.cell? (a'.add (i * 7 + j)) = ((X i).cells v)[j]?) ∧ (X i).s.size ≤ maxLen ∧ W.Row .i64 0 w v.a v.len v.cap (X i).kids :=
      ⟨fun i => if h : i < len then Classical.choose (key i h) else Pl.Nd.zero, fun i h => by simp only [dif_pos h]; exact Classical.choose_spec (key i h)⟩
    refine ⟨some a', len, cap, (List.range len).map X, hc0, ⟨by simp, fun x hx => ?_⟩, hl, hm, ?_⟩
    · obtain ⟨i, hi, rfl⟩ := List.mem_map.1 hx
      obtain ⟨v, _, h2, _⟩ := hX i (List.mem_range.1 hi)
      exact h2
    · by_cases h0 : len = 0
      · exact .inl h0
      · obtain ⟨b, off, spot⟩ := a'
        obtain ⟨v0, hv0, _, _⟩ := hX 0 (by omega)
        have hc0 := hv0 0 (by decide)
        have hspot : spot = none := by
          have : w.cell? ⟨b, off, spot⟩ = some (.int .i64 (X 0).k) := by
            have e : (⟨b, off, spot⟩ : Addr).add (0 * 7 + 0) = ⟨b, off, spot⟩ := by simp [Addr.add]
            rw [e] at hc0
            exact hc0
          exact World.cell?_spot this
        subst hspot
        have hadd : ∀ q, (⟨b, off, none⟩ : Addr).add q = ⟨b, off + q, none⟩ := fun q => by unfold Addr.add; split <;> simp_all
        refine .inr ⟨b, off, rfl, Nat.zero_le _, ?_, fun i hi => ?_⟩
        · rw [hadd] at hc0
          exact block_lt_of_cell hc0
        · obtain ⟨v, h1, _, h3⟩ := hX i hi
          have e : ((List.range len).map X).getD i Pl.Nd.zero = X i := by
            rw [List.getD_eq_getElem?_getD, List.getElem?_map, List.getElem?_range hi]
            rfl
          rw [e]
          refine ⟨v, fun j hj => ?_, h3⟩
          have := h1 j hj
          rw [hadd, ← Nat.add_assoc] at this
          exact this
set_option maxRecDepth 100000 in
theorem open_tree {r : Reach} {b0 : Nat} {val : Value} {d : DataW H} {p : List MemPlace} (hv : Value.okWide Try.prog w r b0 38 val) (h : DataW.Trod enc Try.prog w base spare held 38 val d p) :
    ∃ (a : Option Addr) (len cap : Nat) (xs : List Pl.Nd), val = .agg #[.slice a len cap] ∧ W.NRow 0 w a len cap xs := by
  obtain ⟨cs, rfl, hsz⟩ := okWide_struct Try.underlying38 hv
  have hC : Try.prog.cellsOf 38 = 1 := by kernel_rfl
  obtain ⟨c0, rfl⟩ : ∃ c0, cs = #[c0] := by
    have h1 := hsz.trans hC
    obtain ⟨l⟩ := cs
    match l, h1 with
    | [c0], _ => exact ⟨c0, rfl⟩
  have hN : Try.prog.cellsOf 36 = 1 := by kernel_rfl
  obtain ⟨fuel, hf⟩ := h
  have hf' : DataW.trod enc Try.prog w base spare held fuel 38 [c0] = some (d, p) := by simpa [Value.cells] using hf
  obtain ⟨n0, y0, g0⟩ := field_cells Try.underlying38 hf' 0 _ 0 1 rfl rfl hN
  have g0' : DataW.trod enc Try.prog w base spare held n0 36 [c0] = some y0 := g0
  obtain ⟨a, len, cap, xs, rfl, hr⟩ := nodes_row g0'
  exact ⟨a, len, cap, xs, rfl, hr⟩
end
end Go.Proofs.Ytfcfnbncgadomaa.Kit
