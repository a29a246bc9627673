import Derived.WalkKit
import Derived.ProofKit
import Derived.OpenShut
import Derived.Below
import Derived.Test.YtgpmplcamdophaaDoorChecked
import Derived.ShutString
import Derived.ChangeMaps5
import Derived.Test.YtgpmplcamdophaaDoorLsA
import Derived.Deep.Slices
import Derived.Lib.LaidTab
set_option linter.unusedVariables false
namespace Go.Proofs.YtgpmplcamdophaaDoor.Kit
open Go Go.ChangeShapes Go.WideShapes Go.ChangeAt Go.RowKit
theorem array5 {α : Type} {cs : Array α} (h : cs.size = 5) : ∃ c0 c1 c2 c3 c4, cs = #[c0, c1, c2, c3, c4] := by
  obtain ⟨l⟩ := cs
  match l, h with
  | [c0, c1, c2, c3, c4], _ => exact ⟨c0, c1, c2, c3, c4, rfl⟩
section
variable {P : Program} {H : Type} {enc : TypeId × Value → H} {w : World} {base : Nat} {spare : Nat → Bool} {held : Bool}
/-- one field of a struct that is read: an integer's cell -/
theorem field_int {t : TypeId} {fs : Array Field} {fuel : Nat} {cs : List Value} {x : DataW H × List MemPlace} (hs : P.underlying t = some (.struct fs)) (hf : DataW.trod enc P w base spare held fuel t cs = some x)
    (i : Nat) (f : Field) (hfi : fs[i]? = some f) (ho : f.offset = i) {k : IntKind} (ht : P.underlying f.type = some (.int k)) (hc : P.cellsOf f.type = 1) (c : Value) (hcell : cs[i]? = some c) :
    ∃ n, c = .int k n ∧ (Lit.int k n).wf = true := by
  obtain ⟨xs, n, _, _, _, hlen, hF⟩ := DataW.trod_struct hs hf
  have h := hF i f hfi
  have hi : i < fs.size := (Array.getElem?_eq_some_iff.1 hfi).1
  have hx : xs[i]? = some (xs[i]'(by omega)) := List.getElem?_eq_getElem _
  rw [ho, hc, hx] at h
  have ht1 : (cs.drop i).take 1 = [c] := by
    have hi' : i < cs.length := (List.getElem?_eq_some_iff.1 hcell).1
    have hv : cs[i] = c := (List.getElem?_eq_some_iff.1 hcell).2
    rw [List.drop_eq_getElem_cons hi']; simp [hv]
  rw [ht1] at h
  obtain ⟨m, e, _, wf⟩ := DataW.trod_int ht h
  exact ⟨m, by simpa using e, wf⟩
/-- a struct of five integers, by value, opened -/
theorem open_ints5 {r : Reach} {b0 : Nat} {t : TypeId} {f0 f1 f2 f3 f4 : Field} {v : Value} {d : DataW H} {p : List MemPlace} {k : IntKind} (hs : P.underlying t = some (.struct #[f0, f1, f2, f3, f4])) (hC : P.cellsOf t = 5)
    (ho : f0.offset = 0 ∧ f1.offset = 1 ∧ f2.offset = 2 ∧ f3.offset = 3 ∧ f4.offset = 4) (n : TypeId) (hty : f0.type = n ∧ f1.type = n ∧ f2.type = n ∧ f3.type = n ∧ f4.type = n) (hu : P.underlying n = some (.int k)) (hc : P.cellsOf n = 1)
    (hv : Value.okWide P w r b0 t v) (h : DataW.Trod enc P w base spare held t v d p) :
    ∃ x0 x1 x2 x3 x4 : Int, v = .agg #[.int k x0, .int k x1, .int k x2, .int k x3, .int k x4] ∧ (Lit.int k x0).wf = true ∧ (Lit.int k x1).wf = true ∧ (Lit.int k x2).wf = true ∧ (Lit.int k x3).wf = true ∧ (Lit.int k x4).wf = true := by
  obtain ⟨cs, rfl, hsz⟩ := okWide_struct hs hv
  obtain ⟨c0, c1, c2, c3, c4, rfl⟩ := array5 (hsz.trans hC)
  obtain ⟨fuel, hf⟩ := h
  have hf' : DataW.trod enc P w base spare held fuel t [c0, c1, c2, c3, c4] = some (d, p) := by simpa [Value.cells] using hf
  obtain ⟨o0, o1, o2, o3, o4⟩ := ho
  obtain ⟨t0, t1, t2, t3, t4⟩ := hty
  obtain ⟨x0, rfl, w0⟩ := field_int hs hf' 0 f0 rfl o0 (k := k) (by rw [t0]; exact hu) (by rw [t0]; exact hc) c0 rfl
  obtain ⟨x1, rfl, w1⟩ := field_int hs hf' 1 f1 rfl o1 (k := k) (by rw [t1]; exact hu) (by rw [t1]; exact hc) c1 rfl
  obtain ⟨x2, rfl, w2⟩ := field_int hs hf' 2 f2 rfl o2 (k := k) (by rw [t2]; exact hu) (by rw [t2]; exact hc) c2 rfl
  obtain ⟨x3, rfl, w3⟩ := field_int hs hf' 3 f3 rfl o3 (k := k) (by rw [t3]; exact hu) (by rw [t3]; exact hc) c3 rfl
  obtain ⟨x4, rfl, w4⟩ := field_int hs hf' 4 f4 rfl o4 (k := k) (by rw [t4]; exact hu) (by rw [t4]; exact hc) c4 rfl
  exact ⟨x0, x1, x2, x3, x4, rfl, w0, w1, w2, w3, w4⟩
end
end Go.Proofs.YtgpmplcamdophaaDoor.Kit
namespace Go.Proofs.YtgpmplcamdophaaDoor.Kit
open Go Go.ChangeShapes Go.WideShapes Go.ChangeAt Go.RowKit
section
variable {P : Program} {H : Type} {enc : TypeId × Value → H} {w : World} {base : Nat} {spare : Nat → Bool} {held : Bool}
/-- one field of a struct that is read: its cells -/
theorem field_cells {t : TypeId} {fs : Array Field} {fuel : Nat} {cs : List Value} {x : DataW H × List MemPlace} (hs : P.underlying t = some (.struct fs)) (hf : DataW.trod enc P w base spare held fuel t cs = some x)
    (i : Nat) (f : Field) (o c : Nat) (hfi : fs[i]? = some f) (ho : f.offset = o) (hc : P.cellsOf f.type = c) :
    ∃ n x', DataW.trod enc P w base spare held n f.type ((cs.drop o).take c) = some x' := by
  obtain ⟨xs, n, _, _, _, hlen, hF⟩ := DataW.trod_struct hs hf
  have h := hF i f hfi
  have hi : i < fs.size := (Array.getElem?_eq_some_iff.1 hfi).1
  have hx : xs[i]? = some (xs[i]'(by omega)) := List.getElem?_eq_getElem _
  rw [ho, hc, hx] at h
  exact ⟨_, _, h⟩
end
theorem array8 {α : Type} {cs : Array α} (h : cs.size = 8) : ∃ c0 c1 c2 c3 c4 c5 c6 c7, cs = #[c0, c1, c2, c3, c4, c5, c6, c7] := by
  obtain ⟨l⟩ := cs
  match l, h with
  | [c0, c1, c2, c3, c4, c5, c6, c7], _ => exact ⟨c0, c1, c2, c3, c4, c5, c6, c7, rfl⟩
section
variable {H : Type} {enc : TypeId × Value → H} {w : World} {base : Nat} {spare : Nat → Bool} {held : Bool}
set_option maxRecDepth 100000 in
set_option maxHeartbeats 1000000 in
theorem open_line {r : Reach} {b0 : Nat} {val : Value} {d : DataW H} {p : List MemPlace} (hv : Value.okWide Tryd.prog w r b0 42 val) (h : DataW.Trod enc Tryd.prog w base spare held 42 val d p) :
    ∃ (k op rd r1 r2 im n : Int) (s : ByteArray), val = .agg #[.int .i64 k, .int .i64 op, .int .i64 rd, .int .i64 r1, .int .i64 r2, .int .i64 im, .string s, .int .i64 n] := by
  obtain ⟨cs, rfl, hsz⟩ := okWide_struct Tryd.underlying42 hv
  have hC : Tryd.prog.cellsOf 42 = 8 := by kernel_rfl
  obtain ⟨c0, c1, c2, c3, c4, c5, c6, c7, rfl⟩ := array8 (hsz.trans hC)
  clear hsz hC
  have h3 : Tryd.prog.cellsOf 3 = 1 := by kernel_rfl
  have h5 : Tryd.prog.cellsOf 40 = 5 := by kernel_rfl
  have h9 : Tryd.prog.cellsOf 9 = 1 := by kernel_rfl
  obtain ⟨fuel, hf⟩ := h
  have hf' : DataW.trod enc Tryd.prog w base spare held fuel 42 [c0, c1, c2, c3, c4, c5, c6, c7] = some (d, p) := by simpa [Value.cells] using hf
  obtain ⟨x0, rfl, w0⟩ := field_int Tryd.underlying42 hf' 0 _ rfl rfl (k := .i64) Tryd.underlying3 h3 c0 rfl
  obtain ⟨n1, y1, g1⟩ := field_cells Tryd.underlying42 hf' 1 _ 1 5 rfl rfl h5
  obtain ⟨n2, y2, g2⟩ := field_cells Tryd.underlying42 hf' 2 _ 6 1 rfl rfl h9
  obtain ⟨n3, y3, g3⟩ := field_cells Tryd.underlying42 hf' 3 _ 7 1 rfl rfl h3
  have g1' : DataW.trod enc Tryd.prog w base spare held n1 40 [c1, c2, c3, c4, c5] = some y1 := g1
  have g2' : DataW.trod enc Tryd.prog w base spare held n2 9 [c6] = some y2 := g2
  have g3' : DataW.trod enc Tryd.prog w base spare held n3 3 [c7] = some y3 := g3
  obtain ⟨x1, rfl, _⟩ := field_int Tryd.underlying40 g1' 0 _ rfl rfl (k := .i64) Tryd.underlying3 h3 c1 rfl
  obtain ⟨x2, rfl, _⟩ := field_int Tryd.underlying40 g1' 1 _ rfl rfl (k := .i64) Tryd.underlying3 h3 c2 rfl
  obtain ⟨x3, rfl, _⟩ := field_int Tryd.underlying40 g1' 2 _ rfl rfl (k := .i64) Tryd.underlying3 h3 c3 rfl
  obtain ⟨x4, rfl, _⟩ := field_int Tryd.underlying40 g1' 3 _ rfl rfl (k := .i64) Tryd.underlying3 h3 c4 rfl
  obtain ⟨x5, rfl, _⟩ := field_int Tryd.underlying40 g1' 4 _ rfl rfl (k := .i64) Tryd.underlying3 h3 c5 rfl
  obtain ⟨x7, e7, _, _⟩ := DataW.trod_int Tryd.underlying3 g3'
  obtain rfl : c7 = .int .i64 x7 := by simpa using e7
  obtain ⟨s, e6, _, _⟩ := DataW.trod_string Tryd.underlying9 g2'
  obtain rfl : c6 = .string s := by simpa using e6
  exact ⟨x0, x1, x2, x3, x4, x5, x7, s, rfl⟩
end
end Go.Proofs.YtgpmplcamdophaaDoor.Kit
namespace Go.Proofs.YtgpmplcamdophaaDoor.Kit
open Go Go.ChangeShapes Go.WideShapes Go.ChangeAt Go.RowKit
section
variable {H : Type} {enc : TypeId × Value → H} {w : World} {base : Nat} {spare : Nat → Bool} {held : Bool}
set_option maxRecDepth 100000 in
set_option maxHeartbeats 1000000 in
theorem line_cells {fuel : Nat} {cs : List Value} {x : DataW H × List MemPlace} (hf : DataW.trod enc Tryd.prog w base spare held fuel 42 cs = some x) : ∃ l : Pl.Ln, cs = l.cells.toList ∧ l.s.size ≤ maxLen := by
  have hC : Tryd.prog.cellsOf 42 = 8 := by kernel_rfl
  have hsz : cs.length = 8 := by
    obtain ⟨xs, n, _, _, hl, _⟩ := DataW.trod_struct Tryd.underlying42 hf
    exact hl.trans hC
  obtain ⟨c0, c1, c2, c3, c4, c5, c6, c7, rfl⟩ : ∃ c0 c1 c2 c3 c4 c5 c6 c7, cs = [c0, c1, c2, c3, c4, c5, c6, c7] := by
    match cs, hsz with
    | [c0, c1, c2, c3, c4, c5, c6, c7], _ => exact ⟨c0, c1, c2, c3, c4, c5, c6, c7, rfl⟩
  clear hsz hC
  have h3 : Tryd.prog.cellsOf 3 = 1 := by kernel_rfl
  have h5 : Tryd.prog.cellsOf 40 = 5 := by kernel_rfl
  have h9 : Tryd.prog.cellsOf 9 = 1 := by kernel_rfl
  obtain ⟨x0, rfl, w0⟩ := field_int Tryd.underlying42 hf 0 _ rfl rfl (k := .i64) Tryd.underlying3 h3 c0 rfl
  obtain ⟨n1, y1, g1⟩ := field_cells Tryd.underlying42 hf 1 _ 1 5 rfl rfl h5
  obtain ⟨n2, y2, g2⟩ := field_cells Tryd.underlying42 hf 2 _ 6 1 rfl rfl h9
  obtain ⟨n3, y3, g3⟩ := field_cells Tryd.underlying42 hf 3 _ 7 1 rfl rfl h3
  have g1' : DataW.trod enc Tryd.prog w base spare held n1 40 [c1, c2, c3, c4, c5] = some y1 := g1
  have g2' : DataW.trod enc Tryd.prog w base spare held n2 9 [c6] = some y2 := g2
  have g3' : DataW.trod enc Tryd.prog w base spare held n3 3 [c7] = some y3 := g3
  obtain ⟨x1, rfl, _⟩ := field_int Tryd.underlying40 g1' 0 _ rfl rfl (k := .i64) Tryd.underlying3 h3 c1 rfl
  obtain ⟨x2, rfl, _⟩ := field_int Tryd.underlying40 g1' 1 _ rfl rfl (k := .i64) Tryd.underlying3 h3 c2 rfl
  obtain ⟨x3, rfl, _⟩ := field_int Tryd.underlying40 g1' 2 _ rfl rfl (k := .i64) Tryd.underlying3 h3 c3 rfl
  obtain ⟨x4, rfl, _⟩ := field_int Tryd.underlying40 g1' 3 _ rfl rfl (k := .i64) Tryd.underlying3 h3 c4 rfl
  obtain ⟨x5, rfl, _⟩ := field_int Tryd.underlying40 g1' 4 _ rfl rfl (k := .i64) Tryd.underlying3 h3 c5 rfl
  obtain ⟨x7, e7, _, _⟩ := DataW.trod_int Tryd.underlying3 g3'
  obtain rfl : c7 = .int .i64 x7 := by simpa using e7
  obtain ⟨s, e6, _, hs⟩ := DataW.trod_string Tryd.underlying9 g2'
  obtain rfl : c6 = .string s := by simpa using e6
  exact ⟨⟨x0, x1, x2, x3, x4, x5, s, x7⟩, rfl, hs⟩
set_option maxRecDepth 100000 in
theorem open_lines {r : Reach} {b0 : Nat} {val : Value} {d : DataW H} {p : List MemPlace} (hv : Value.okWide Tryd.prog w r b0 24 val) (h : DataW.Trod enc Tryd.prog w base spare held 24 val d p) :
    ∃ (a : Option Addr) (len cap : Nat) (xs : List Pl.Ln), val = .slice a len cap ∧ W.LRow 0 w a len cap xs := by
  obtain ⟨a, len, cap, rfl⟩ := okWide_slice Tryd.underlying24 hv
  have hC : Tryd.prog.cellsOf 42 = 8 := by kernel_rfl
  obtain ⟨fuel, hf⟩ := h
  have hf' : DataW.trod enc Tryd.prog w base spare held fuel 24 [.slice a len cap] = some (d, p) := by simpa [Value.cells] using hf
  rcases Deep.open_slice Tryd.underlying24 hf' with ⟨h0, _⟩ | ⟨a', len', cap', m, n, D, Q, h0, hb, hl, hm, hmm, _, hx⟩
  · simp at h0
    obtain ⟨rfl, rfl, rfl⟩ := h0
    exact ⟨none, 0, 0, [], rfl, ⟨rfl, fun x hx => nomatch hx⟩, Nat.le_refl _, Nat.zero_le _, .inl rfl⟩
  · simp at h0
    obtain ⟨rfl, rfl, rfl⟩ := h0
    have hlm : len ≤ m := by rw [hmm]; split <;> omega
    rw [hC] at hx
    have key : ∀ i, i < len → ∃ l : Pl.Ln, (∀ j, j < 8 → w.cell? (a'.add (i * 8 + j)) = l.cells[j]?) ∧ l.s.size ≤ maxLen := by
      intro i hi
      obtain ⟨cs', h1, h2⟩ := hx i (by omega)
      obtain ⟨l, rfl, hs⟩ := line_cells h2
      refine ⟨l, fun j hj => ?_, hs⟩
      unfold World.cells? at h1
      split at h1
      · obtain ⟨v, e1, e2⟩ := Lib.mapM_at h1 j j (by simp [hj])
        rw [Deep.add_add] at e2
        rw [e2, ← e1, Array.getElem?_toList]
      · cases h1
    obtain ⟨X, hX⟩ : ∃ X : Nat → Pl.Ln, ∀ i, i < len → (∀ j, j < 8 → w.cell? (a'.add (i * 8 + j)) = (X i).cells[j]?) ∧ (X i).s.size ≤ maxLen :=
      ⟨fun i => if h : i < len then Classical.choose (key i h) else Pl.Ln.zero, fun i h => by simp only [dif_pos h]; exact Classical.choose_spec (key i h)⟩
    refine ⟨some a', len, cap, (List.range len).map X, rfl, ⟨by simp, fun x hx => ?_⟩, hl, hm, ?_⟩
    · obtain ⟨i, hi, rfl⟩ := List.mem_map.1 hx
      exact (hX i (List.mem_range.1 hi)).2
    · by_cases h0 : len = 0
      · exact .inl h0
      · obtain ⟨b, off, spot⟩ := a'
        have hc0 := (hX 0 (by omega)).1 0 (by decide)
        have hspot : spot = none := by
          have : w.cell? ⟨b, off, spot⟩ = some (.int .i64 (X 0).k) := by
            have e : (⟨b, off, spot⟩ : Addr).add (0 * 8 + 0) = ⟨b, off, spot⟩ := by simp [Addr.add]
            rw [e] at hc0
            exact hc0
          exact World.cell?_spot this
        subst hspot
        have hadd : ∀ q, (⟨b, off, none⟩ : Addr).add q = ⟨b, off + q, none⟩ := fun q => by unfold Addr.add; split <;> simp_all
        refine .inr ⟨b, off, rfl, Nat.zero_le _, ?_, fun i hi j hj => ?_⟩
        · rw [hadd] at hc0
          exact block_lt_of_cell hc0
        · have := (hX i hi).1 j hj
          rw [hadd] at this
          rw [List.getD_eq_getElem?_getD, List.getElem?_map, List.getElem?_range hi]
          rw [← Nat.add_assoc] at this
          exact this
end
end Go.Proofs.YtgpmplcamdophaaDoor.Kit
