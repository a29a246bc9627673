import Derived.Test.YtafcnijfoejboaaDoorP01
import Derived.Test.YtafcnijfoejboaaDoorP16
import Derived.WalkKit
import Derived.ProofKit
import Derived.OpenShut
import Derived.ChangeSlices
import Derived.Below
import Derived.Test.YtafcnijfoejboaaDoorChecked
import Derived.ShutString
import Derived.ChangeMaps5
import Derived.Test.YtafcnijfoejboaaDoorP02
import Derived.Deep.Slices
import Derived.SliceStrings
import Derived.Lib.LaidTab
set_option linter.unusedVariables false
namespace Go.Proofs.YtafcnijfoejboaaDoor.Kit
open Go Go.ChangeShapes Go.WideShapes Go.ChangeAt Go.RowKit
section
variable {P : Program} {H : Type} {enc : TypeId × Value → H} {w : World} {base : Nat} {spare : Nat → Bool} {held : Bool}
theorem slice_row {t e : TypeId} {k : IntKind} {fuel : Nat} {c : Value} {x : DataW H × List MemPlace} (ht : P.underlying t = some (.slice e)) (he : P.underlying e = some (.int k)) (hc : P.cellsOf e = 1)
    (h : DataW.trod enc P w base spare held fuel t [c] = some x) : ∃ (a : Option Addr) (len cap : Nat) (zs : List Int), c = .slice a len cap ∧ W.Row k 0 w a len cap zs := by
  rcases open_ints ht he hc h with ⟨hcs, _⟩ | ⟨a, len, cap, zs, hcs, _, hl, hm, hz, _, hcell, hwz⟩
  · have hc0 : c = .slice none 0 0 := by simpa using hcs
    exact ⟨none, 0, 0, [], hc0, rfl, Nat.le_refl _, Nat.zero_le _, fun n hn => (nomatch hn), .inl rfl⟩
  · have hc0 : c = .slice (some a) len cap := by simpa using hcs
    have hlen : len ≤ zs.length := by rw [hz]; split <;> omega
    refine ⟨some a, len, cap, zs.take len, hc0, by rw [List.length_take]; omega, hl, hm, fun n hn => hwz n (List.mem_of_mem_take hn), ?_⟩
    by_cases h0 : len = 0
    · exact .inl h0
    · obtain ⟨b, off, spot⟩ := a
      have hspot : spot = none := by simpa [Addr.add] using World.cell?_spot (hcell 0 (by omega))
      subst hspot
      have hc1 := hcell 0 (by omega)
      refine .inr ⟨b, off, rfl, Nat.zero_le _, block_lt_of_cell (by simpa [Addr.add] using hc1), fun i hi => ?_⟩
      have hc2 := hcell i (by omega)
      have hadd : (⟨b, off, none⟩ : Addr).add i = ⟨b, off + i, none⟩ := by unfold Addr.add; split <;> simp_all
      rw [← hadd, hc2, List.getD_eq_getElem?_getD, List.getD_eq_getElem?_getD, List.getElem?_take, if_pos hi]
theorem field_slice {t : TypeId} {fs : Array Field} {fuel : Nat} {cs : List Value} {x : DataW H × List MemPlace} (hs : P.underlying t = some (.struct fs)) (hf : DataW.trod enc P w base spare held fuel t cs = some x)
    (i : Nat) (f : Field) (o : Nat) (hfi : fs[i]? = some f) (ho : f.offset = o) {e : TypeId} {k : IntKind} (ht : P.underlying f.type = some (.slice e)) (he : P.underlying e = some (.int k)) (hce : P.cellsOf e = 1) (hc : P.cellsOf f.type = 1) (c : Value) (hcell : cs[o]? = some c) :
    ∃ (a : Option Addr) (len cap : Nat) (zs : List Int), c = .slice a len cap ∧ W.Row k 0 w a len cap zs := by
  obtain ⟨xs, n, _, _, _, hlen, hF⟩ := DataW.trod_struct hs hf
  have h := hF i f hfi
  have hi : i < fs.size := (Array.getElem?_eq_some_iff.1 hfi).1
  have hx : xs[i]? = some (xs[i]'(by omega)) := List.getElem?_eq_getElem _
  rw [ho, hc, hx] at h
  have ht1 : (cs.drop o).take 1 = [c] := by
    have hi' : o < cs.length := (List.getElem?_eq_some_iff.1 hcell).1
    have hv : cs[o] = c := (List.getElem?_eq_some_iff.1 hcell).2
    rw [List.drop_eq_getElem_cons hi']; simp [hv]
  rw [ht1] at h
  exact slice_row ht he hce h
end
section
variable {H : Type} {enc : TypeId × Value → H} {w : World} {base : Nat} {spare : Nat → Bool} {held : Bool}
end
end Go.Proofs.YtafcnijfoejboaaDoor.Kit
namespace Go.Proofs.YtafcnijfoejboaaDoor.Kit
open Go Go.ChangeShapes Go.WideShapes Go.ChangeAt Go.RowKit
section
variable {P : Program} {H : Type} {enc : TypeId × Value → H} {w : World} {base : Nat} {spare : Nat → Bool} {held : Bool}
theorem field_cells {t : TypeId} {fs : Array Field} {fuel : Nat} {cs : List Value} {x : DataW H × List MemPlace} (hs : P.underlying t = some (.struct fs)) (hf : DataW.trod enc P w base spare held fuel t cs = some x)
    (i : Nat) (f : Field) (o c : Nat) (hfi : fs[i]? = some f) (ho : f.offset = o) (hc : P.cellsOf f.type = c) :
    ∃ n x', DataW.trod enc P w base spare held n f.type ((cs.drop o).take c) = some x' := by
  obtain ⟨xs, n, _, _, _, hlen, hF⟩ := DataW.trod_struct hs hf
  have h := hF i f hfi
  have hi : i < fs.size := (Array.getElem?_eq_some_iff.1 hfi).1
  have hx : xs[i]? = some (xs[i]'(by omega)) := List.getElem?_eq_getElem _
  rw [ho, hc, hx] at h
  exact ⟨_, _, h⟩
end
section
variable {H : Type} {enc : TypeId × Value → H} {w : World} {base : Nat} {spare : Nat → Bool} {held : Bool}
end
end Go.Proofs.YtafcnijfoejboaaDoor.Kit
namespace Go.Proofs.YtafcnijfoejboaaDoor.Kit
open Go Go.ChangeShapes Go.WideShapes Go.ChangeAt Go.RowKit
section
variable {H : Type} {enc : TypeId × Value → H} {w : World} {base : Nat} {spare : Nat → Bool} {held : Bool}
theorem strs_row {fuel : Nat} {c : Value} {x : DataW H × List MemPlace} (h : DataW.trod enc Tryd.prog w base spare held fuel 31 [c] = some x) : ∃ (a : Option Addr) (len cap : Nat) (ss : List ByteArray), c = .slice a len cap ∧ W.SRow 0 w a len cap ss := by
  have h9 : Tryd.prog.cellsOf 9 = 1 := by kernel_rfl
  rcases open_strings Tryd.underlying31 Tryd.underlying9 h9 h with ⟨hcs, _⟩ | ⟨a, len, cap, zs, hcs, _, hl, hm, hz, _, hcell, hwz⟩
  · have hc0 : c = .slice none 0 0 := by simpa using hcs
    exact ⟨none, 0, 0, [], hc0, ⟨rfl, fun n hn => (nomatch hn)⟩, Nat.le_refl _, Nat.zero_le _, .inl rfl⟩
  · have hc0 : c = .slice (some a) len cap := by simpa using hcs
    have hlen : len ≤ zs.length := by rw [hz]; split <;> omega
    refine ⟨some a, len, cap, zs.take len, hc0, ⟨by rw [List.length_take]; omega, fun n hn => hwz n (List.mem_of_mem_take hn)⟩, hl, hm, ?_⟩
    by_cases h0 : len = 0
    · exact .inl h0
    · obtain ⟨b, off, spot⟩ := a
      have hspot : spot = none := by simpa [Addr.add] using World.cell?_spot (hcell 0 (by omega))
      subst hspot
      have hc1 := hcell 0 (by omega)
      refine .inr ⟨b, off, rfl, Nat.zero_le _, block_lt_of_cell (by simpa [Addr.add] using hc1), fun i hi => ?_⟩
      have hc2 := hcell i (by omega)
      have hadd : (⟨b, off, none⟩ : Addr).add i = ⟨b, off + i, none⟩ := by unfold Addr.add; split <;> simp_all
      rw [← hadd, hc2, List.getD_eq_getElem?_getD, List.getD_eq_getElem?_getD, List.getElem?_take, if_pos hi]
      rfl
set_option maxRecDepth 100000 in
set_option maxHeartbeats 1000000 in
theorem type_cells {fuel : Nat} {cs : List Value} {x : DataW H × List MemPlace} (hf : DataW.trod enc Tryd.prog w base spare held fuel 33 cs = some x) : ∃ (l : Pl.Ty) (v s : W.SV), cs = (l.cells v s).toList ∧ W.Row .i64 0 w v.a v.len v.cap l.of ∧ W.SRow 0 w s.a s.len s.cap l.names := by
  have hC : Tryd.prog.cellsOf 33 = 4 := by kernel_rfl
  have hsz : cs.length = 4 := by
    obtain ⟨xs, n, _, _, hl, _⟩ := DataW.trod_struct Tryd.underlying33 hf
    exact hl.trans hC
  obtain ⟨c0, c1, c2, c3, rfl⟩ : ∃ c0 c1 c2 c3, cs = [c0, c1, c2, c3] := by
    match cs, hsz with
    | [c0, c1, c2, c3], _ => exact ⟨c0, c1, c2, c3, rfl⟩
  clear hsz hC
  have h3 : Tryd.prog.cellsOf 3 = 1 := by kernel_rfl
  have hI : Tryd.prog.cellsOf 30 = 1 := by kernel_rfl
  have hS : Tryd.prog.cellsOf 31 = 1 := by kernel_rfl
  obtain ⟨x0, rfl, w0⟩ := field_int Tryd.underlying33 hf 0 _ rfl rfl (k := .i64) Tryd.underlying3 h3 c0 rfl
  obtain ⟨x1, rfl, w1⟩ := field_int Tryd.underlying33 hf 1 _ rfl rfl (k := .i64) Tryd.underlying3 h3 c1 rfl
  obtain ⟨a2, l2, k2, z2, rfl, r2⟩ := field_slice Tryd.underlying33 hf 2 _ 2 rfl rfl Tryd.underlying30 Tryd.underlying3 h3 hI c2 rfl
  obtain ⟨n3, y3, g3⟩ := field_cells Tryd.underlying33 hf 3 _ 3 1 rfl rfl hS
  have g3' : DataW.trod enc Tryd.prog w base spare held n3 31 [c3] = some y3 := g3
  obtain ⟨a3, l3, k3, z3, rfl, r3⟩ := strs_row g3'
  exact ⟨⟨x0, x1, z2, z3⟩, ⟨a2, l2, k2⟩, ⟨a3, l3, k3⟩, rfl, r2, r3⟩
set_option maxRecDepth 100000 in
theorem open_types {r : Reach} {b0 : Nat} {val : Value} {d : DataW H} {p : List MemPlace} (hv : Value.okWide Tryd.prog w r b0 22 val) (h : DataW.Trod enc Tryd.prog w base spare held 22 val d p) :
    ∃ (a : Option Addr) (len cap : Nat) (xs : List Pl.Ty), val = .slice a len cap ∧ W.TRow 0 w a len cap xs := by
  obtain ⟨a, len, cap, rfl⟩ := okWide_slice Tryd.underlying22 hv
  have hC : Tryd.prog.cellsOf 33 = 4 := by kernel_rfl
  obtain ⟨fuel, hf⟩ := h
  have hf' : DataW.trod enc Tryd.prog w base spare held fuel 22 [.slice a len cap] = some (d, p) := by simpa [Value.cells] using hf
  rcases Deep.open_slice Tryd.underlying22 hf' with ⟨h0, _⟩ | ⟨a', len', cap', m, n, D, Q, h0, hb, hl, hm, hmm, _, hx⟩
  · simp at h0
    obtain ⟨rfl, rfl, rfl⟩ := h0
    exact ⟨none, 0, 0, [], rfl, rfl, Nat.le_refl _, Nat.zero_le _, .inl rfl⟩
  · simp at h0
    obtain ⟨rfl, rfl, rfl⟩ := h0
    have hlm : len ≤ m := by rw [hmm]; split <;> omega
    rw [hC] at hx
    have key : ∀ i, i < len → ∃ (l : Pl.Ty) (v s : W.SV), (∀ j, j < 4 → w.cell? (a'.add (i * 4 + j)) = (l.cells v s)[j]?) ∧ W.Row .i64 0 w v.a v.len v.cap l.of ∧ W.SRow 0 w s.a s.len s.cap l.names := by
      intro i hi
      obtain ⟨cs', h1, h2⟩ := hx i (by omega)
      obtain ⟨l, v, s, rfl, hr, hs⟩ := type_cells h2
      refine ⟨l, v, s, fun j hj => ?_, hr, hs⟩
      unfold World.cells? at h1
      split at h1
      · obtain ⟨v', e1, e2⟩ := Lib.mapM_at h1 j j (by simp [hj])
        rw [Deep.add_add] at e2
        rw [e2, ← e1, Array.getElem?_toList]
      · cases h1
    obtain ⟨X, hX⟩ : ∃ X : Nat → Pl.Ty, ∀ i, i < len → ∃ v s : W.SV, (∀ j, j < 4 → w.cell? (a'.add (i * 4 + j)) = ((X i).cells v s)[j]?) ∧ W.Row .i64 0 w v.a v.len v.cap (X i).of ∧ W.SRow 0 w s.a s.len s.cap (X i).names :=
      ⟨fun i => if h : i < len then Classical.choose (key i h) else Pl.Ty.zero, fun i h => by simp only [dif_pos h]; exact Classical.choose_spec (key i h)⟩
    refine ⟨some a', len, cap, (List.range len).map X, rfl, by simp, hl, hm, ?_⟩
    by_cases h0 : len = 0
    · exact .inl h0
    · obtain ⟨b, off, spot⟩ := a'
      obtain ⟨v0, s0, hv0, _, _⟩ := hX 0 (by omega)
      have hc0 := hv0 0 (by decide)
      have hspot : spot = none := by
        have : w.cell? ⟨b, off, spot⟩ = some (.int .i64 (X 0).k) := by
          have e : (⟨b, off, spot⟩ : Addr).add (0 * 4 + 0) = ⟨b, off, spot⟩ := by simp [Addr.add]
          rw [e] at hc0
          exact hc0
        exact World.cell?_spot this
      subst hspot
      have hadd : ∀ q, (⟨b, off, none⟩ : Addr).add q = ⟨b, off + q, none⟩ := fun q => by unfold Addr.add; split <;> simp_all
      refine .inr ⟨b, off, rfl, Nat.zero_le _, ?_, fun i hi => ?_⟩
      · rw [hadd] at hc0
        exact block_lt_of_cell hc0
      · obtain ⟨v, s, h1, h2, h3⟩ := hX i hi
        have e : ((List.range len).map X).getD i Pl.Ty.zero = X i := by
          rw [List.getD_eq_getElem?_getD, List.getElem?_map, List.getElem?_range hi]
          rfl
        rw [e]
        refine ⟨v, s, fun j hj => ?_, h2, h3⟩
        have := h1 j hj
        rw [hadd, ← Nat.add_assoc] at this
        exact this
end
end Go.Proofs.YtafcnijfoejboaaDoor.Kit
