import Derived.Test.YtfcfnbncgadomaaMacM
import Derived.Test.YtfcfnbncgadomaaKit5
import Derived.WalkKit
import Derived.ProofKit
import Derived.OpenShut
import Derived.ChangeSlices
import Derived.Below
set_option linter.unusedVariables false
namespace Go.Proofs.Ytfcfnbncgadomaa.Kit
open Go Go.ChangeShapes Go.WideShapes Go.ChangeAt Go.RowKit
section
variable {P : Program} {H : Type} {enc : TypeId × Value → H} {w : World} {base : Nat} {spare : Nat → Bool} {held : Bool}
/-- one slice of integers that is read -/
theorem slice_row {t e : TypeId} {k : IntKind} {fuel : Nat} {c : Value} {x : DataW H × List MemPlace} (ht : P.underlying t = some (.slice e)) (he : P.underlying e = some (.int k)) (hc : P.cellsOf e = 1)
    (h : DataW.trod enc P w base spare held fuel t [c] = some x) : ∃ (a : Option Addr) (len cap : Nat) (zs : List Int), c = .slice a len cap ∧ W.Row k 0 w a len cap zs := by
  rcases open_ints ht he hc h with ⟨hcs, _⟩ | ⟨a, len, cap, zs, hcs, _, hl, hm, hz, _, hcell, hwz⟩
  · have hc0 : c = .slice none 0 0 := by simpa using hcs
    exact ⟨none, 0, 0, [], hc0, rfl, Nat.le_refl _, Nat.zero_le _, fun n hn => (nomatch hn), .inl rfl⟩
  · have hc0 : c = .slice (some a) len cap := by simpa using hcs
    have hlen : len ≤ zs.length := by rw [hz]; split <;> omega
    refine ⟨some a, len, cap, zs.take len, hc0, by rw [List.length_take]; omega, hl, hm, fun n hn => hwz n (List.mem_of_mem_take hn), ?_⟩
    by_cases h0 : len = 0
    · exact .inl h0
    · obtain ⟨b, off, spot⟩ := a
      have hspot : spot = none := by simpa [Addr.add] using World.cell?_spot (hcell 0 (by omega))
      subst hspot
      have hc1 := hcell 0 (by omega)
      refine .inr ⟨b, off, rfl, Nat.zero_le _, block_lt_of_cell (by simpa [Addr.add] using hc1), fun i hi => ?_⟩
      have hc2 := hcell i (by omega)
      have hadd : (⟨b, off, none⟩ : Addr).add i = ⟨b, off + i, none⟩ := by unfold Addr.add; split <;> simp_all
      rw [← hadd, hc2, List.getD_eq_getElem?_getD, List.getD_eq_getElem?_getD, List.getElem?_take, if_pos hi]
/-- one field of a struct that is read: a slice's cell -/
theorem field_slice {t : TypeId} {fs : Array Field} {fuel : Nat} {cs : List Value} {x : DataW H × List MemPlace} (hs : P.underlying t = some (.struct fs)) (hf : DataW.trod enc P w base spare held fuel t cs = some x)
    (i : Nat) (f : Field) (o : Nat) (hfi : fs[i]? = some f) (ho : f.offset = o) {e : TypeId} {k : IntKind} (ht : P.underlying f.type = some (.slice e)) (he : P.underlying e = some (.int k)) (hce : P.cellsOf e = 1) (hc : P.cellsOf f.type = 1) (c : Value) (hcell : cs[o]? = some c) :
    ∃ (a : Option Addr) (len cap : Nat) (zs : List Int), c = .slice a len cap ∧ W.Row k 0 w a len cap zs := by
  obtain ⟨xs, n, _, _, _, hlen, hF⟩ := DataW.trod_struct hs hf
  have h := hF i f hfi
  have hi : i < fs.size := (Array.getElem?_eq_some_iff.1 hfi).1
  have hx : xs[i]? = some (xs[i]'(by omega)) := List.getElem?_eq_getElem _
  rw [ho, hc, hx] at h
  have ht1 : (cs.drop o).take 1 = [c] := by
    have hi' : o < cs.length := (List.getElem?_eq_some_iff.1 hcell).1
    have hv : cs[o] = c := (List.getElem?_eq_some_iff.1 hcell).2
    rw [List.drop_eq_getElem_cons hi']; simp [hv]
  rw [ht1] at h
  exact slice_row ht he hce h
end
theorem array4 {α : Type} {cs : Array α} (h : cs.size = 4) : ∃ c0 c1 c2 c3, cs = #[c0, c1, c2, c3] := by
  obtain ⟨l⟩ := cs
  match l, h with
  | [c0, c1, c2, c3], _ => exact ⟨c0, c1, c2, c3, rfl⟩
theorem array10 {α : Type} {cs : Array α} (h : cs.size = 10) : ∃ c0 c1 c2 c3 c4 c5 c6 c7 c8 c9, cs = #[c0, c1, c2, c3, c4, c5, c6, c7, c8, c9] := by
  obtain ⟨l⟩ := cs
  match l, h with
  | [c0, c1, c2, c3, c4, c5, c6, c7, c8, c9], _ => exact ⟨c0, c1, c2, c3, c4, c5, c6, c7, c8, c9, rfl⟩
section
variable {H : Type} {enc : TypeId × Value → H} {w : World} {base : Nat} {spare : Nat → Bool} {held : Bool}
end
end Go.Proofs.Ytfcfnbncgadomaa.Kit
