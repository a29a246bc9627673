import Derived.WalkKit
import Derived.ProofKit
import Derived.OpenShut
import Derived.Below
namespace Go.Proofs.YtafcnijfoejboaaDoor.Kit
open Go Go.ChangeShapes Go.WideShapes Go.ChangeAt Go.RowKit
section
variable {P : Program} {H : Type} {enc : TypeId × Value → H} {w : World} {base : Nat} {spare : Nat → Bool} {held : Bool}
theorem field_int {t : TypeId} {fs : Array Field} {fuel : Nat} {cs : List Value} {x : DataW H × List MemPlace} (hs : P.underlying t = some (.struct fs)) (hf : DataW.trod enc P w base spare held fuel t cs = some x)
    (i : Nat) (f : Field) (hfi : fs[i]? = some f) (ho : f.offset = i) {k : IntKind} (ht : P.underlying f.type = some (.int k)) (hc : P.cellsOf f.type = 1) (c : Value) (hcell : cs[i]? = some c) :
    ∃ n, c = .int k n ∧ (Lit.int k n).wf = true := by
  obtain ⟨xs, n, _, _, _, hlen, hF⟩ := DataW.trod_struct hs hf
  have h := hF i f hfi
  have hi : i < fs.size := (Array.getElem?_eq_some_iff.1 hfi).1
  have hx : xs[i]? = some (xs[i]'(by omega)) := List.getElem?_eq_getElem _
  rw [ho, hc, hx] at h
  have ht1 : (cs.drop i).take 1 = [c] := by
    have hi' : i < cs.length := (List.getElem?_eq_some_iff.1 hcell).1
    have hv : cs[i] = c := (List.getElem?_eq_some_iff.1 hcell).2
    rw [List.drop_eq_getElem_cons hi']; simp [hv]
  rw [ht1] at h
  obtain ⟨m, e, _, wf⟩ := DataW.trod_int ht h
  exact ⟨m, by simpa using e, wf⟩
end
end Go.Proofs.YtafcnijfoejboaaDoor.Kit
