import Derived.WalkKit
import Derived.ProofKit
import Derived.OpenShut
import Derived.Below
namespace Go.Proofs.Ytomhmjhcbencmaa.Kit
open Go Go.ChangeShapes Go.WideShapes Go.ChangeAt Go.RowKit
theorem array5 {α : Type} {cs : Array α} (h : cs.size = 5) : ∃ c0 c1 c2 c3 c4, cs = #[c0, c1, c2, c3, c4] := by
  obtain ⟨l⟩ := cs
  match l, h with
  | [c0, c1, c2, c3, c4], _ => exact ⟨c0, c1, c2, c3, c4, rfl⟩
section
variable {P : Program} {H : Type} {enc : TypeId × Value → H} {w : World} {base : Nat} {spare : Nat → Bool} {held : Bool}
/-- one field of a struct that is read: an integer's cell -/
theorem field_int {t : TypeId} {fs : Array Field} {fuel : Nat} {cs : List Value} {x : DataW H × List MemPlace} (hs : P.underlying t = some (.struct fs)) (hf : DataW.trod enc P w base spare held fuel t cs = some x)
    (i : Nat) (f : Field) (hfi : fs[i]? = some f) (ho : f.offset = i) {k : IntKind} (ht : P.underlying f.type = some (.int k)) (hc : P.cellsOf f.type = 1) (c : Value) (hcell : cs[i]? = some c) :
    ∃ n, c = .int k n ∧ (Lit.int k n).wf = true := by
  obtain ⟨xs, n, _, _, _, hlen, hF⟩ := DataW.trod_struct hs hf
  have h := hF i f hfi
  have hi : i < fs.size := (Array.getElem?_eq_some_iff.1 hfi).1
  have hx : xs[i]? = some (xs[i]'(by omega)) := List.getElem?_eq_getElem _
  rw [ho, hc, hx] at h
  have ht1 : (cs.drop i).take 1 = [c] := by
    have hi' : i < cs.length := (List.getElem?_eq_some_iff.1 hcell).1
    have hv : cs[i] = c := (List.getElem?_eq_some_iff.1 hcell).2
    rw [List.drop_eq_getElem_cons hi']; simp [hv]
  rw [ht1] at h
  obtain ⟨m, e, _, wf⟩ := DataW.trod_int ht h
  exact ⟨m, by simpa using e, wf⟩
/-- a struct of five integers, by value, opened -/
theorem open_ints5 {r : Reach} {b0 : Nat} {t : TypeId} {f0 f1 f2 f3 f4 : Field} {v : Value} {d : DataW H} {p : List MemPlace} {k : IntKind} (hs : P.underlying t = some (.struct #[f0, f1, f2, f3, f4])) (hC : P.cellsOf t = 5)
    (ho : f0.offset = 0 ∧ f1.offset = 1 ∧ f2.offset = 2 ∧ f3.offset = 3 ∧ f4.offset = 4) (n : TypeId) (hty : f0.type = n ∧ f1.type = n ∧ f2.type = n ∧ f3.type = n ∧ f4.type = n) (hu : P.underlying n = some (.int k)) (hc : P.cellsOf n = 1)
    (hv : Value.okWide P w r b0 t v) (h : DataW.Trod enc P w base spare held t v d p) :
    ∃ x0 x1 x2 x3 x4 : Int, v = .agg #[.int k x0, .int k x1, .int k x2, .int k x3, .int k x4] ∧ (Lit.int k x0).wf = true ∧ (Lit.int k x1).wf = true ∧ (Lit.int k x2).wf = true ∧ (Lit.int k x3).wf = true ∧ (Lit.int k x4).wf = true := by
  obtain ⟨cs, rfl, hsz⟩ := okWide_struct hs hv
  obtain ⟨c0, c1, c2, c3, c4, rfl⟩ := array5 (hsz.trans hC)
  obtain ⟨fuel, hf⟩ := h
  have hf' : DataW.trod enc P w base spare held fuel t [c0, c1, c2, c3, c4] = some (d, p) := by simpa [Value.cells] using hf
  obtain ⟨o0, o1, o2, o3, o4⟩ := ho
  obtain ⟨t0, t1, t2, t3, t4⟩ := hty
  obtain ⟨x0, rfl, w0⟩ := field_int hs hf' 0 f0 rfl o0 (k := k) (by rw [t0]; exact hu) (by rw [t0]; exact hc) c0 rfl
  obtain ⟨x1, rfl, w1⟩ := field_int hs hf' 1 f1 rfl o1 (k := k) (by rw [t1]; exact hu) (by rw [t1]; exact hc) c1 rfl
  obtain ⟨x2, rfl, w2⟩ := field_int hs hf' 2 f2 rfl o2 (k := k) (by rw [t2]; exact hu) (by rw [t2]; exact hc) c2 rfl
  obtain ⟨x3, rfl, w3⟩ := field_int hs hf' 3 f3 rfl o3 (k := k) (by rw [t3]; exact hu) (by rw [t3]; exact hc) c3 rfl
  obtain ⟨x4, rfl, w4⟩ := field_int hs hf' 4 f4 rfl o4 (k := k) (by rw [t4]; exact hu) (by rw [t4]; exact hc) c4 rfl
  exact ⟨x0, x1, x2, x3, x4, rfl, w0, w1, w2, w3, w4⟩
end
end Go.Proofs.Ytomhmjhcbencmaa.Kit
