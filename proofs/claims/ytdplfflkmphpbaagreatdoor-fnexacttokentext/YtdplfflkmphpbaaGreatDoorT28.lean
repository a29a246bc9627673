import Derived.Test.YtdplfflkmphpbaaGreatDoorChecked
import Derived.Test.YtdplfflkmphpbaaGreatDoorT27
import Derived.WalkKit
import Derived.ProofKit
import Derived.OpenShut
import Derived.ShutString
import Derived.ChangeMaps5
import Derived.Below
set_option linter.unusedVariables false
namespace Go.Proofs.YtdplfflkmphpbaaGreatDoor.Kit
open Go Go.ChangeShapes Go.WideShapes Go.ChangeAt Go.RowKit
section
variable {P : Program} {H : Type} {enc : TypeId × Value → H} {w : World} {base : Nat} {spare : Nat → Bool} {held : Bool}
theorem field_cellsT {t : TypeId} {fs : Array Field} {fuel : Nat} {cs : List Value} {x : DataW H × List MemPlace} (hs : P.underlying t = some (.struct fs)) (hf : DataW.trod enc P w base spare held fuel t cs = some x)
    (i : Nat) (f : Field) (o c : Nat) (hfi : fs[i]? = some f) (ho : f.offset = o) (hc : P.cellsOf f.type = c) :
    ∃ n x', DataW.trod enc P w base spare held n f.type ((cs.drop o).take c) = some x' := by
  obtain ⟨xs, n, _, _, _, hlen, hF⟩ := DataW.trod_struct hs hf
  have h := hF i f hfi
  have hi : i < fs.size := (Array.getElem?_eq_some_iff.1 hfi).1
  have hx : xs[i]? = some (xs[i]'(by omega)) := List.getElem?_eq_getElem _
  rw [ho, hc, hx] at h
  exact ⟨_, _, h⟩
end
section
variable {H : Type} {enc : TypeId × Value → H} {w : World} {base : Nat} {spare : Nat → Bool} {held : Bool}
set_option maxRecDepth 100000 in
set_option maxHeartbeats 1000000 in
theorem open_token {r : Reach} {b0 : Nat} {val : Value} {d : DataW H} {p : List MemPlace} (hv : Value.okWide Tryz.prog w r b0 35 val) (h : DataW.Trod enc Tryz.prog w base spare held 35 val d p) :
    ∃ (k n l c : Int) (s : ByteArray), val = .agg #[.int .i64 k, .string s, .int .i64 n, .int .i64 l, .int .i64 c] ∧ (Lit.int .i64 n).wf = true ∧ s.size ≤ maxLen := by
  obtain ⟨cs, rfl, hsz⟩ := okWide_struct Tryz.underlying35 hv
  have hC : Tryz.prog.cellsOf 35 = 5 := by kernel_rfl
  obtain ⟨c0, c1, c2, c3, c4, rfl⟩ := array5 (hsz.trans hC)
  clear hsz hC
  have h3 : Tryz.prog.cellsOf 3 = 1 := by kernel_rfl
  have h9 : Tryz.prog.cellsOf 9 = 1 := by kernel_rfl
  obtain ⟨fuel, hf⟩ := h
  have hf' : DataW.trod enc Tryz.prog w base spare held fuel 35 [c0, c1, c2, c3, c4] = some (d, p) := by simpa [Value.cells] using hf
  obtain ⟨x0, rfl, _⟩ := field_int Tryz.underlying35 hf' 0 _ rfl rfl (k := .i64) Tryz.underlying3 h3 c0 rfl
  obtain ⟨n2, y2, g2⟩ := field_cellsT Tryz.underlying35 hf' 1 _ 1 1 rfl rfl h9
  have g2' : DataW.trod enc Tryz.prog w base spare held n2 9 [c1] = some y2 := g2
  obtain ⟨s, e6, _, hs⟩ := DataW.trod_string Tryz.underlying9 g2'
  obtain rfl : c1 = .string s := by simpa using e6
  obtain ⟨x2, rfl, w2⟩ := field_int Tryz.underlying35 hf' 2 _ rfl rfl (k := .i64) Tryz.underlying3 h3 c2 rfl
  obtain ⟨x3, rfl, _⟩ := field_int Tryz.underlying35 hf' 3 _ rfl rfl (k := .i64) Tryz.underlying3 h3 c3 rfl
  obtain ⟨x4, rfl, _⟩ := field_int Tryz.underlying35 hf' 4 _ rfl rfl (k := .i64) Tryz.underlying3 h3 c4 rfl
  exact ⟨x0, x2, x3, x4, s, rfl, w2, hs⟩
end
end Go.Proofs.YtdplfflkmphpbaaGreatDoor.Kit
