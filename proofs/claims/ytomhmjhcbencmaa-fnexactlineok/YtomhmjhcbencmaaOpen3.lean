import Derived.Test.YtomhmjhcbencmaaChecked
import Derived.Test.YtomhmjhcbencmaaKit5
import Derived.WalkKit
import Derived.ProofKit
import Derived.OpenShut
import Derived.ShutString
import Derived.ChangeMaps5
import Derived.Below
set_option linter.unusedVariables false
namespace Go.Proofs.Ytomhmjhcbencmaa.Kit
open Go Go.ChangeShapes Go.WideShapes Go.ChangeAt Go.RowKit
section
variable {P : Program} {H : Type} {enc : TypeId × Value → H} {w : World} {base : Nat} {spare : Nat → Bool} {held : Bool}
/-- one field of a struct that is read: its cells -/
theorem field_cells {t : TypeId} {fs : Array Field} {fuel : Nat} {cs : List Value} {x : DataW H × List MemPlace} (hs : P.underlying t = some (.struct fs)) (hf : DataW.trod enc P w base spare held fuel t cs = some x)
    (i : Nat) (f : Field) (o c : Nat) (hfi : fs[i]? = some f) (ho : f.offset = o) (hc : P.cellsOf f.type = c) :
    ∃ n x', DataW.trod enc P w base spare held n f.type ((cs.drop o).take c) = some x' := by
  obtain ⟨xs, n, _, _, _, hlen, hF⟩ := DataW.trod_struct hs hf
  have h := hF i f hfi
  have hi : i < fs.size := (Array.getElem?_eq_some_iff.1 hfi).1
  have hx : xs[i]? = some (xs[i]'(by omega)) := List.getElem?_eq_getElem _
  rw [ho, hc, hx] at h
  exact ⟨_, _, h⟩
end
theorem array8 {α : Type} {cs : Array α} (h : cs.size = 8) : ∃ c0 c1 c2 c3 c4 c5 c6 c7, cs = #[c0, c1, c2, c3, c4, c5, c6, c7] := by
  obtain ⟨l⟩ := cs
  match l, h with
  | [c0, c1, c2, c3, c4, c5, c6, c7], _ => exact ⟨c0, c1, c2, c3, c4, c5, c6, c7, rfl⟩
section
variable {H : Type} {enc : TypeId × Value → H} {w : World} {base : Nat} {spare : Nat → Bool} {held : Bool}
set_option maxRecDepth 100000 in
set_option maxHeartbeats 1000000 in
theorem open_line {r : Reach} {b0 : Nat} {val : Value} {d : DataW H} {p : List MemPlace} (hv : Value.okWide Try.prog w r b0 57 val) (h : DataW.Trod enc Try.prog w base spare held 57 val d p) :
    ∃ (k op rd r1 r2 im n : Int) (s : ByteArray), val = .agg #[.int .i64 k, .int .i64 op, .int .i64 rd, .int .i64 r1, .int .i64 r2, .int .i64 im, .string s, .int .i64 n] := by
  obtain ⟨cs, rfl, hsz⟩ := okWide_struct Try.underlying57 hv
  have hC : Try.prog.cellsOf 57 = 8 := by kernel_rfl
  obtain ⟨c0, c1, c2, c3, c4, c5, c6, c7, rfl⟩ := array8 (hsz.trans hC)
  clear hsz hC
  have h3 : Try.prog.cellsOf 3 = 1 := by kernel_rfl
  have h5 : Try.prog.cellsOf 55 = 5 := by kernel_rfl
  have h9 : Try.prog.cellsOf 9 = 1 := by kernel_rfl
  obtain ⟨fuel, hf⟩ := h
  have hf' : DataW.trod enc Try.prog w base spare held fuel 57 [c0, c1, c2, c3, c4, c5, c6, c7] = some (d, p) := by simpa [Value.cells] using hf
  obtain ⟨x0, rfl, w0⟩ := field_int Try.underlying57 hf' 0 _ rfl rfl (k := .i64) Try.underlying3 h3 c0 rfl
  obtain ⟨n1, y1, g1⟩ := field_cells Try.underlying57 hf' 1 _ 1 5 rfl rfl h5
  obtain ⟨n2, y2, g2⟩ := field_cells Try.underlying57 hf' 2 _ 6 1 rfl rfl h9
  obtain ⟨n3, y3, g3⟩ := field_cells Try.underlying57 hf' 3 _ 7 1 rfl rfl h3
  have g1' : DataW.trod enc Try.prog w base spare held n1 55 [c1, c2, c3, c4, c5] = some y1 := g1
  have g2' : DataW.trod enc Try.prog w base spare held n2 9 [c6] = some y2 := g2
  have g3' : DataW.trod enc Try.prog w base spare held n3 3 [c7] = some y3 := g3
  obtain ⟨x1, rfl, _⟩ := field_int Try.underlying55 g1' 0 _ rfl rfl (k := .i64) Try.underlying3 h3 c1 rfl
  obtain ⟨x2, rfl, _⟩ := field_int Try.underlying55 g1' 1 _ rfl rfl (k := .i64) Try.underlying3 h3 c2 rfl
  obtain ⟨x3, rfl, _⟩ := field_int Try.underlying55 g1' 2 _ rfl rfl (k := .i64) Try.underlying3 h3 c3 rfl
  obtain ⟨x4, rfl, _⟩ := field_int Try.underlying55 g1' 3 _ rfl rfl (k := .i64) Try.underlying3 h3 c4 rfl
  obtain ⟨x5, rfl, _⟩ := field_int Try.underlying55 g1' 4 _ rfl rfl (k := .i64) Try.underlying3 h3 c5 rfl
  obtain ⟨x7, e7, _, _⟩ := DataW.trod_int Try.underlying3 g3'
  obtain rfl : c7 = .int .i64 x7 := by simpa using e7
  obtain ⟨s, e6, _, _⟩ := DataW.trod_string Try.underlying9 g2'
  obtain rfl : c6 = .string s := by simpa using e6
  exact ⟨x0, x1, x2, x3, x4, x5, x7, s, rfl⟩
end
end Go.Proofs.Ytomhmjhcbencmaa.Kit
