import Derived.Test.YtgopdicmmglakaaMacM
import Derived.Test.YtgopdicmmglakaaKit5
import Derived.WalkKit
import Derived.ProofKit
import Derived.OpenShut
import Derived.ChangeSlices
import Derived.Below
set_option linter.unusedVariables false
namespace Go.Proofs.Ytgopdicmmglakaa.Kit
open Go Go.ChangeShapes Go.WideShapes Go.ChangeAt Go.RowKit
section
variable {P : Program} {H : Type} {enc : TypeId × Value → H} {w : World} {base : Nat} {spare : Nat → Bool} {held : Bool}
/-- one slice of integers that is read -/
theorem slice_row {t e : TypeId} {k : IntKind} {fuel : Nat} {c : Value} {x : DataW H × List MemPlace} (ht : P.underlying t = some (.slice e)) (he : P.underlying e = some (.int k)) (hc : P.cellsOf e = 1)
    (h : DataW.trod enc P w base spare held fuel t [c] = some x) : ∃ (a : Option Addr) (len cap : Nat) (zs : List Int), c = .slice a len cap ∧ W.Row k 0 w a len cap zs := by
  rcases open_ints ht he hc h with ⟨hcs, _⟩ | ⟨a, len, cap, zs, hcs, _, hl, hm, hz, _, hcell, hwz⟩
  · have hc0 : c = .slice none 0 0 := by simpa using hcs
    exact ⟨none, 0, 0, [], hc0, rfl, Nat.le_refl _, Nat.zero_le _, fun n hn => (nomatch hn), .inl rfl⟩
  · have hc0 : c = .slice (some a) len cap := by simpa using hcs
    have hlen : len ≤ zs.length := by rw [hz]; split <;> omega
    refine ⟨some a, len, cap, zs.take len, hc0, by rw [List.length_take]; omega, hl, hm, fun n hn => hwz n (List.mem_of_mem_take hn), ?_⟩
    by_cases h0 : len = 0
    · exact .inl h0
    · obtain ⟨b, off, spot⟩ := a
      have hspot : spot = none := by simpa [Addr.add] using World.cell?_spot (hcell 0 (by omega))
      subst hspot
      have hc1 := hcell 0 (by omega)
      refine .inr ⟨b, off, rfl, Nat.zero_le _, block_lt_of_cell (by simpa [Addr.add] using hc1), fun i hi => ?_⟩
      have hc2 := hcell i (by omega)
      have hadd : (⟨b, off, none⟩ : Addr).add i = ⟨b, off + i, none⟩ := by unfold Addr.add; split <;> simp_all
      rw [← hadd, hc2, List.getD_eq_getElem?_getD, List.getD_eq_getElem?_getD, List.getElem?_take, if_pos hi]
/-- one field of a struct that is read: a slice's cell -/
theorem field_slice {t : TypeId} {fs : Array Field} {fuel : Nat} {cs : List Value} {x : DataW H × List MemPlace} (hs : P.underlying t = some (.struct fs)) (hf : DataW.trod enc P w base spare held fuel t cs = some x)
    (i : Nat) (f : Field) (o : Nat) (hfi : fs[i]? = some f) (ho : f.offset = o) {e : TypeId} {k : IntKind} (ht : P.underlying f.type = some (.slice e)) (he : P.underlying e = some (.int k)) (hce : P.cellsOf e = 1) (hc : P.cellsOf f.type = 1) (c : Value) (hcell : cs[o]? = some c) :
    ∃ (a : Option Addr) (len cap : Nat) (zs : List Int), c = .slice a len cap ∧ W.Row k 0 w a len cap zs := by
  obtain ⟨xs, n, _, _, _, hlen, hF⟩ := DataW.trod_struct hs hf
  have h := hF i f hfi
  have hi : i < fs.size := (Array.getElem?_eq_some_iff.1 hfi).1
  have hx : xs[i]? = some (xs[i]'(by omega)) := List.getElem?_eq_getElem _
  rw [ho, hc, hx] at h
  have ht1 : (cs.drop o).take 1 = [c] := by
    have hi' : o < cs.length := (List.getElem?_eq_some_iff.1 hcell).1
    have hv : cs[o] = c := (List.getElem?_eq_some_iff.1 hcell).2
    rw [List.drop_eq_getElem_cons hi']; simp [hv]
  rw [ht1] at h
  exact slice_row ht he hce h
end
theorem array4 {α : Type} {cs : Array α} (h : cs.size = 4) : ∃ c0 c1 c2 c3, cs = #[c0, c1, c2, c3] := by
  obtain ⟨l⟩ := cs
  match l, h with
  | [c0, c1, c2, c3], _ => exact ⟨c0, c1, c2, c3, rfl⟩
theorem array10 {α : Type} {cs : Array α} (h : cs.size = 10) : ∃ c0 c1 c2 c3 c4 c5 c6 c7 c8 c9, cs = #[c0, c1, c2, c3, c4, c5, c6, c7, c8, c9] := by
  obtain ⟨l⟩ := cs
  match l, h with
  | [c0, c1, c2, c3, c4, c5, c6, c7, c8, c9], _ => exact ⟨c0, c1, c2, c3, c4, c5, c6, c7, c8, c9, rfl⟩
section
variable {H : Type} {enc : TypeId × Value → H} {w : World} {base : Nat} {spare : Nat → Bool} {held : Bool}
set_option maxRecDepth 100000 in
set_option maxHeartbeats 1000000 in
theorem open_image {r : Reach} {b0 : Nat} {val : Value} {d : DataW H} {p : List MemPlace} (hv : Value.okWide Try.prog w r b0 33 val) (h : DataW.Trod enc Try.prog w base spare held 33 val d p) :
    ∃ (v : W.IV) (m : Pl.Img), val = .agg #[.slice v.code.a v.code.len v.code.cap, .slice v.data.a v.data.len v.data.cap, .int .i64 m.entry, .int .i64 m.size] ∧ W.IIs 0 w v m ∧ (Lit.int .i64 m.entry).wf = true ∧ (Lit.int .i64 m.size).wf = true := by
  obtain ⟨cs, rfl, hsz⟩ := okWide_struct Try.underlying33 hv
  have hC : Try.prog.cellsOf 33 = 4 := by kernel_rfl
  obtain ⟨c0, c1, c2, c3, rfl⟩ := array4 (hsz.trans hC)
  clear hsz hC
  have h3 : Try.prog.cellsOf 3 = 1 := by kernel_rfl
  have h5 : Try.prog.cellsOf 5 = 1 := by kernel_rfl
  have hI : Try.prog.cellsOf 22 = 1 := by kernel_rfl
  have hB : Try.prog.cellsOf 23 = 1 := by kernel_rfl
  obtain ⟨fuel, hf⟩ := h
  have hf' : DataW.trod enc Try.prog w base spare held fuel 33 [c0, c1, c2, c3] = some (d, p) := by simpa [Value.cells] using hf
  obtain ⟨a0, l0, k0, z0, rfl, r0⟩ := field_slice Try.underlying33 hf' 0 _ 0 rfl rfl Try.underlying22 Try.underlying3 h3 hI c0 rfl
  obtain ⟨a1, l1, k1, z1, rfl, r1⟩ := field_slice Try.underlying33 hf' 1 _ 1 rfl rfl Try.underlying23 Try.underlying5 h5 hB c1 rfl
  obtain ⟨x2, rfl, w2⟩ := field_int Try.underlying33 hf' 2 _ rfl rfl (k := .i64) Try.underlying3 h3 c2 rfl
  obtain ⟨x3, rfl, w3⟩ := field_int Try.underlying33 hf' 3 _ rfl rfl (k := .i64) Try.underlying3 h3 c3 rfl
  exact ⟨⟨⟨a0, l0, k0⟩, ⟨a1, l1, k1⟩⟩, ⟨z0, z1, x2, x3⟩, rfl, ⟨r0, r1⟩, w2, w3⟩
set_option maxRecDepth 100000 in
set_option maxHeartbeats 1000000 in
theorem open_machine {r : Reach} {b0 : Nat} {val : Value} {d : DataW H} {p : List MemPlace} (hv : Value.okWide Try.prog w r b0 25 val) (h : DataW.Trod enc Try.prog w base spare held 25 val d p) :
    ∃ (v : W.MV) (m : Pl.Mac), val = .agg #[.slice v.code.a v.code.len v.code.cap, .int .i64 m.pc, .slice v.regs.a v.regs.len v.regs.cap, .slice v.data.a v.data.len v.data.cap, .slice v.stk.a v.stk.len v.stk.cap, .slice v.inp.a v.inp.len v.inp.cap, .slice v.out.a v.out.len v.out.cap, .int .i64 m.steps, .int .i64 m.fin, .int .i64 m.val] ∧ W.MIs 0 w v m ∧ (Lit.int .i64 m.pc).wf = true ∧ (Lit.int .i64 m.steps).wf = true ∧ (Lit.int .i64 m.fin).wf = true ∧ (Lit.int .i64 m.val).wf = true := by
  obtain ⟨cs, rfl, hsz⟩ := okWide_struct Try.underlying25 hv
  have hC : Try.prog.cellsOf 25 = 10 := by kernel_rfl
  obtain ⟨c0, c1, c2, c3, c4, c5, c6, c7, c8, c9, rfl⟩ := array10 (hsz.trans hC)
  clear hsz hC
  have h3 : Try.prog.cellsOf 3 = 1 := by kernel_rfl
  have h5 : Try.prog.cellsOf 5 = 1 := by kernel_rfl
  have hI : Try.prog.cellsOf 22 = 1 := by kernel_rfl
  have hB : Try.prog.cellsOf 23 = 1 := by kernel_rfl
  obtain ⟨fuel, hf⟩ := h
  have hf' : DataW.trod enc Try.prog w base spare held fuel 25 [c0, c1, c2, c3, c4, c5, c6, c7, c8, c9] = some (d, p) := by simpa [Value.cells] using hf
  obtain ⟨a0, l0, k0, z0, rfl, r0⟩ := field_slice Try.underlying25 hf' 0 _ 0 rfl rfl Try.underlying22 Try.underlying3 h3 hI c0 rfl
  obtain ⟨x1, rfl, w1⟩ := field_int Try.underlying25 hf' 1 _ rfl rfl (k := .i64) Try.underlying3 h3 c1 rfl
  obtain ⟨a2, l2, k2, z2, rfl, r2⟩ := field_slice Try.underlying25 hf' 2 _ 2 rfl rfl Try.underlying22 Try.underlying3 h3 hI c2 rfl
  obtain ⟨a3, l3, k3, z3, rfl, r3⟩ := field_slice Try.underlying25 hf' 3 _ 3 rfl rfl Try.underlying23 Try.underlying5 h5 hB c3 rfl
  obtain ⟨a4, l4, k4, z4, rfl, r4⟩ := field_slice Try.underlying25 hf' 4 _ 4 rfl rfl Try.underlying23 Try.underlying5 h5 hB c4 rfl
  obtain ⟨a5, l5, k5, z5, rfl, r5⟩ := field_slice Try.underlying25 hf' 5 _ 5 rfl rfl Try.underlying23 Try.underlying5 h5 hB c5 rfl
  obtain ⟨a6, l6, k6, z6, rfl, r6⟩ := field_slice Try.underlying25 hf' 6 _ 6 rfl rfl Try.underlying23 Try.underlying5 h5 hB c6 rfl
  obtain ⟨x7, rfl, w7⟩ := field_int Try.underlying25 hf' 7 _ rfl rfl (k := .i64) Try.underlying3 h3 c7 rfl
  obtain ⟨x8, rfl, w8⟩ := field_int Try.underlying25 hf' 8 _ rfl rfl (k := .i64) Try.underlying3 h3 c8 rfl
  obtain ⟨x9, rfl, w9⟩ := field_int Try.underlying25 hf' 9 _ rfl rfl (k := .i64) Try.underlying3 h3 c9 rfl
  exact ⟨⟨⟨a0, l0, k0⟩, ⟨a2, l2, k2⟩, ⟨a3, l3, k3⟩, ⟨a4, l4, k4⟩, ⟨a5, l5, k5⟩, ⟨a6, l6, k6⟩⟩, ⟨z0, x1, z2, z3, z4, z5, z6, x7, x8, x9⟩, rfl, ⟨r0, r2, r3, r4, r5, r6⟩, w1, w7, w8, w9⟩
end
end Go.Proofs.Ytgopdicmmglakaa.Kit
