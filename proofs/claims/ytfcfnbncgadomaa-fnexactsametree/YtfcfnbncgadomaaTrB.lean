import Derived.Test.YtfcfnbncgadomaaTrA
set_option linter.unusedVariables false
set_option linter.unusedSimpArgs false
namespace Go.Proofs.Ytfcfnbncgadomaa.W
open Go.RowKit
theorem Row.set {k : IntKind} {lo : Nat} {w : World} {a : Option Addr} {len cap : Nat} {zs : List Int} (h : Row k lo w a len cap zs) {g : Nat} (hg : g < lo) (j : Nat) (x : Value) : Row k lo (w.setCell ⟨g, j, none⟩ x) a len cap zs := by
  obtain ⟨h1, h2, h3, h4, h5⟩ := h
  refine ⟨h1, h2, h3, h4, ?_⟩
  rcases h5 with h5 | ⟨b, off, ha, hlo, hlt, hc⟩
  · exact .inl h5
  · refine .inr ⟨b, off, ha, hlo, by simpa using hlt, fun i hi => ?_⟩
    rw [World.cell?_setCell_other _ _ _ _ (by intro e; injection e with e1 _; omega)]
    exact hc i hi
theorem tr_ne {g p q : Nat} (h : p ≠ q) : (⟨g, p, none⟩ : Addr) ≠ ⟨g, q, none⟩ := fun e => h (by injection e)
theorem tr_isSome {u : World} {p q : Addr} {v : Value} (h : (u.cell? q).isSome = true) : ((u.setCell p v).cell? q).isSome = true := by
  obtain ⟨x, hx⟩ := Option.isSome_iff_exists.1 h
  obtain ⟨y, hy⟩ := cell?_setCell_some (p := p) (x := v) hx
  rw [hy]; rfl
/-- a node's cells are set -/
def set7 (u : World) (g o : Nat) (x : Pl.Nd) (v : SV) : World := ((((((u.setCell ⟨g, o, none⟩ (.int .i64 x.k)).setCell ⟨g, o + 1, none⟩ (.int .i64 x.m)).setCell ⟨g, o + 2, none⟩ (.int .i64 x.n)).setCell ⟨g, o + 3, none⟩ (.string x.s)).setCell ⟨g, o + 4, none⟩ (.slice v.a v.len v.cap)).setCell ⟨g, o + 5, none⟩ (.int .i64 x.line)).setCell ⟨g, o + 6, none⟩ (.int .i64 x.col)
theorem set7_out {u : World} {g o q : Nat} (x : Pl.Nd) (v : SV) (h : q < o ∨ o + 7 ≤ q) : (set7 u g o x v).cell? ⟨g, q, none⟩ = u.cell? ⟨g, q, none⟩ := by
  unfold set7
  rw [World.cell?_setCell_other _ _ _ _ (tr_ne (by omega)), World.cell?_setCell_other _ _ _ _ (tr_ne (by omega)), World.cell?_setCell_other _ _ _ _ (tr_ne (by omega)), World.cell?_setCell_other _ _ _ _ (tr_ne (by omega)), World.cell?_setCell_other _ _ _ _ (tr_ne (by omega)), World.cell?_setCell_other _ _ _ _ (tr_ne (by omega)), World.cell?_setCell_other _ _ _ _ (tr_ne (by omega))]
theorem set7_in {u : World} {g o : Nat} (x : Pl.Nd) (v : SV) (h : ∀ j, j < 7 → (u.cell? ⟨g, o + j, none⟩).isSome = true) (j : Nat) (hj : j < 7) : (set7 u g o x v).cell? ⟨g, o + j, none⟩ = (x.cells v)[j]? := by
  have t := h j hj
  unfold set7
  rcases (show j = 0 ∨ j = 1 ∨ j = 2 ∨ j = 3 ∨ j = 4 ∨ j = 5 ∨ j = 6 by omega) with rfl | rfl | rfl | rfl | rfl | rfl | rfl
  · change World.cell? _ ⟨g, o, none⟩ = _
    rw [World.cell?_setCell_other _ _ _ _ (tr_ne (by omega)), World.cell?_setCell_other _ _ _ _ (tr_ne (by omega)), World.cell?_setCell_other _ _ _ _ (tr_ne (by omega)), World.cell?_setCell_other _ _ _ _ (tr_ne (by omega)), World.cell?_setCell_other _ _ _ _ (tr_ne (by omega)), World.cell?_setCell_other _ _ _ _ (tr_ne (by omega))]
    rw [World.cell?_setCell_same' _ _ _ (show (u.cell? ⟨g, o, none⟩).isSome = true from t)]
    rfl
  · rw [World.cell?_setCell_other _ _ _ _ (tr_ne (by omega)), World.cell?_setCell_other _ _ _ _ (tr_ne (by omega)), World.cell?_setCell_other _ _ _ _ (tr_ne (by omega)), World.cell?_setCell_other _ _ _ _ (tr_ne (by omega)), World.cell?_setCell_other _ _ _ _ (tr_ne (by omega))]
    rw [World.cell?_setCell_same' _ _ _ (tr_isSome t)]
    rfl
  · rw [World.cell?_setCell_other _ _ _ _ (tr_ne (by omega)), World.cell?_setCell_other _ _ _ _ (tr_ne (by omega)), World.cell?_setCell_other _ _ _ _ (tr_ne (by omega)), World.cell?_setCell_other _ _ _ _ (tr_ne (by omega))]
    rw [World.cell?_setCell_same' _ _ _ (tr_isSome (tr_isSome t))]
    rfl
  · rw [World.cell?_setCell_other _ _ _ _ (tr_ne (by omega)), World.cell?_setCell_other _ _ _ _ (tr_ne (by omega)), World.cell?_setCell_other _ _ _ _ (tr_ne (by omega))]
    rw [World.cell?_setCell_same' _ _ _ (tr_isSome (tr_isSome (tr_isSome t)))]
    rfl
  · rw [World.cell?_setCell_other _ _ _ _ (tr_ne (by omega)), World.cell?_setCell_other _ _ _ _ (tr_ne (by omega))]
    rw [World.cell?_setCell_same' _ _ _ (tr_isSome (tr_isSome (tr_isSome (tr_isSome t))))]
    rfl
  · rw [World.cell?_setCell_other _ _ _ _ (tr_ne (by omega))]
    rw [World.cell?_setCell_same' _ _ _ (tr_isSome (tr_isSome (tr_isSome (tr_isSome (tr_isSome t)))))]
    rfl
  · rw [World.cell?_setCell_same' _ _ _ (tr_isSome (tr_isSome (tr_isSome (tr_isSome (tr_isSome (tr_isSome t))))))]
    rfl
theorem set7_size (u : World) (g o : Nat) (x : Pl.Nd) (v : SV) : (set7 u g o x v).heap.size = u.heap.size := by unfold set7; simp only [World.size_setCell]
theorem set7_frozen (u : World) (g o : Nat) (x : Pl.Nd) (v : SV) (p : Addr) : (set7 u g o x v).frozen? p = u.frozen? p := by unfold set7; simp only [World.frozen?_setCell]
theorem set7_below {w u : World} {B g : Nat} (h : Below B w u) (hg : B ≤ g) (o : Nat) (x : Pl.Nd) (v : SV) : Below B w (set7 u g o x v) := by
  unfold set7
  exact ((((((h.setCell (p := ⟨g, o, none⟩) hg _).setCell (p := ⟨g, o + 1, none⟩) hg _).setCell (p := ⟨g, o + 2, none⟩) hg _).setCell (p := ⟨g, o + 3, none⟩) hg _).setCell (p := ⟨g, o + 4, none⟩) hg _).setCell (p := ⟨g, o + 5, none⟩) hg _).setCell (p := ⟨g, o + 6, none⟩) hg _
theorem set7_row {k : IntKind} {lo : Nat} {w : World} {a : Option Addr} {len cap : Nat} {zs : List Int} (h : Row k lo w a len cap zs) {g : Nat} (hg : g < lo) (o : Nat) (x : Pl.Nd) (v : SV) : Row k lo (set7 w g o x v) a len cap zs := by
  unfold set7
  exact ((((((h.set hg _ _).set hg _ _).set hg _ _).set hg _ _).set hg _ _).set hg _ _).set hg _ _
theorem tr_put {u : World} {g : Nat} {cs cs' : Array Value} {t : TypeId} (q : u.heap[g]? = some (.cells cs t)) (j : Nat) (x : Value) (e : cs.setIfInBounds j x = cs') : (u.setCell ⟨g, j, none⟩ x).heap[g]? = some (.cells cs' t) := by
  rw [← e]; exact heap_setCell_same u g j cs t x q
theorem tr_at {P : Program} {f : Nat} {args : Array Value} {W : World} {Q : Ending → World → Prop} (h : ∀ U, U = W → Calls P f args U Q) : Calls P f args W Q := h W rfl
set_option maxHeartbeats 2000000 in
theorem toNode_any {lo : Nat} (x : Pl.Nd) (v : SV) (w : World) (h : Row .i64 lo w v.a v.len v.cap x.kids) (hl : v.len ≤ 1048576) :
    Calls Try.prog 64 #[.agg #[.int .i64 x.k, .int .i64 x.m, .int .i64 x.n, .string x.s, .slice v.a v.len v.cap, .int .i64 x.line, .int .i64 x.col]] w fun e w' => ∃ v' : SV, e = .returned (.agg #[.int .i64 x.k, .int .i64 x.m, .int .i64 x.n, .string x.s, .slice v'.a v'.len v'.cap, .int .i64 x.line, .int .i64 x.col]) ∧ Own .i64 3 w.heap.size w' v'.a v'.len v'.cap x.kids ∧ Below w.heap.size w w' := by
  have HR : Hid (Row .i64 lo w v.a v.len v.cap x.kids) := h
  clear h
  go_enter Try.func64, Try.ntmps64
  go_wp2_with fail
  refine tr_at fun U1 hU1 => ?_
  have z1 : U1.heap.size = w.heap.size + 3 := by rw [hU1]; simp
  have q0 : U1.heap[w.heap.size]? = some (.cells #[.int .i64 x.k, .int .i64 x.m, .int .i64 x.n, .string x.s, .slice v.a v.len v.cap, .int .i64 x.line, .int .i64 x.col] 92) := by
    rw [hU1]
    rw [Below.heap_alloc _ _ _ (by simp; omega), Below.heap_alloc _ _ _ (by simp)]
    exact heap_alloc_new w _
  have q1 : U1.heap[w.heap.size + 1]? = some (.cells #[.int .i64 0, .int .i64 0, .int .i64 0, .string ⟨#[]⟩, .slice none 0 0, .int .i64 0, .int .i64 0] 69) := by
    rw [hU1]
    rw [Below.heap_alloc _ _ _ (by simp)]
    have := heap_alloc_new (w.alloc (.cells #[.int .i64 x.k, .int .i64 x.m, .int .i64 x.n, .string x.s, .slice v.a v.len v.cap, .int .i64 x.line, .int .i64 x.col] 92)) (.cells #[.int .i64 0, .int .i64 0, .int .i64 0, .string ⟨#[]⟩, .slice none 0 0, .int .i64 0, .int .i64 0] 69)
    simpa using this
  have q2 : U1.heap[w.heap.size + 1 + 1]? = some (.cells #[.int .i64 x.k, .int .i64 x.m, .int .i64 x.n, .string x.s, .slice none 0 0, .int .i64 0, .int .i64 0] 69) := by
    rw [hU1]
    have := heap_alloc_new ((w.alloc (.cells #[.int .i64 x.k, .int .i64 x.m, .int .i64 x.n, .string x.s, .slice v.a v.len v.cap, .int .i64 x.line, .int .i64 x.col] 92)).alloc (.cells #[.int .i64 0, .int .i64 0, .int .i64 0, .string ⟨#[]⟩, .slice none 0 0, .int .i64 0, .int .i64 0] 69)) (.cells #[.int .i64 x.k, .int .i64 x.m, .int .i64 x.n, .string x.s, .slice none 0 0, .int .i64 0, .int .i64 0] 69)
    simpa using this
  have b1 : Below w.heap.size w U1 := by
    rw [hU1]
    repeat (first | exact Below.refl _ _ | refine Below.setCell ?_ (by simp; omega) _ | refine Below.alloc ?_ (by simp <;> omega) _)
  clear hU1
  refine (toIntS_any v.a v.len v.cap x.kids U1 (HR.out.keep b1) hl).mono ?_
  rintro e u1 ⟨rfl, o1, d1⟩
  have Q0 := (d1.block w.heap.size (by omega)).trans q0
  have Q1 := (d1.block (w.heap.size + 1) (by omega)).trans q1
  have Q2 := (d1.block (w.heap.size + 1 + 1) (by omega)).trans q2
  have B1 : Hid (Below w.heap.size w u1) := b1.trans (d1.mono (by omega))
  have O1 : Hid (Own .i64 3 U1.heap.size u1 (some ⟨U1.heap.size, 0, none⟩) v.len v.len x.kids) := o1
  have k0 : ∀ j, u1.cell? ⟨w.heap.size, j, none⟩ = (#[.int .i64 x.k, .int .i64 x.m, .int .i64 x.n, .string x.s, .slice v.a v.len v.cap, .int .i64 x.line, .int .i64 x.col] : Array Value)[j]? := fun j => cell_of_row u1 w.heap.size j _ 92 (0, 0) Q0
  have k1 : ∀ j, u1.cell? ⟨w.heap.size + 1, j, none⟩ = (#[.int .i64 0, .int .i64 0, .int .i64 0, .string ⟨#[]⟩, .slice none 0 0, .int .i64 0, .int .i64 0] : Array Value)[j]? := fun j => cell_of_row u1 (w.heap.size + 1) j _ 69 (0, 0) Q1
  have k2 : ∀ j, u1.cell? ⟨w.heap.size + 1 + 1, j, none⟩ = (#[.int .i64 x.k, .int .i64 x.m, .int .i64 x.n, .string x.s, .slice none 0 0, .int .i64 0, .int .i64 0] : Array Value)[j]? := fun j => cell_of_row u1 (w.heap.size + 1 + 1) j _ 69 (0, 0) Q2
  have f1 : ∀ j, u1.frozen? ⟨w.heap.size + 1, j, none⟩ = false := fun j => frozen_of_row u1 (w.heap.size + 1) j _ 69 Q1
  have f2 : ∀ j, u1.frozen? ⟨w.heap.size + 1 + 1, j, none⟩ = false := fun j => frozen_of_row u1 (w.heap.size + 1 + 1) j _ 69 Q2
  have Z1 : Hid (U1.heap.size = w.heap.size + 3) := z1
  have HQ1 : Hid (u1.heap[w.heap.size + 1]? = some (.cells #[.int .i64 0, .int .i64 0, .int .i64 0, .string ⟨#[]⟩, .slice none 0 0, .int .i64 0, .int .i64 0] 69)) := Q1
  clear Q0 Q1 Q2 q0 q1 q2 b1 o1 d1 z1
  go_wp2
  refine bodyPost_ret (v := .agg #[.int .i64 x.k, .int .i64 x.m, .int .i64 x.n, .string x.s, .slice (some ⟨U1.heap.size, 0, none⟩) v.len v.len, .int .i64 x.line, .int .i64 x.col]) ?_ rfl ⟨⟨some ⟨U1.heap.size, 0, none⟩, v.len, v.len⟩, rfl, ?_, ?_⟩
  · refine results_cell_row Try.results64 _ _ (w.heap.size + 1) 69 #[.int .i64 x.k, .int .i64 x.m, .int .i64 x.n, .string x.s, .slice (some ⟨U1.heap.size, 0, none⟩) v.len v.len, .int .i64 x.line, .int .i64 x.col] (0, 0) _ ?hp ?hg Try.underlying69 ?hd ?hi
    case hp => rfl
    case hd => rfl
    case hi => kernel_rfl
    case hg =>
      have h0 : (((u1.setCell ⟨w.heap.size + 1 + 1, 4, none⟩ (.slice (some ⟨U1.heap.size, 0, none⟩) v.len v.len)).setCell ⟨w.heap.size + 1 + 1, 5, none⟩ (.int .i64 x.line)).setCell ⟨w.heap.size + 1 + 1, 6, none⟩ (.int .i64 x.col)).heap[w.heap.size + 1]? = some (.cells #[.int .i64 0, .int .i64 0, .int .i64 0, .string ⟨#[]⟩, .slice none 0 0, .int .i64 0, .int .i64 0] 69) := by
        rw [heap_setCell_other _ _ _ _ (show w.heap.size + 1 ≠ w.heap.size + 1 + 1 by omega), heap_setCell_other _ _ _ _ (show w.heap.size + 1 ≠ w.heap.size + 1 + 1 by omega), heap_setCell_other _ _ _ _ (show w.heap.size + 1 ≠ w.heap.size + 1 + 1 by omega)]
        exact HQ1.out
      have h1 := tr_put (cs' := #[.int .i64 x.k, .int .i64 0, .int .i64 0, .string ⟨#[]⟩, .slice none 0 0, .int .i64 0, .int .i64 0]) h0 0 (.int .i64 x.k) rfl
      have h2 := tr_put (cs' := #[.int .i64 x.k, .int .i64 x.m, .int .i64 0, .string ⟨#[]⟩, .slice none 0 0, .int .i64 0, .int .i64 0]) h1 1 (.int .i64 x.m) rfl
      have h3 := tr_put (cs' := #[.int .i64 x.k, .int .i64 x.m, .int .i64 x.n, .string ⟨#[]⟩, .slice none 0 0, .int .i64 0, .int .i64 0]) h2 2 (.int .i64 x.n) rfl
      have h4 := tr_put (cs' := #[.int .i64 x.k, .int .i64 x.m, .int .i64 x.n, .string x.s, .slice none 0 0, .int .i64 0, .int .i64 0]) h3 3 (.string x.s) rfl
      have h5 := tr_put (cs' := #[.int .i64 x.k, .int .i64 x.m, .int .i64 x.n, .string x.s, .slice (some ⟨U1.heap.size, 0, none⟩) v.len v.len, .int .i64 0, .int .i64 0]) h4 4 (.slice (some ⟨U1.heap.size, 0, none⟩) v.len v.len) rfl
      have h6 := tr_put (cs' := #[.int .i64 x.k, .int .i64 x.m, .int .i64 x.n, .string x.s, .slice (some ⟨U1.heap.size, 0, none⟩) v.len v.len, .int .i64 x.line, .int .i64 0]) h5 5 (.int .i64 x.line) rfl
      have h7 := tr_put (cs' := #[.int .i64 x.k, .int .i64 x.m, .int .i64 x.n, .string x.s, .slice (some ⟨U1.heap.size, 0, none⟩) v.len v.len, .int .i64 x.line, .int .i64 x.col]) h6 6 (.int .i64 x.col) rfl
      exact h7
  · have hz := Z1.out
    have o2 : Own .i64 3 (w.heap.size + 2 + 1) u1 (some ⟨U1.heap.size, 0, none⟩) v.len v.len x.kids := by rw [show w.heap.size + 2 + 1 = U1.heap.size by omega]; exact O1.out
    refine Own.lower (Own.same o2 (B := w.heap.size + 2 + 1) ?_ (Nat.le_refl _)) (by omega)
    repeat (first | with_reducible exact Above.refl _ _ | refine Above.setCell ?_ (by simp <;> omega) _)
  · repeat (first | with_reducible exact B1.out | refine Below.setCell ?_ (by simp <;> omega) _)
end Go.Proofs.Ytfcfnbncgadomaa.W
