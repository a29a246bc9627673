import Derived.Test.YteadglnenaiaaaaGreatDoorK01
import Derived.Deep.Cut
import Derived.Deep.DeepCutAuto
import Derived.Deep.CutRange
import Derived.Laws.MakeOwn
import Derived.Laws.OwnMore
import Derived.Deep.QuietTactic
import Derived.BigQuiet
import Derived.Deep.RegionWith
import Derived.Test.YteadglnenaiaaaaGreatDoorK00
set_option linter.unusedVariables false
set_option linter.unusedSimpArgs false
namespace Go.Proofs.YteadglnenaiaaaaGreatDoor.Pl
structure Nd where
  k : Int
  m : Int
  n : Int
  s : ByteArray
  kids : List Int
  line : Int
  col : Int
def Nd.cells (x : Nd) (v : W.SV) : Array Value := #[.int .i64 x.k, .int .i64 x.m, .int .i64 x.n, .string x.s, .slice v.a v.len v.cap, .int .i64 x.line, .int .i64 x.col]
def Nd.zero : Nd := ⟨0, 0, 0, ⟨#[]⟩, [], 0, 0⟩
end Go.Proofs.YteadglnenaiaaaaGreatDoor.Pl
namespace Go.Proofs.YteadglnenaiaaaaGreatDoor.W
open Go.RowKit
def NRow (lo : Nat) (w : World) (a : Option Addr) (len cap : Nat) (xs : List Pl.Nd) : Prop :=
  (xs.length = len ∧ ∀ x ∈ xs, x.s.size ≤ maxLen) ∧ len ≤ cap ∧ cap ≤ maxLen ∧ (len = 0 ∨ ∃ b off, a = some ⟨b, off, none⟩ ∧ lo ≤ b ∧ b < w.heap.size ∧ ∀ i, i < len → ∃ v : SV, (∀ j, j < 7 → w.cell? ⟨b, off + i * 7 + j, none⟩ = ((xs.getD i Pl.Nd.zero).cells v)[j]?) ∧ Row .i64 lo w v.a v.len v.cap (xs.getD i Pl.Nd.zero).kids)
theorem NRow.keep {lo : Nat} {w w' : World} {a : Option Addr} {len cap : Nat} {xs : List Pl.Nd} (h : NRow lo w a len cap xs) (hb : Below w.heap.size w w') : NRow lo w' a len cap xs := by
  obtain ⟨h1, h2, h3, h4⟩ := h
  refine ⟨h1, h2, h3, ?_⟩
  rcases h4 with h4 | ⟨b, off, ha, hlo, hlt, hc⟩
  · exact .inl h4
  · refine .inr ⟨b, off, ha, hlo, Nat.lt_of_lt_of_le hlt hb.size, fun i hi => ?_⟩
    obtain ⟨v, h5, h6⟩ := hc i hi
    exact ⟨v, fun j hj => (hb.cell (p := ⟨b, off + i * 7 + j, none⟩) hlt).trans (h5 j hj), h6.keep hb⟩
theorem NRow.at {lo : Nat} {w : World} {a : Option Addr} {len cap : Nat} {xs : List Pl.Nd} (h : NRow lo w a len cap xs) {k : Nat} (hk : k < len) :
    ∃ (b off : Nat) (v : SV), a = some ⟨b, off, none⟩ ∧ lo ≤ b ∧ b < w.heap.size ∧ (∀ j, j < 7 → w.cell? ⟨b, off + k * 7 + j, none⟩ = ((xs.getD k Pl.Nd.zero).cells v)[j]?) ∧ Row .i64 lo w v.a v.len v.cap (xs.getD k Pl.Nd.zero).kids ∧ (xs.getD k Pl.Nd.zero).s.size ≤ maxLen := by
  obtain ⟨h1, h2, h3, h4⟩ := h
  rcases h4 with h4 | ⟨b, off, ha, hlo, hlt, hc⟩
  · omega
  · obtain ⟨v, h5, h6⟩ := hc k hk
    refine ⟨b, off, v, ha, hlo, hlt, h5, h6, ?_⟩
    rw [List.getD_eq_getElem?_getD, List.getElem?_eq_getElem (by rw [h1.1]; exact hk)]
    exact h1.2 _ (List.getElem_mem _)
theorem nd_cells {u : World} {b o : Nat} {x : Pl.Nd} {v : SV} (h : ∀ j, j < 7 → u.cell? ⟨b, o + j, none⟩ = (x.cells v)[j]?) : u.cell? ⟨b, o, none⟩ = some (.int .i64 x.k) ∧ u.cell? ⟨b, o + 1, none⟩ = some (.int .i64 x.m) ∧ u.cell? ⟨b, o + 2, none⟩ = some (.int .i64 x.n) ∧ u.cell? ⟨b, o + 3, none⟩ = some (.string x.s) ∧ u.cell? ⟨b, o + 4, none⟩ = some (.slice v.a v.len v.cap) ∧ u.cell? ⟨b, o + 5, none⟩ = some (.int .i64 x.line) ∧ u.cell? ⟨b, o + 6, none⟩ = some (.int .i64 x.col) :=
  ⟨h 0 (by decide), h 1 (by decide), h 2 (by decide), h 3 (by decide), h 4 (by decide), h 5 (by decide), h 6 (by decide)⟩
end Go.Proofs.YteadglnenaiaaaaGreatDoor.W
namespace Go.Proofs.YteadglnenaiaaaaGreatDoor.W
open Go.RowKit
theorem Row.set {k : IntKind} {lo : Nat} {w : World} {a : Option Addr} {len cap : Nat} {zs : List Int} (h : Row k lo w a len cap zs) {g : Nat} (hg : g < lo) (j : Nat) (x : Value) : Row k lo (w.setCell ⟨g, j, none⟩ x) a len cap zs := by
  obtain ⟨h1, h2, h3, h4, h5⟩ := h
  refine ⟨h1, h2, h3, h4, ?_⟩
  rcases h5 with h5 | ⟨b, off, ha, hlo, hlt, hc⟩
  · exact .inl h5
  · refine .inr ⟨b, off, ha, hlo, by simpa using hlt, fun i hi => ?_⟩
    rw [World.cell?_setCell_other _ _ _ _ (by intro e; injection e with e1 _; omega)]
    exact hc i hi
theorem tr_ne {g p q : Nat} (h : p ≠ q) : (⟨g, p, none⟩ : Addr) ≠ ⟨g, q, none⟩ := fun e => h (by injection e)
theorem tr_isSome {u : World} {p q : Addr} {v : Value} (h : (u.cell? q).isSome = true) : ((u.setCell p v).cell? q).isSome = true := by
  obtain ⟨x, hx⟩ := Option.isSome_iff_exists.1 h
  obtain ⟨y, hy⟩ := cell?_setCell_some (p := p) (x := v) hx
  rw [hy]; rfl
def set7 (u : World) (g o : Nat) (x : Pl.Nd) (v : SV) : World := ((((((u.setCell ⟨g, o, none⟩ (.int .i64 x.k)).setCell ⟨g, o + 1, none⟩ (.int .i64 x.m)).setCell ⟨g, o + 2, none⟩ (.int .i64 x.n)).setCell ⟨g, o + 3, none⟩ (.string x.s)).setCell ⟨g, o + 4, none⟩ (.slice v.a v.len v.cap)).setCell ⟨g, o + 5, none⟩ (.int .i64 x.line)).setCell ⟨g, o + 6, none⟩ (.int .i64 x.col)
theorem set7_out {u : World} {g o q : Nat} (x : Pl.Nd) (v : SV) (h : q < o ∨ o + 7 ≤ q) : (set7 u g o x v).cell? ⟨g, q, none⟩ = u.cell? ⟨g, q, none⟩ := by
  unfold set7
  rw [World.cell?_setCell_other _ _ _ _ (tr_ne (by omega)), World.cell?_setCell_other _ _ _ _ (tr_ne (by omega)), World.cell?_setCell_other _ _ _ _ (tr_ne (by omega)), World.cell?_setCell_other _ _ _ _ (tr_ne (by omega)), World.cell?_setCell_other _ _ _ _ (tr_ne (by omega)), World.cell?_setCell_other _ _ _ _ (tr_ne (by omega)), World.cell?_setCell_other _ _ _ _ (tr_ne (by omega))]
theorem set7_in {u : World} {g o : Nat} (x : Pl.Nd) (v : SV) (h : ∀ j, j < 7 → (u.cell? ⟨g, o + j, none⟩).isSome = true) (j : Nat) (hj : j < 7) : (set7 u g o x v).cell? ⟨g, o + j, none⟩ = (x.cells v)[j]? := by
  have t := h j hj
  unfold set7
  rcases (show j = 0 ∨ j = 1 ∨ j = 2 ∨ j = 3 ∨ j = 4 ∨ j = 5 ∨ j = 6 by omega) with rfl | rfl | rfl | rfl | rfl | rfl | rfl
  · change World.cell? _ ⟨g, o, none⟩ = _
    rw [World.cell?_setCell_other _ _ _ _ (tr_ne (by omega)), World.cell?_setCell_other _ _ _ _ (tr_ne (by omega)), World.cell?_setCell_other _ _ _ _ (tr_ne (by omega)), World.cell?_setCell_other _ _ _ _ (tr_ne (by omega)), World.cell?_setCell_other _ _ _ _ (tr_ne (by omega)), World.cell?_setCell_other _ _ _ _ (tr_ne (by omega))]
    rw [World.cell?_setCell_same' _ _ _ (show (u.cell? ⟨g, o, none⟩).isSome = true from t)]
    rfl
  · rw [World.cell?_setCell_other _ _ _ _ (tr_ne (by omega)), World.cell?_setCell_other _ _ _ _ (tr_ne (by omega)), World.cell?_setCell_other _ _ _ _ (tr_ne (by omega)), World.cell?_setCell_other _ _ _ _ (tr_ne (by omega)), World.cell?_setCell_other _ _ _ _ (tr_ne (by omega))]
    rw [World.cell?_setCell_same' _ _ _ (tr_isSome t)]
    rfl
  · rw [World.cell?_setCell_other _ _ _ _ (tr_ne (by omega)), World.cell?_setCell_other _ _ _ _ (tr_ne (by omega)), World.cell?_setCell_other _ _ _ _ (tr_ne (by omega)), World.cell?_setCell_other _ _ _ _ (tr_ne (by omega))]
    rw [World.cell?_setCell_same' _ _ _ (tr_isSome (tr_isSome t))]
    rfl
  · rw [World.cell?_setCell_other _ _ _ _ (tr_ne (by omega)), World.cell?_setCell_other _ _ _ _ (tr_ne (by omega)), World.cell?_setCell_other _ _ _ _ (tr_ne (by omega))]
    rw [World.cell?_setCell_same' _ _ _ (tr_isSome (tr_isSome (tr_isSome t)))]
    rfl
  · rw [World.cell?_setCell_other _ _ _ _ (tr_ne (by omega)), World.cell?_setCell_other _ _ _ _ (tr_ne (by omega))]
    rw [World.cell?_setCell_same' _ _ _ (tr_isSome (tr_isSome (tr_isSome (tr_isSome t))))]
    rfl
  · rw [World.cell?_setCell_other _ _ _ _ (tr_ne (by omega))]
    rw [World.cell?_setCell_same' _ _ _ (tr_isSome (tr_isSome (tr_isSome (tr_isSome (tr_isSome t)))))]
    rfl
  · rw [World.cell?_setCell_same' _ _ _ (tr_isSome (tr_isSome (tr_isSome (tr_isSome (tr_isSome (tr_isSome t))))))]
    rfl
theorem set7_below {w u : World} {B g : Nat} (h : Below B w u) (hg : B ≤ g) (o : Nat) (x : Pl.Nd) (v : SV) : Below B w (set7 u g o x v) := by
  unfold set7
  exact ((((((h.setCell (p := ⟨g, o, none⟩) hg _).setCell (p := ⟨g, o + 1, none⟩) hg _).setCell (p := ⟨g, o + 2, none⟩) hg _).setCell (p := ⟨g, o + 3, none⟩) hg _).setCell (p := ⟨g, o + 4, none⟩) hg _).setCell (p := ⟨g, o + 5, none⟩) hg _).setCell (p := ⟨g, o + 6, none⟩) hg _
theorem set7_row {k : IntKind} {lo : Nat} {w : World} {a : Option Addr} {len cap : Nat} {zs : List Int} (h : Row k lo w a len cap zs) {g : Nat} (hg : g < lo) (o : Nat) (x : Pl.Nd) (v : SV) : Row k lo (set7 w g o x v) a len cap zs := by
  unfold set7
  exact ((((((h.set hg _ _).set hg _ _).set hg _ _).set hg _ _).set hg _ _).set hg _ _).set hg _ _
theorem tr_put {u : World} {g : Nat} {cs cs' : Array Value} {t : TypeId} (q : u.heap[g]? = some (.cells cs t)) (j : Nat) (x : Value) (e : cs.setIfInBounds j x = cs') : (u.setCell ⟨g, j, none⟩ x).heap[g]? = some (.cells cs' t) := by
  rw [← e]; exact heap_setCell_same u g j cs t x q
theorem tr_at {P : Program} {f : Nat} {args : Array Value} {W : World} {Q : Ending → World → Prop} (h : ∀ U, U = W → Calls P f args U Q) : Calls P f args W Q := h W rfl
set_option maxHeartbeats 2000000 in
theorem toNode_any {lo : Nat} (x : Pl.Nd) (v : SV) (w : World) (h : Row .i64 lo w v.a v.len v.cap x.kids) (hl : v.len ≤ 1048576) :
    Calls Tryz.prog 27 #[.agg #[.int .i64 x.k, .int .i64 x.m, .int .i64 x.n, .string x.s, .slice v.a v.len v.cap, .int .i64 x.line, .int .i64 x.col]] w fun e w' => ∃ v' : SV, e = .returned (.agg #[.int .i64 x.k, .int .i64 x.m, .int .i64 x.n, .string x.s, .slice v'.a v'.len v'.cap, .int .i64 x.line, .int .i64 x.col]) ∧ Own .i64 3 w.heap.size w' v'.a v'.len v'.cap x.kids ∧ Below w.heap.size w w' := by
  have HR : Hid (Row .i64 lo w v.a v.len v.cap x.kids) := h
  clear h
  go_enter Tryz.func27, Tryz.ntmps27
  go_wp2_with fail
  refine tr_at fun U1 hU1 => ?_
  have z1 : U1.heap.size = w.heap.size + 3 := by rw [hU1]; simp
  have q0 : U1.heap[w.heap.size]? = some (.cells #[.int .i64 x.k, .int .i64 x.m, .int .i64 x.n, .string x.s, .slice v.a v.len v.cap, .int .i64 x.line, .int .i64 x.col] 52) := by
    rw [hU1]
    rw [Below.heap_alloc _ _ _ (by simp; omega), Below.heap_alloc _ _ _ (by simp)]
    exact heap_alloc_new w _
  have q1 : U1.heap[w.heap.size + 1]? = some (.cells #[.int .i64 0, .int .i64 0, .int .i64 0, .string ⟨#[]⟩, .slice none 0 0, .int .i64 0, .int .i64 0] 38) := by
    rw [hU1]
    rw [Below.heap_alloc _ _ _ (by simp)]
    have := heap_alloc_new (w.alloc (.cells #[.int .i64 x.k, .int .i64 x.m, .int .i64 x.n, .string x.s, .slice v.a v.len v.cap, .int .i64 x.line, .int .i64 x.col] 52)) (.cells #[.int .i64 0, .int .i64 0, .int .i64 0, .string ⟨#[]⟩, .slice none 0 0, .int .i64 0, .int .i64 0] 38)
    simpa using this
  have q2 : U1.heap[w.heap.size + 1 + 1]? = some (.cells #[.int .i64 x.k, .int .i64 x.m, .int .i64 x.n, .string x.s, .slice none 0 0, .int .i64 0, .int .i64 0] 38) := by
    rw [hU1]
    have := heap_alloc_new ((w.alloc (.cells #[.int .i64 x.k, .int .i64 x.m, .int .i64 x.n, .string x.s, .slice v.a v.len v.cap, .int .i64 x.line, .int .i64 x.col] 52)).alloc (.cells #[.int .i64 0, .int .i64 0, .int .i64 0, .string ⟨#[]⟩, .slice none 0 0, .int .i64 0, .int .i64 0] 38)) (.cells #[.int .i64 x.k, .int .i64 x.m, .int .i64 x.n, .string x.s, .slice none 0 0, .int .i64 0, .int .i64 0] 38)
    simpa using this
  have b1 : Below w.heap.size w U1 := by
    rw [hU1]
    repeat (first | exact Below.refl _ _ | refine Below.setCell ?_ (by simp; omega) _ | refine Below.alloc ?_ (by simp <;> omega) _)
  clear hU1
  refine (toIntS_any v.a v.len v.cap x.kids U1 (HR.out.keep b1) hl).mono ?_
  rintro e u1 ⟨rfl, o1, d1⟩
  have Q0 := (d1.block w.heap.size (by omega)).trans q0
  have Q1 := (d1.block (w.heap.size + 1) (by omega)).trans q1
  have Q2 := (d1.block (w.heap.size + 1 + 1) (by omega)).trans q2
  have B1 : Hid (Below w.heap.size w u1) := b1.trans (d1.mono (by omega))
  have O1 : Hid (Own .i64 3 U1.heap.size u1 (some ⟨U1.heap.size, 0, none⟩) v.len v.len x.kids) := o1
  have k0 : ∀ j, u1.cell? ⟨w.heap.size, j, none⟩ = (#[.int .i64 x.k, .int .i64 x.m, .int .i64 x.n, .string x.s, .slice v.a v.len v.cap, .int .i64 x.line, .int .i64 x.col] : Array Value)[j]? := fun j => cell_of_row u1 w.heap.size j _ 52 (0, 0) Q0
  have k1 : ∀ j, u1.cell? ⟨w.heap.size + 1, j, none⟩ = (#[.int .i64 0, .int .i64 0, .int .i64 0, .string ⟨#[]⟩, .slice none 0 0, .int .i64 0, .int .i64 0] : Array Value)[j]? := fun j => cell_of_row u1 (w.heap.size + 1) j _ 38 (0, 0) Q1
  have k2 : ∀ j, u1.cell? ⟨w.heap.size + 1 + 1, j, none⟩ = (#[.int .i64 x.k, .int .i64 x.m, .int .i64 x.n, .string x.s, .slice none 0 0, .int .i64 0, .int .i64 0] : Array Value)[j]? := fun j => cell_of_row u1 (w.heap.size + 1 + 1) j _ 38 (0, 0) Q2
  have f1 : ∀ j, u1.frozen? ⟨w.heap.size + 1, j, none⟩ = false := fun j => frozen_of_row u1 (w.heap.size + 1) j _ 38 Q1
  have f2 : ∀ j, u1.frozen? ⟨w.heap.size + 1 + 1, j, none⟩ = false := fun j => frozen_of_row u1 (w.heap.size + 1 + 1) j _ 38 Q2
  have Z1 : Hid (U1.heap.size = w.heap.size + 3) := z1
  have HQ1 : Hid (u1.heap[w.heap.size + 1]? = some (.cells #[.int .i64 0, .int .i64 0, .int .i64 0, .string ⟨#[]⟩, .slice none 0 0, .int .i64 0, .int .i64 0] 38)) := Q1
  clear Q0 Q1 Q2 q0 q1 q2 b1 o1 d1 z1
  go_wp2
  refine bodyPost_ret (v := .agg #[.int .i64 x.k, .int .i64 x.m, .int .i64 x.n, .string x.s, .slice (some ⟨U1.heap.size, 0, none⟩) v.len v.len, .int .i64 x.line, .int .i64 x.col]) ?_ rfl ⟨⟨some ⟨U1.heap.size, 0, none⟩, v.len, v.len⟩, rfl, ?_, ?_⟩
  · refine results_cell_row Tryz.results27 _ _ (w.heap.size + 1) 38 #[.int .i64 x.k, .int .i64 x.m, .int .i64 x.n, .string x.s, .slice (some ⟨U1.heap.size, 0, none⟩) v.len v.len, .int .i64 x.line, .int .i64 x.col] (0, 0) _ ?hp ?hg Tryz.underlying38 ?hd ?hi
    case hp => rfl
    case hd => rfl
    case hi => kernel_rfl
    case hg =>
      have h0 : (((u1.setCell ⟨w.heap.size + 1 + 1, 4, none⟩ (.slice (some ⟨U1.heap.size, 0, none⟩) v.len v.len)).setCell ⟨w.heap.size + 1 + 1, 5, none⟩ (.int .i64 x.line)).setCell ⟨w.heap.size + 1 + 1, 6, none⟩ (.int .i64 x.col)).heap[w.heap.size + 1]? = some (.cells #[.int .i64 0, .int .i64 0, .int .i64 0, .string ⟨#[]⟩, .slice none 0 0, .int .i64 0, .int .i64 0] 38) := by
        rw [heap_setCell_other _ _ _ _ (show w.heap.size + 1 ≠ w.heap.size + 1 + 1 by omega), heap_setCell_other _ _ _ _ (show w.heap.size + 1 ≠ w.heap.size + 1 + 1 by omega), heap_setCell_other _ _ _ _ (show w.heap.size + 1 ≠ w.heap.size + 1 + 1 by omega)]
        exact HQ1.out
      have h1 := tr_put (cs' := #[.int .i64 x.k, .int .i64 0, .int .i64 0, .string ⟨#[]⟩, .slice none 0 0, .int .i64 0, .int .i64 0]) h0 0 (.int .i64 x.k) rfl
      have h2 := tr_put (cs' := #[.int .i64 x.k, .int .i64 x.m, .int .i64 0, .string ⟨#[]⟩, .slice none 0 0, .int .i64 0, .int .i64 0]) h1 1 (.int .i64 x.m) rfl
      have h3 := tr_put (cs' := #[.int .i64 x.k, .int .i64 x.m, .int .i64 x.n, .string ⟨#[]⟩, .slice none 0 0, .int .i64 0, .int .i64 0]) h2 2 (.int .i64 x.n) rfl
      have h4 := tr_put (cs' := #[.int .i64 x.k, .int .i64 x.m, .int .i64 x.n, .string x.s, .slice none 0 0, .int .i64 0, .int .i64 0]) h3 3 (.string x.s) rfl
      have h5 := tr_put (cs' := #[.int .i64 x.k, .int .i64 x.m, .int .i64 x.n, .string x.s, .slice (some ⟨U1.heap.size, 0, none⟩) v.len v.len, .int .i64 0, .int .i64 0]) h4 4 (.slice (some ⟨U1.heap.size, 0, none⟩) v.len v.len) rfl
      have h6 := tr_put (cs' := #[.int .i64 x.k, .int .i64 x.m, .int .i64 x.n, .string x.s, .slice (some ⟨U1.heap.size, 0, none⟩) v.len v.len, .int .i64 x.line, .int .i64 0]) h5 5 (.int .i64 x.line) rfl
      have h7 := tr_put (cs' := #[.int .i64 x.k, .int .i64 x.m, .int .i64 x.n, .string x.s, .slice (some ⟨U1.heap.size, 0, none⟩) v.len v.len, .int .i64 x.line, .int .i64 x.col]) h6 6 (.int .i64 x.col) rfl
      exact h7
  · have hz := Z1.out
    have o2 : Own .i64 3 (w.heap.size + 2 + 1) u1 (some ⟨U1.heap.size, 0, none⟩) v.len v.len x.kids := by rw [show w.heap.size + 2 + 1 = U1.heap.size by omega]; exact O1.out
    refine Own.lower (Own.same o2 (B := w.heap.size + 2 + 1) ?_ (Nat.le_refl _)) (by omega)
    repeat (first | with_reducible exact Above.refl _ _ | refine Above.setCell ?_ (by simp <;> omega) _)
  · repeat (first | with_reducible exact B1.out | refine Below.setCell ?_ (by simp <;> omega) _)
end Go.Proofs.YteadglnenaiaaaaGreatDoor.W
namespace Go.Proofs.YteadglnenaiaaaaGreatDoor.W
open Go.RowKit
def NMid (g len k : Nat) (wr : World) (xs : List Pl.Nd) : Prop := ∀ i, i < len → ∃ v : SV, (∀ j, j < 7 → wr.cell? ⟨g, i * 7 + j, none⟩ = ((if i < k then xs.getD i Pl.Nd.zero else Pl.Nd.zero).cells v)[j]?) ∧ Row .i64 (g + 1) wr v.a v.len v.cap (if i < k then xs.getD i Pl.Nd.zero else Pl.Nd.zero).kids
theorem NMid.keep {g len k : Nat} {w w' : World} {xs : List Pl.Nd} (h : NMid g len k w xs) (hg : g < w.heap.size) (hb : Below w.heap.size w w') : NMid g len k w' xs := fun i hi => by
  obtain ⟨v, h1, h2⟩ := h i hi
  exact ⟨v, fun j hj => (hb.cell (p := ⟨g, i * 7 + j, none⟩) hg).trans (h1 j hj), h2.keep hb⟩
theorem NMid.some {g len k : Nat} {w : World} {xs : List Pl.Nd} (h : NMid g len k w xs) {i : Nat} (hi : i < len) : ∀ j, j < 7 → (w.cell? ⟨g, i * 7 + j, none⟩).isSome = true := fun j hj => by
  obtain ⟨v, h1, _⟩ := h i hi
  rw [h1 j hj]
  rcases (show j = 0 ∨ j = 1 ∨ j = 2 ∨ j = 3 ∨ j = 4 ∨ j = 5 ∨ j = 6 by omega) with rfl | rfl | rfl | rfl | rfl | rfl | rfl <;> rfl
theorem NMid.put {g len k : Nat} {w : World} {xs : List Pl.Nd} (h : NMid g len k w xs) (hk : k < len) (v : SV) (hr : Row .i64 (g + 1) w v.a v.len v.cap (xs.getD k Pl.Nd.zero).kids) : NMid g len (k + 1) (set7 w g (k * 7) (xs.getD k Pl.Nd.zero) v) xs := fun i hi => by
  by_cases e : i = k
  · subst e
    rw [if_pos (Nat.lt_succ_self _)]
    exact ⟨v, fun j hj => set7_in _ _ (h.some hk) j hj, set7_row hr (Nat.lt_succ_self _) _ _ _⟩
  · obtain ⟨v', h1, h2⟩ := h i hi
    have e1 : (if i < k + 1 then xs.getD i Pl.Nd.zero else Pl.Nd.zero) = (if i < k then xs.getD i Pl.Nd.zero else Pl.Nd.zero) := by
      by_cases e' : i < k
      · rw [if_pos e', if_pos (by omega)]
      · rw [if_neg e', if_neg (by omega)]
    rw [e1]
    exact ⟨v', fun j hj => (set7_out _ _ (by omega)).trans (h1 j hj), set7_row h2 (Nat.lt_succ_self _) _ _ _⟩
theorem row_nilT {k : IntKind} {lo : Nat} {w : World} : Row k lo w none 0 0 [] := ⟨rfl, Nat.le_refl _, Nat.zero_le _, fun n hn => absurd hn (by simp), .inl rfl⟩
set_option maxHeartbeats 2000000 in
theorem toNodeS_any {lo : Nat} (a : Option Addr) (len cap : Nat) (xs : List Pl.Nd) (w : World) (h : NRow lo w a len cap xs) (hl : len ≤ 1048576) (hks : ∀ i, i < len → (xs.getD i Pl.Nd.zero).kids.length ≤ 1048576) : Calls Tryz.prog 16 #[.slice a len cap] w fun e w' => e = .returned (.slice (some ⟨w.heap.size, 0, none⟩) len len) ∧ NRow w.heap.size w' (some ⟨w.heap.size, 0, none⟩) len len xs ∧ Below w.heap.size w w' := by
  have HR : Hid (NRow lo w a len cap xs) := h
  have HKS : Hid (∀ i, i < len → (xs.getD i Pl.Nd.zero).kids.length ≤ 1048576) := hks
  clear h hks
  have hinfo : (Tryz.prog.info? 38).map (fun i => (i.zero, i.size, i.bytes)) = some (some (.agg #[.int .i64 0, .int .i64 0, .int .i64 0, .string ⟨#[]⟩, .slice none 0 0, .int .i64 0, .int .i64 0]), 7, 80) := by kernel_rfl
  obtain ⟨i0, hi0, hz0, hz1, hz2⟩ := info_parts hinfo
  have hm : ∀ u : World, (Instr.makeSlice 27 (.int .i64 (len : Int)) (.int .i64 (len : Int))).run Tryz.prog u = .ok (.slice (some ⟨u.heap.size, 0, none⟩) len len) (u.alloc (.cells (madeCells #[.int .i64 0, .int .i64 0, .int .i64 0, .string ⟨#[]⟩, .slice none 0 0, .int .i64 0, .int .i64 0] (len * 7)) 38)) := fun u => by
    have := run_makeSlice u 27 38 i0 _ Tryz.underlying27 hi0 hz0 .i64 .i64 (len : Int) (len : Int) (by omega) (by omega) (by rw [hz1]; simp; omega) (by rw [hz2]; omega) (by omega)
    rw [hz1, Int.toNat_natCast] at this
    exact this
  clear hinfo hi0 hz0 hz1 hz2
  go_enter Tryz.func16, Tryz.ntmps16
  go_wp2_with fail
  clear hm
  go_loopw [4] (fun i wr => ∃ k : Nat, k ≤ len ∧ i = .int .i64 k ∧ w.heap.size < wr.heap.size ∧ (∀ q, wr.frozen? ⟨w.heap.size, q, none⟩ = false) ∧ NMid w.heap.size len k wr xs ∧ Below w.heap.size w wr) (fun i _ => len - (intOf i).toNat)
  case atStart =>
    refine ⟨0, Nat.zero_le _, rfl, by simp, fun q => frozen_of_row _ _ _ _ _ (heap_alloc_new w _), fun i hi => ⟨⟨none, 0, 0⟩, fun j hj => ?_, ?_⟩, below_alloc w _⟩
    · rw [cell_of_row _ _ _ _ _ (0, 0) (heap_alloc_new w _), if_neg (Nat.not_lt_zero _)]
      have e : (i * 7 + j) % 7 = j := by omega
      have hb : i * 7 + j < len * 7 := by omega
      unfold madeCells
      rw [Array.getElem?_map, Array.getElem?_range, if_pos hb]
      simp only [Option.map_some, List.size_toArray, List.length_cons, List.length_nil, e]
      rcases (show j = 0 ∨ j = 1 ∨ j = 2 ∨ j = 3 ∨ j = 4 ∨ j = 5 ∨ j = 6 by omega) with rfl | rfl | rfl | rfl | rfl | rfl | rfl <;> rfl
    · rw [if_neg (Nat.not_lt_zero _)]; exact row_nilT
  case round =>
    obtain ⟨k, hk, rfl, hz, hfr, hcs, hbel⟩ := hrel
    have HC : Hid (NMid w.heap.size len k wr xs) := hcs
    have HF : Hid (∀ q, wr.frozen? ⟨w.heap.size, q, none⟩ = false) := hfr
    have HB : Hid (Below w.heap.size w wr) := hbel
    clear hcs hbel hfr
    by_cases hlt : k < len
    · have hi : (k : Int) < (len : Int) := by omega
      obtain ⟨b, off, v, rfl, hlo, hb1, hc, hrow, hs⟩ := (HR.out.keep HB.out).at hlt
      obtain ⟨x, hx⟩ : ∃ x, x = xs.getD k Pl.Nd.zero := ⟨_, rfl⟩
      rw [← hx] at hc hrow
      obtain ⟨c0, c1, c2, c3, c4, c5, c6⟩ := nd_cells hc
      have hvl : v.len ≤ 1048576 := by have h1 := hrow.1; have h2 := HKS.out k hlt; rw [← hx] at h2; omega
      have HX : Hid (x = xs.getD k Pl.Nd.zero) := hx
      have HW : Hid (Row .i64 lo wr v.a v.len v.cap x.kids) := hrow
      clear hc hx hrow hs
      go_wp2_with fail
      refine (toNode_any x v wr HW.out hvl).mono ?_
      rintro e u1 ⟨v', rfl, o1, d1⟩
      have hf1 : ∀ q, u1.frozen? ⟨w.heap.size, q, none⟩ = false := fun q => (d1.frozen (p := ⟨w.heap.size, q, none⟩) hz).trans (HF.out q)
      have HC1 : Hid (NMid w.heap.size len k u1 xs) := HC.out.keep hz d1
      obtain ⟨v0, hk1, _⟩ := HC1.out k hlt
      rw [if_neg (Nat.lt_irrefl _)] at hk1
      obtain ⟨e0, e1, e2, e3, e4, e5, e6⟩ := nd_cells hk1
      have HD : Hid (Below w.heap.size w u1 ∧ w.heap.size < u1.heap.size) := ⟨HB.out.trans (d1.mono HB.out.size), Nat.lt_of_lt_of_le hz d1.size⟩
      have HO : Hid (Row .i64 (w.heap.size + 1) u1 v'.a v'.len v'.cap x.kids) := o1.row.lower (by omega)
      clear hk1 d1 o1 c0 c1 c2 c3 c4 c5 c6 HC HF HB HW
      go_wp2_with fail
      go_roundw
      case rel =>
        refine ⟨k + 1, by omega, by go_num, ?_, ?_, ?_, ?_⟩
        · simp only [World.size_setCell]; exact HD.out.2
        · intro q; simp only [World.frozen?_setCell]; exact hf1 q
        · have hn := HC1.out.put hlt v' (by rw [← HX.out]; exact HO.out)
          rw [← HX.out] at hn
          exact hn
        · exact set7_below HD.out.1 (Nat.le_refl _) (k * 7) x v'
      case measure => simp [intOf]; omega
    · have hkk : k = len := by omega
      have hi : ¬ ((k : Int) < (len : Int)) := by omega
      have HZ : Hid (w.heap.size < wr.heap.size) := hz
      go_wp2
      go_ret
      refine ⟨rfl, ⟨HR.out.1, Nat.le_refl _, by unfold maxLen; omega, .inr ⟨w.heap.size, 0, rfl, Nat.le_refl _, HZ.out, fun i hi => ?_⟩⟩, HB.out⟩
      obtain ⟨v, h1, h2⟩ := HC.out i hi
      rw [if_pos (by omega)] at h1 h2
      exact ⟨v, fun j hj => by rw [Nat.zero_add]; exact h1 j hj, h2.lower (by omega)⟩
theorem Row.above {k : IntKind} {B lo : Nat} {w w' : World} {a : Option Addr} {len cap : Nat} {zs : List Int} (h : Row k lo w a len cap zs) (ha : Above B w w') (hB : B ≤ lo) : Row k lo w' a len cap zs := by
  obtain ⟨h1, h2, h3, h4, h5⟩ := h
  refine ⟨h1, h2, h3, h4, ?_⟩
  rcases h5 with h5 | ⟨b, off, rfl, hlo, hlt, hc⟩
  · exact .inl h5
  · refine .inr ⟨b, off, rfl, hlo, Nat.lt_of_lt_of_le hlt ha.size, fun i hi => ?_⟩
    rw [World.cell?_of_block (a := ⟨b, off + i, none⟩) (ha.block b (Nat.le_trans hB hlo) hlt)]
    exact hc i hi
theorem NRow.above {B lo : Nat} {w w' : World} {a : Option Addr} {len cap : Nat} {xs : List Pl.Nd} (h : NRow lo w a len cap xs) (ha : Above B w w') (hB : B ≤ lo) : NRow lo w' a len cap xs := by
  obtain ⟨h1, h2, h3, h4⟩ := h
  refine ⟨h1, h2, h3, ?_⟩
  rcases h4 with h4 | ⟨b, off, e, hlo, hlt, hc⟩
  · exact .inl h4
  · refine .inr ⟨b, off, e, hlo, Nat.lt_of_lt_of_le hlt ha.size, fun i hi => ?_⟩
    obtain ⟨v, h5, h6⟩ := hc i hi
    refine ⟨v, fun j hj => ?_, h6.above ha hB⟩
    rw [World.cell?_of_block (a := ⟨b, off + i * 7 + j, none⟩) (ha.block b (Nat.le_trans hB hlo) hlt)]
    exact h5 j hj
theorem NRow.lower {lo lo' : Nat} {w : World} {a : Option Addr} {len cap : Nat} {xs : List Pl.Nd} (h : NRow lo w a len cap xs) (hl : lo' ≤ lo) : NRow lo' w a len cap xs := by
  obtain ⟨h1, h2, h3, h4⟩ := h
  refine ⟨h1, h2, h3, ?_⟩
  rcases h4 with h4 | ⟨b, off, e, hlo, hlt, hc⟩
  · exact .inl h4
  · refine .inr ⟨b, off, e, Nat.le_trans hl hlo, hlt, fun i hi => ?_⟩
    obtain ⟨v, h5, h6⟩ := hc i hi
    exact ⟨v, h5, h6.lower hl⟩
set_option maxHeartbeats 1000000 in
theorem toTree_any {lo : Nat} (a : Option Addr) (len cap : Nat) (xs : List Pl.Nd) (w : World) (h : NRow lo w a len cap xs) (hl : len ≤ 1048576) (hks : ∀ i, i < len → (xs.getD i Pl.Nd.zero).kids.length ≤ 1048576) : Calls Tryz.prog 6 #[.agg #[.slice a len cap]] w fun e w' => ∃ b, e = .returned (.agg #[.slice (some ⟨b, 0, none⟩) len len]) ∧ NRow w.heap.size w' (some ⟨b, 0, none⟩) len len xs ∧ Below w.heap.size w w' := by
  have HR : Hid (NRow lo w a len cap xs) := h
  have HKS : Hid (∀ i, i < len → (xs.getD i Pl.Nd.zero).kids.length ≤ 1048576) := hks
  clear h hks
  go_enter Tryz.func6, Tryz.ntmps6
  go_wp2_with fail
  refine tr_at fun U1 hU1 => ?_
  have z1 : U1.heap.size = w.heap.size + 3 := by rw [hU1]; simp
  have q1 : U1.heap[w.heap.size + 1]? = some (.cells #[.slice none 0 0] 29) := by
    rw [hU1, Below.heap_alloc _ _ _ (by simp)]
    have := heap_alloc_new (w.alloc (.cells #[.slice a len cap] 24)) (.cells #[.slice none 0 0] 29)
    simpa using this
  have q2 : U1.heap[w.heap.size + 1 + 1]? = some (.cells #[.slice none 0 0] 29) := by
    rw [hU1]
    have := heap_alloc_new ((w.alloc (.cells #[.slice a len cap] 24)).alloc (.cells #[.slice none 0 0] 29)) (.cells #[.slice none 0 0] 29)
    simpa using this
  have b1 : Below w.heap.size w U1 := by
    rw [hU1]
    repeat (first | with_reducible exact Below.refl _ _ | refine Below.alloc ?_ (by simp <;> omega) _)
  clear hU1
  refine (toNodeS_any a len cap xs U1 (HR.out.keep b1) hl HKS.out).mono ?_
  rintro e u1 ⟨rfl, o1, d1⟩
  have Q1 := (d1.block (w.heap.size + 1) (by omega)).trans q1
  have Q2 := (d1.block (w.heap.size + 1 + 1) (by omega)).trans q2
  have B1 : Hid (Below w.heap.size w u1) := b1.trans (d1.mono (by omega))
  have O1 : Hid (NRow U1.heap.size u1 (some ⟨U1.heap.size, 0, none⟩) len len xs) := o1
  have k1 : u1.cell? ⟨w.heap.size + 1, 0, none⟩ = some (.slice none 0 0) := cell_of_row u1 (w.heap.size + 1) 0 _ 29 (0, 0) Q1
  have k2 : u1.cell? ⟨w.heap.size + 1 + 1, 0, none⟩ = some (.slice none 0 0) := cell_of_row u1 (w.heap.size + 1 + 1) 0 _ 29 (0, 0) Q2
  have f1 : ∀ j, u1.frozen? ⟨w.heap.size + 1, j, none⟩ = false := fun j => frozen_of_row u1 (w.heap.size + 1) j _ 29 Q1
  have f2 : ∀ j, u1.frozen? ⟨w.heap.size + 1 + 1, j, none⟩ = false := fun j => frozen_of_row u1 (w.heap.size + 1 + 1) j _ 29 Q2
  have Z1 : Hid (U1.heap.size = w.heap.size + 3) := z1
  have HQ1 : Hid (u1.heap[w.heap.size + 1]? = some (.cells #[.slice none 0 0] 29)) := Q1
  clear Q1 Q2 q1 q2 b1 o1 d1 z1
  go_wp2
  refine bodyPost_ret (v := .agg #[.slice (some ⟨U1.heap.size, 0, none⟩) len len]) ?_ rfl ⟨U1.heap.size, rfl, ?_, ?_⟩
  · refine results_cell_row Tryz.results6 _ _ (w.heap.size + 1) 29 #[.slice (some ⟨U1.heap.size, 0, none⟩) len len] (0, 0) _ ?hp ?hg Tryz.underlying29 ?hd ?hi
    case hp => rfl
    case hd => rfl
    case hi => kernel_rfl
    case hg =>
      have h0 : (u1.setCell ⟨w.heap.size + 1 + 1, 0, none⟩ (.slice (some ⟨U1.heap.size, 0, none⟩) len len)).heap[w.heap.size + 1]? = some (.cells #[.slice none 0 0] 29) := by
        rw [heap_setCell_other _ _ _ _ (show w.heap.size + 1 ≠ w.heap.size + 1 + 1 by omega)]
        exact HQ1.out
      have h1 := tr_put (cs' := #[.slice (some ⟨U1.heap.size, 0, none⟩) len len]) h0 0 (.slice (some ⟨U1.heap.size, 0, none⟩) len len) rfl
      exact h1
  · have hz := Z1.out
    refine NRow.lower (NRow.above O1.out (B := w.heap.size + 3) ?_ (by omega)) (by omega)
    repeat (first | with_reducible exact Above.refl _ _ | refine Above.setCell ?_ (by simp <;> omega) _)
  · repeat (first | with_reducible exact B1.out | refine Below.setCell ?_ (by simp <;> omega) _)
end Go.Proofs.YteadglnenaiaaaaGreatDoor.W
namespace Go.Proofs.YteadglnenaiaaaaGreatDoor.Pl
end Go.Proofs.YteadglnenaiaaaaGreatDoor.Pl
namespace Go.Proofs.YteadglnenaiaaaaGreatDoor.W
open Go.RowKit
end Go.Proofs.YteadglnenaiaaaaGreatDoor.W
namespace Go.Proofs.YteadglnenaiaaaaGreatDoor.Pl
end Go.Proofs.YteadglnenaiaaaaGreatDoor.Pl
namespace Go.Proofs.YteadglnenaiaaaaGreatDoor.W
open Go.RowKit
end Go.Proofs.YteadglnenaiaaaaGreatDoor.W
namespace Go.Proofs.YteadglnenaiaaaaGreatDoor.W
open Go.RowKit
set_option maxHeartbeats 2000000 in
theorem eqNode_same {lo lo2 : Nat} (x : Pl.Nd) (v v2 : SV) (w : World) (h : Row .i64 lo w v.a v.len v.cap x.kids) (h2 : Row .i64 lo2 w v2.a v2.len v2.cap x.kids) :
    Calls Tryz.prog 36 #[.agg #[.int .i64 x.k, .int .i64 x.m, .int .i64 x.n, .string x.s, .slice v.a v.len v.cap, .int .i64 x.line, .int .i64 x.col], .agg #[.int .i64 x.k, .int .i64 x.m, .int .i64 x.n, .string x.s, .slice v2.a v2.len v2.cap, .int .i64 x.line, .int .i64 x.col]] w fun e w' => e = .returned (.bool true) ∧ Below w.heap.size w w' := by
  have HR : Hid (Row .i64 lo w v.a v.len v.cap x.kids) := h
  have HR2 : Hid (Row .i64 lo2 w v2.a v2.len v2.cap x.kids) := h2
  clear h h2
  go_enter Tryz.func36, Tryz.ntmps36
  go_wp2_with fail
  refine tr_at fun u0 hu0 => ?_
  have p0 : u0.heap[w.heap.size]? = some (.cells #[.int .i64 x.k, .int .i64 x.m, .int .i64 x.n, .string x.s, .slice v.a v.len v.cap, .int .i64 x.line, .int .i64 x.col] 38) := by
    rw [hu0, Below.heap_alloc _ _ _ (by simp)]
    exact heap_alloc_new w _
  have q0 : u0.heap[w.heap.size + 1]? = some (.cells #[.int .i64 x.k, .int .i64 x.m, .int .i64 x.n, .string x.s, .slice v2.a v2.len v2.cap, .int .i64 x.line, .int .i64 x.col] 38) := by
    rw [hu0]
    have := heap_alloc_new (w.alloc (.cells #[.int .i64 x.k, .int .i64 x.m, .int .i64 x.n, .string x.s, .slice v.a v.len v.cap, .int .i64 x.line, .int .i64 x.col] 38)) (.cells #[.int .i64 x.k, .int .i64 x.m, .int .i64 x.n, .string x.s, .slice v2.a v2.len v2.cap, .int .i64 x.line, .int .i64 x.col] 38)
    simpa using this
  have hb : Below w.heap.size w u0 := by
    rw [hu0]
    exact ((Below.refl _ _).alloc (Nat.le_refl _) _).alloc (by simp) _
  have hz : w.heap.size + 1 < u0.heap.size := by rw [hu0]; simp
  clear hu0
  refine (eqIntS_any _ _ _ _ _ _ _ _ u0 (HR.out.keep hb) (HR2.out.keep hb)).mono ?_
  rintro e u1 ⟨rfl, d1⟩
  rw [show (x.kids == x.kids) = true from beq_self_eq_true _]
  have P1 := (d1.block _ (by omega)).trans p0
  have Q1 := (d1.block _ (by omega)).trans q0
  have kb : ∀ j, u1.cell? ⟨w.heap.size, j, none⟩ = (#[.int .i64 x.k, .int .i64 x.m, .int .i64 x.n, .string x.s, .slice v.a v.len v.cap, .int .i64 x.line, .int .i64 x.col] : Array Value)[j]? := fun j => cell_of_row u1 w.heap.size j _ 38 (0, 0) P1
  have kc : ∀ j, u1.cell? ⟨w.heap.size + 1, j, none⟩ = (#[.int .i64 x.k, .int .i64 x.m, .int .i64 x.n, .string x.s, .slice v2.a v2.len v2.cap, .int .i64 x.line, .int .i64 x.col] : Array Value)[j]? := fun j => cell_of_row u1 (w.heap.size + 1) j _ 38 (0, 0) Q1
  have B1 : Hid (Below w.heap.size w u1) := hb.trans (d1.mono (by omega))
  clear d1 p0 q0 hb hz P1 Q1
  go_wp2
  go_ret
  exact ⟨rfl, B1.out⟩
set_option maxRecDepth 4000 in
set_option maxHeartbeats 4000000 in
theorem eqNodeS_same {lo lo2 : Nat} (a a' : Option Addr) (len cap cap' : Nat) (xs : List Pl.Nd) (w : World) (h : NRow lo w a len cap xs) (h' : NRow lo2 w a' len cap' xs) : Calls Tryz.prog 20 #[.slice a len cap, .slice a' len cap'] w fun e w' => e = .returned (.bool true) ∧ Below w.heap.size w w' := by
  have hm : (len : Int) ≤ 9223372036854775807 := by have := h.2.1; have h3 := h.2.2.1; unfold maxLen at h3; omega
  have HR : Hid (NRow lo w a len cap xs) := h
  have HR' : Hid (NRow lo2 w a' len cap' xs) := h'
  clear h h'
  go_enter Tryz.func20, Tryz.ntmps20
  go_wp2_with fail
  go_loopw [5] (fun i wr => ∃ k : Nat, k ≤ len ∧ i = .int .i64 k ∧ Below w.heap.size w wr) (fun i _ => len - (intOf i).toNat)
  case atStart => exact ⟨0, Nat.zero_le _, rfl, Below.refl _ _⟩
  case round =>
    obtain ⟨k, hk, rfl, hbel⟩ := hrel
    have HB : Hid (Below w.heap.size w wr) := hbel
    clear hbel
    by_cases hlt : k < len
    · have hi : (k : Int) < (len : Int) := by omega
      obtain ⟨b, off, v, rfl, hlo, hb1, hc, hrow, hs⟩ := (HR.out.keep HB.out).at hlt
      obtain ⟨b', off', v2, rfl, hlo', hb1', hc', hrow', hs'⟩ := (HR'.out.keep HB.out).at hlt
      obtain ⟨x, hx⟩ : ∃ x, x = xs.getD k Pl.Nd.zero := ⟨_, rfl⟩
      rw [← hx] at hc hrow hc' hrow'
      obtain ⟨c0, c1, c2, c3, c4, c5, c6⟩ := nd_cells hc
      obtain ⟨g0, g1, g2, g3, g4, g5, g6⟩ := nd_cells hc'
      have HE : Hid (∀ u : World, Below wr.heap.size wr u → Calls Tryz.prog 36 #[.agg #[.int .i64 x.k, .int .i64 x.m, .int .i64 x.n, .string x.s, .slice v.a v.len v.cap, .int .i64 x.line, .int .i64 x.col], .agg #[.int .i64 x.k, .int .i64 x.m, .int .i64 x.n, .string x.s, .slice v2.a v2.len v2.cap, .int .i64 x.line, .int .i64 x.col]] u fun e w' => e = .returned (.bool true) ∧ Below u.heap.size u w') := fun u hu => eqNode_same x v v2 u (hrow.keep hu) (hrow'.keep hu)
      clear hc hc' hx hrow hrow' hs hs'
      have hU := Tryz.underlying38
      go_wp2_with fail
      go_region_with (go_at_call 36; refine (HE.out _ (by repeat (first | with_reducible exact Below.refl _ _ | refine Below.drew ?_ | refine below_drewN ?_ _))).mono ?_; rintro e u1 ⟨rfl, d1⟩)
      all_goals
        have D1 : Hid _ := d1
        clear d1 c0 c1 c2 c3 c4 c5 c6 g0 g1 g2 g3 g4 g5 g6
        go_wp2_with fail
        go_roundw
        case rel => exact ⟨k + 1, by omega, by go_num, Below.trans (by repeat (first | with_reducible exact HB.out | refine Below.drew ?_ | refine below_drewN ?_ _)) (D1.out.mono HB.out.size)⟩
        case measure => simp [intOf]; omega
    · have hkk : k = len := by omega
      have hi : ¬ ((k : Int) < (len : Int)) := by omega
      go_wp2
      go_ret
      exact ⟨rfl, HB.out⟩
theorem eqTree_same {lo lo2 : Nat} (a a' : Option Addr) (len cap cap' : Nat) (xs : List Pl.Nd) (w : World) (h : NRow lo w a len cap xs) (h' : NRow lo2 w a' len cap' xs) : Calls Tryz.prog 8 #[.agg #[.slice a len cap], .agg #[.slice a' len cap']] w fun e w' => e = .returned (.bool true) ∧ Below w.heap.size w w' := by
  have HR : Hid (NRow lo w a len cap xs) := h
  have HR' : Hid (NRow lo2 w a' len cap' xs) := h'
  have B2 : Hid (∀ A B, Below w.heap.size w ((w.alloc A).alloc B)) := fun A B => (below_alloc _ _).alloc (by simp) _
  clear h h'
  go_enter Tryz.func8, Tryz.ntmps8
  go_wp2_with (go_at_call 20; refine (eqNodeS_same _ _ _ _ _ xs _ (HR.out.keep (B2.out _ _)) (HR'.out.keep (B2.out _ _))).mono ?_; rintro e u1 ⟨rfl, d1⟩)
  go_ret
  exact ⟨rfl, (B2.out _ _).trans (d1.mono (B2.out _ _).size)⟩
end Go.Proofs.YteadglnenaiaaaaGreatDoor.W
namespace Go.Proofs.YteadglnenaiaaaaGreatDoor.W
open Go.RowKit
set_option maxHeartbeats 1000000 in
theorem szNode2_at (x : Pl.Nd) (v : SV) (left : Int) (hl : 0 ≤ left ∧ left ≤ 1048576) (hs : x.s.size ≤ maxLen) (hv : v.len ≤ 9223372036854775807) (w : World) : Calls Tryz.prog 21 #[.agg #[.int .i64 x.k, .int .i64 x.m, .int .i64 x.n, .string x.s, .slice v.a v.len v.cap, .int .i64 x.line, .int .i64 x.col], .int .i64 left] w fun e w' => ∃ r : Int, e = .returned (.int .i64 r) ∧ (0 ≤ r → r ≤ left ∧ v.len ≤ 1048576 ∧ x.s.size ≤ 1048576) ∧ Below w.heap.size w w' := by
  have hs' : (x.s.size : Int) ≤ 9223372036854775807 := by unfold maxLen at hs; omega
  clear hs
  by_cases c1 : (x.s.size : Int) ≤ left
  rotate_left
  · go_enter Tryz.func21, Tryz.ntmps21
    go_wp2
    go_ret
    exact ⟨-1, rfl, fun q => absurd q (by decide), below_alloc _ _⟩
  by_cases c2 : (x.s.size : Int) + (v.len : Int) ≤ left
  · go_enter Tryz.func21, Tryz.ntmps21
    go_wp2_with (go_at_call 37; refine (szIntS_yes _ _ _ _ hv (by omega) (by omega) _).mono ?_; rintro e w' ⟨rfl, rfl⟩)
    go_ret
    exact ⟨_, rfl, fun q => ⟨by omega, by omega, by omega⟩, below_alloc _ _⟩
  · go_enter Tryz.func21, Tryz.ntmps21
    go_wp2_with (go_at_call 37; refine (szIntS_no _ _ _ _ hv (by omega) (by omega) _).mono ?_; rintro e w' ⟨rfl, rfl⟩)
    go_ret
    exact ⟨-1, rfl, fun q => absurd q (by decide), below_alloc _ _⟩
set_option maxHeartbeats 2000000 in
theorem szNodeS2_any {lo : Nat} (a : Option Addr) (len cap : Nat) (xs : List Pl.Nd) (left : Int) (hleft : 0 ≤ left ∧ left ≤ 1048576) (w : World) (h : NRow lo w a len cap xs) : Calls Tryz.prog 9 #[.slice a len cap, .int .i64 left] w fun e w' => ∃ r : Int, e = .returned (.int .i64 r) ∧ (0 ≤ r → r ≤ left ∧ len ≤ 1048576 ∧ ∀ i, i < len → (xs.getD i Pl.Nd.zero).kids.length ≤ 1048576 ∧ (xs.getD i Pl.Nd.zero).s.size ≤ 1048576) ∧ Below w.heap.size w w' := by
  have hm : (len : Int) ≤ 9223372036854775807 := by have := h.2.1; have h3 := h.2.2.1; unfold maxLen at h3; omega
  by_cases hb : left < (len : Int)
  · go_enter Tryz.func9, Tryz.ntmps9
    go_wp2
    go_ret
    exact ⟨-1, rfl, fun q => absurd q (by decide), Below.refl _ _⟩
  have HR : Hid (NRow lo w a len cap xs) := h
  clear h
  go_enter Tryz.func9, Tryz.ntmps9
  go_wp2_with fail
  go_loopw [1, 5] (fun v i wr => ∃ (k : Nat) (r : Int), k ≤ len ∧ i = .int .i64 k ∧ v = .int .i64 r ∧ 0 ≤ r ∧ r ≤ left ∧ (∀ i, i < k → (xs.getD i Pl.Nd.zero).kids.length ≤ 1048576 ∧ (xs.getD i Pl.Nd.zero).s.size ≤ 1048576) ∧ Below w.heap.size w wr) (fun _ i _ => len - (intOf i).toNat)
  case atStart => exact ⟨0, left - len, Nat.zero_le _, rfl, rfl, by omega, by omega, fun i hi => absurd hi (Nat.not_lt_zero _), Below.refl _ _⟩
  case round =>
    obtain ⟨k, r, hk, rfl, rfl, hr0, hr1, hall, hbel⟩ := hrel
    have HA : Hid (∀ i, i < k → (xs.getD i Pl.Nd.zero).kids.length ≤ 1048576 ∧ (xs.getD i Pl.Nd.zero).s.size ≤ 1048576) := hall
    have HB : Hid (Below w.heap.size w wr) := hbel
    clear hall hbel
    by_cases hlt : k < len
    · have hi : (k : Int) < (len : Int) := by omega
      obtain ⟨b, off, v, rfl, hlo, hb1, hc, hrow, hs⟩ := (HR.out.keep HB.out).at hlt
      obtain ⟨x, hx⟩ : ∃ x, x = xs.getD k Pl.Nd.zero := ⟨_, rfl⟩
      rw [← hx] at hc hrow hs
      obtain ⟨c0, c1, c2, c3, c4, c5, c6⟩ := nd_cells hc
      have hvl : v.len ≤ 9223372036854775807 := hrow.small
      have HX : Hid (x = xs.getD k Pl.Nd.zero ∧ x.kids.length = v.len) := ⟨hx, hrow.1⟩
      clear hc hx hrow
      go_wp2_with (go_at_call 21; refine (szNode2_at x v r ⟨hr0, by omega⟩ hs hvl _).mono ?_; rintro e u1 ⟨r', rfl, hr', d1⟩)
      · go_ret
        exact ⟨_, rfl, fun q => absurd q (by decide), HB.out.trans (d1.mono HB.out.size)⟩
      · have hr2 : 0 ≤ r' := by omega
        obtain ⟨hr3, hr4, hr5⟩ := hr' hr2
        go_roundw
        case rel => exact ⟨k + 1, r', by omega, by go_num, rfl, hr2, by omega, fun i hi => by
          by_cases e : i = k
          · rw [e, ← HX.out.1, HX.out.2]; exact ⟨hr4, hr5⟩
          · exact HA.out i (by omega), HB.out.trans (d1.mono HB.out.size)⟩
        case measure => simp [intOf]; omega
    · have hkk : k = len := by omega
      have hi : ¬ ((k : Int) < (len : Int)) := by omega
      go_wp2
      go_ret
      exact ⟨_, rfl, fun _ => ⟨by omega, by omega, fun i hi => HA.out i (by omega)⟩, HB.out⟩
theorem szTree2_any {lo : Nat} (a : Option Addr) (len cap : Nat) (xs : List Pl.Nd) (left : Int) (hleft : 0 ≤ left ∧ left ≤ 1048576) (w : World) (h : NRow lo w a len cap xs) : Calls Tryz.prog 4 #[.agg #[.slice a len cap], .int .i64 left] w fun e w' => ∃ r : Int, e = .returned (.int .i64 r) ∧ (0 ≤ r → r ≤ left ∧ len ≤ 1048576 ∧ ∀ i, i < len → (xs.getD i Pl.Nd.zero).kids.length ≤ 1048576 ∧ (xs.getD i Pl.Nd.zero).s.size ≤ 1048576) ∧ Below w.heap.size w w' := by
  have HR : Hid (NRow lo w a len cap xs) := h
  clear h
  go_enter Tryz.func4, Tryz.ntmps4
  go_wp2_with (go_at_call 9; refine (szNodeS2_any a len cap xs left hleft _ (HR.out.keep (below_alloc _ _))).mono ?_; rintro e u1 ⟨r, rfl, hr, d1⟩; have HQ : Hid (0 ≤ r → r ≤ left ∧ len ≤ 1048576 ∧ ∀ i, i < len → (xs.getD i Pl.Nd.zero).kids.length ≤ 1048576 ∧ (xs.getD i Pl.Nd.zero).s.size ≤ 1048576) := hr; clear hr)
  · go_ret
    exact ⟨_, rfl, fun q => absurd q (by decide), (below_alloc _ _).trans (d1.mono (by simp))⟩
  · go_ret
    exact ⟨_, rfl, HQ.out, (below_alloc _ _).trans (d1.mono (by simp))⟩
end Go.Proofs.YteadglnenaiaaaaGreatDoor.W
namespace Go.Proofs.YteadglnenaiaaaaGreatDoor.Pl
abbrev nd (xs : List Nd) (i : Nat) : Nd := xs.getD i Nd.zero
def wkj (bg : List Nat) (ks : List Int) (i : Nat) : Nat → Option Nat
  | 0 => some i
  | j + 1 => match wkj bg ks i j with
    | none => none
    | some a => if 1 ≤ a ∧ ks.getD (ks.length - 1 - j) 0 = (a : Int) - 1 then some (bg.getD (a - 1) 0) else none
def bgF (xs : List Nd) : Nat → Option (List Nat)
  | 0 => some []
  | i + 1 => match bgF xs i with
    | none => none
    | some l => match wkj l (nd xs i).kids i (nd xs i).kids.length with
      | none => none
      | some b => some (l ++ [b])
theorem wkj_succ {bg : List Nat} {ks : List Int} {i j a : Nat} (h : wkj bg ks i j = some a) : wkj bg ks i (j + 1) = if 1 ≤ a ∧ ks.getD (ks.length - 1 - j) 0 = (a : Int) - 1 then some (bg.getD (a - 1) 0) else none := by
  show (match wkj bg ks i j with | none => none | some a => _) = _
  rw [h]
theorem wkj_yes {bg : List Nat} {ks : List Int} {i j a : Nat} (h : wkj bg ks i j = some a) (h1 : 1 ≤ a) (h2 : ks.getD (ks.length - 1 - j) 0 = (a : Int) - 1) : wkj bg ks i (j + 1) = some (bg.getD (a - 1) 0) := by
  rw [wkj_succ h, if_pos ⟨h1, h2⟩]
theorem wkj_pred {bg : List Nat} {ks : List Int} {i j b : Nat} (h : wkj bg ks i (j + 1) = some b) : ∃ a, wkj bg ks i j = some a ∧ 1 ≤ a ∧ ks.getD (ks.length - 1 - j) 0 = (a : Int) - 1 ∧ b = bg.getD (a - 1) 0 := by
  cases e : wkj bg ks i j with
  | none =>
    have : wkj bg ks i (j + 1) = none := by
      show (match wkj bg ks i j with | none => none | some a => _) = _
      rw [e]
    rw [this] at h; cases h
  | some a =>
    rw [wkj_succ e] at h
    split at h
    · rename_i q; exact ⟨a, rfl, q.1, q.2, by cases h; rfl⟩
    · cases h
theorem wkj_none {bg : List Nat} {ks : List Int} {i j : Nat} (h : wkj bg ks i j = none) : ∀ k, j ≤ k → wkj bg ks i k = none := by
  intro k hk
  induction k with
  | zero => have : j = 0 := by omega
            subst this; exact h
  | succ k ih =>
    by_cases e : j = k + 1
    · subst e; exact h
    · show (match wkj bg ks i k with | none => none | some a => _) = _
      rw [ih (by omega)]
theorem wkj_some {bg : List Nat} {ks : List Int} {i j b : Nat} (h : wkj bg ks i j = some b) {k : Nat} (hk : k ≤ j) : ∃ a, wkj bg ks i k = some a := by
  cases e : wkj bg ks i k with
  | none => rw [wkj_none e j hk] at h; cases h
  | some a => exact ⟨a, rfl⟩
theorem bgF_succ {xs : List Nd} {i : Nat} {l : List Nat} (h : bgF xs i = some l) {b : Nat} (hb : wkj l (nd xs i).kids i (nd xs i).kids.length = some b) : bgF xs (i + 1) = some (l ++ [b]) := by
  show (match bgF xs i with | none => none | some l => _) = _
  rw [h]
  show (match wkj l (nd xs i).kids i (nd xs i).kids.length with | none => none | some b => _) = _
  rw [hb]
theorem bgF_bad {xs : List Nd} {i : Nat} {l : List Nat} (h : bgF xs i = some l) (hb : wkj l (nd xs i).kids i (nd xs i).kids.length = none) : bgF xs (i + 1) = none := by
  show (match bgF xs i with | none => none | some l => _) = _
  rw [h]
  show (match wkj l (nd xs i).kids i (nd xs i).kids.length with | none => none | some b => _) = _
  rw [hb]
theorem bgF_none {xs : List Nd} {i : Nat} (h : bgF xs i = none) : ∀ k, i ≤ k → bgF xs k = none := by
  intro k hk
  induction k with
  | zero => have : i = 0 := by omega
            subst this; exact h
  | succ k ih =>
    by_cases e : i = k + 1
    · subst e; exact h
    · show (match bgF xs k with | none => none | some l => _) = _
      rw [ih (by omega)]
theorem bgF_pred {xs : List Nd} {i : Nat} {l : List Nat} (h : bgF xs (i + 1) = some l) : ∃ l0 b, bgF xs i = some l0 ∧ wkj l0 (nd xs i).kids i (nd xs i).kids.length = some b ∧ l = l0 ++ [b] := by
  cases e : bgF xs i with
  | none => rw [bgF_none e (i + 1) (by omega)] at h; cases h
  | some l0 =>
    cases e2 : wkj l0 (nd xs i).kids i (nd xs i).kids.length with
    | none => rw [bgF_bad e e2] at h; cases h
    | some b => rw [bgF_succ e e2] at h; cases h; exact ⟨l0, b, rfl, e2, rfl⟩
theorem bgF_len {xs : List Nd} : ∀ {i : Nat} {l : List Nat}, bgF xs i = some l → l.length = i
  | 0, l, h => by cases h; rfl
  | i + 1, l, h => by
    obtain ⟨l0, b, h0, _, rfl⟩ := bgF_pred h
    simp [bgF_len h0]
structure Ordd (xs : List Nd) (n : Nat) (l : List Nat) : Prop where
  le : ∀ p, p < n → l.getD p 0 ≤ p
  kid : ∀ p, p < n → ∀ c ∈ (nd xs p).kids, ∃ k : Nat, c = (k : Int) ∧ k < p ∧ l.getD p 0 ≤ l.getD k 0
  tile : ∀ p, p < n → ∀ c, l.getD p 0 ≤ c → c < p → ∃ k : Nat, (k : Int) ∈ (nd xs p).kids ∧ l.getD k 0 ≤ c ∧ c ≤ k ∧ k < p
  sep : ∀ p, p < n → ∀ c d : Nat, (c : Int) ∈ (nd xs p).kids → (d : Int) ∈ (nd xs p).kids → c < d → c < l.getD d 0
  few : ∀ p, p < n → (nd xs p).kids.length ≤ p
  last : ∀ p, p < n → (nd xs p).kids ≠ [] → 1 ≤ p ∧ (nd xs p).kids.getD ((nd xs p).kids.length - 1) 0 = (p : Int) - 1
theorem getD_app_lt {l : List Nat} {b p : Nat} (h : p < l.length) : (l ++ [b]).getD p 0 = l.getD p 0 := by
  rw [List.getD_eq_getElem?_getD, List.getD_eq_getElem?_getD, List.getElem?_append_left h]
theorem getD_app_eq {l : List Nat} {b : Nat} : (l ++ [b]).getD l.length 0 = b := by
  rw [List.getD_eq_getElem?_getD, List.getElem?_append_right (Nat.le_refl _)]; simp
theorem wkj_le {bg : List Nat} {ks : List Int} {i : Nat} (hb : ∀ p, p < i → bg.getD p 0 ≤ p) : ∀ {j a : Nat}, wkj bg ks i j = some a → a + j ≤ i
  | 0, a, h => by cases h; omega
  | j + 1, a, h => by
    obtain ⟨a', h1, h2, _, rfl⟩ := wkj_pred h
    have := wkj_le hb h1
    have := hb (a' - 1) (by omega)
    omega
theorem wkj_mono {bg : List Nat} {ks : List Int} {i : Nat} (hb : ∀ p, p < i → bg.getD p 0 ≤ p) {j k a b : Nat} (ha : wkj bg ks i j = some a) (hk : wkj bg ks i k = some b) (h : j ≤ k) : b ≤ a := by
  induction k generalizing b with
  | zero => have : j = 0 := by omega
            subst this; rw [ha] at hk; cases hk; omega
  | succ k ih =>
    by_cases e : j = k + 1
    · subst e; rw [ha] at hk; cases hk; omega
    · obtain ⟨b', h1, h2, _, rfl⟩ := wkj_pred hk
      have h3 := ih h1 (by omega)
      have h4 := wkj_le hb h1
      have := hb (b' - 1) (by omega)
      omega
theorem wkj_tile {bg : List Nat} {ks : List Int} {i : Nat} (hb : ∀ p, p < i → bg.getD p 0 ≤ p) : ∀ {j a : Nat}, wkj bg ks i j = some a → j ≤ ks.length → ∀ c, a ≤ c → c < i → ∃ k : Nat, (k : Int) ∈ ks ∧ bg.getD k 0 ≤ c ∧ c ≤ k ∧ k < i
  | 0, a, h, _, c, h1, h2 => by cases h; omega
  | j + 1, a, h, hj, c, h1, h2 => by
    obtain ⟨a', q1, q2, q3, rfl⟩ := wkj_pred h
    by_cases e : a' ≤ c
    · exact wkj_tile hb q1 (by omega) c e h2
    · have := wkj_le hb q1
      refine ⟨a' - 1, ?_, h1, by omega, by omega⟩
      have hm : ks.getD (ks.length - 1 - j) 0 ∈ ks := by
        rw [List.getD_eq_getElem?_getD, List.getElem?_eq_getElem (by omega)]
        exact List.getElem_mem _
      rw [q3] at hm
      have : ((a' - 1 : Nat) : Int) = (a' : Int) - 1 := by omega
      rw [this]; exact hm
theorem wkj_mem {bg : List Nat} {ks : List Int} {i b : Nat} (hb : ∀ p, p < i → bg.getD p 0 ≤ p) (h : wkj bg ks i ks.length = some b) {c : Int} (hc : c ∈ ks) :
    ∃ (j a : Nat), j < ks.length ∧ wkj bg ks i j = some a ∧ 1 ≤ a ∧ c = (a : Int) - 1 ∧ wkj bg ks i (j + 1) = some (bg.getD (a - 1) 0) := by
  obtain ⟨q, hq, rfl⟩ := List.getElem_of_mem hc
  obtain ⟨b', hb'⟩ := wkj_some h (show (ks.length - 1 - q) + 1 ≤ ks.length by omega)
  obtain ⟨a, h1, h2, h3, h4⟩ := wkj_pred hb'
  refine ⟨ks.length - 1 - q, a, by omega, h1, h2, ?_, by rw [hb', h4]⟩
  have e : ks.length - 1 - (ks.length - 1 - q) = q := by omega
  rw [e, List.getD_eq_getElem?_getD, List.getElem?_eq_getElem hq] at h3
  exact h3
theorem ordd {xs : List Nd} : ∀ {n : Nat} {l : List Nat}, bgF xs n = some l → Ordd xs n l
  | 0, l, h => ⟨fun p hp => absurd hp (Nat.not_lt_zero _), fun p hp => absurd hp (Nat.not_lt_zero _), fun p hp => absurd hp (Nat.not_lt_zero _), fun p hp => absurd hp (Nat.not_lt_zero _), fun p hp => absurd hp (Nat.not_lt_zero _), fun p hp => absurd hp (Nat.not_lt_zero _)⟩
  | n + 1, l, h => by
    obtain ⟨l0, b, h0, hw, rfl⟩ := bgF_pred h
    have O := ordd h0
    have hl := bgF_len h0
    have g : ∀ p, p < n → (l0 ++ [b]).getD p 0 = l0.getD p 0 := fun p hp => getD_app_lt (by omega)
    have gn : (l0 ++ [b]).getD n 0 = b := by rw [← hl]; exact getD_app_eq
    have hb := O.le
    have few : (nd xs n).kids.length ≤ n := by have := wkj_le hb hw; omega
    refine ⟨fun p hp => ?_, fun p hp c hc => ?_, fun p hp c h1 h2 => ?_, fun p hp c d hc hd hcd => ?_, fun p hp => ?_, fun p hp hne => ?_⟩
    · by_cases e : p = n
      · subst e; rw [gn]; have := wkj_le hb hw; omega
      · rw [g p (by omega)]; exact hb p (by omega)
    · by_cases e : p = n
      · subst e
        obtain ⟨j, a, hj, q1, q2, q3, q4⟩ := wkj_mem hb hw hc
        have h3 := wkj_le hb q1
        refine ⟨a - 1, by omega, by omega, ?_⟩
        rw [gn, g _ (by omega)]
        exact wkj_mono hb q4 hw (by omega)
      · obtain ⟨k, h1, h2, h3⟩ := O.kid p (by omega) c hc
        exact ⟨k, h1, h2, by rw [g p (by omega), g k (by omega)]; exact h3⟩
    · by_cases e : p = n
      · subst e
        rw [gn] at h1
        obtain ⟨k, q1, q2, q3, q4⟩ := wkj_tile hb hw (Nat.le_refl _) c h1 h2
        exact ⟨k, q1, by rw [g k q4]; exact q2, q3, q4⟩
      · rw [g p (by omega)] at h1
        obtain ⟨k, q1, q2, q3, q4⟩ := O.tile p (by omega) c h1 h2
        exact ⟨k, q1, by rw [g k (by omega)]; exact q2, q3, q4⟩
    · by_cases e : p = n
      · subst e
        obtain ⟨j, a, hj, q1, q2, q3, q4⟩ := wkj_mem hb hw hc
        obtain ⟨j', a', hj', r1, r2, r3, r4⟩ := wkj_mem hb hw hd
        have h3 := wkj_le hb r1
        have ec : c = a - 1 := by omega
        have ed : d = a' - 1 := by omega
        rw [g d (by omega), ed]
        have hjj : j' < j := by
          rcases Nat.lt_or_ge j' j with q | q
          · exact q
          · have := wkj_mono hb q1 r1 q
            omega
        have := wkj_mono hb r4 q1 (by omega)
        omega
      · have hd' := hd
        obtain ⟨k, h1, h2, _⟩ := O.kid p (by omega) d hd'
        rw [g d (by omega)]
        exact O.sep p (by omega) c d hc hd hcd
    · by_cases e : p = n
      · subst e; exact few
      · exact O.few p (by omega)
    · by_cases e : p = n
      · subst e
        have hpos : 0 < (nd xs p).kids.length := List.length_pos_iff.mpr hne
        obtain ⟨b', hb'⟩ := wkj_some hw (show 0 + 1 ≤ (nd xs p).kids.length by omega)
        obtain ⟨a, h1, h2, h3, h4⟩ := wkj_pred hb'
        cases h1
        exact ⟨h2, by simpa using h3⟩
      · exact O.last p (by omega) hne
theorem Ordd.lam {xs : List Nd} {n : Nat} {l : List Nat} (O : Ordd xs n l) : ∀ (d : Nat), d < n → ∀ i, l.getD d 0 ≤ i → i ≤ d → l.getD d 0 ≤ l.getD i 0 := by
  intro d
  induction d using Nat.strongRecOn with
  | ind d ih =>
    intro hd i h1 h2
    by_cases e : i = d
    · subst e; exact Nat.le_refl _
    · obtain ⟨k, q1, q2, q3, q4⟩ := O.tile d hd i h1 (by omega)
      have := ih k q4 (by omega) i q2 q3
      obtain ⟨k', r1, r2, r3⟩ := O.kid d hd _ q1
      have : k' = k := by omega
      subst this
      omega
theorem Ordd.uniq {xs : List Nd} {n : Nat} {l : List Nat} (O : Ordd xs n l) {i j c : Nat} (hi : i < n) (hj : j < n) (h1 : (c : Int) ∈ (nd xs i).kids) (h2 : (c : Int) ∈ (nd xs j).kids) : i = j := by
  have key : ∀ i j, i < n → j < n → (c : Int) ∈ (nd xs i).kids → (c : Int) ∈ (nd xs j).kids → ¬ i < j := by
    intro i j hi hj h1 h2 hlt
    obtain ⟨k1, e1, q1, r1⟩ := O.kid i hi _ h1
    obtain ⟨k2, e2, q2, r2⟩ := O.kid j hj _ h2
    have : k1 = c := by omega
    subst this
    have : k2 = k1 := by omega
    subst this
    have hc := O.le k2 (by omega)
    obtain ⟨d, s1, s2, s3, s4⟩ := O.tile j hj i (by omega) hlt
    have s5 := O.sep j hj k2 d h2 s1 (by omega)
    have s6 := O.lam d (by omega) i s2 s3
    omega
  rcases Nat.lt_trichotomy i j with q | q | q
  · exact absurd q (key i j hi hj h1 h2)
  · exact q
  · exact absurd q (key j i hj hi h2 h1)
theorem Ordd.cover {xs : List Nd} {n : Nat} {l : List Nat} (O : Ordd xs n l) : ∀ (d : Nat), d < n → ∀ c, l.getD d 0 ≤ c → c < d → ∃ p, p ≤ d ∧ (c : Int) ∈ (nd xs p).kids := by
  intro d
  induction d using Nat.strongRecOn with
  | ind d ih =>
    intro hd c h1 h2
    obtain ⟨k, q1, q2, q3, q4⟩ := O.tile d hd c h1 h2
    by_cases e : c = k
    · subst e; exact ⟨d, Nat.le_refl _, q1⟩
    · obtain ⟨p, r1, r2⟩ := ih k q4 (by omega) c q2 (by omega)
      exact ⟨p, by omega, r2⟩
end Go.Proofs.YteadglnenaiaaaaGreatDoor.Pl
namespace Go.Proofs.YteadglnenaiaaaaGreatDoor.Pl
def hij (tl : List Nat) (ks : List Int) : Nat → Nat
  | 0 => 0
  | j + 1 => Nat.max (hij tl ks j) (tl.getD (ks.getD (ks.length - 1 - j) 0).toNat 0 + 1)
def tlF (xs : List Nd) : Nat → List Nat
  | 0 => []
  | i + 1 => tlF xs i ++ [hij (tlF xs i) (nd xs i).kids (nd xs i).kids.length]
theorem tlF_len (xs : List Nd) : ∀ i, (tlF xs i).length = i
  | 0 => rfl
  | i + 1 => by show (tlF xs i ++ [_]).length = _; simp [tlF_len xs i]
theorem tlF_at (xs : List Nd) {n : Nat} : ∀ {i : Nat}, i < n → (tlF xs n).getD i 0 = hij (tlF xs i) (nd xs i).kids (nd xs i).kids.length := by
  induction n with
  | zero => intro i h; omega
  | succ n ih =>
    intro i h
    show (tlF xs n ++ [_]).getD i 0 = _
    by_cases e : i = n
    · subst e
      have := getD_app_eq (l := tlF xs i) (b := hij (tlF xs i) (nd xs i).kids (nd xs i).kids.length)
      rw [tlF_len] at this
      exact this
    · rw [getD_app_lt (by rw [tlF_len]; omega)]
      exact ih (by omega)
theorem tlF_pre (xs : List Nd) {n m i : Nat} (h1 : i < n) (h2 : i < m) : (tlF xs n).getD i 0 = (tlF xs m).getD i 0 := by rw [tlF_at xs h1, tlF_at xs h2]
theorem hij_ge (tl : List Nat) (ks : List Int) : ∀ {j q : Nat}, q < j → tl.getD (ks.getD (ks.length - 1 - q) 0).toNat 0 + 1 ≤ hij tl ks j
  | 0, q, h => by omega
  | j + 1, q, h => by
    show _ ≤ Nat.max (hij tl ks j) _
    by_cases e : q = j
    · subst e; exact Nat.le_max_right _ _
    · exact Nat.le_trans (hij_ge tl ks (by omega)) (Nat.le_max_left _ _)
theorem hij_some (tl : List Nat) (ks : List Int) : ∀ j, hij tl ks j = 0 ∨ ∃ q, q < j ∧ hij tl ks j = tl.getD (ks.getD (ks.length - 1 - q) 0).toNat 0 + 1
  | 0 => .inl rfl
  | j + 1 => by
    right
    show ∃ q, q < j + 1 ∧ Nat.max (hij tl ks j) _ = _
    rcases Nat.le_total (hij tl ks j) (tl.getD (ks.getD (ks.length - 1 - j) 0).toNat 0 + 1) with h | h
    · exact ⟨j, by omega, Nat.max_eq_right h⟩
    · rcases hij_some tl ks j with e | ⟨q, h1, h2⟩
      · omega
      · exact ⟨q, by omega, by rw [show Nat.max (hij tl ks j) _ = hij tl ks j from Nat.max_eq_left h]; exact h2⟩
theorem getD_mem {ks : List Int} {q : Nat} (h : q < ks.length) : ks.getD q 0 ∈ ks := by
  rw [List.getD_eq_getElem?_getD, List.getElem?_eq_getElem h]
  exact List.getElem_mem _
theorem mem_getD {ks : List Int} {c : Int} (h : c ∈ ks) : ∃ q, q < ks.length ∧ ks.getD q 0 = c := by
  obtain ⟨q, hq, e⟩ := List.getElem_of_mem h
  exact ⟨q, hq, by rw [List.getD_eq_getElem?_getD, List.getElem?_eq_getElem hq]; exact e⟩
inductive Dep (xs : List Nd) (n : Nat) : Nat → Nat → Prop
  | top {c : Nat} : c < n → (∀ p, p < n → (c : Int) ∉ (nd xs p).kids) → Dep xs n c 0
  | kid {p c d : Nat} : p < n → c < n → (c : Int) ∈ (nd xs p).kids → Dep xs n p d → Dep xs n c (d + 1)
section
variable {xs : List Nd} {n : Nat} {l : List Nat}
theorem Dep.lt {c d : Nat} (h : Dep xs n c d) : c < n := by cases h <;> assumption
theorem Dep.fn (O : Ordd xs n l) {c d : Nat} (h : Dep xs n c d) : ∀ {d'}, Dep xs n c d' → d = d' := by
  induction h with
  | top hc hn =>
    intro d' h'
    cases h' with
    | top => rfl
    | kid hp _ hk _ => exact absurd hk (hn _ hp)
  | kid hp hc hk h0 ih =>
    intro d' h'
    cases h' with
    | top _ hn => exact absurd hk (hn _ hp)
    | kid hp' _ hk' h0' =>
      have := O.uniq hp hp' hk hk'
      subst this
      rw [ih h0']
theorem dep_ex (O : Ordd xs n l) : ∀ (m c : Nat), c < n → n - c ≤ m → ∃ d, Dep xs n c d
  | 0, c, h, hm => by omega
  | m + 1, c, h, hm => by
    by_cases e : ∃ p, p < n ∧ (c : Int) ∈ (nd xs p).kids
    · obtain ⟨p, hp, hk⟩ := e
      obtain ⟨k, h1, h2, _⟩ := O.kid p hp _ hk
      obtain ⟨d, hd⟩ := dep_ex O m p hp (by omega)
      exact ⟨d + 1, .kid hp h hk hd⟩
    · exact ⟨0, .top h fun p hp hk => e ⟨p, hp, hk⟩⟩
theorem tall_kid (O : Ordd xs n l) {p c : Nat} (hp : p < n) (hk : (c : Int) ∈ (nd xs p).kids) : (tlF xs n).getD c 0 + 1 ≤ (tlF xs n).getD p 0 := by
  obtain ⟨k, h1, h2, _⟩ := O.kid p hp _ hk
  have : k = c := by omega
  subst this
  rw [tlF_at xs hp, tlF_pre xs (show k < n by omega) h2]
  obtain ⟨q, hq, e⟩ := mem_getD hk
  have h := hij_ge (tlF xs p) (nd xs p).kids (j := (nd xs p).kids.length) (q := (nd xs p).kids.length - 1 - q) (by omega)
  rw [show (nd xs p).kids.length - 1 - ((nd xs p).kids.length - 1 - q) = q by omega, e] at h
  simpa using h
theorem tall_some (O : Ordd xs n l) {p : Nat} (hp : p < n) : (tlF xs n).getD p 0 = 0 ∨ ∃ c : Nat, c < p ∧ (c : Int) ∈ (nd xs p).kids ∧ (tlF xs n).getD p 0 = (tlF xs n).getD c 0 + 1 := by
  rw [tlF_at xs hp]
  rcases hij_some (tlF xs p) (nd xs p).kids (nd xs p).kids.length with e | ⟨q, h1, h2⟩
  · exact .inl e
  · right
    have hm : (nd xs p).kids.getD ((nd xs p).kids.length - 1 - q) 0 ∈ (nd xs p).kids := by
      rw [List.getD_eq_getElem?_getD, List.getElem?_eq_getElem (by omega)]
      exact List.getElem_mem _
    obtain ⟨k, e1, e2, _⟩ := O.kid p hp _ hm
    rw [e1] at hm h2
    refine ⟨k, e2, hm, ?_⟩
    rw [h2, tlF_pre xs (show k < n by omega) e2]
    simp
theorem dep_up (O : Ordd xs n l) {c d : Nat} (h : Dep xs n c d) : ∃ r, r < n ∧ d + (tlF xs n).getD c 0 ≤ (tlF xs n).getD r 0 := by
  induction h with
  | top hc hn => exact ⟨_, hc, by omega⟩
  | kid hp hc hk h0 ih =>
    obtain ⟨r, h1, h2⟩ := ih
    have := tall_kid O hp hk
    exact ⟨r, h1, by omega⟩
theorem dep_down (O : Ordd xs n l) : ∀ (i : Nat), i < n → ∀ d, Dep xs n i d → ∃ c, Dep xs n c (d + (tlF xs n).getD i 0) := by
  intro i
  induction i using Nat.strongRecOn with
  | ind i ih =>
    intro hi d hd
    rcases tall_some O hi with e | ⟨c, h1, h2, h3⟩
    · exact ⟨i, by rw [e]; exact hd⟩
    · obtain ⟨c', hc'⟩ := ih c h1 (by omega) (d + 1) (.kid hi (by omega) h2 hd)
      exact ⟨c', by rw [h3]; have e : d + ((tlF xs n).getD c 0 + 1) = d + 1 + (tlF xs n).getD c 0 := by omega
                    rw [e]; exact hc'⟩
theorem tall_iff (O : Ordd xs n l) (M : Nat) : (∃ c d, Dep xs n c d ∧ M < d) ↔ ∃ i, i < n ∧ M < (tlF xs n).getD i 0 := by
  constructor
  · rintro ⟨c, d, h, hM⟩
    obtain ⟨r, h1, h2⟩ := dep_up O h
    exact ⟨r, h1, by omega⟩
  · rintro ⟨i, hi, hM⟩
    obtain ⟨d, hd⟩ := dep_ex O n i hi (by omega)
    obtain ⟨c, hc⟩ := dep_down O i hi d hd
    exact ⟨c, _, hc, by omega⟩
def StI (xs : List Nd) (n a : Nat) (st : List Nat) : Prop :=
  st.length = n ∧ ∀ c, c < n → (∀ p, a ≤ p → p < n → (c : Int) ∈ (nd xs p).kids → ∃ d, Dep xs n p d ∧ st.getD c 0 = d + 1) ∧ ((∀ p, a ≤ p → p < n → (c : Int) ∉ (nd xs p).kids) → st.getD c 0 = 0)
theorem StI.init (xs : List Nd) (n : Nat) : StI xs n n (List.replicate n 0) :=
  ⟨by simp, fun c hc => ⟨fun p h1 h2 => by omega, fun _ => by rw [List.getD_eq_getElem?_getD, List.getElem?_replicate, if_pos hc]; rfl⟩⟩
theorem StI.dep (O : Ordd xs n l) {a : Nat} {st : List Nat} (h : StI xs n (a + 1) st) (ha : a < n) : Dep xs n a (st.getD a 0) := by
  obtain ⟨h1, h2⟩ := h.2 a ha
  by_cases e : ∃ p, a + 1 ≤ p ∧ p < n ∧ (a : Int) ∈ (nd xs p).kids
  · obtain ⟨p, q1, q2, q3⟩ := e
    obtain ⟨d, q4, q5⟩ := h1 p q1 q2 q3
    rw [q5]
    exact .kid q2 ha q3 q4
  · rw [h2 fun p q1 q2 q3 => e ⟨p, q1, q2, q3⟩]
    refine .top ha fun p hp hk => ?_
    obtain ⟨k, r1, r2, _⟩ := O.kid p hp _ hk
    exact e ⟨p, by omega, hp, hk⟩
def StK (ks : List Int) (a q : Nat) (st0 st : List Nat) : Prop := st.length = st0.length ∧ ∀ c : Nat, st.getD c 0 = if (∃ i, i < q ∧ ks.getD i 0 = (c : Int)) then st0.getD a 0 + 1 else st0.getD c 0
theorem StK.init (ks : List Int) (a : Nat) (st : List Nat) : StK ks a 0 st st := ⟨rfl, fun c => by rw [if_neg]; rintro ⟨i, hi, _⟩; omega⟩
theorem getD_set_eq {l : List Nat} {k x : Nat} (h : k < l.length) : (l.set k x).getD k 0 = x := by
  rw [List.getD_eq_getElem?_getD, List.getElem?_set_self h]; rfl
theorem getD_set_ne {l : List Nat} {k c x : Nat} (h : k ≠ c) : (l.set k x).getD c 0 = l.getD c 0 := by
  rw [List.getD_eq_getElem?_getD, List.getElem?_set_ne h, ← List.getD_eq_getElem?_getD]
theorem StK.step {ks : List Int} {a q k : Nat} {st0 st : List Nat} (h : StK ks a q st0 st) (hk : ks.getD q 0 = (k : Int)) (hl : k < st.length) (ha : st.getD a 0 = st0.getD a 0) : StK ks a (q + 1) st0 (st.set k (st.getD a 0 + 1)) := by
  refine ⟨by simpa using h.1, fun c => ?_⟩
  by_cases e : k = c
  · subst e
    rw [getD_set_eq hl, if_pos ⟨q, by omega, hk⟩, ha]
  · rw [getD_set_ne e, h.2 c]
    by_cases q1 : ∃ i, i < q ∧ ks.getD i 0 = (c : Int)
    · obtain ⟨i, h1, h2⟩ := q1
      rw [if_pos ⟨i, h1, h2⟩, if_pos ⟨i, by omega, h2⟩]
    · rw [if_neg q1, if_neg]
      rintro ⟨i, h1, h2⟩
      by_cases e2 : i = q
      · subst e2; rw [hk] at h2; exact e (by omega)
      · exact q1 ⟨i, by omega, h2⟩
theorem StK.self (O : Ordd xs n l) {a q : Nat} (ha : a < n) {st0 st : List Nat} (h : StK (nd xs a).kids a q st0 st) (hq : q ≤ (nd xs a).kids.length) : st.getD a 0 = st0.getD a 0 := by
  rw [h.2 a, if_neg]
  rintro ⟨i, h1, h2⟩
  have hm := getD_mem (ks := (nd xs a).kids) (q := i) (by omega)
  rw [h2] at hm
  obtain ⟨k, r1, r2, _⟩ := O.kid a ha _ hm
  omega
theorem StI.next (O : Ordd xs n l) {a : Nat} (ha : a < n) {st0 st : List Nat} (h0 : StI xs n (a + 1) st0) (h : StK (nd xs a).kids a (nd xs a).kids.length st0 st) : StI xs n a st := by
  have hd := h0.dep O ha
  refine ⟨by rw [h.1]; exact h0.1, fun c hc => ?_⟩
  obtain ⟨h1, h2⟩ := h0.2 c hc
  by_cases e : (c : Int) ∈ (nd xs a).kids
  · obtain ⟨i, q1, q2⟩ := mem_getD e
    refine ⟨fun p p1 p2 p3 => ?_, fun q => absurd e (q a (Nat.le_refl _) ha)⟩
    have := O.uniq ha p2 e p3
    subst this
    exact ⟨_, hd, by rw [h.2 c, if_pos ⟨i, q1, q2⟩]⟩
  · have hne : ¬ ∃ i, i < (nd xs a).kids.length ∧ (nd xs a).kids.getD i 0 = (c : Int) := by
      rintro ⟨i, q1, q2⟩
      exact e (q2 ▸ getD_mem q1)
    rw [h.2 c, if_neg hne]
    refine ⟨fun p p1 p2 p3 => ?_, fun q => h2 fun p p1 p2 => q p (by omega) p2⟩
    by_cases ep : p = a
    · subst ep; exact absurd p3 e
    · exact h1 p (by omega) p2 p3
end
end Go.Proofs.YteadglnenaiaaaaGreatDoor.Pl
namespace Go.Proofs.YteadglnenaiaaaaGreatDoor.Pl
def srtS (k : Int) : Int :=
  if 1 ≤ k ∧ k ≤ 6 then 1 else if 7 ≤ k ∧ k ≤ 9 then k - 5 else if (10 ≤ k ∧ k ≤ 12) ∨ k = 14 then 5 else if k = 13 then 10 else if k = 15 then 9 else if k = 16 then 6 else if k = 17 ∨ (19 ≤ k ∧ k ≤ 32) then 7 else if 33 ≤ k ∧ k ≤ 49 then 8 else 0
def fitS (c k : Int) : Bool :=
  if c = 116 then decide (srtS k = 1) else if c = 70 then decide (k = 4) else if c = 66 then decide (k = 17) else if c = 112 then decide (srtS k = 2) else if c = 102 then decide (srtS k = 3) else if c = 99 then decide (srtS k = 4) else if c = 105 ∨ c = 73 then decide (srtS k = 6 ∨ srtS k = 8) else if c = 115 then decide (srtS k = 7) else if c = 83 then decide (srtS k = 7 ∨ srtS k = 10) else if c = 100 then decide (srtS k = 5 ∨ srtS k = 10) else if c = 101 ∨ c = 69 then decide (srtS k = 8) else if c = 118 then decide (k = 13 ∨ k = 19 ∨ k = 20) else decide (k = 19 ∨ k = 20)
def shpT : List (List Int) := [[], [], [116], [116, 63, 101], [116, 112], [], [], [116], [116], [63, 101], [102], [99], [116], [116, 63, 105], [70, 66], [100], [73], [83], [], [101], [], [101, 115, 63, 115], [101, 115], [115, 101], [118, 120, 120, 115], [101, 115], [101, 115], [115], [115], [], [], [], [63, 101], [], [], [], [101, 101], [101, 69], [101], [101], [101], [101], [101], [101], [116], [116, 101], [101, 101], [101, 101, 101], [101, 101], [101, 101]]
structure Rl where
  srt : Int
  word : Int
  lowM : Int
  highM : Int
  lowN : Int
  highN : Int
  kids : List Int
  more : Int
  most : Int
def Rl.zero : Rl := ⟨0, 0, 0, 0, 0, 0, [], 0, 0⟩
def rlT : List Rl := [⟨0, 0, 0, 0, 0, 0, [], 0, 0⟩, ⟨1, 0, 0, 0, 1, 7, [], 0, 0⟩, ⟨1, 0, 0, 0, 0, 0, [1], 0, 0⟩, ⟨1, 0, 0, 0, 0, 0, [1], 128, 1⟩, ⟨3, 0, 0, 0, 0, 0, [1], 4, 4000⟩, ⟨1, 1, 1, 3, 0, 0, [], 0, 0⟩, ⟨1, 4, 0, 0, 0, 0, [], 0, 0⟩, ⟨4, 3, 0, 0, 0, 0, [1], 0, 0⟩, ⟨8, 2, 0, 0, 0, 0, [1], 0, 0⟩, ⟨16, 2, 0, 0, 0, 0, [], 128, 1⟩, ⟨32, 1, 1, 2, 0, 0, [8], 8, 4000⟩, ⟨32, 1, 0, 0, 0, 0, [16], 16, 4000⟩, ⟨32, 2, 0, 0, 0, 0, [1], 0, 0⟩, ⟨2592, 2, 0, 0, 0, 0, [1], 64, 1⟩, ⟨32, 2, 0, 0, 0, 0, [2, 1024], 0, 0⟩, ⟨0, 0, 0, 0, 0, 0, [], 32, 4000⟩, ⟨64, 0, 0, 0, 0, 0, [64], 64, 4000⟩, ⟨1792, 0, 0, 0, 0, 0, [], 512, 4000⟩, ⟨0, 0, 0, 0, 0, 0, [], 0, 0⟩, ⟨6912, 0, 0, 0, 0, 0, [128], 0, 0⟩, ⟨6912, 0, 0, 0, 0, 0, [], 0, 0⟩, ⟨768, 0, 0, 0, 0, 0, [128, 256], 256, 1⟩, ⟨768, 0, 0, 0, 0, 0, [128, 256], 0, 0⟩, ⟨768, 0, 0, 0, 0, 0, [256, 128], 0, 0⟩, ⟨768, 0, 0, 0, 0, 0, [2048, 4096, 4096, 256], 0, 0⟩, ⟨768, 0, 0, 0, 0, 0, [128, 256], 0, 0⟩, ⟨768, 0, 0, 0, 0, 0, [128, 256], 0, 0⟩, ⟨768, 0, 0, 0, 0, 0, [256], 0, 0⟩, ⟨768, 2, 0, 0, 0, 0, [256], 0, 0⟩, ⟨768, 2, 0, 0, 0, 0, [], 0, 0⟩, ⟨768, 0, 0, 0, 0, 0, [], 0, 0⟩, ⟨768, 0, 0, 0, 0, 0, [], 0, 0⟩, ⟨768, 0, 0, 0, 0, 0, [], 128, 1⟩, ⟨192, 5, 0, 0, 0, 4294967295, [], 0, 0⟩, ⟨192, 5, 0, 0, 0, 0, [], 0, 0⟩, ⟨192, 2, 0, 0, 0, 0, [], 0, 0⟩, ⟨192, 0, 0, 0, 0, 0, [128, 128], 0, 0⟩, ⟨192, 0, 0, 0, 0, 0, [128], 128, 4000⟩, ⟨192, 1, 0, 0, 0, 0, [128], 0, 0⟩, ⟨192, 1, 0, 0, 0, 0, [128], 0, 0⟩, ⟨192, 0, 1, 2, 0, 0, [128], 0, 0⟩, ⟨192, 0, 1, 2, 0, 0, [128], 0, 0⟩, ⟨192, 0, 1, 6, 0, 0, [128], 0, 0⟩, ⟨192, 0, 0, 0, 0, 0, [128], 0, 0⟩, ⟨192, 0, 0, 0, 0, 0, [1], 0, 0⟩, ⟨192, 0, 0, 0, 0, 0, [1, 128], 0, 0⟩, ⟨192, 0, 1, 18, 0, 0, [128, 128], 0, 0⟩, ⟨192, 0, 0, 0, 0, 0, [128, 128, 128], 0, 0⟩, ⟨192, 0, 0, 16, 0, 0, [128, 128], 0, 0⟩, ⟨192, 0, 0, 0, 0, 0, [128, 128], 0, 0⟩]
def rl (k : Int) : Rl := if 0 ≤ k ∧ k ≤ 49 then rlT.getD k.toNat Rl.zero else Rl.zero
def bitL (c : Int) : Int := if c = 116 then 1 else if c = 70 then 2 else if c = 112 then 4 else if c = 102 then 8 else if c = 99 then 16 else if c = 100 then 32 else if c = 105 then 64 else if c = 73 then 64 else if c = 101 then 128 else if c = 69 then 128 else if c = 115 then 256 else if c = 83 then 512 else if c = 66 then 1024 else if c = 118 then 2048 else if c = 120 then 4096 else 0
def many (c : Int) : Bool := c == 112 || c == 102 || c == 99 || c == 73 || c == 83 || c == 100 || c == 69
def some1 (c : Int) : Bool := c == 102 || c == 99 || c == 73
def kS : List Int → List Int → Bool → Bool
  | [], ks, _ => ks.isEmpty
  | c :: cs, ks, m =>
    if c = 63 then kS cs ks true
    else if many c = true then (if some1 c = true ∧ ks = [] then false else if ks.all (fitS c) = true then kS cs [] m else false)
    else match ks with
      | [] => m
      | k :: ks' => if fitS c k = true then kS cs ks' m else false

def Fit (F : List Int) (more : Int) (most : Nat) (ks : List Int) : Prop := F.length ≤ ks.length ∧ ks.length ≤ F.length + most ∧ ∀ q, q < ks.length → fitS (if q < F.length then F.getD q 0 else more) (ks.getD q 0) = true
theorem fit_cons {c : Int} {F : List Int} {more : Int} {most : Nat} {k : Int} {ks : List Int} : Fit (c :: F) more most (k :: ks) ↔ fitS c k = true ∧ Fit F more most ks := by
  unfold Fit
  constructor
  · rintro ⟨h1, h2, h3⟩
    simp only [List.length_cons] at h1 h2 h3
    refine ⟨by simpa using h3 0 (by omega), by omega, by omega, fun q hq => ?_⟩
    have := h3 (q + 1) (by omega)
    simp only [List.getD_cons_succ, Nat.add_lt_add_iff_right] at this
    exact this
  · rintro ⟨h0, h1, h2, h3⟩
    simp only [List.length_cons]
    refine ⟨by omega, by omega, fun q hq => ?_⟩
    cases q with
    | zero => simpa using h0
    | succ q =>
      have := h3 q (by omega)
      simp only [List.getD_cons_succ, Nat.add_lt_add_iff_right]
      exact this
theorem fit_nil {c : Int} {F : List Int} {more : Int} {most : Nat} : ¬ Fit (c :: F) more most [] := fun h => by have := h.1; simp at this
theorem fit_all {c : Int} {most : Nat} {ks : List Int} (h : ks.length ≤ most) : Fit [] c most ks ↔ ks.all (fitS c) = true := by
  unfold Fit
  rw [List.all_eq_true]
  constructor
  · rintro ⟨_, _, h3⟩ x hx
    obtain ⟨q, hq, e⟩ := mem_getD hx
    have := h3 q hq
    rw [e, if_neg (by simp)] at this
    exact this
  · intro h3
    refine ⟨by simp, by simpa using h, fun q hq => ?_⟩
    simpa using h3 _ (getD_mem hq)
def nrm : List Int → List Int × Int × Nat
  | [] => ([], 0, 0)
  | c :: cs => if c = 63 then ([], cs.headD 0, 1) else if some1 c = true then ([c], c, 4000) else if many c = true then ([], c, 4000) else (c :: (nrm cs).1, (nrm cs).2)
def wfS : List Int → Bool
  | [] => true
  | c :: cs => if c = 63 then (match cs with | [d] => decide (d ≠ 63) && !many d | _ => false) else if many c = true then cs.isEmpty else wfS cs
theorem kS_fit : ∀ (cs ks : List Int), wfS cs = true → ks.length ≤ 4000 → (kS cs ks false = true ↔ Fit (nrm cs).1 (nrm cs).2.1 (nrm cs).2.2 ks)
  | [], ks, _, _ => by
    unfold kS nrm
    rw [List.isEmpty_iff]
    constructor
    · rintro rfl; exact ⟨Nat.le_refl _, Nat.le_refl _, fun q hq => absurd hq (Nat.not_lt_zero _)⟩
    · intro h; have := h.2.1; exact List.eq_nil_of_length_eq_zero (by simpa using this)
  | c :: cs, ks, hw, hl => by
    unfold kS nrm
    unfold wfS at hw
    by_cases h63 : c = 63
    · rw [if_pos h63] at hw ⊢
      rw [if_pos h63]
      match cs, hw with
      | [d], hw =>
        simp only [Bool.and_eq_true, decide_eq_true_eq, Bool.not_eq_true'] at hw
        obtain ⟨w1, w2⟩ := hw
        show kS [d] ks true = true ↔ Fit [] d 1 ks
        unfold kS
        rw [if_neg w1, if_neg (by rw [w2]; decide)]
        cases ks with
        | nil => exact ⟨fun _ => ⟨Nat.zero_le _, Nat.zero_le _, fun q hq => absurd hq (Nat.not_lt_zero _)⟩, fun _ => rfl⟩
        | cons k ks' =>
          show (if fitS d k = true then kS [] ks' true else false) = true ↔ _
          unfold kS
          constructor
          · intro h
            split at h
            · rename_i hf
              rw [List.isEmpty_iff] at h
              subst h
              exact ⟨Nat.zero_le _, Nat.le_refl _, fun q hq => by
                have : q = 0 := by simpa using hq
                subst this; simpa using hf⟩
            · cases h
          · rintro ⟨_, h2, h3⟩
            have hk : ks' = [] := List.eq_nil_of_length_eq_zero (by simp at h2; simpa using h2)
            subst hk
            have := h3 0 (by simp)
            rw [if_pos (by simpa using this)]; rfl
    · rw [if_neg h63] at hw ⊢
      rw [if_neg h63]
      by_cases hm : many c = true
      · rw [if_pos hm] at hw ⊢
        have hcs : cs = [] := List.isEmpty_iff.mp hw
        subst hcs
        by_cases hs : some1 c = true
        · rw [if_pos hs]
          show _ ↔ Fit [c] c 4000 ks
          cases ks with
          | nil => rw [if_pos ⟨hs, rfl⟩]; exact ⟨fun h => absurd h (by decide), fun h => absurd h fit_nil⟩
          | cons k ks' =>
            rw [if_neg (by rintro ⟨_, h⟩; cases h), fit_cons, fit_all (by simp at hl; omega)]
            simp only [List.all_cons, Bool.and_eq_true]
            constructor
            · intro h; split at h
              · assumption
              · cases h
            · intro h; rw [if_pos h]; rfl
        · rw [if_neg (fun h => hs h.1), if_neg hs, if_pos hm]
          show _ ↔ Fit [] c 4000 ks
          rw [fit_all hl]
          constructor
          · intro h; split at h
            · assumption
            · cases h
          · intro h; rw [if_pos h]; rfl
      · rw [if_neg hm] at hw ⊢
        have hs : ¬ some1 c = true := fun h => hm (by unfold some1 at h; unfold many; simp at h ⊢; omega)
        rw [if_neg hs, if_neg hm]
        cases ks with
        | nil => exact ⟨fun h => absurd (show false = true from h) (by decide), fun h => absurd h fit_nil⟩
        | cons k ks' =>
          show (if fitS c k = true then kS cs ks' false else false) = true ↔ _
          rw [fit_cons, ← kS_fit cs ks' hw (by simp at hl; omega)]
          constructor
          · intro h; split at h
            · exact ⟨by assumption, h⟩
            · cases h
          · rintro ⟨h1, h2⟩; rw [if_pos h1]; exact h2

def ltrs : List Int := [116, 70, 112, 102, 99, 100, 105, 73, 101, 69, 115, 83, 66, 118, 120]
theorem srt_out {k : Int} (h : k < 0 ∨ 49 < k) : srtS k = 0 := by
  unfold srtS
  rw [if_neg (by omega), if_neg (by omega), if_neg (by omega), if_neg (by omega), if_neg (by omega), if_neg (by omega), if_neg (by omega), if_neg (by omega)]
theorem rl_out {k : Int} (h : k < 0 ∨ 49 < k) : rl k = Rl.zero := by unfold rl; rw [if_neg (by omega)]
theorem rl_in {k : Nat} (h : k < 50) : rl (k : Int) = rlT.getD k Rl.zero := by unfold rl; rw [if_pos (by omega)]; simp
theorem fit_bits {c : Int} (hc : c ∈ ltrs) (k : Int) : fitS c k = true ↔ (rl k).srt.toNat &&& (bitL c).toNat ≠ 0 := by
  by_cases h : 0 ≤ k ∧ k ≤ 49
  · obtain ⟨n, rfl⟩ : ∃ n : Nat, k = n := ⟨k.toNat, by omega⟩
    have hn : n < 50 := by omega
    have key : ∀ c ∈ ltrs, ∀ n : Fin 50, (fitS c ((n.val : Nat) : Int) = true) = ((rlT.getD n.val Rl.zero).srt.toNat &&& (bitL c).toNat ≠ 0) := by
      intro c hc n
      revert n
      revert c
      have : ∀ c ∈ ltrs, ∀ n : Fin 50, (fitS c ((n.val : Nat) : Int) = true) ↔ ((rlT.getD n.val Rl.zero).srt.toNat &&& (bitL c).toNat ≠ 0) := by decide +kernel
      intro c hc n; exact propext (this c hc n)
    rw [rl_in hn, key c hc ⟨n, hn⟩]
  · rw [rl_out (by omega)]
    have hs := srt_out (k := k) (by omega)
    have hf : fitS c k = false := by
      unfold fitS
      rw [hs]
      have e1 : ∀ n : Int, n ≠ 0 → decide ((0 : Int) = n) = false := fun n h => decide_eq_false (fun q => h q.symm)
      have e4 : decide (k = 4) = false := decide_eq_false (by omega)
      have e17 : decide (k = 17) = false := decide_eq_false (by omega)
      have ev : decide (k = 13 ∨ k = 19 ∨ k = 20) = false := decide_eq_false (by omega)
      have ex : decide (k = 19 ∨ k = 20) = false := decide_eq_false (by omega)
      rw [e4, e17, ev, ex]
      simp
    rw [hf]
    simp [Rl.zero]
def kI (r : Rl) (ks : List Int) : Prop := (r.kids.length : Int) ≤ ks.length ∧ (ks.length : Int) ≤ r.kids.length + r.most ∧ ∀ q, q < ks.length → (rl (ks.getD q 0)).srt.toNat &&& (if q < r.kids.length then r.kids.getD q 0 else r.more).toNat ≠ 0
theorem tab_ok : ∀ k : Fin 50, wfS (shpT.getD k.val []) = true ∧ (rlT.getD k.val Rl.zero).kids = (nrm (shpT.getD k.val [])).1.map bitL ∧ (rlT.getD k.val Rl.zero).most = ((nrm (shpT.getD k.val [])).2.2 : Int) ∧ (∀ c ∈ (nrm (shpT.getD k.val [])).1, c ∈ ltrs) ∧ ((nrm (shpT.getD k.val [])).2.2 = 0 ∨ ((nrm (shpT.getD k.val [])).2.1 ∈ ltrs ∧ (rlT.getD k.val Rl.zero).more = bitL (nrm (shpT.getD k.val [])).2.1)) := by decide +kernel
theorem kids_same {k : Nat} (hk : k < 50) {ks : List Int} (hl : ks.length ≤ 4000) : kS (shpT.getD k []) ks false = true ↔ kI (rl k) ks := by
  obtain ⟨h1, h2, h3, h4, h5⟩ := tab_ok ⟨k, hk⟩
  simp only at h1 h2 h3 h4 h5
  rw [kS_fit _ ks h1 hl, rl_in hk]
  unfold Fit kI
  rw [h2, h3]
  simp only [List.length_map]
  have hq : ∀ q, q < ks.length → ks.length ≤ (nrm (shpT.getD k [])).1.length + (nrm (shpT.getD k [])).2.2 → (fitS (if q < (nrm (shpT.getD k [])).1.length then (nrm (shpT.getD k [])).1.getD q 0 else (nrm (shpT.getD k [])).2.1) (ks.getD q 0) = true ↔ (rl (ks.getD q 0)).srt.toNat &&& (if q < (nrm (shpT.getD k [])).1.length then ((nrm (shpT.getD k [])).1.map bitL).getD q 0 else (rlT.getD k Rl.zero).more).toNat ≠ 0) := by
    intro q hq hle
    by_cases e : q < (nrm (shpT.getD k [])).1.length
    · rw [if_pos e, if_pos e]
      have hm := getD_mem (ks := (nrm (shpT.getD k [])).1) e
      rw [fit_bits (h4 _ hm)]
      have : ((nrm (shpT.getD k [])).1.map bitL).getD q 0 = bitL ((nrm (shpT.getD k [])).1.getD q 0) := by
        generalize (nrm (shpT.getD k [])).1 = L at *
        rw [List.getD_eq_getElem?_getD, List.getD_eq_getElem?_getD, List.getElem?_map, List.getElem?_eq_getElem e]; rfl
      rw [this]
    · rw [if_neg e, if_neg e]
      rcases h5 with h5 | ⟨h5, h6⟩
      · omega
      · rw [fit_bits h5, h6]
  constructor
  · rintro ⟨a, b, c⟩
    exact ⟨by omega, by omega, fun q h => (hq q h b).mp (c q h)⟩
  · rintro ⟨a, b, c⟩
    exact ⟨by omega, by omega, fun q h => (hq q h (by omega)).mpr (c q h)⟩
end Go.Proofs.YteadglnenaiaaaaGreatDoor.Pl
namespace Go.Proofs.YteadglnenaiaaaaGreatDoor.Pl
def dg (c : Int) : Bool := decide (48 ≤ c ∧ c ≤ 57)
def lt (c : Int) : Bool := decide (97 ≤ c ∧ c ≤ 122) || decide (65 ≤ c ∧ c ≤ 90)
def ch (c : Int) : Bool := dg c || lt c || c == 95 || c == 46 || c == 36
def wch (c : Int) : Bool := dg c || lt c || c == 95
def byt (s : ByteArray) (i : Nat) : Int := ((s.data.toList.getD i 0).toNat : Int)
theorem byt_get (s : ByteArray) (i : Nat) (h : i < s.size) : ((s[i]'h).toNat : Int) = byt s i := by
  obtain ⟨⟨l⟩⟩ := s
  have hl : i < l.length := h
  unfold byt
  simp only [List.getD, List.getElem?_eq_getElem hl, Option.getD_some]
  rfl
theorem nil_iff (s : ByteArray) : s.toList = [] ↔ s.size = 0 := by
  rw [ByteArray.toList_eq]
  show s.data.toList = [] ↔ s.data.size = 0
  rw [← Array.length_toList]
  exact List.length_eq_zero_iff.symm
end Go.Proofs.YteadglnenaiaaaaGreatDoor.Pl
namespace Go.Proofs.YteadglnenaiaaaaGreatDoor.W
open Go.RowKit
theorem isDigit_any (c : Int) (w : World) : Calls Tryz.prog 73 #[.int .u8 c] w fun e w' => e = .returned (.bool (Pl.dg c)) ∧ w' = w := by
  go_enter Tryz.func73, Tryz.ntmps73
  go_wp2
  all_goals (go_ret; refine ⟨ret_bool ?_, rfl⟩; rw [Bool.eq_iff_iff]; simp [Pl.dg, Pl.lt, Pl.ch] <;> omega)
theorem l4Digit_any (c : Int) (w : World) : Calls Tryz.prog 42 #[.int .u8 c] w fun e w' => e = .returned (.bool (Pl.dg c)) ∧ w' = w := by
  go_enter Tryz.func42, Tryz.ntmps42
  go_wp2
  all_goals (go_ret; refine ⟨ret_bool ?_, rfl⟩; rw [Bool.eq_iff_iff]; simp [Pl.dg, Pl.lt, Pl.ch] <;> omega)
theorem l4Letter_any (c : Int) (w : World) : Calls Tryz.prog 62 #[.int .u8 c] w fun e w' => e = .returned (.bool (Pl.lt c)) ∧ w' = w := by
  go_enter Tryz.func62, Tryz.ntmps62
  go_wp2
  all_goals (go_ret; refine ⟨ret_bool ?_, rfl⟩; rw [Bool.eq_iff_iff]; simp [Pl.dg, Pl.lt, Pl.ch] <;> omega)
set_option maxHeartbeats 1000000 in
theorem inWord_any (c : Int) (w : World) : Calls Tryz.prog 125 #[.int .u8 c] w fun e w' => e = .returned (.bool (Pl.wch c)) ∧ w' = w := by
  cases hd : Pl.dg c
  · have hn : ¬ (48 ≤ c ∧ c ≤ 57) := by simpa [Pl.dg] using hd
    go_enter Tryz.func125, Tryz.ntmps125
    go_wp2_with (go_at_call 73; refine (isDigit_any _ _).mono ?_; rintro e u1 ⟨rfl, rfl⟩; rw [hd])
    all_goals (go_ret; refine ⟨ret_bool ?_, rfl⟩; rw [Bool.eq_iff_iff]; simp [Pl.dg, Pl.lt, Pl.wch] <;> omega)
  · have hn : 48 ≤ c ∧ c ≤ 57 := by simpa [Pl.dg] using hd
    go_enter Tryz.func125, Tryz.ntmps125
    go_wp2_with (go_at_call 73; refine (isDigit_any _ _).mono ?_; rintro e u1 ⟨rfl, rfl⟩; rw [hd])
    all_goals (go_ret; refine ⟨ret_bool ?_, rfl⟩; rw [Bool.eq_iff_iff]; simp [Pl.dg, Pl.lt, Pl.wch] <;> omega)
end Go.Proofs.YteadglnenaiaaaaGreatDoor.W
namespace Go.Proofs.YteadglnenaiaaaaGreatDoor.Pl
/-! Chapter 5: tokens, as functions of the text -/
theorem byt_lo (s : ByteArray) (i : Nat) : 0 ≤ byt s i := by unfold byt; omega
theorem byt_hi (s : ByteArray) (i : Nat) : byt s i < 256 := by
  unfold byt
  have := (s.data.toList.getD i 0).toNat_lt
  omega
theorem byt_out (s : ByteArray) (i : Nat) (h : s.size ≤ i) : byt s i = 0 := by
  obtain ⟨⟨l⟩⟩ := s
  have hl : l.length ≤ i := h
  unfold byt
  simp [List.getD, List.getElem?_eq_none hl]
theorem ext_size (s : ByteArray) (a b : Nat) : (s.extract a b).size = min b s.size - a := by
  rw [ByteArray.size_extract]
theorem byt_ext (s : ByteArray) (a b j : Nat) (h : a + j < b) (hb : b ≤ s.size) : byt (s.extract a b) j = byt s (a + j) := by
  have h1 : j < (s.extract a b).size := by rw [ext_size]; omega
  rw [← byt_get _ j h1, ← byt_get s (a + j) (by omega)]
  congr 2
  simp [ByteArray.getElem_extract]
theorem ba_ext {a b : ByteArray} (h : a.size = b.size) (hb : ∀ j, j < a.size → byt a j = byt b j) : a = b := by
  refine ByteArray.ext_getElem h fun i h1 h2 => ?_
  have := hb i h1
  rw [← byt_get a i h1, ← byt_get b i h2] at this
  exact UInt8.toNat_inj.1 (by omega)
theorem ext_ext (s : ByteArray) (a b c d : Nat) (h : a + d ≤ b) (hb : b ≤ s.size) (hc : c ≤ d) : (s.extract a b).extract c d = s.extract (a + c) (a + d) := by
  refine ba_ext (by simp only [ext_size]; omega) fun j hj => ?_
  simp only [ext_size] at hj
  rw [byt_ext _ c d j (by omega) (by simp only [ext_size]; omega), byt_ext s a b (c + j) (by omega) hb, byt_ext s (a + c) (a + d) j (by omega) (by omega)]
  congr 1
  omega
theorem ext_all (s : ByteArray) : s.extract 0 s.size = s := by simp
def hx (c : Int) : Int := if 48 ≤ c ∧ c ≤ 57 then c - 48 else if 97 ≤ c ∧ c ≤ 102 then c - 87 else if 65 ≤ c ∧ c ≤ 70 then c - 55 else -1
theorem hx_lo (c : Int) : -1 ≤ hx c := by unfold hx; split <;> (try split) <;> (try split) <;> omega
theorem hx_hi (c : Int) : hx c ≤ 15 := by unfold hx; split <;> (try split) <;> (try split) <;> omega
def dgo (c : Int) : Int := if hx c < 0 then 16 else hx c
def blk (c : Int) : Bool := c == 32 || (decide (9 ≤ c) && decide (c ≤ 13))
def val (s : ByteArray) (b : Int) : Nat → Int
  | 0 => 0
  | k + 1 => val s b k * b + hx (byt s k)
def Run (p : Int → Bool) (s : ByteArray) (n : Nat) : Prop := n ≤ s.size ∧ (∀ j, j < n → p (byt s j) = true) ∧ (n = s.size ∨ p (byt s n) = false)
theorem Run.fn {p : Int → Bool} {s : ByteArray} {n m : Nat} (h : Run p s n) (k : Run p s m) : n = m := by
  rcases Nat.lt_trichotomy n m with hl | hl | hl
  · rcases h.2.2 with e | e
    · have := k.1; omega
    · rw [k.2.1 n hl] at e; cases e
  · exact hl
  · rcases k.2.2 with e | e
    · have := h.1; omega
    · rw [h.2.1 m hl] at e; cases e
theorem Run.ex (p : Int → Bool) (s : ByteArray) : ∃ n, Run p s n := by
  have key : ∀ d m, s.size - m = d → m ≤ s.size → (∀ j, j < m → p (byt s j) = true) → ∃ n, Run p s n := by
    intro d
    induction d with
    | zero => intro m hd hm ha; exact ⟨m, hm, ha, .inl (by omega)⟩
    | succ d ih =>
      intro m hd hm ha
      cases hp : p (byt s m)
      · exact ⟨m, hm, ha, .inr hp⟩
      · refine ih (m + 1) (by omega) (by omega) fun j hj => ?_
        by_cases e : j = m
        · rw [e]; exact hp
        · exact ha j (by omega)
  exact key _ 0 rfl (Nat.zero_le _) (fun j hj => absurd hj (Nat.not_lt_zero _))
open Classical in
noncomputable def run (p : Int → Bool) (s : ByteArray) : Nat := Classical.choose (Run.ex p s)
theorem run_run (p : Int → Bool) (s : ByteArray) : Run p s (run p s) := Classical.choose_spec (Run.ex p s)
theorem run_eq {p : Int → Bool} {s : ByteArray} {n : Nat} (h : Run p s n) : run p s = n := (run_run p s).fn h
def uu (c : Int) : Bool := c == 117 || c == 85
def iend (s : ByteArray) : Nat := if uu (byt s (s.size - 1)) = true then s.size - 1 else s.size
def isx (s : ByteArray) : Bool := decide (1 < s.size) && byt s 0 == 48 && (byt s 1 == 120 || byt s 1 == 88)
def ioff (s : ByteArray) : Nat := if isx s = true then 2 else 0
def ibase (s : ByteArray) : Int := if isx s = true then 16 else if byt s 0 = 48 then 8 else 10
def idig (s : ByteArray) : ByteArray := s.extract (ioff s) (iend s)
def badD (b : Int) (c : Int) : Bool := decide (hx c < 0) || (b != 16 && decide (9 < hx c))
open Classical in
noncomputable def intR (s : ByteArray) : Except Int (ByteArray × Int) :=
  if iend s ≤ ioff s ∨ ∃ j, j < (idig s).size ∧ badD (ibase s) (byt (idig s) j) = true then .error 2
  else if (∃ j, j < (idig s).size ∧ ibase s ≤ hx (byt (idig s) j)) ∨ 4294967295 < val (idig s) (ibase s) (idig s).size then .error 6
  else .ok (if uu (byt s (s.size - 1)) = true ∨ 2147483647 < val (idig s) (ibase s) (idig s).size then ⟨#[117]⟩ else ⟨#[]⟩, val (idig s) (ibase s) (idig s).size)
def plainE (c : Int) : Int := if c = 110 then 10 else if c = 116 then 9 else if c = 114 then 13 else if c = 97 then 7 else if c = 98 then 8 else if c = 102 then 12 else if c = 118 then 11 else if c = 92 then 92 else if c = 39 then 39 else if c = 34 then 34 else -1
def oc (s : ByteArray) (i : Nat) : Int := if i < s.size ∧ 48 ≤ byt s i ∧ byt s i ≤ 55 then byt s i - 48 else -1
def hc (s : ByteArray) (i : Nat) : Int := if i < s.size then hx (byt s i) else -1
def escF (s : ByteArray) (i : Nat) : Except Int (Int × Nat) :=
  if s.size ≤ i ∨ byt s i = 10 then .error 4
  else if byt s i = 120 then
    (if hc s (i + 1) < 0 then .error 5 else if hc s (i + 2) < 0 then .ok (hc s (i + 1), 2) else .ok (hc s (i + 1) * 16 + hc s (i + 2), 3))
  else if 0 ≤ oc s i then
    (if oc s (i + 1) < 0 then .ok (oc s i, 1) else if oc s (i + 2) < 0 then .ok (oc s i * 8 + oc s (i + 1), 2)
     else if 255 < (oc s i * 8 + oc s (i + 1)) * 8 + oc s (i + 2) then .error 5 else .ok ((oc s i * 8 + oc s (i + 1)) * 8 + oc s (i + 2), 3))
  else if plainE (byt s i) < 0 then .error 5 else .ok (plainE (byt s i), 1)
inductive Quo (s : ByteArray) (m : Int) : Nat → List UInt8 → Except Int (List UInt8 × Nat) → Prop
  | out {i acc} : (s.size ≤ i ∨ byt s i = 10) → Quo s m i acc (.error 4)
  | fin {i acc} : i < s.size → byt s i = m → byt s i ≠ 10 → Quo s m i acc (.ok (acc, i + 1))
  | bad {i acc f} : i < s.size → byt s i = 92 → byt s i ≠ m → escF s (i + 1) = .error f → Quo s m i acc (.error f)
  | esc {i acc v n r} : i < s.size → byt s i = 92 → byt s i ≠ m → escF s (i + 1) = .ok (v, n) → Quo s m (i + 1 + n) (acc ++ [UInt8.ofNat v.toNat]) r → Quo s m i acc r
  | one {i acc r} : i < s.size → byt s i ≠ 10 → byt s i ≠ m → byt s i ≠ 92 → Quo s m (i + 1) (acc ++ [UInt8.ofNat (byt s i).toNat]) r → Quo s m i acc r
theorem Quo.fn {s : ByteArray} {m : Int} {i : Nat} {acc : List UInt8} {r r' : Except Int (List UInt8 × Nat)} (h : Quo s m i acc r) (h' : Quo s m i acc r') : r = r' := by
  induction h with
  | out h0 =>
    cases h' with
    | out _ => rfl
    | fin a b c => rcases h0 with e | e <;> first | omega | exact absurd e c
    | bad a b c d => rcases h0 with e | e <;> omega
    | esc a b c d e => rcases h0 with e | e <;> omega
    | one a b c d e => rcases h0 with e | e <;> first | omega | exact absurd e b
  | fin a b c =>
    cases h' with
    | out h0 => rcases h0 with e | e <;> first | omega | exact absurd e c
    | fin _ _ _ => rfl
    | bad _ _ c' _ => exact absurd b c'
    | esc _ _ c' _ _ => exact absurd b c'
    | one _ _ c' _ _ => exact absurd b c'
  | bad a b c d =>
    cases h' with
    | out h0 => rcases h0 with e | e <;> omega
    | fin _ b' _ => exact absurd b' c
    | bad _ _ _ d' => rw [d] at d'; injection d' with e; rw [e]
    | esc _ _ _ d' _ => rw [d] at d'; cases d'
    | one _ _ _ d' _ => exact absurd b d'
  | esc a b c d _ ih =>
    cases h' with
    | out h0 => rcases h0 with e | e <;> omega
    | fin _ b' _ => exact absurd b' c
    | bad _ _ _ d' => rw [d] at d'; cases d'
    | esc _ _ _ d' e' =>
      rw [d] at d'
      injection d' with q
      injection q with q1 q2
      subst q1 q2
      exact ih e'
    | one _ _ _ d' _ => exact absurd b d'
  | one a b c d _ ih =>
    cases h' with
    | out h0 => rcases h0 with e | e <;> first | omega | exact absurd e b
    | fin _ b' _ => exact absurd b' c
    | bad _ b' _ _ => exact absurd b' d
    | esc _ b' _ _ _ => exact absurd b' d
    | one _ _ _ _ e' => exact ih e'
def sgB : List (List UInt8) := [[60, 60, 61], [62, 62, 61], [45, 62], [43, 43], [45, 45], [60, 60], [62, 62], [60, 61], [62, 61], [61, 61], [33, 61], [38, 38], [124, 124], [43, 61], [45, 61], [42, 61], [47, 61], [37, 61], [38, 61], [94, 61], [124, 61], [43], [45], [42], [47], [37], [38], [124], [94], [126], [33], [60], [62], [61], [63], [58], [59], [44], [46], [40], [41], [91], [93], [123], [125]]
def isS (s : ByteArray) : Bool := sgB.any fun r => s.toList == r
def sgn (s : ByteArray) : Nat :=
  if 3 ≤ s.size ∧ isS (s.extract 0 3) = true then 3 else if 2 ≤ s.size ∧ isS (s.extract 0 2) = true then 2 else if 1 ≤ s.size ∧ isS (s.extract 0 1) = true then 1 else 0
end Go.Proofs.YteadglnenaiaaaaGreatDoor.Pl
