import Derived.Test.YtnapeklkhkonhaaGreatDoorP29
import Derived.Test.YtnapeklkhkonhaaGreatDoorP10
import Derived.Deep.RegionWith
import Derived.Deep.RegionHeld3
set_option linter.unusedVariables false
set_option linter.unusedSimpArgs false
namespace Go.Proofs.YtnapeklkhkonhaaGreatDoor.W
open Go.RowKit
theorem i64_wf {x : Int} (h : -1099511627776 ≤ x ∧ x ≤ 1099511627776) : (Lit.int .i64 x).wf = true := by
  simp [Lit.wf, IntKind.min, IntKind.max, IntKind.signed, IntKind.bits]
  omega
theorem form_all (n : Int) : ∃ f : Int, ∀ w : World, Calls Tryz.prog 50 #[.int .i64 n] w fun e w' => e = .returned (.int .i64 f) ∧ w' = w := by
  by_cases h : 1 ≤ n ∧ n ≤ 47
  · refine ⟨(Pl.fmN n.toNat : Int), fun w => ?_⟩
    have := form_any n.toNat (by omega) (by omega) w
    rw [show ((n.toNat : Nat) : Int) = n by omega] at this
    exact this
  · exact ⟨0, fun w => form_no n (by omega) w⟩
theorem int_news (w : World) (A : Value) (j : Nat) (u : Value) (hj : [A][j]? = some u) : (w.alloc (.cells #[A] 3)).cell? ((⟨w.heap.size, 0, none⟩ : Addr).add j) = some u := by
  rcases j with _ | j
  · cases hj
    exact cell_of_row _ w.heap.size 0 _ 3 (0, 0) (heap_alloc_new w _)
  · simp at hj
structure WMid (w : World) (c g : Nat) (v : Value) (k : Nat) (u : World) : Prop where
  own : ∃ zs : List Int, u.ownsRow w.heap.size 3 1 v k (zs.map (Value.int .i64)) ∧ (∀ x ∈ zs, (Lit.int .i64 x).wf = true)
  ne : ∀ j, v.ownBlock = some j → j < g
  row : ∃ a b d e f : Int, u.heap[g]? = some (.cells #[.int .i64 a, .int .i64 b, .int .i64 d, .int .i64 e, .int .i64 f] 67)
  rd : RdOk u c
  bel : OnlyB c w u
  cg : c < g
  wg : w.heap.size ≤ g
  cw : c < w.heap.size
theorem WMid.lt {w u : World} {c g k : Nat} {v : Value} (h : WMid w c g v k u) : g < u.heap.size := by
  obtain ⟨a, b, d, e, f, hr⟩ := h.row
  exact (Array.getElem?_eq_some_iff.1 hr).1
theorem own_other {base : Nat} {e : TypeId} {k : Nat} {v : Value} {n : Nat} {xs : List Value} {w w' : World} (h : w.ownsRow base e k v n xs) (hb : ∀ g, v.ownBlock = some g → w'.heap[g]? = w.heap[g]?) : w'.ownsRow base e k v n xs := by
  refine ⟨h.1, ?_⟩
  rcases h.2 with ⟨a, b⟩ | ⟨g, cap, cur, h0, hlo, hg, r⟩
  · exact .inl ⟨a, b⟩
  · exact .inr ⟨g, cap, cur, h0, hlo, (hb g (by rw [h0]; rfl)).trans hg, r⟩
theorem WMid.only {w u u' : World} {c g k : Nat} {v : Value} (h : WMid w c g v k u) (hr : RdOk u' c) (ho : OnlyB c u u') : WMid w c g v k u' := by
  have hl := h.lt
  have h1 := h.cg
  obtain ⟨a, b, d, e, f, hrow⟩ := h.row
  obtain ⟨zs, hz, hw⟩ := h.own
  refine ⟨⟨zs, own_other hz fun j hj => ?_, hw⟩, h.ne, ⟨a, b, d, e, f, by rw [ho.block g hl (by omega)]; exact hrow⟩, hr, h.bel.trans ho, h1, h.wg, h.cw⟩
  have := hz.lt j hj
  exact ho.block j this.2 (by have := h.cw; omega)
theorem WMid.alloc {w u : World} {c g k : Nat} {v : Value} (h : WMid w c g v k u) (o : Obj) : WMid w c g v k (u.alloc o) := h.only (h.rd.alloc o) (OnlyB.of_below (below_alloc u o))
theorem WMid.drewN {w u : World} {c g k : Nat} {v : Value} (h : WMid w c g v k u) (m : Nat) : WMid w c g v k (u.drewN m) := h.only (h.rd.drewN m) ⟨rfl, rfl, rfl, Nat.le_refl _, fun _ _ _ => rfl⟩
theorem WMid.drew {w u : World} {c g k : Nat} {v : Value} (h : WMid w c g v k u) : WMid w c g v k u.drew := h.only (h.rd.drewN 1) ⟨rfl, rfl, rfl, Nat.le_refl _, fun _ _ _ => rfl⟩
theorem WMid.set {w u : World} {c g k : Nat} {v : Value} (h : WMid w c g v k u) (i : Nat) (hi : i < 5) (x : Int) : WMid w c g v k (u.setCell ⟨g, i, none⟩ (.int .i64 x)) := by
  have h1 := h.cg
  obtain ⟨a, b, d, e, f, hrow⟩ := h.row
  obtain ⟨zs, hz, hw⟩ := h.own
  refine ⟨⟨zs, own_other hz fun j hj => heap_setCell_other u ⟨g, i, none⟩ j _ (by have := h.ne j hj; show j ≠ g; omega), hw⟩, h.ne, ?_, h.rd.setOther (by omega), h.bel.low ((Below.refl _ _).setCell (show w.heap.size ≤ g from h.wg) _), h1, h.wg, h.cw⟩
  rw [heap_setCell_same u g i _ 67 _ hrow]
  rcases (show i = 0 ∨ i = 1 ∨ i = 2 ∨ i = 3 ∨ i = 4 by omega) with rfl | rfl | rfl | rfl | rfl
  · exact ⟨x, b, d, e, f, rfl⟩
  · exact ⟨a, x, d, e, f, rfl⟩
  · exact ⟨a, b, x, e, f, rfl⟩
  · exact ⟨a, b, d, x, f, rfl⟩
  · exact ⟨a, b, d, e, x, rfl⟩
end Go.Proofs.YtnapeklkhkonhaaGreatDoor.W
