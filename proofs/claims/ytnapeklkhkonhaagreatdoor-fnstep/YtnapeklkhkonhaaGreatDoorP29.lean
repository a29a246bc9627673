import Derived.Test.YtnapeklkhkonhaaGreatDoorP10
import Derived.Test.YtnapeklkhkonhaaGreatDoorP01
import Derived.OwnWalk
import Derived.Laws.MakeOwn
import Derived.Laws.OwnMore
import Derived.Deep.AppendLies
set_option linter.unusedVariables false
set_option linter.unusedSimpArgs false
namespace Go.Proofs.YtnapeklkhkonhaaGreatDoor.W
open Go.RowKit
theorem RdOk.keep {B c : Nat} {u u' : World} (h : RdOk u c) (hb : Below B u u') (hB : c < B) : RdOk u' c := by
  obtain ⟨a, len, cap, p, hrow, h1, h2, h3⟩ := h
  refine ⟨a, len, cap, p, (hb.block c hB).trans hrow, h1, h2, ?_⟩
  rcases h3 with h3 | ⟨b, off, ha, hbc, hc⟩
  · exact .inl h3
  · refine .inr ⟨b, off, ha, hbc, fun i hi => ?_⟩
    obtain ⟨v, hv, hcell⟩ := hc i hi
    exact ⟨v, hv, (hb.cell (p := ⟨b, off + i, none⟩) (show b < B by omega)).trans hcell⟩
theorem own_only {c base : Nat} {e : TypeId} {k : Nat} {v : Value} {n : Nat} {xs : List Value} {w w' : World} (h : w.ownsRow base e k v n xs) (hb : OnlyB c w w') (hc : c < base) : w'.ownsRow base e k v n xs := by
  refine ⟨h.1, ?_⟩
  rcases h.2 with ⟨a, b⟩ | ⟨g, cap, cur, h0, hlo, hg, r⟩
  · exact .inl ⟨a, b⟩
  · exact .inr ⟨g, cap, cur, h0, hlo, (hb.block g (Array.getElem?_eq_some_iff.1 hg).1 (by omega)).trans hg, r⟩
end Go.Proofs.YtnapeklkhkonhaaGreatDoor.W
namespace Go.Proofs.YtnapeklkhkonhaaGreatDoor.W
open Go.RowKit
theorem byte_news (w : World) (A : Value) (j : Nat) (u : Value) (hj : [A][j]? = some u) : (w.alloc (.cells #[A] 5)).cell? ((⟨w.heap.size, 0, none⟩ : Addr).add j) = some u := by
  rcases j with _ | j
  · cases hj
    exact cell_of_row _ w.heap.size 0 _ 5 (0, 0) (heap_alloc_new w _)
  · simp at hj
end Go.Proofs.YtnapeklkhkonhaaGreatDoor.W
