import Derived.Test.YtjdfffdeljgenaaGreatDoorP00
import Derived.Deep.QuietTactic
import Derived.BigQuiet
import Derived.Great.Walk
namespace Go.Proofs.YtjdfffdeljgenaaGreatDoor.W
open Go.RowKit
def RdOk (w : World) (c : Nat) : Prop := ∃ (a : Option Addr) (len cap p : Nat), w.heap[c]? = some (.cells #[.slice a len cap, .int .i64 (p : Int)] 66) ∧ len ≤ 1500 ∧ p ≤ len ∧
  (len = 0 ∨ ∃ b off, a = some ⟨b, off, none⟩ ∧ b < c ∧ ∀ i, i < len → ∃ v : Nat, v ≤ 255 ∧ w.cell? ⟨b, off + i, none⟩ = some (.int .u8 (v : Int)))
theorem RdOk.drewN {w : World} {c : Nat} (h : RdOk w c) (m : Nat) : RdOk (w.drewN m) c := h
theorem RdOk.lt {w : World} {c : Nat} (h : RdOk w c) : c < w.heap.size := by
  obtain ⟨a, len, cap, p, hrow, _⟩ := h
  exact (Array.getElem?_eq_some_iff.1 hrow).1
theorem RdOk.alloc {w : World} {c : Nat} (h : RdOk w c) (o : Obj) : RdOk (w.alloc o) c := by
  have hlt := h.lt
  obtain ⟨a, len, cap, p, hrow, hl, hp, hb⟩ := h
  refine ⟨a, len, cap, p, by rw [Below.heap_alloc w o c hlt]; exact hrow, hl, hp, ?_⟩
  rcases hb with hb | ⟨b, off, ha, hbc, hby⟩
  · exact .inl hb
  · refine .inr ⟨b, off, ha, hbc, fun i hi => ?_⟩
    obtain ⟨v, hv, hc⟩ := hby i hi
    exact ⟨v, hv, by rw [← hc]; exact World.cell?_of_block (w := w) (Below.heap_alloc w o b (by omega))⟩
end Go.Proofs.YtjdfffdeljgenaaGreatDoor.W
