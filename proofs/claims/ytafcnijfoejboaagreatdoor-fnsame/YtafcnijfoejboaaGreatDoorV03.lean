import Derived.Test.YtafcnijfoejboaaGreatDoorV00
import Derived.Deep.QuietTactic
import Derived.BigQuiet
import Derived.Great.Walk
namespace Go.Proofs.YtafcnijfoejboaaGreatDoor.W
open Go.RowKit
def RdOk (w : World) (c : Nat) : Prop := ∃ (a : Option Addr) (len cap p : Nat), w.heap[c]? = some (.cells #[.slice a len cap, .int .i64 (p : Int)] 78) ∧ len ≤ 1500 ∧ p ≤ len ∧
  (len = 0 ∨ ∃ b off, a = some ⟨b, off, none⟩ ∧ b < c ∧ ∀ i, i < len → ∃ v : Nat, v ≤ 255 ∧ w.cell? ⟨b, off + i, none⟩ = some (.int .u8 (v : Int)))
theorem RdOk.drewN {w : World} {c : Nat} (h : RdOk w c) (m : Nat) : RdOk (w.drewN m) c := h
theorem rd_after {w u : World} {c b off len cap p : Nat} (hu : u.heap = w.heap) (hrow : w.heap[c]? = some (.cells #[.slice (some ⟨b, off, none⟩) len cap, .int .i64 (p : Int)] 78)) (hl : len ≤ 1500) (hlt : p < len) (hb : b < c)
    (hby : ∀ i, i < len → ∃ v : Nat, v ≤ 255 ∧ w.cell? ⟨b, off + i, none⟩ = some (.int .u8 (v : Int))) : RdOk (u.setCell ⟨c, 1, none⟩ (.int .i64 ((p : Int) + 1))) c := by
  refine ⟨some ⟨b, off, none⟩, len, cap, p + 1, ?_, hl, hlt, .inr ⟨b, off, rfl, hb, fun i hi => ?_⟩⟩
  · have h' : u.heap[c]? = some (.cells #[.slice (some ⟨b, off, none⟩) len cap, .int .i64 (p : Int)] 78 (0, 0)) := by rw [hu]; exact hrow
    rw [heap_setCell_same u c 1 _ 78 _ h']
    simp
  · obtain ⟨v, hv, hc⟩ := hby i hi
    refine ⟨v, hv, ?_⟩
    rw [← hc]
    refine World.cell?_of_block (w := w) ?_
    show (u.setCell ⟨c, 1, none⟩ _).heap[b]? = w.heap[b]?
    rw [heap_setCell_other u ⟨c, 1, none⟩ b _ (Nat.ne_of_lt hb), hu]
def IsBytes (w : World) (a : Option Addr) (len cap : Nat) : Prop := len ≤ cap ∧ cap ≤ maxLen ∧ (len = 0 ∨ ∃ b off, a = some ⟨b, off, none⟩ ∧ b < w.heap.size ∧ ∀ i, i < len → ∃ v : Nat, v ≤ 255 ∧ w.cell? ⟨b, off + i, none⟩ = some (.int .u8 (v : Int)))
theorem rd_new {w : World} {a : Option Addr} {len cap n : Nat} (h : IsBytes w a len cap) (hn : n ≤ len) (hn' : n ≤ 1500) : RdOk (w.alloc (.cells #[.slice a n cap, .int .i64 0] 78)) w.heap.size := by
  obtain ⟨_, _, h⟩ := h
  refine ⟨a, n, cap, 0, heap_alloc_new w _, hn', Nat.zero_le _, ?_⟩
  rcases h with h | ⟨b, off, rfl, hb, hby⟩
  · exact .inl (by omega)
  · refine .inr ⟨b, off, rfl, hb, fun i hi => ?_⟩
    obtain ⟨v, hv, hc⟩ := hby i (by omega)
    exact ⟨v, hv, by rw [← hc]; exact World.cell?_of_block (w := w) (Below.heap_alloc w _ b hb)⟩
set_option maxHeartbeats 400000 in
theorem open_any (w : World) (a : Option Addr) (len cap : Nat) (h : IsBytes w a len cap) : Calls Tryz.prog 25 #[.slice a len cap] w fun e w' => e = .returned (.pointer (some ⟨w.heap.size, 0, none⟩)) ∧ RdOk w' w.heap.size ∧ Below w.heap.size w w' := by
  have h1 := h.1
  have h2 := h.2.1
  unfold maxLen at h2
  have HH : Hid (IsBytes w a len cap) := h
  clear h
  by_cases hl : 1500 < len
  · go_enter Tryz.func25, Tryz.ntmps25
    go_wp2
    go_ret
    exact ⟨rfl, rd_new HH.out (by omega) (Nat.le_refl _), (Below.refl _ _).alloc (Nat.le_refl _) _⟩
  · go_enter Tryz.func25, Tryz.ntmps25
    go_wp2
    go_ret
    exact ⟨rfl, rd_new HH.out (Nat.le_refl _) (by omega), (Below.refl _ _).alloc (Nat.le_refl _) _⟩
theorem RdOk.lt {w : World} {c : Nat} (h : RdOk w c) : c < w.heap.size := by
  obtain ⟨a, len, cap, p, hrow, _⟩ := h
  exact (Array.getElem?_eq_some_iff.1 hrow).1
theorem RdOk.alloc {w : World} {c : Nat} (h : RdOk w c) (o : Obj) : RdOk (w.alloc o) c := by
  have hlt := h.lt
  obtain ⟨a, len, cap, p, hrow, hl, hp, hb⟩ := h
  refine ⟨a, len, cap, p, by rw [Below.heap_alloc w o c hlt]; exact hrow, hl, hp, ?_⟩
  rcases hb with hb | ⟨b, off, ha, hbc, hby⟩
  · exact .inl hb
  · refine .inr ⟨b, off, ha, hbc, fun i hi => ?_⟩
    obtain ⟨v, hv, hc⟩ := hby i hi
    exact ⟨v, hv, by rw [← hc]; exact World.cell?_of_block (w := w) (Below.heap_alloc w o b (by omega))⟩
end Go.Proofs.YtafcnijfoejboaaGreatDoor.W
