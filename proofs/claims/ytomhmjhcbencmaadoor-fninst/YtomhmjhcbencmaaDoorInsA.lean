import Derived.Test.YtomhmjhcbencmaaDoorDraw
import Derived.Test.YtomhmjhcbencmaaDoorFormS
import Derived.Deep.Cut
import Derived.Deep.DeepCutAuto
import Derived.Deep.CutRange
set_option linter.unusedVariables false
set_option linter.unusedSimpArgs false
namespace Go.Proofs.YtomhmjhcbencmaaDoor.W
open Go.RowKit
/-- nothing has turned but block c, and new blocks -/
structure OnlyB (c : Nat) (w w' : World) : Prop where
  os : w'.os = w.os
  tape : w'.tape = w.tape
  output : w'.output = w.output
  size : w.heap.size ≤ w'.heap.size
  block : ∀ b, b < w.heap.size → b ≠ c → w'.heap[b]? = w.heap[b]?
theorem OnlyB.below {c : Nat} {w w' : World} (h : OnlyB c w w') (hc : c < w.heap.size) : Below c w w' := ⟨h.os, h.tape, h.output, h.size, fun b hb => h.block b (by omega) (by omega)⟩
set_option maxHeartbeats 1000000 in
theorem next_only (w : World) (c : Nat) (h : RdOk w c) : Calls Tryd.prog 44 #[.pointer (some ⟨c, 0, none⟩)] w fun e w' => ∃ m : Nat, e = .returned (.int .i64 (m : Int)) ∧ m ≤ 255 ∧ RdOk w' c ∧ OnlyB c w w' := by
  obtain ⟨a, len, cap, p, hrow, hl, hp, hbytes⟩ := h
  have hc0 : w.cell? ⟨c, 0, none⟩ = some (.slice a len cap) := by rw [cell_of_row w c 0 _ 91 (0, 0) hrow]; rfl
  have hc1 : w.cell? ⟨c, 1, none⟩ = some (.int .i64 (p : Int)) := by rw [cell_of_row w c 1 _ 91 (0, 0) hrow]; rfl
  have hf1 : w.frozen? ⟨c, 1, none⟩ = false := frozen_of_row w c 1 _ 91 hrow
  by_cases hlt : p < len
  · obtain ⟨b, off, rfl, hb, hby⟩ : ∃ b off, a = some ⟨b, off, none⟩ ∧ b < c ∧ ∀ i, i < len → ∃ v : Nat, v ≤ 255 ∧ w.cell? ⟨b, off + i, none⟩ = some (.int .u8 (v : Int)) := by
      rcases hbytes with h0 | h0
      · omega
      · exact h0
    obtain ⟨v, hv, hcv⟩ := hby p hlt
    have HB : Hid (∀ i, i < len → ∃ v : Nat, v ≤ 255 ∧ w.cell? ⟨b, off + i, none⟩ = some (.int .u8 (v : Int))) := hby
    have HR : Hid (w.heap[c]? = some (.cells #[.slice (some ⟨b, off, none⟩) len cap, .int .i64 (p : Int)] 91)) := hrow
    clear hby hrow hbytes
    go_enter Tryd.func44, Tryd.ntmps44
    go_wp2_with fail
    go_quiet (fail)
    go_wp2_with fail
    go_quiet (fail)
    go_wp2
    go_ret
    refine ⟨v, rfl, hv, ?_, ?_⟩
    · exact rd_after rfl HR.out hl hlt hb HB.out
    · exact ⟨rfl, rfl, rfl, Nat.le_of_eq (World.size_setCell _ _ _).symm, fun b _ hb' => heap_setCell_other _ ⟨c, 1, none⟩ b _ hb'⟩
  · have HR : Hid (w.heap[c]? = some (.cells #[.slice a len cap, .int .i64 (p : Int)] 91)) := hrow
    have HB : Hid (len = 0 ∨ ∃ b off, a = some ⟨b, off, none⟩ ∧ b < c ∧ ∀ i, i < len → ∃ v : Nat, v ≤ 255 ∧ w.cell? ⟨b, off + i, none⟩ = some (.int .u8 (v : Int))) := hbytes
    clear hrow hbytes
    go_enter Tryd.func44, Tryd.ntmps44
    go_wp2_with fail
    go_quiet (fail)
    go_wp2
    go_ret
    exact ⟨0, rfl, by decide, ⟨a, len, cap, p, HR.out, hl, hp, HB.out⟩, ⟨rfl, rfl, rfl, Nat.le_refl _, fun b _ _ => rfl⟩⟩
/-- where a drawn instruction stands: the reader at c, the instruction at g, the cell of the result at r -/
structure InSt (w : World) (c r g : Nat) (u : World) : Prop where
  rd : RdOk u c
  row : ∃ a b d e f : Int, u.heap[g]? = some (.cells #[.int .i64 a, .int .i64 b, .int .i64 d, .int .i64 e, .int .i64 f] 24)
  res : u.heap[r]? = some (.cells #[.int .i64 0, .int .i64 0, .int .i64 0, .int .i64 0, .int .i64 0] 24)
  bel : Below c w u
  cr : c < r
  rg : r < g
theorem InSt.lt {w u : World} {c r g : Nat} (h : InSt w c r g u) : g < u.heap.size := by
  obtain ⟨a, b, d, e, f, hr⟩ := h.row
  exact (Array.getElem?_eq_some_iff.1 hr).1
theorem InSt.alloc {w u : World} {c r g : Nat} (h : InSt w c r g u) (o : Obj) : InSt w c r g (u.alloc o) := by
  have hl := h.lt
  have h1 := h.cr
  have h2 := h.rg
  obtain ⟨a, b, d, e, f, hr⟩ := h.row
  exact ⟨h.rd.alloc o, ⟨a, b, d, e, f, by rw [Below.heap_alloc u o g hl]; exact hr⟩, by rw [Below.heap_alloc u o r (by omega)]; exact h.res, h.bel.alloc (by omega) _, h1, h2⟩
theorem InSt.only {w u u' : World} {c r g : Nat} (h : InSt w c r g u) (hr : RdOk u' c) (ho : OnlyB c u u') : InSt w c r g u' := by
  have hl := h.lt
  have h1 := h.cr
  have h2 := h.rg
  obtain ⟨a, b, d, e, f, hrow⟩ := h.row
  exact ⟨hr, ⟨a, b, d, e, f, by rw [ho.block g hl (by omega)]; exact hrow⟩, by rw [ho.block r (by omega) (by omega)]; exact h.res, h.bel.trans (ho.below (by omega)), h1, h2⟩
theorem RdOk.setOther {u : World} {c g i : Nat} {x : Value} (h : RdOk u c) (hg : c < g) : RdOk (u.setCell ⟨g, i, none⟩ x) c := by
  obtain ⟨a, len, cap, p, hrow, hl, hp, hb⟩ := h
  refine ⟨a, len, cap, p, by rw [heap_setCell_other u ⟨g, i, none⟩ c x (by show c ≠ g; omega)]; exact hrow, hl, hp, ?_⟩
  rcases hb with hb | ⟨b, off, ha, hbc, hby⟩
  · exact .inl hb
  · refine .inr ⟨b, off, ha, hbc, fun j hj => ?_⟩
    obtain ⟨v, hv, hc⟩ := hby j hj
    exact ⟨v, hv, by rw [← hc]; exact World.cell?_of_block (w := u) (heap_setCell_other u ⟨g, i, none⟩ b x (by show b ≠ g; omega))⟩
theorem InSt.set {w u : World} {c r g : Nat} (h : InSt w c r g u) (i : Nat) (hi : i < 5) (x : Int) : InSt w c r g (u.setCell ⟨g, i, none⟩ (.int .i64 x)) := by
  have h1 := h.cr
  have h2 := h.rg
  obtain ⟨a, b, d, e, f, hrow⟩ := h.row
  refine ⟨h.rd.setOther (by omega), ?_, by rw [heap_setCell_other u ⟨g, i, none⟩ r _ (by show r ≠ g; omega)]; exact h.res, h.bel.setCell (by show c ≤ g; omega) _, h1, h2⟩
  rw [heap_setCell_same u g i _ 24 _ hrow]
  rcases (show i = 0 ∨ i = 1 ∨ i = 2 ∨ i = 3 ∨ i = 4 by omega) with rfl | rfl | rfl | rfl | rfl
  · exact ⟨x, b, d, e, f, rfl⟩
  · exact ⟨a, x, d, e, f, rfl⟩
  · exact ⟨a, b, x, e, f, rfl⟩
  · exact ⟨a, b, d, x, f, rfl⟩
  · exact ⟨a, b, d, e, x, rfl⟩
end Go.Proofs.YtomhmjhcbencmaaDoor.W
