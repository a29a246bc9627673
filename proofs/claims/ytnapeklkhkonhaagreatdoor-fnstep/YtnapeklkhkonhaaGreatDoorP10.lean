import Derived.Test.YtnapeklkhkonhaaGreatDoorP06
import Derived.Test.YtnapeklkhkonhaaGreatDoorP09
import Derived.Test.YtnapeklkhkonhaaGreatDoorP15
import Derived.Deep.Cut
import Derived.Deep.DeepCutAuto
import Derived.Deep.CutRange
import Derived.Laws.ResultCell
import Derived.Laws.Tables
set_option linter.unusedVariables false
set_option linter.unusedSimpArgs false
namespace Go.Proofs.YtnapeklkhkonhaaGreatDoor.Pl
end Go.Proofs.YtnapeklkhkonhaaGreatDoor.Pl
namespace Go.Proofs.YtnapeklkhkonhaaGreatDoor.W
open Go.RowKit
structure OnlyB (c : Nat) (w w' : World) : Prop where
  os : w'.os = w.os
  tape : w'.tape = w.tape
  output : w'.output = w.output
  size : w.heap.size ≤ w'.heap.size
  block : ∀ b, b < w.heap.size → b ≠ c → w'.heap[b]? = w.heap[b]?
theorem OnlyB.below {c : Nat} {w w' : World} (h : OnlyB c w w') (hc : c < w.heap.size) : Below c w w' := ⟨h.os, h.tape, h.output, h.size, fun b hb => h.block b (by omega) (by omega)⟩
theorem OnlyB.refl (c : Nat) (w : World) : OnlyB c w w := ⟨rfl, rfl, rfl, Nat.le_refl _, fun _ _ _ => rfl⟩
theorem OnlyB.trans {c : Nat} {a b d : World} (h : OnlyB c a b) (k : OnlyB c b d) : OnlyB c a d := ⟨k.os.trans h.os, k.tape.trans h.tape, k.output.trans h.output, Nat.le_trans h.size k.size, fun x hx hc => (k.block x (Nat.lt_of_lt_of_le hx h.size) hc).trans (h.block x hx hc)⟩
theorem OnlyB.of_below {c : Nat} {a b : World} (h : Below a.heap.size a b) : OnlyB c a b := ⟨h.os, h.tape, h.output, h.size, fun x hx _ => h.block x hx⟩
theorem OnlyB.low {c : Nat} {w a b : World} (h : OnlyB c w a) (k : Below w.heap.size a b) : OnlyB c w b := ⟨k.os.trans h.os, k.tape.trans h.tape, k.output.trans h.output, Nat.le_trans h.size k.size, fun x hx hc => (k.block x hx).trans (h.block x hx hc)⟩
structure InSt (w : World) (c r g : Nat) (u : World) : Prop where
  rd : RdOk u c
  row : ∃ a b d e f : Int, u.heap[g]? = some (.cells #[.int .i64 a, .int .i64 b, .int .i64 d, .int .i64 e, .int .i64 f] 67)
  res : u.heap[r]? = some (.cells #[.int .i64 0, .int .i64 0, .int .i64 0, .int .i64 0, .int .i64 0] 67)
  bel : OnlyB c w u
  cr : c < r
  rg : r < g
  wr : w.heap.size ≤ r
theorem InSt.lt {w u : World} {c r g : Nat} (h : InSt w c r g u) : g < u.heap.size := by
  obtain ⟨a, b, d, e, f, hr⟩ := h.row
  exact (Array.getElem?_eq_some_iff.1 hr).1
theorem InSt.alloc {w u : World} {c r g : Nat} (h : InSt w c r g u) (o : Obj) : InSt w c r g (u.alloc o) := by
  have hl := h.lt
  have h1 := h.cr
  have h2 := h.rg
  obtain ⟨a, b, d, e, f, hr⟩ := h.row
  exact ⟨h.rd.alloc o, ⟨a, b, d, e, f, by rw [Below.heap_alloc u o g hl]; exact hr⟩, by rw [Below.heap_alloc u o r (by omega)]; exact h.res, h.bel.low ((Below.refl _ _).alloc (by have := h.wr; omega) _), h1, h2, h.wr⟩
theorem InSt.only {w u u' : World} {c r g : Nat} (h : InSt w c r g u) (hr : RdOk u' c) (ho : OnlyB c u u') : InSt w c r g u' := by
  have hl := h.lt
  have h1 := h.cr
  have h2 := h.rg
  obtain ⟨a, b, d, e, f, hrow⟩ := h.row
  exact ⟨hr, ⟨a, b, d, e, f, by rw [ho.block g hl (by omega)]; exact hrow⟩, by rw [ho.block r (by omega) (by omega)]; exact h.res, h.bel.trans ho, h1, h2, h.wr⟩
theorem RdOk.setOther {u : World} {c g i : Nat} {x : Value} (h : RdOk u c) (hg : c < g) : RdOk (u.setCell ⟨g, i, none⟩ x) c := by
  obtain ⟨a, len, cap, p, hrow, hl, hp, hb⟩ := h
  refine ⟨a, len, cap, p, by rw [heap_setCell_other u ⟨g, i, none⟩ c x (by show c ≠ g; omega)]; exact hrow, hl, hp, ?_⟩
  rcases hb with hb | ⟨b, off, ha, hbc, hby⟩
  · exact .inl hb
  · refine .inr ⟨b, off, ha, hbc, fun j hj => ?_⟩
    obtain ⟨v, hv, hc⟩ := hby j hj
    exact ⟨v, hv, by rw [← hc]; exact World.cell?_of_block (w := u) (heap_setCell_other u ⟨g, i, none⟩ b x (by show b ≠ g; omega))⟩
theorem InSt.set {w u : World} {c r g : Nat} (h : InSt w c r g u) (i : Nat) (hi : i < 5) (x : Int) : InSt w c r g (u.setCell ⟨g, i, none⟩ (.int .i64 x)) := by
  have h1 := h.cr
  have h2 := h.rg
  obtain ⟨a, b, d, e, f, hrow⟩ := h.row
  refine ⟨h.rd.setOther (by omega), ?_, by rw [heap_setCell_other u ⟨g, i, none⟩ r _ (by show r ≠ g; omega)]; exact h.res, h.bel.low ((Below.refl _ _).setCell (show w.heap.size ≤ g by have := h.wr; omega) _), h1, h2, h.wr⟩
  rw [heap_setCell_same u g i _ 67 _ hrow]
  rcases (show i = 0 ∨ i = 1 ∨ i = 2 ∨ i = 3 ∨ i = 4 by omega) with rfl | rfl | rfl | rfl | rfl
  · exact ⟨x, b, d, e, f, rfl⟩
  · exact ⟨a, x, d, e, f, rfl⟩
  · exact ⟨a, b, x, e, f, rfl⟩
  · exact ⟨a, b, d, x, f, rfl⟩
  · exact ⟨a, b, d, e, x, rfl⟩
end Go.Proofs.YtnapeklkhkonhaaGreatDoor.W
namespace Go.Proofs.YtnapeklkhkonhaaGreatDoor.W
open Go.RowKit
theorem wp_at {P : Program} {code : Code} {Q : Exit → Act → World → Prop} {a : Act} {W : World} (h : ∀ U, U = W → code.wp P Q a U) : code.wp P Q a W := h W rfl
theorem below_setRow' {B : Nat} {a w : World} (h : Below B a w) {g : Nat} (hg : B ≤ g) (cs : Array Value) : Below B a (w.setRow g cs) :=
  ⟨h.os, h.tape, h.output, by rw [size_setRow]; exact h.size, fun k hk => (setRow_other w g k cs (by omega)).trans (h.block k hk)⟩
theorem RdOk.setRowOther {u : World} {c r g : Nat} (h : RdOk u c) (hg : c < r) (hg' : r < g) (cs : Array Value) : RdOk (u.setRow r cs) c := by
  obtain ⟨a, len, cap, p, hrow, hl, hp, hb⟩ := h
  refine ⟨a, len, cap, p, by rw [setRow_other u r c cs (by omega)]; exact hrow, hl, hp, ?_⟩
  rcases hb with hb | ⟨b, off, ha, hbc, hby⟩
  · exact .inl hb
  · refine .inr ⟨b, off, ha, hbc, fun j hj => ?_⟩
    obtain ⟨v, hv, hc⟩ := hby j hj
    exact ⟨v, hv, by rw [← hc]; exact World.cell?_of_block (w := u) (setRow_other u r b cs (by omega))⟩
theorem rng : ∀ f : Nat, f < 9 → -1048576 ≤ Pl.lo f ∧ Pl.lo f ≤ 0 ∧ 0 ≤ Pl.hi f ∧ Pl.hi f ≤ 1048575 ∧ 1 ≤ Pl.st f ∧ Pl.st f ≤ 2 := by decide +kernel
def tab6 (L U D : Int) : Array Value := #[.int .i64 L, .int .i64 U, .int .i64 (U + D), .int .i64 (L - D), .int .i64 0, .int .i64 (-D)]
def tabA : Array Value := #[.int .i64 0, .int .i64 48, .int .i64 (-1)]
def tabB : Array Value := #[.int .i64 32, .int .i64 (-1), .int .i64 1]
end Go.Proofs.YtnapeklkhkonhaaGreatDoor.W
