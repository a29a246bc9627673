import Derived.Test.YtfcfnbncgadomaaQ13
import Derived.Test.YtfcfnbncgadomaaQ21
import Derived.Test.YtfcfnbncgadomaaQ12
import Derived.Laws.ResultCell
import Derived.Laws.Tables
import Derived.Laws.MakeOwn
import Derived.Laws.OwnMore
set_option linter.unusedVariables false
set_option linter.unusedSimpArgs false
namespace Go.Proofs.Ytfcfnbncgadomaa.W
open Go.RowKit
/-- a machine that has been drawn: its box at g, the result's behind w -/
structure ZMid (w : World) (c g : Nat) (v : MV) (m : Pl.Mac) (u : World) : Prop where
  box : u.heap[g]? = some (.cells #[.slice v.code.a v.code.len v.code.cap, .int .i64 m.pc, .slice v.regs.a v.regs.len v.regs.cap, .slice v.data.a v.data.len v.data.cap, .slice v.stk.a v.stk.len v.stk.cap, .slice v.inp.a v.inp.len v.inp.cap, .slice v.out.a v.out.len v.out.cap, .int .i64 m.steps, .int .i64 m.fin, .int .i64 m.val] 25)
  res : u.heap[w.heap.size]? = some (.cells #[.slice none 0 0, .int .i64 0, .slice none 0 0, .slice none 0 0, .slice none 0 0, .slice none 0 0, .slice none 0 0, .int .i64 0, .int .i64 0, .int .i64 0] 25)
  own : MOwn (w.heap.size + 1) u v m
  rd : RdOk u c
  bel : OnlyB c w u
  rg : w.heap.size < g
  cw : c < w.heap.size
  sz : Pl.mSize m ≤ 200000
  pc : -1099511627776 ≤ m.pc ∧ m.pc ≤ 1099511627776
  st : -1099511627776 ≤ m.steps ∧ m.steps ≤ 1099511627776
  fi : -1099511627776 ≤ m.fin ∧ m.fin ≤ 1099511627776
  va : -1099511627776 ≤ m.val ∧ m.val ≤ 1099511627776
theorem ZMid.lt {w u : World} {c g : Nat} {v : MV} {m : Pl.Mac} (h : ZMid w c g v m u) : g < u.heap.size := (Array.getElem?_eq_some_iff.1 h.box).1
theorem ZMid.cell {w u : World} {c g : Nat} {v : MV} {m : Pl.Mac} (h : ZMid w c g v m u) (j : Nat) : u.cell? ⟨g, j, none⟩ = (#[.slice v.code.a v.code.len v.code.cap, .int .i64 m.pc, .slice v.regs.a v.regs.len v.regs.cap, .slice v.data.a v.data.len v.data.cap, .slice v.stk.a v.stk.len v.stk.cap, .slice v.inp.a v.inp.len v.inp.cap, .slice v.out.a v.out.len v.out.cap, .int .i64 m.steps, .int .i64 m.fin, .int .i64 m.val] : Array Value)[j]? := cell_of_row u g j _ 25 (0, 0) h.box
theorem ZMid.frz {w u : World} {c g : Nat} {v : MV} {m : Pl.Mac} (h : ZMid w c g v m u) (j : Nat) : u.frozen? ⟨g, j, none⟩ = false := frozen_of_row u g j _ 25 h.box
theorem mown_only {c lo : Nat} {u u' : World} {v : MV} {m : Pl.Mac} (h : MOwn lo u v m) (ho : OnlyB c u u') (hc : c < lo) : MOwn lo u' v m :=
  ⟨h.1.othr fun i hi => ho.block i (h.1.at_ hi).2 (by have := h.1.at_ hi; omega), h.2.1.othr fun i hi => ho.block i (h.2.1.at_ hi).2 (by have := h.2.1.at_ hi; omega), h.2.2.1.othr fun i hi => ho.block i (h.2.2.1.at_ hi).2 (by have := h.2.2.1.at_ hi; omega), h.2.2.2.1.othr fun i hi => ho.block i (h.2.2.2.1.at_ hi).2 (by have := h.2.2.2.1.at_ hi; omega), h.2.2.2.2.1.othr fun i hi => ho.block i (h.2.2.2.2.1.at_ hi).2 (by have := h.2.2.2.2.1.at_ hi; omega), h.2.2.2.2.2.othr fun i hi => ho.block i (h.2.2.2.2.2.at_ hi).2 (by have := h.2.2.2.2.2.at_ hi; omega)⟩
theorem ZMid.only {w u u' : World} {c g : Nat} {v : MV} {m : Pl.Mac} (h : ZMid w c g v m u) (hr : RdOk u' c) (ho : OnlyB c u u') : ZMid w c g v m u' := by
  have hl := h.lt
  have h1 := h.rg
  have h2 := h.cw
  exact ⟨(ho.block g hl (by omega)).trans h.box, (ho.block _ (by omega) (by omega)).trans h.res, mown_only h.own ho (by omega), hr, h.bel.trans ho, h1, h2, h.sz, h.pc, h.st, h.fi, h.va⟩
theorem ZMid.alloc {w u : World} {c g : Nat} {v : MV} {m : Pl.Mac} (h : ZMid w c g v m u) (o : Obj) : ZMid w c g v m (u.alloc o) := h.only (h.rd.alloc o) (OnlyB.of_below (below_alloc u o))
theorem ZMid.drew {w u : World} {c g : Nat} {v : MV} {m : Pl.Mac} (h : ZMid w c g v m u) : ZMid w c g v m u.drew := h.only (h.rd.drewN 1) ⟨rfl, rfl, rfl, Nat.le_refl _, fun _ _ _ => rfl⟩
/-- a number of the machine is set -/
theorem ZMid.setNum {w u : World} {c g : Nat} {v : MV} {m : Pl.Mac} (h : ZMid w c g v m u) (ap : Apart g v) (j : Nat) (x : Int) (m2 : Pl.Mac) (e : (#[.slice v.code.a v.code.len v.code.cap, .int .i64 m.pc, .slice v.regs.a v.regs.len v.regs.cap, .slice v.data.a v.data.len v.data.cap, .slice v.stk.a v.stk.len v.stk.cap, .slice v.inp.a v.inp.len v.inp.cap, .slice v.out.a v.out.len v.out.cap, .int .i64 m.steps, .int .i64 m.fin, .int .i64 m.val] : Array Value).setIfInBounds j (.int .i64 x) = #[.slice v.code.a v.code.len v.code.cap, .int .i64 m2.pc, .slice v.regs.a v.regs.len v.regs.cap, .slice v.data.a v.data.len v.data.cap, .slice v.stk.a v.stk.len v.stk.cap, .slice v.inp.a v.inp.len v.inp.cap, .slice v.out.a v.out.len v.out.cap, .int .i64 m2.steps, .int .i64 m2.fin, .int .i64 m2.val]) (e1 : m2.code = m.code ∧ m2.regs = m.regs ∧ m2.data = m.data ∧ m2.stk = m.stk ∧ m2.inp = m.inp ∧ m2.out = m.out)
    (pc : -1099511627776 ≤ m2.pc ∧ m2.pc ≤ 1099511627776) (st : -1099511627776 ≤ m2.steps ∧ m2.steps ≤ 1099511627776) (fi : -1099511627776 ≤ m2.fin ∧ m2.fin ≤ 1099511627776) (va : -1099511627776 ≤ m2.val ∧ m2.val ≤ 1099511627776) : ZMid w c g v m2 (u.setCell ⟨g, j, none⟩ (.int .i64 x)) := by
  have h1 := h.rg
  have h2 := h.cw
  have hk : ∀ y, y ≠ g → (u.setCell ⟨g, j, none⟩ (.int .i64 x)).heap[y]? = u.heap[y]? := fun y hy => Below.heap_setCell u ⟨g, j, none⟩ _ y hy
  obtain ⟨a1, a2, a3, a4, a5, a6⟩ := e1
  refine ⟨row_put h.box j _ e, (hk _ (by omega)).trans h.res, ?_, h.rd.setOther (by omega), h.bel.low ((Below.refl _ _).setCell (show w.heap.size ≤ g by omega) _), h1, h2, by have := h.sz; unfold Pl.mSize at this ⊢; rw [a1, a2, a3, a4, a5, a6]; exact this, pc, st, fi, va⟩
  unfold MOwn
  rw [a1, a2, a3, a4, a5, a6]
  exact ⟨h.own.1.other fun y hy => hk y (ap.ne 1 (by decide) (by decide) (by rw [← hy]; rfl)), h.own.2.1.other fun y hy => hk y (ap.ne 2 (by decide) (by decide) (by rw [← hy]; rfl)), h.own.2.2.1.other fun y hy => hk y (ap.ne 3 (by decide) (by decide) (by rw [← hy]; rfl)), h.own.2.2.2.1.other fun y hy => hk y (ap.ne 4 (by decide) (by decide) (by rw [← hy]; rfl)), h.own.2.2.2.2.1.other fun y hy => hk y (ap.ne 5 (by decide) (by decide) (by rw [← hy]; rfl)), h.own.2.2.2.2.2.other fun y hy => hk y (ap.ne 6 (by decide) (by decide) (by rw [← hy]; rfl))⟩
theorem ZMid.own_lt {w u : World} {c g : Nat} {v : MV} {m : Pl.Mac} (h : ZMid w c g v m u) (j x : Nat) (hj : 1 ≤ j) (hx : (blks g v)[j]? = some (some x)) : x < u.heap.size := (mown_blk h.own g j x hj hx).2
theorem ZMid.setRegs {w u u1 : World} {c g : Nat} {v : MV} {m : Pl.Mac} (h : ZMid w c g v m u) (ap : Apart g v) (s : SV) (zs : List Int) (ho : Own .i64 3 (w.heap.size + 1) u1 s.a s.len s.cap zs)
    (hk : ∀ b, b < u.heap.size → (∀ x, v.regs.a.map (·.block) = some x → b ≠ x) → u1.heap[b]? = u.heap[b]?) (hb : Below w.heap.size u u1)
    (hn : ∀ x, s.a.map (·.block) = some x → v.regs.a.map (·.block) = some x ∨ u.heap.size ≤ x) (hl : zs.length ≤ m.regs.length + 10001) (hsz : Pl.mSize m ≤ 180000) :
    ZMid w c g { v with regs := s } { m with regs := zs } (u1.setCell ⟨g, 2, none⟩ (.slice s.a s.len s.cap)) := by
  have hlt := h.lt
  have h1 := h.rg
  have h2 := h.cw
  have hs := hb.size
  have bx : u1.heap[g]? = some (.cells #[.slice v.code.a v.code.len v.code.cap, .int .i64 m.pc, .slice v.regs.a v.regs.len v.regs.cap, .slice v.data.a v.data.len v.data.cap, .slice v.stk.a v.stk.len v.stk.cap, .slice v.inp.a v.inp.len v.inp.cap, .slice v.out.a v.out.len v.out.cap, .int .i64 m.steps, .int .i64 m.fin, .int .i64 m.val] 25) := (hk g hlt fun x hx e => ap.ne 2 (by decide) (by decide) (show (blks g v)[2]? = some (some x) by rw [← hx]; rfl) e.symm).trans h.box
  have hg : ∀ y, y ≠ g → (u1.setCell ⟨g, 2, none⟩ (.slice s.a s.len s.cap)).heap[y]? = u1.heap[y]? := fun y hy => Below.heap_setCell u1 ⟨g, 2, none⟩ _ y hy
  have hne : ∀ x, s.a.map (·.block) = some x → x ≠ g := fun x hx e => by
    rcases hn x hx with q | q
    · exact ap.ne 2 (by decide) (by decide) (show (blks g v)[2]? = some (some x) by rw [← q]; rfl) e
    · omega
  have hr : u1.heap[w.heap.size]? = u.heap[w.heap.size]? := hk _ (by omega) fun x hx e => by have := (mown_blk h.own g 2 x (by decide) (show (blks g v)[2]? = some (some x) by rw [← hx]; rfl)).1; omega
  exact ⟨row_put bx 2 _ rfl, (hg _ (by omega)).trans (hr.trans h.res), ⟨(h.own.1.other fun y hy => hk y (h.own_lt 1 y (by decide) (by rw [← hy]; rfl)) (fun x hx e => ap.two 2 1 (by decide) (by decide) (by decide) (by rw [← hx]; rfl) (show (blks g v)[1]? = some (some y) by rw [← hy]; rfl) e)).other fun y hy => hg y (ap.ne 1 (by decide) (by decide) (by rw [← hy]; rfl)), ho.other fun y hy => hg y (hne y hy), (h.own.2.2.1.other fun y hy => hk y (h.own_lt 3 y (by decide) (by rw [← hy]; rfl)) (fun x hx e => ap.two 2 3 (by decide) (by decide) (by decide) (by rw [← hx]; rfl) (show (blks g v)[3]? = some (some y) by rw [← hy]; rfl) e)).other fun y hy => hg y (ap.ne 3 (by decide) (by decide) (by rw [← hy]; rfl)), (h.own.2.2.2.1.other fun y hy => hk y (h.own_lt 4 y (by decide) (by rw [← hy]; rfl)) (fun x hx e => ap.two 2 4 (by decide) (by decide) (by decide) (by rw [← hx]; rfl) (show (blks g v)[4]? = some (some y) by rw [← hy]; rfl) e)).other fun y hy => hg y (ap.ne 4 (by decide) (by decide) (by rw [← hy]; rfl)), (h.own.2.2.2.2.1.other fun y hy => hk y (h.own_lt 5 y (by decide) (by rw [← hy]; rfl)) (fun x hx e => ap.two 2 5 (by decide) (by decide) (by decide) (by rw [← hx]; rfl) (show (blks g v)[5]? = some (some y) by rw [← hy]; rfl) e)).other fun y hy => hg y (ap.ne 5 (by decide) (by decide) (by rw [← hy]; rfl)), (h.own.2.2.2.2.2.other fun y hy => hk y (h.own_lt 6 y (by decide) (by rw [← hy]; rfl)) (fun x hx e => ap.two 2 6 (by decide) (by decide) (by decide) (by rw [← hx]; rfl) (show (blks g v)[6]? = some (some y) by rw [← hy]; rfl) e)).other fun y hy => hg y (ap.ne 6 (by decide) (by decide) (by rw [← hy]; rfl))⟩, (h.rd.keep hb h2).setOther (by omega), (h.bel.low hb).low ((Below.refl _ _).setCell (show w.heap.size ≤ g by omega) _), h1, h2, by unfold Pl.mSize at hsz ⊢; dsimp only; omega, h.pc, h.st, h.fi, h.va⟩
theorem ZMid.setStk {w u u1 : World} {c g : Nat} {v : MV} {m : Pl.Mac} (h : ZMid w c g v m u) (ap : Apart g v) (s : SV) (zs : List Int) (ho : Own .u8 5 (w.heap.size + 1) u1 s.a s.len s.cap zs)
    (hk : ∀ b, b < u.heap.size → (∀ x, v.stk.a.map (·.block) = some x → b ≠ x) → u1.heap[b]? = u.heap[b]?) (hb : Below w.heap.size u u1)
    (hn : ∀ x, s.a.map (·.block) = some x → v.stk.a.map (·.block) = some x ∨ u.heap.size ≤ x) (hl : zs.length ≤ m.stk.length + 10001) (hsz : Pl.mSize m ≤ 180000) :
    ZMid w c g { v with stk := s } { m with stk := zs } (u1.setCell ⟨g, 4, none⟩ (.slice s.a s.len s.cap)) := by
  have hlt := h.lt
  have h1 := h.rg
  have h2 := h.cw
  have hs := hb.size
  have bx : u1.heap[g]? = some (.cells #[.slice v.code.a v.code.len v.code.cap, .int .i64 m.pc, .slice v.regs.a v.regs.len v.regs.cap, .slice v.data.a v.data.len v.data.cap, .slice v.stk.a v.stk.len v.stk.cap, .slice v.inp.a v.inp.len v.inp.cap, .slice v.out.a v.out.len v.out.cap, .int .i64 m.steps, .int .i64 m.fin, .int .i64 m.val] 25) := (hk g hlt fun x hx e => ap.ne 4 (by decide) (by decide) (show (blks g v)[4]? = some (some x) by rw [← hx]; rfl) e.symm).trans h.box
  have hg : ∀ y, y ≠ g → (u1.setCell ⟨g, 4, none⟩ (.slice s.a s.len s.cap)).heap[y]? = u1.heap[y]? := fun y hy => Below.heap_setCell u1 ⟨g, 4, none⟩ _ y hy
  have hne : ∀ x, s.a.map (·.block) = some x → x ≠ g := fun x hx e => by
    rcases hn x hx with q | q
    · exact ap.ne 4 (by decide) (by decide) (show (blks g v)[4]? = some (some x) by rw [← q]; rfl) e
    · omega
  have hr : u1.heap[w.heap.size]? = u.heap[w.heap.size]? := hk _ (by omega) fun x hx e => by have := (mown_blk h.own g 4 x (by decide) (show (blks g v)[4]? = some (some x) by rw [← hx]; rfl)).1; omega
  exact ⟨row_put bx 4 _ rfl, (hg _ (by omega)).trans (hr.trans h.res), ⟨(h.own.1.other fun y hy => hk y (h.own_lt 1 y (by decide) (by rw [← hy]; rfl)) (fun x hx e => ap.two 4 1 (by decide) (by decide) (by decide) (by rw [← hx]; rfl) (show (blks g v)[1]? = some (some y) by rw [← hy]; rfl) e)).other fun y hy => hg y (ap.ne 1 (by decide) (by decide) (by rw [← hy]; rfl)), (h.own.2.1.other fun y hy => hk y (h.own_lt 2 y (by decide) (by rw [← hy]; rfl)) (fun x hx e => ap.two 4 2 (by decide) (by decide) (by decide) (by rw [← hx]; rfl) (show (blks g v)[2]? = some (some y) by rw [← hy]; rfl) e)).other fun y hy => hg y (ap.ne 2 (by decide) (by decide) (by rw [← hy]; rfl)), (h.own.2.2.1.other fun y hy => hk y (h.own_lt 3 y (by decide) (by rw [← hy]; rfl)) (fun x hx e => ap.two 4 3 (by decide) (by decide) (by decide) (by rw [← hx]; rfl) (show (blks g v)[3]? = some (some y) by rw [← hy]; rfl) e)).other fun y hy => hg y (ap.ne 3 (by decide) (by decide) (by rw [← hy]; rfl)), ho.other fun y hy => hg y (hne y hy), (h.own.2.2.2.2.1.other fun y hy => hk y (h.own_lt 5 y (by decide) (by rw [← hy]; rfl)) (fun x hx e => ap.two 4 5 (by decide) (by decide) (by decide) (by rw [← hx]; rfl) (show (blks g v)[5]? = some (some y) by rw [← hy]; rfl) e)).other fun y hy => hg y (ap.ne 5 (by decide) (by decide) (by rw [← hy]; rfl)), (h.own.2.2.2.2.2.other fun y hy => hk y (h.own_lt 6 y (by decide) (by rw [← hy]; rfl)) (fun x hx e => ap.two 4 6 (by decide) (by decide) (by decide) (by rw [← hx]; rfl) (show (blks g v)[6]? = some (some y) by rw [← hy]; rfl) e)).other fun y hy => hg y (ap.ne 6 (by decide) (by decide) (by rw [← hy]; rfl))⟩, (h.rd.keep hb h2).setOther (by omega), (h.bel.low hb).low ((Below.refl _ _).setCell (show w.heap.size ≤ g by omega) _), h1, h2, by unfold Pl.mSize at hsz ⊢; dsimp only; omega, h.pc, h.st, h.fi, h.va⟩
theorem ZMid.setInp {w u u1 : World} {c g : Nat} {v : MV} {m : Pl.Mac} (h : ZMid w c g v m u) (ap : Apart g v) (s : SV) (zs : List Int) (ho : Own .u8 5 (w.heap.size + 1) u1 s.a s.len s.cap zs)
    (hk : ∀ b, b < u.heap.size → (∀ x, v.inp.a.map (·.block) = some x → b ≠ x) → u1.heap[b]? = u.heap[b]?) (hb : Below w.heap.size u u1)
    (hn : ∀ x, s.a.map (·.block) = some x → v.inp.a.map (·.block) = some x ∨ u.heap.size ≤ x) (hl : zs.length ≤ m.inp.length + 10001) (hsz : Pl.mSize m ≤ 180000) :
    ZMid w c g { v with inp := s } { m with inp := zs } (u1.setCell ⟨g, 5, none⟩ (.slice s.a s.len s.cap)) := by
  have hlt := h.lt
  have h1 := h.rg
  have h2 := h.cw
  have hs := hb.size
  have bx : u1.heap[g]? = some (.cells #[.slice v.code.a v.code.len v.code.cap, .int .i64 m.pc, .slice v.regs.a v.regs.len v.regs.cap, .slice v.data.a v.data.len v.data.cap, .slice v.stk.a v.stk.len v.stk.cap, .slice v.inp.a v.inp.len v.inp.cap, .slice v.out.a v.out.len v.out.cap, .int .i64 m.steps, .int .i64 m.fin, .int .i64 m.val] 25) := (hk g hlt fun x hx e => ap.ne 5 (by decide) (by decide) (show (blks g v)[5]? = some (some x) by rw [← hx]; rfl) e.symm).trans h.box
  have hg : ∀ y, y ≠ g → (u1.setCell ⟨g, 5, none⟩ (.slice s.a s.len s.cap)).heap[y]? = u1.heap[y]? := fun y hy => Below.heap_setCell u1 ⟨g, 5, none⟩ _ y hy
  have hne : ∀ x, s.a.map (·.block) = some x → x ≠ g := fun x hx e => by
    rcases hn x hx with q | q
    · exact ap.ne 5 (by decide) (by decide) (show (blks g v)[5]? = some (some x) by rw [← q]; rfl) e
    · omega
  have hr : u1.heap[w.heap.size]? = u.heap[w.heap.size]? := hk _ (by omega) fun x hx e => by have := (mown_blk h.own g 5 x (by decide) (show (blks g v)[5]? = some (some x) by rw [← hx]; rfl)).1; omega
  exact ⟨row_put bx 5 _ rfl, (hg _ (by omega)).trans (hr.trans h.res), ⟨(h.own.1.other fun y hy => hk y (h.own_lt 1 y (by decide) (by rw [← hy]; rfl)) (fun x hx e => ap.two 5 1 (by decide) (by decide) (by decide) (by rw [← hx]; rfl) (show (blks g v)[1]? = some (some y) by rw [← hy]; rfl) e)).other fun y hy => hg y (ap.ne 1 (by decide) (by decide) (by rw [← hy]; rfl)), (h.own.2.1.other fun y hy => hk y (h.own_lt 2 y (by decide) (by rw [← hy]; rfl)) (fun x hx e => ap.two 5 2 (by decide) (by decide) (by decide) (by rw [← hx]; rfl) (show (blks g v)[2]? = some (some y) by rw [← hy]; rfl) e)).other fun y hy => hg y (ap.ne 2 (by decide) (by decide) (by rw [← hy]; rfl)), (h.own.2.2.1.other fun y hy => hk y (h.own_lt 3 y (by decide) (by rw [← hy]; rfl)) (fun x hx e => ap.two 5 3 (by decide) (by decide) (by decide) (by rw [← hx]; rfl) (show (blks g v)[3]? = some (some y) by rw [← hy]; rfl) e)).other fun y hy => hg y (ap.ne 3 (by decide) (by decide) (by rw [← hy]; rfl)), (h.own.2.2.2.1.other fun y hy => hk y (h.own_lt 4 y (by decide) (by rw [← hy]; rfl)) (fun x hx e => ap.two 5 4 (by decide) (by decide) (by decide) (by rw [← hx]; rfl) (show (blks g v)[4]? = some (some y) by rw [← hy]; rfl) e)).other fun y hy => hg y (ap.ne 4 (by decide) (by decide) (by rw [← hy]; rfl)), ho.other fun y hy => hg y (hne y hy), (h.own.2.2.2.2.2.other fun y hy => hk y (h.own_lt 6 y (by decide) (by rw [← hy]; rfl)) (fun x hx e => ap.two 5 6 (by decide) (by decide) (by decide) (by rw [← hx]; rfl) (show (blks g v)[6]? = some (some y) by rw [← hy]; rfl) e)).other fun y hy => hg y (ap.ne 6 (by decide) (by decide) (by rw [← hy]; rfl))⟩, (h.rd.keep hb h2).setOther (by omega), (h.bel.low hb).low ((Below.refl _ _).setCell (show w.heap.size ≤ g by omega) _), h1, h2, by unfold Pl.mSize at hsz ⊢; dsimp only; omega, h.pc, h.st, h.fi, h.va⟩
theorem ZMid.setOut {w u u1 : World} {c g : Nat} {v : MV} {m : Pl.Mac} (h : ZMid w c g v m u) (ap : Apart g v) (s : SV) (zs : List Int) (ho : Own .u8 5 (w.heap.size + 1) u1 s.a s.len s.cap zs)
    (hk : ∀ b, b < u.heap.size → (∀ x, v.out.a.map (·.block) = some x → b ≠ x) → u1.heap[b]? = u.heap[b]?) (hb : Below w.heap.size u u1)
    (hn : ∀ x, s.a.map (·.block) = some x → v.out.a.map (·.block) = some x ∨ u.heap.size ≤ x) (hl : zs.length ≤ m.out.length + 10001) (hsz : Pl.mSize m ≤ 180000) :
    ZMid w c g { v with out := s } { m with out := zs } (u1.setCell ⟨g, 6, none⟩ (.slice s.a s.len s.cap)) := by
  have hlt := h.lt
  have h1 := h.rg
  have h2 := h.cw
  have hs := hb.size
  have bx : u1.heap[g]? = some (.cells #[.slice v.code.a v.code.len v.code.cap, .int .i64 m.pc, .slice v.regs.a v.regs.len v.regs.cap, .slice v.data.a v.data.len v.data.cap, .slice v.stk.a v.stk.len v.stk.cap, .slice v.inp.a v.inp.len v.inp.cap, .slice v.out.a v.out.len v.out.cap, .int .i64 m.steps, .int .i64 m.fin, .int .i64 m.val] 25) := (hk g hlt fun x hx e => ap.ne 6 (by decide) (by decide) (show (blks g v)[6]? = some (some x) by rw [← hx]; rfl) e.symm).trans h.box
  have hg : ∀ y, y ≠ g → (u1.setCell ⟨g, 6, none⟩ (.slice s.a s.len s.cap)).heap[y]? = u1.heap[y]? := fun y hy => Below.heap_setCell u1 ⟨g, 6, none⟩ _ y hy
  have hne : ∀ x, s.a.map (·.block) = some x → x ≠ g := fun x hx e => by
    rcases hn x hx with q | q
    · exact ap.ne 6 (by decide) (by decide) (show (blks g v)[6]? = some (some x) by rw [← q]; rfl) e
    · omega
  have hr : u1.heap[w.heap.size]? = u.heap[w.heap.size]? := hk _ (by omega) fun x hx e => by have := (mown_blk h.own g 6 x (by decide) (show (blks g v)[6]? = some (some x) by rw [← hx]; rfl)).1; omega
  exact ⟨row_put bx 6 _ rfl, (hg _ (by omega)).trans (hr.trans h.res), ⟨(h.own.1.other fun y hy => hk y (h.own_lt 1 y (by decide) (by rw [← hy]; rfl)) (fun x hx e => ap.two 6 1 (by decide) (by decide) (by decide) (by rw [← hx]; rfl) (show (blks g v)[1]? = some (some y) by rw [← hy]; rfl) e)).other fun y hy => hg y (ap.ne 1 (by decide) (by decide) (by rw [← hy]; rfl)), (h.own.2.1.other fun y hy => hk y (h.own_lt 2 y (by decide) (by rw [← hy]; rfl)) (fun x hx e => ap.two 6 2 (by decide) (by decide) (by decide) (by rw [← hx]; rfl) (show (blks g v)[2]? = some (some y) by rw [← hy]; rfl) e)).other fun y hy => hg y (ap.ne 2 (by decide) (by decide) (by rw [← hy]; rfl)), (h.own.2.2.1.other fun y hy => hk y (h.own_lt 3 y (by decide) (by rw [← hy]; rfl)) (fun x hx e => ap.two 6 3 (by decide) (by decide) (by decide) (by rw [← hx]; rfl) (show (blks g v)[3]? = some (some y) by rw [← hy]; rfl) e)).other fun y hy => hg y (ap.ne 3 (by decide) (by decide) (by rw [← hy]; rfl)), (h.own.2.2.2.1.other fun y hy => hk y (h.own_lt 4 y (by decide) (by rw [← hy]; rfl)) (fun x hx e => ap.two 6 4 (by decide) (by decide) (by decide) (by rw [← hx]; rfl) (show (blks g v)[4]? = some (some y) by rw [← hy]; rfl) e)).other fun y hy => hg y (ap.ne 4 (by decide) (by decide) (by rw [← hy]; rfl)), (h.own.2.2.2.2.1.other fun y hy => hk y (h.own_lt 5 y (by decide) (by rw [← hy]; rfl)) (fun x hx e => ap.two 6 5 (by decide) (by decide) (by decide) (by rw [← hx]; rfl) (show (blks g v)[5]? = some (some y) by rw [← hy]; rfl) e)).other fun y hy => hg y (ap.ne 5 (by decide) (by decide) (by rw [← hy]; rfl)), ho.other fun y hy => hg y (hne y hy)⟩, (h.rd.keep hb h2).setOther (by omega), (h.bel.low hb).low ((Below.refl _ _).setCell (show w.heap.size ≤ g by omega) _), h1, h2, by unfold Pl.mSize at hsz ⊢; dsimp only; omega, h.pc, h.st, h.fi, h.va⟩
theorem ZMid.setPc {w u : World} {c g : Nat} {v : MV} {m : Pl.Mac} (h : ZMid w c g v m u) (ap : Apart g v) (x : Int) (hx : -1099511627776 ≤ x ∧ x ≤ 1099511627776) : ZMid w c g v { m with pc := x } (u.setCell ⟨g, 1, none⟩ (.int .i64 x)) := h.setNum ap 1 x _ rfl ⟨rfl, rfl, rfl, rfl, rfl, rfl⟩ hx h.st h.fi h.va
theorem ZMid.setSteps {w u : World} {c g : Nat} {v : MV} {m : Pl.Mac} (h : ZMid w c g v m u) (ap : Apart g v) (x : Int) (hx : -1099511627776 ≤ x ∧ x ≤ 1099511627776) : ZMid w c g v { m with steps := x } (u.setCell ⟨g, 7, none⟩ (.int .i64 x)) := h.setNum ap 7 x _ rfl ⟨rfl, rfl, rfl, rfl, rfl, rfl⟩ h.pc hx h.fi h.va
theorem ZMid.setFin {w u : World} {c g : Nat} {v : MV} {m : Pl.Mac} (h : ZMid w c g v m u) (ap : Apart g v) (x : Int) (hx : -1099511627776 ≤ x ∧ x ≤ 1099511627776) : ZMid w c g v { m with fin := x } (u.setCell ⟨g, 8, none⟩ (.int .i64 x)) := h.setNum ap 8 x _ rfl ⟨rfl, rfl, rfl, rfl, rfl, rfl⟩ h.pc h.st hx h.va
theorem ZMid.setVal {w u : World} {c g : Nat} {v : MV} {m : Pl.Mac} (h : ZMid w c g v m u) (ap : Apart g v) (x : Int) (hx : -1099511627776 ≤ x ∧ x ≤ 1099511627776) : ZMid w c g v { m with val := x } (u.setCell ⟨g, 9, none⟩ (.int .i64 x)) := h.setNum ap 9 x _ rfl ⟨rfl, rfl, rfl, rfl, rfl, rfl⟩ h.pc h.st h.fi hx
theorem ZMid.grewRegs {w u U w1 : World} {c g G cap : Nat} {v : MV} {m : Pl.Mac} (h : ZMid w c g v m u) (ap : Apart g v) (hU : Below u.heap.size u U) (x : Int) (hx : (Lit.int .i64 x).wf = true) (hown : w1.ownsRow (w.heap.size + 1) 3 1 (.slice (some ⟨G, 0, none⟩) (v.regs.len + 1) cap) (v.regs.len + 1) (m.regs.map (Value.int .i64) ++ [.int .i64 x]))
    (hgr : U.grownBy w1 (Value.slice v.regs.a v.regs.len v.regs.cap).ownBlock) (hat : (Value.slice v.regs.a v.regs.len v.regs.cap).ownBlock = some G ∨ G = U.heap.size) (hsz : Pl.mSize m ≤ 180000) :
    ZMid w c g { v with regs := ⟨some ⟨G, 0, none⟩, v.regs.len + 1, cap⟩ } { m with regs := m.regs ++ [x] } (w1.setCell ⟨g, 2, none⟩ (.slice (some ⟨G, 0, none⟩) (v.regs.len + 1) cap)) := by
  have hs := hU.size
  have hlt := h.lt
  have h1 := h.rg
  have hob : (Value.slice v.regs.a v.regs.len v.regs.cap).ownBlock = v.regs.a.map (·.block) := own_blk h.own.2.1
  have hbU : Below w.heap.size u U := hU.mono (by omega)
  refine h.setRegs ap ⟨some ⟨G, 0, none⟩, v.regs.len + 1, cap⟩ (m.regs ++ [x]) ⟨by rw [List.map_append]; exact hown, fun n hn => ?_⟩ (fun b hb hne => (hgr.block b (by omega) (fun e => hne b (by rw [← hob]; exact e.symm) rfl)).trans (hU.block b hb)) (hbU.grown hgr (by omega) fun j hj => by have := h.own.2.1.at_ hj; omega) (fun y hy => ?_) (by simp) hsz
  · rcases List.mem_append.1 hn with hn | hn
    · exact h.own.2.1.2 n hn
    · simp at hn; subst hn; exact hx
  · cases hy
    rw [hob] at hat
    rcases hat with e | e
    · exact .inl e
    · exact .inr (by show u.heap.size ≤ G; omega)
theorem ZMid.farRegs {w u U w1 : World} {c g : Nat} {v : MV} {m : Pl.Mac} (h : ZMid w c g v m u) (ap : Apart g v) (hU : Below u.heap.size u U) (hgr : U.grownBy w1 (Value.slice v.regs.a v.regs.len v.regs.cap).ownBlock) : w1.heap[g]? = some (.cells #[.slice v.code.a v.code.len v.code.cap, .int .i64 m.pc, .slice v.regs.a v.regs.len v.regs.cap, .slice v.data.a v.data.len v.data.cap, .slice v.stk.a v.stk.len v.stk.cap, .slice v.inp.a v.inp.len v.inp.cap, .slice v.out.a v.out.len v.out.cap, .int .i64 m.steps, .int .i64 m.fin, .int .i64 m.val] 25) := by
  have hob : (Value.slice v.regs.a v.regs.len v.regs.cap).ownBlock = v.regs.a.map (·.block) := own_blk h.own.2.1
  refine (hgr.block g (by have := h.lt; have := hU.size; omega) (fun e => ?_)).trans ((hU.block g h.lt).trans h.box)
  rw [hob] at e
  exact ap.ne 2 (by decide) (by decide) (show (blks g v)[2]? = some (some g) by rw [e]; rfl) rfl
theorem ZMid.grewStk {w u U w1 : World} {c g G cap : Nat} {v : MV} {m : Pl.Mac} (h : ZMid w c g v m u) (ap : Apart g v) (hU : Below u.heap.size u U) (x : Int) (hx : (Lit.int .u8 x).wf = true) (hown : w1.ownsRow (w.heap.size + 1) 5 1 (.slice (some ⟨G, 0, none⟩) (v.stk.len + 1) cap) (v.stk.len + 1) (m.stk.map (Value.int .u8) ++ [.int .u8 x]))
    (hgr : U.grownBy w1 (Value.slice v.stk.a v.stk.len v.stk.cap).ownBlock) (hat : (Value.slice v.stk.a v.stk.len v.stk.cap).ownBlock = some G ∨ G = U.heap.size) (hsz : Pl.mSize m ≤ 180000) :
    ZMid w c g { v with stk := ⟨some ⟨G, 0, none⟩, v.stk.len + 1, cap⟩ } { m with stk := m.stk ++ [x] } (w1.setCell ⟨g, 4, none⟩ (.slice (some ⟨G, 0, none⟩) (v.stk.len + 1) cap)) := by
  have hs := hU.size
  have hlt := h.lt
  have h1 := h.rg
  have hob : (Value.slice v.stk.a v.stk.len v.stk.cap).ownBlock = v.stk.a.map (·.block) := own_blk h.own.2.2.2.1
  have hbU : Below w.heap.size u U := hU.mono (by omega)
  refine h.setStk ap ⟨some ⟨G, 0, none⟩, v.stk.len + 1, cap⟩ (m.stk ++ [x]) ⟨by rw [List.map_append]; exact hown, fun n hn => ?_⟩ (fun b hb hne => (hgr.block b (by omega) (fun e => hne b (by rw [← hob]; exact e.symm) rfl)).trans (hU.block b hb)) (hbU.grown hgr (by omega) fun j hj => by have := h.own.2.2.2.1.at_ hj; omega) (fun y hy => ?_) (by simp) hsz
  · rcases List.mem_append.1 hn with hn | hn
    · exact h.own.2.2.2.1.2 n hn
    · simp at hn; subst hn; exact hx
  · cases hy
    rw [hob] at hat
    rcases hat with e | e
    · exact .inl e
    · exact .inr (by show u.heap.size ≤ G; omega)
theorem ZMid.farStk {w u U w1 : World} {c g : Nat} {v : MV} {m : Pl.Mac} (h : ZMid w c g v m u) (ap : Apart g v) (hU : Below u.heap.size u U) (hgr : U.grownBy w1 (Value.slice v.stk.a v.stk.len v.stk.cap).ownBlock) : w1.heap[g]? = some (.cells #[.slice v.code.a v.code.len v.code.cap, .int .i64 m.pc, .slice v.regs.a v.regs.len v.regs.cap, .slice v.data.a v.data.len v.data.cap, .slice v.stk.a v.stk.len v.stk.cap, .slice v.inp.a v.inp.len v.inp.cap, .slice v.out.a v.out.len v.out.cap, .int .i64 m.steps, .int .i64 m.fin, .int .i64 m.val] 25) := by
  have hob : (Value.slice v.stk.a v.stk.len v.stk.cap).ownBlock = v.stk.a.map (·.block) := own_blk h.own.2.2.2.1
  refine (hgr.block g (by have := h.lt; have := hU.size; omega) (fun e => ?_)).trans ((hU.block g h.lt).trans h.box)
  rw [hob] at e
  exact ap.ne 4 (by decide) (by decide) (show (blks g v)[4]? = some (some g) by rw [e]; rfl) rfl
/-- a register is set -/
theorem ZMid.setReg {w u : World} {c g r : Nat} {v : MV} {m : Pl.Mac} (h : ZMid w c g v m u) (ap : Apart g v) (hr : v.regs.a = some ⟨r, 0, none⟩) (n : Nat) (x : Int) (hx : (Lit.int .i64 x).wf = true) : ZMid w c g v { m with regs := m.regs.set n x } (u.setCell ⟨r, n, none⟩ (.int .i64 x)) := by
  have h1 := h.rg
  have h2 := h.cw
  have hb2 : (blks g v)[2]? = some (some r) := by simp [blks, hr]
  have hrl := (mown_blk h.own g 2 r (by decide) hb2).1
  have hg := ap.ne 2 (by decide) (by decide) hb2
  have hk : ∀ y, y ≠ r → (u.setCell ⟨r, n, none⟩ (.int .i64 x)).heap[y]? = u.heap[y]? := fun y hy => Below.heap_setCell u ⟨r, n, none⟩ _ y hy
  refine ⟨(hk g (Ne.symm hg)).trans h.box, (hk _ (by omega)).trans h.res, ⟨h.own.1.other fun y hy => hk y (ap.two 2 1 (by decide) (by decide) (by decide) hb2 (by rw [← hy]; rfl)), ?_, h.own.2.2.1.other fun y hy => hk y (ap.two 2 3 (by decide) (by decide) (by decide) hb2 (by rw [← hy]; rfl)), h.own.2.2.2.1.other fun y hy => hk y (ap.two 2 4 (by decide) (by decide) (by decide) hb2 (by rw [← hy]; rfl)), h.own.2.2.2.2.1.other fun y hy => hk y (ap.two 2 5 (by decide) (by decide) (by decide) hb2 (by rw [← hy]; rfl)), h.own.2.2.2.2.2.other fun y hy => hk y (ap.two 2 6 (by decide) (by decide) (by decide) hb2 (by rw [← hy]; rfl))⟩, h.rd.setOther (by omega), h.bel.low ((Below.refl _ _).setCell (show w.heap.size ≤ r by omega) _), h1, h2, by have := h.sz; unfold Pl.mSize at this ⊢; dsimp only; rw [List.length_set]; exact this, h.pc, h.st, h.fi, h.va⟩
  have ho := h.own.2.1.1
  have hw := h.own.2.1.2
  rw [hr] at ho
  show Own _ _ _ _ v.regs.a _ _ _
  rw [hr]
  refine ⟨?_, fun q hq => ?_⟩
  · rw [List.map_set]; exact (ho.stored n (.int .i64 x)).1
  · rcases List.mem_or_eq_of_mem_set hq with hq | rfl
    · exact hw q hq
    · exact hx
end Go.Proofs.Ytfcfnbncgadomaa.W
namespace Go.Proofs.Ytfcfnbncgadomaa.W
open Go.RowKit
theorem heap_alloc_at3 (w : World) (o : Obj) (g : Nat) (h : w.heap.size = g) : (w.alloc o).heap[g]? = some o := by subst h; exact heap_alloc_new w o
theorem below_setRow2 {B : Nat} {a w : World} (h : Below B a w) {g : Nat} (hg : B ≤ g) (cs : Array Value) : Below B a (w.setRow g cs) :=
  ⟨h.os, h.tape, h.output, by rw [size_setRow]; exact h.size, fun k hk => (setRow_other w g k cs (by omega)).trans (h.block k hk)⟩
theorem results_cell_tmp2 {P : Program} {fn : Func} {p q : Tmp} {ty : TypeId} (h : fn.results = #[.cell p ty, .tmp q]) (tmps : Array Value) (w : World) (g : Nat) (t : TypeId) (cs : Array Value) (fr : Nat × Nat) (d : TypeDesc) (v : Value)
    (hp : tmps.getD p undef = .pointer (some ⟨g, 0, none⟩)) (hq : tmps.getD q undef = v) (hg : w.heap[g]? = some (.cells cs t fr))
    (hu : P.underlying ty = some d) (hd : (match d with | .struct _ | .array _ _ => true | _ => false) = true) (hi : (P.info? ty).map (·.size) = some cs.size) :
    (results fn tmps).run P w = .ok (.tuple #[.agg cs, v]) w := by
  have hp' : tmps[p]?.getD undef = .pointer (some ⟨g, 0, none⟩) := by simpa using hp
  have hq' : tmps[q]?.getD undef = v := by simpa using hq
  simp [results, h, hp', hq', asAddr, run_loadVar_row w g t ty cs fr d hg hu hd hi]
set_option maxHeartbeats 2000000 in
theorem specStart_no {lo lo2 : Nat} (v : IV) (m : Pl.Img) (a : Option Addr) (len cap : Nat) (inp : List Int) (w : World) (h : IOwn lo w v m) (hin : Own .u8 5 lo2 w a len cap inp) (he : -9223372036854775808 ≤ m.entry ∧ m.entry ≤ 9223372036854775807) (hno : (Pl.iOk m && decide (len ≤ 10000)) = false) :
    Calls Try.prog 44 #[.agg #[.slice v.code.a v.code.len v.code.cap, .slice v.data.a v.data.len v.data.cap, .int .i64 m.entry, .int .i64 m.size], .slice a len cap] w fun e w' => e = .returned (.tuple #[.agg #[.slice none 0 0, .int .i64 0, .slice none 0 0, .slice none 0 0, .slice none 0 0, .slice none 0 0, .slice none 0 0, .int .i64 0, .int .i64 0, .int .i64 0], .bool false]) ∧ Below w.heap.size w w' := by
  have HI : Hid (IOwn lo w v m) := h
  have HN : Hid (Own .u8 5 lo2 w a len cap inp) := hin
  clear h hin
  go_enter Try.func44, Try.ntmps44
  go_wp2_with fail
  refine calls_at fun u0 hu0 => ?_
  have Q0 : u0.heap[w.heap.size]? = some (.cells #[.slice v.code.a v.code.len v.code.cap, .slice v.data.a v.data.len v.data.cap, .int .i64 m.entry, .int .i64 m.size] 79) := by rw [hu0, Below.heap_alloc _ _ _ (by simp)]; exact heap_alloc_new w _
  have X0 : u0.heap[w.heap.size + 1]? = some (.cells #[.slice none 0 0, .int .i64 0, .slice none 0 0, .slice none 0 0, .slice none 0 0, .slice none 0 0, .slice none 0 0, .int .i64 0, .int .i64 0, .int .i64 0] 25) := by rw [hu0]; exact heap_alloc_at3 _ _ _ (by simp)
  have B0 : Below w.heap.size w u0 := by rw [hu0]; exact ((Below.refl _ _).alloc (Nat.le_refl _) _).alloc (by simp) _
  have Z0 : w.heap.size + 1 < u0.heap.size := by rw [hu0]; simp
  clear hu0
  refine (specImageOk_any v m u0 (HI.out.keep B0).is he).mono ?_
  rintro e u1 ⟨rfl, d1⟩
  have Q1 : Hid (u1.heap[w.heap.size]? = some (.cells #[.slice v.code.a v.code.len v.code.cap, .slice v.data.a v.data.len v.data.cap, .int .i64 m.entry, .int .i64 m.size] 79)) := (d1.block _ (by omega)).trans Q0
  have X1 : Hid (u1.heap[w.heap.size + 1]? = some (.cells #[.slice none 0 0, .int .i64 0, .slice none 0 0, .slice none 0 0, .slice none 0 0, .slice none 0 0, .slice none 0 0, .int .i64 0, .int .i64 0, .int .i64 0] 25)) := (d1.block _ Z0).trans X0
  have B1 : Hid (Below w.heap.size w u1) := B0.trans (d1.mono (by omega))
  have Z1 : Hid (w.heap.size + 1 < u1.heap.size) := Nat.lt_of_lt_of_le Z0 d1.size
  clear d1 Q0 X0 B0 Z0
  cases hk : Pl.iOk m
  · clear hno
    go_wp2_with (refine wpList_store_row rfl 25 _ _ rfl (w.heap.size + 1) #[.slice none 0 0, .int .i64 0, .slice none 0 0, .slice none 0 0, .slice none 0 0, .slice none 0 0, .slice none 0 0, .int .i64 0, .int .i64 0, .int .i64 0] ?hx ?hy 25 #[.slice none 0 0, .int .i64 0, .slice none 0 0, .slice none 0 0, .slice none 0 0, .slice none 0 0, .slice none 0 0, .int .i64 0, .int .i64 0, .int .i64 0] ?hg ?hi ?ho ?h1 ?_; (case hx => rfl); (case hy => rfl); (case hg => exact X1.out); (case hi => kernel_rfl); (case ho => kernel_rfl); (case h1 => kernel_rfl); refine Hid.out ?_)
    unfold Hid
    go_wp2
    exact bodyPost_ret (v := .tuple #[.agg #[.slice none 0 0, .int .i64 0, .slice none 0 0, .slice none 0 0, .slice none 0 0, .slice none 0 0, .slice none 0 0, .int .i64 0, .int .i64 0, .int .i64 0], .bool false]) (results_cell_tmp2 Try.results44 _ _ (w.heap.size + 1) 25 #[.slice none 0 0, .int .i64 0, .slice none 0 0, .slice none 0 0, .slice none 0 0, .slice none 0 0, .slice none 0 0, .int .i64 0, .int .i64 0, .int .i64 0] (0, 0) _ _ rfl rfl (setRow_heap _ _ _ _ 25 _ X1.out) Try.underlying25 rfl (by kernel_rfl)) rfl ⟨rfl, below_setRow2 B1.out (by omega) _⟩
  · have hlen : (10000 : Int) < (len : Int) := by rw [hk, Bool.true_and, decide_eq_false_iff_not] at hno; omega
    clear hno
    go_wp2_with (refine wpList_store_row rfl 25 _ _ rfl (w.heap.size + 1) #[.slice none 0 0, .int .i64 0, .slice none 0 0, .slice none 0 0, .slice none 0 0, .slice none 0 0, .slice none 0 0, .int .i64 0, .int .i64 0, .int .i64 0] ?hx ?hy 25 #[.slice none 0 0, .int .i64 0, .slice none 0 0, .slice none 0 0, .slice none 0 0, .slice none 0 0, .slice none 0 0, .int .i64 0, .int .i64 0, .int .i64 0] ?hg ?hi ?ho ?h1 ?_; (case hx => rfl); (case hy => rfl); (case hg => exact X1.out); (case hi => kernel_rfl); (case ho => kernel_rfl); (case h1 => kernel_rfl); refine Hid.out ?_)
    unfold Hid
    go_wp2
    exact bodyPost_ret (v := .tuple #[.agg #[.slice none 0 0, .int .i64 0, .slice none 0 0, .slice none 0 0, .slice none 0 0, .slice none 0 0, .slice none 0 0, .int .i64 0, .int .i64 0, .int .i64 0], .bool false]) (results_cell_tmp2 Try.results44 _ _ (w.heap.size + 1) 25 #[.slice none 0 0, .int .i64 0, .slice none 0 0, .slice none 0 0, .slice none 0 0, .slice none 0 0, .slice none 0 0, .int .i64 0, .int .i64 0, .int .i64 0] (0, 0) _ _ rfl rfl (setRow_heap _ _ _ _ 25 _ X1.out) Try.underlying25 rfl (by kernel_rfl)) rfl ⟨rfl, below_setRow2 B1.out (by omega) _⟩
end Go.Proofs.Ytfcfnbncgadomaa.W
namespace Go.Proofs.Ytfcfnbncgadomaa.W
open Go.RowKit
theorem wp_at2 {P : Program} {code : Code} {Q : Exit → Act → World → Prop} {a : Act} {W : World} (h : ∀ U, U = W → code.wp P Q a U) : code.wp P Q a W := h W rfl
theorem MOwn.weak {lo lo' : Nat} {w : World} {v : MV} {m : Pl.Mac} (h : MOwn lo w v m) (hl : lo' ≤ lo) : MOwn lo' w v m := ⟨h.1.weak hl, h.2.1.weak hl, h.2.2.1.weak hl, h.2.2.2.1.weak hl, h.2.2.2.2.1.weak hl, h.2.2.2.2.2.weak hl⟩
theorem Own.setRow2 {k : IntKind} {e : TypeId} {lo b : Nat} {w : World} {a : Option Addr} {len cap : Nat} {zs : List Int} (h : Own k e lo w a len cap zs) (hb : b < lo) (cs : Array Value) : Own k e lo (w.setRow b cs) a len cap zs := by
  obtain ⟨hown, hwf⟩ := h
  refine ⟨⟨hown.1, ?_⟩, hwf⟩
  rcases hown.2 with h0 | ⟨g, cap', cur, h0, hlo, hg, hr⟩
  · exact .inl h0
  · exact .inr ⟨g, cap', cur, h0, hlo, (setRow_other w b g cs (by omega)).trans hg, hr⟩
theorem MOwn.setRow2 {lo b : Nat} {w : World} {v : MV} {m : Pl.Mac} (h : MOwn lo w v m) (hb : b < lo) (cs : Array Value) : MOwn lo (w.setRow b cs) v m := ⟨h.1.setRow2 hb cs, h.2.1.setRow2 hb cs, h.2.2.1.setRow2 hb cs, h.2.2.2.1.setRow2 hb cs, h.2.2.2.2.1.setRow2 hb cs, h.2.2.2.2.2.setRow2 hb cs⟩
theorem keepA {b : Nat} {cs : Array Value} {u : World} (h : (∀ j, u.cell? ⟨b, j, none⟩ = cs[j]?) ∧ b < u.heap.size) (o : Obj) : (∀ j, (u.alloc o).cell? ⟨b, j, none⟩ = cs[j]?) ∧ b < (u.alloc o).heap.size :=
  ⟨fun j => (((Below.refl u.heap.size u).alloc (Nat.le_refl _) o).cell (p := ⟨b, j, none⟩) h.2).trans (h.1 j), by simp; exact Nat.lt_succ_of_lt h.2⟩
set_option maxHeartbeats 4000000 in
theorem specStart_yes {lo lo2 : Nat} (v : IV) (m : Pl.Img) (a : Option Addr) (len cap : Nat) (inp : List Int) (w : World) (h : IOwn lo w v m) (hin : Own .u8 5 lo2 w a len cap inp) (he : -9223372036854775808 ≤ m.entry ∧ m.entry ≤ 9223372036854775807) (hyes : (Pl.iOk m && decide (len ≤ 10000)) = true) :
    Calls Try.prog 44 #[.agg #[.slice v.code.a v.code.len v.code.cap, .slice v.data.a v.data.len v.data.cap, .int .i64 m.entry, .int .i64 m.size], .slice a len cap] w fun e w' => ∃ v1 : MV, e = .returned (.tuple #[.agg #[.slice v1.code.a v1.code.len v1.code.cap, .int .i64 m.entry, .slice v1.regs.a v1.regs.len v1.regs.cap, .slice v1.data.a v1.data.len v1.data.cap, .slice v1.stk.a v1.stk.len v1.stk.cap, .slice v1.inp.a v1.inp.len v1.inp.cap, .slice v1.out.a v1.out.len v1.out.cap, .int .i64 0, .int .i64 0, .int .i64 0], .bool true]) ∧ MOwn w.heap.size w' v1 (Pl.mStart m inp) ∧ Below w.heap.size w w' := by
  have HI : Hid (IOwn lo w v m) := h
  have HN : Hid (Own .u8 5 lo2 w a len cap inp) := hin
  clear h hin
  go_enter Try.func44, Try.ntmps44
  go_wp2_with fail
  refine calls_at fun u0 hu0 => ?_
  have Q0 : u0.heap[w.heap.size]? = some (.cells #[.slice v.code.a v.code.len v.code.cap, .slice v.data.a v.data.len v.data.cap, .int .i64 m.entry, .int .i64 m.size] 79) := by rw [hu0, Below.heap_alloc _ _ _ (by simp)]; exact heap_alloc_new w _
  have X0 : u0.heap[w.heap.size + 1]? = some (.cells #[.slice none 0 0, .int .i64 0, .slice none 0 0, .slice none 0 0, .slice none 0 0, .slice none 0 0, .slice none 0 0, .int .i64 0, .int .i64 0, .int .i64 0] 25) := by rw [hu0]; exact heap_alloc_at3 _ _ _ (by simp)
  have B0 : Below w.heap.size w u0 := by rw [hu0]; exact ((Below.refl _ _).alloc (Nat.le_refl _) _).alloc (by simp) _
  have Z0 : w.heap.size + 1 < u0.heap.size := by rw [hu0]; simp
  clear hu0
  refine (specImageOk_any v m u0 (HI.out.keep B0).is he).mono ?_
  rintro e u1 ⟨rfl, d1⟩
  have Q1 : Hid (u1.heap[w.heap.size]? = some (.cells #[.slice v.code.a v.code.len v.code.cap, .slice v.data.a v.data.len v.data.cap, .int .i64 m.entry, .int .i64 m.size] 79)) := (d1.block _ (by omega)).trans Q0
  have X1 : Hid (u1.heap[w.heap.size + 1]? = some (.cells #[.slice none 0 0, .int .i64 0, .slice none 0 0, .slice none 0 0, .slice none 0 0, .slice none 0 0, .slice none 0 0, .int .i64 0, .int .i64 0, .int .i64 0] 25)) := (d1.block _ Z0).trans X0
  have B1 : Hid (Below w.heap.size w u1) := B0.trans (d1.mono (by omega))
  have Z1 : Hid (w.heap.size + 1 < u1.heap.size) := Nat.lt_of_lt_of_le Z0 d1.size
  clear d1 Q0 X0 B0 Z0
  have hk : Pl.iOk m = true ∧ len ≤ 10000 := by rw [Bool.and_eq_true, decide_eq_true_eq] at hyes; exact hyes
  have hlen : (len : Int) ≤ 10000 := by omega
  have hsk : 0 ≤ m.size ∧ m.size ≤ 65536 := by
    have := hk.1
    unfold Pl.iOk Pl.skOk at this
    simp only [Bool.and_eq_true, decide_eq_true_eq] at this
    omega
  have hcd : m.code.length ≤ 16384 ∧ m.data.length ≤ 65536 := by
    have := hk.1
    unfold Pl.iOk Pl.cdOk at this
    simp only [Bool.and_eq_true, decide_eq_true_eq] at this
    omega
  have HCD : Hid (m.code.length ≤ 16384 ∧ m.data.length ≤ 65536) := hcd
  clear hcd
  rw [hk.1]
  have HL : Hid (len ≤ 10000) := hk.2
  clear hyes hk
  obtain ⟨i3, hi3, hz3, hz31, hz32⟩ := info_parts Try.infoi64
  obtain ⟨i5, hi5, hz5, hz51, hz52⟩ := info_parts Try.infou8
  have hm1 : ∀ u : World, (Instr.makeSlice 23 (.int .i64 32) (.int .i64 32)).run Try.prog u = .ok (.slice (some ⟨u.heap.size, 0, none⟩) 32 32) (u.alloc (.cells (madeCells (Value.int .i64 0).cells 32) 3)) := fun u => by
    have := run_makeSlice u 23 3 i3 _ Try.underlying23 hi3 hz3 .i64 .i64 32 32 (by decide) (by decide) (by rw [hz31]; decide) (by rw [hz32]; decide) (by decide)
    rw [hz31] at this
    exact this
  have hm2 : ∀ u : World, (Instr.makeSlice 22 (.int .i64 m.size) (.int .i64 m.size)).run Try.prog u = .ok (.slice (some ⟨u.heap.size, 0, none⟩) m.size.toNat m.size.toNat) (u.alloc (.cells (madeCells (Value.int .u8 0).cells m.size.toNat) 5)) := fun u => by
    have := run_makeSlice u 22 5 i5 _ Try.underlying22 hi5 hz5 .i64 .i64 m.size m.size (by omega) (by omega) (by rw [hz51]; omega) (by rw [hz52]; omega) (by omega)
    rw [hz51, Nat.mul_one] at this
    exact this
  have HSK : Hid (0 ≤ m.size ∧ m.size ≤ 65536) := hsk
  clear hi3 hz3 hz31 hz32 hi5 hz5 hz51 hz52 hsk
  go_upto_region 3 with fail
  have hS0 : (∀ j, u1.cell? ⟨w.heap.size, j, none⟩ = (#[.slice v.code.a v.code.len v.code.cap, .slice v.data.a v.data.len v.data.cap, .int .i64 m.entry, .int .i64 m.size] : Array Value)[j]?) ∧ w.heap.size < u1.heap.size := ⟨fun j => cell_of_row u1 w.heap.size j _ 79 (0, 0) Q1.out, by have := Z1.out; omega⟩
  go_cut [6] from 16 to 27 (fun s6 wx => ∃ g rb sb : Nat, s6 = .pointer (some ⟨g, 0, none⟩) ∧ wx.heap[g]? = some (.cells #[.slice v.code.a v.code.len v.code.cap, .int .i64 m.entry, .slice (some ⟨rb, 0, none⟩) 32 32, .slice v.data.a v.data.len v.data.cap, .slice (some ⟨sb, 0, none⟩) m.size.toNat m.size.toNat, .slice a len cap, .slice none 0 0, .int .i64 0, .int .i64 0, .int .i64 0] 25) ∧ wx.heap[rb]? = some (.cells (madeCells #[Value.int .i64 0] 32) 3) ∧ wx.heap[sb]? = some (.cells (madeCells #[Value.int .u8 0] m.size.toNat) 5) ∧ (u1.heap.size ≤ g ∧ u1.heap.size ≤ rb ∧ u1.heap.size ≤ sb ∧ g ≠ rb ∧ g ≠ sb ∧ rb ≠ sb) ∧ Below u1.heap.size u1 wx)
  case first =>
    go_region_held (fun u => (∀ j, u.cell? ⟨w.heap.size, j, none⟩ = (#[.slice v.code.a v.code.len v.code.cap, .slice v.data.a v.data.len v.data.cap, .int .i64 m.entry, .int .i64 m.size] : Array Value)[j]?) ∧ w.heap.size < u.heap.size) (first | exact hS0 | exact keepA hS0 _ | exact keepA (keepA hS0 _) _ | exact keepA (keepA (keepA hS0 _) _) _) (fail)
    all_goals
      go_wp2_with fail
      go_meet
      first
        | exact ⟨_, u1.heap.size, u1.heap.size + 1, rfl, (by first | exact heap_alloc_at3 _ _ _ (by simp <;> omega) | exact (Below.heap_alloc _ _ _ (by simp <;> omega)).trans (heap_alloc_at3 _ _ _ (by simp <;> omega)) | exact (Below.heap_alloc _ _ _ (by simp <;> omega)).trans ((Below.heap_alloc _ _ _ (by simp <;> omega)).trans (heap_alloc_at3 _ _ _ (by simp <;> omega)))), (by first | exact heap_alloc_at3 _ _ _ (by simp <;> omega) | exact (Below.heap_alloc _ _ _ (by simp <;> omega)).trans (heap_alloc_at3 _ _ _ (by simp <;> omega)) | exact (Below.heap_alloc _ _ _ (by simp <;> omega)).trans ((Below.heap_alloc _ _ _ (by simp <;> omega)).trans (heap_alloc_at3 _ _ _ (by simp <;> omega)))), (by first | exact heap_alloc_at3 _ _ _ (by simp <;> omega) | exact (Below.heap_alloc _ _ _ (by simp <;> omega)).trans (heap_alloc_at3 _ _ _ (by simp <;> omega)) | exact (Below.heap_alloc _ _ _ (by simp <;> omega)).trans ((Below.heap_alloc _ _ _ (by simp <;> omega)).trans (heap_alloc_at3 _ _ _ (by simp <;> omega)))), by omega, by repeat (first | exact Below.refl _ _ | refine Below.drew ?_ | refine Below.alloc ?_ (by simp <;> omega) _)⟩
        | exact ⟨_, u1.heap.size, u1.heap.size + 1 + 1, rfl, (by first | exact heap_alloc_at3 _ _ _ (by simp <;> omega) | exact (Below.heap_alloc _ _ _ (by simp <;> omega)).trans (heap_alloc_at3 _ _ _ (by simp <;> omega)) | exact (Below.heap_alloc _ _ _ (by simp <;> omega)).trans ((Below.heap_alloc _ _ _ (by simp <;> omega)).trans (heap_alloc_at3 _ _ _ (by simp <;> omega)))), (by first | exact heap_alloc_at3 _ _ _ (by simp <;> omega) | exact (Below.heap_alloc _ _ _ (by simp <;> omega)).trans (heap_alloc_at3 _ _ _ (by simp <;> omega)) | exact (Below.heap_alloc _ _ _ (by simp <;> omega)).trans ((Below.heap_alloc _ _ _ (by simp <;> omega)).trans (heap_alloc_at3 _ _ _ (by simp <;> omega)))), (by first | exact heap_alloc_at3 _ _ _ (by simp <;> omega) | exact (Below.heap_alloc _ _ _ (by simp <;> omega)).trans (heap_alloc_at3 _ _ _ (by simp <;> omega)) | exact (Below.heap_alloc _ _ _ (by simp <;> omega)).trans ((Below.heap_alloc _ _ _ (by simp <;> omega)).trans (heap_alloc_at3 _ _ _ (by simp <;> omega)))), by omega, by repeat (first | exact Below.refl _ _ | refine Below.drew ?_ | refine Below.alloc ?_ (by simp <;> omega) _)⟩
        | exact ⟨_, u1.heap.size + 1, u1.heap.size, rfl, (by first | exact heap_alloc_at3 _ _ _ (by simp <;> omega) | exact (Below.heap_alloc _ _ _ (by simp <;> omega)).trans (heap_alloc_at3 _ _ _ (by simp <;> omega)) | exact (Below.heap_alloc _ _ _ (by simp <;> omega)).trans ((Below.heap_alloc _ _ _ (by simp <;> omega)).trans (heap_alloc_at3 _ _ _ (by simp <;> omega)))), (by first | exact heap_alloc_at3 _ _ _ (by simp <;> omega) | exact (Below.heap_alloc _ _ _ (by simp <;> omega)).trans (heap_alloc_at3 _ _ _ (by simp <;> omega)) | exact (Below.heap_alloc _ _ _ (by simp <;> omega)).trans ((Below.heap_alloc _ _ _ (by simp <;> omega)).trans (heap_alloc_at3 _ _ _ (by simp <;> omega)))), (by first | exact heap_alloc_at3 _ _ _ (by simp <;> omega) | exact (Below.heap_alloc _ _ _ (by simp <;> omega)).trans (heap_alloc_at3 _ _ _ (by simp <;> omega)) | exact (Below.heap_alloc _ _ _ (by simp <;> omega)).trans ((Below.heap_alloc _ _ _ (by simp <;> omega)).trans (heap_alloc_at3 _ _ _ (by simp <;> omega)))), by omega, by repeat (first | exact Below.refl _ _ | refine Below.drew ?_ | refine Below.alloc ?_ (by simp <;> omega) _)⟩
        | exact ⟨_, u1.heap.size + 1, u1.heap.size + 1 + 1, rfl, (by first | exact heap_alloc_at3 _ _ _ (by simp <;> omega) | exact (Below.heap_alloc _ _ _ (by simp <;> omega)).trans (heap_alloc_at3 _ _ _ (by simp <;> omega)) | exact (Below.heap_alloc _ _ _ (by simp <;> omega)).trans ((Below.heap_alloc _ _ _ (by simp <;> omega)).trans (heap_alloc_at3 _ _ _ (by simp <;> omega)))), (by first | exact heap_alloc_at3 _ _ _ (by simp <;> omega) | exact (Below.heap_alloc _ _ _ (by simp <;> omega)).trans (heap_alloc_at3 _ _ _ (by simp <;> omega)) | exact (Below.heap_alloc _ _ _ (by simp <;> omega)).trans ((Below.heap_alloc _ _ _ (by simp <;> omega)).trans (heap_alloc_at3 _ _ _ (by simp <;> omega)))), (by first | exact heap_alloc_at3 _ _ _ (by simp <;> omega) | exact (Below.heap_alloc _ _ _ (by simp <;> omega)).trans (heap_alloc_at3 _ _ _ (by simp <;> omega)) | exact (Below.heap_alloc _ _ _ (by simp <;> omega)).trans ((Below.heap_alloc _ _ _ (by simp <;> omega)).trans (heap_alloc_at3 _ _ _ (by simp <;> omega)))), by omega, by repeat (first | exact Below.refl _ _ | refine Below.drew ?_ | refine Below.alloc ?_ (by simp <;> omega) _)⟩
        | exact ⟨_, u1.heap.size + 1 + 1, u1.heap.size, rfl, (by first | exact heap_alloc_at3 _ _ _ (by simp <;> omega) | exact (Below.heap_alloc _ _ _ (by simp <;> omega)).trans (heap_alloc_at3 _ _ _ (by simp <;> omega)) | exact (Below.heap_alloc _ _ _ (by simp <;> omega)).trans ((Below.heap_alloc _ _ _ (by simp <;> omega)).trans (heap_alloc_at3 _ _ _ (by simp <;> omega)))), (by first | exact heap_alloc_at3 _ _ _ (by simp <;> omega) | exact (Below.heap_alloc _ _ _ (by simp <;> omega)).trans (heap_alloc_at3 _ _ _ (by simp <;> omega)) | exact (Below.heap_alloc _ _ _ (by simp <;> omega)).trans ((Below.heap_alloc _ _ _ (by simp <;> omega)).trans (heap_alloc_at3 _ _ _ (by simp <;> omega)))), (by first | exact heap_alloc_at3 _ _ _ (by simp <;> omega) | exact (Below.heap_alloc _ _ _ (by simp <;> omega)).trans (heap_alloc_at3 _ _ _ (by simp <;> omega)) | exact (Below.heap_alloc _ _ _ (by simp <;> omega)).trans ((Below.heap_alloc _ _ _ (by simp <;> omega)).trans (heap_alloc_at3 _ _ _ (by simp <;> omega)))), by omega, by repeat (first | exact Below.refl _ _ | refine Below.drew ?_ | refine Below.alloc ?_ (by simp <;> omega) _)⟩
        | exact ⟨_, u1.heap.size + 1 + 1, u1.heap.size + 1, rfl, (by first | exact heap_alloc_at3 _ _ _ (by simp <;> omega) | exact (Below.heap_alloc _ _ _ (by simp <;> omega)).trans (heap_alloc_at3 _ _ _ (by simp <;> omega)) | exact (Below.heap_alloc _ _ _ (by simp <;> omega)).trans ((Below.heap_alloc _ _ _ (by simp <;> omega)).trans (heap_alloc_at3 _ _ _ (by simp <;> omega)))), (by first | exact heap_alloc_at3 _ _ _ (by simp <;> omega) | exact (Below.heap_alloc _ _ _ (by simp <;> omega)).trans (heap_alloc_at3 _ _ _ (by simp <;> omega)) | exact (Below.heap_alloc _ _ _ (by simp <;> omega)).trans ((Below.heap_alloc _ _ _ (by simp <;> omega)).trans (heap_alloc_at3 _ _ _ (by simp <;> omega)))), (by first | exact heap_alloc_at3 _ _ _ (by simp <;> omega) | exact (Below.heap_alloc _ _ _ (by simp <;> omega)).trans (heap_alloc_at3 _ _ _ (by simp <;> omega)) | exact (Below.heap_alloc _ _ _ (by simp <;> omega)).trans ((Below.heap_alloc _ _ _ (by simp <;> omega)).trans (heap_alloc_at3 _ _ _ (by simp <;> omega)))), by omega, by repeat (first | exact Below.refl _ _ | refine Below.drew ?_ | refine Below.alloc ?_ (by simp <;> omega) _)⟩
  case rest =>
  obtain ⟨g, rb, sb, rfl, hg, hrb, hsb, hne, dc⟩ := hcut
  have B2 : Below w.heap.size w wc := B1.out.trans (dc.mono B1.out.size)
  have X2 : Hid (wc.heap[w.heap.size + 1]? = some (.cells #[.slice none 0 0, .int .i64 0, .slice none 0 0, .slice none 0 0, .slice none 0 0, .slice none 0 0, .slice none 0 0, .int .i64 0, .int .i64 0, .int .i64 0] 25)) := (dc.block _ Z1.out).trans X1.out
  obtain ⟨n1, n2, n3, n4, n5, n6⟩ := hne
  obtain ⟨y2, hy2⟩ : ∃ u : World, u = wc := ⟨wc, rfl⟩
  rw [← hy2] at hg hrb hsb dc B2 X2 ⊢
  clear hy2
  have kg : ∀ j, y2.cell? ⟨g, j, none⟩ = (#[.slice v.code.a v.code.len v.code.cap, .int .i64 m.entry, .slice (some ⟨rb, 0, none⟩) 32 32, .slice v.data.a v.data.len v.data.cap, .slice (some ⟨sb, 0, none⟩) m.size.toNat m.size.toNat, .slice a len cap, .slice none 0 0, .int .i64 0, .int .i64 0, .int .i64 0] : Array Value)[j]? := fun j => cell_of_row y2 g j _ 25 (0, 0) hg
  have kr : y2.cell? ⟨rb, 2, none⟩ = some (.int .i64 0) := by rw [cell_of_row y2 rb 2 _ 3 (0, 0) hrb]; simp [madeCells]
  have kf : y2.frozen? ⟨rb, 2, none⟩ = false := frozen_of_row y2 rb 2 _ 3 hrb
  have HG : Hid (y2.heap[g]? = some (.cells #[.slice v.code.a v.code.len v.code.cap, .int .i64 m.entry, .slice (some ⟨rb, 0, none⟩) 32 32, .slice v.data.a v.data.len v.data.cap, .slice (some ⟨sb, 0, none⟩) m.size.toNat m.size.toNat, .slice a len cap, .slice none 0 0, .int .i64 0, .int .i64 0, .int .i64 0] 25)) := hg
  have HRB : Hid (y2.heap[rb]? = some (.cells (madeCells #[Value.int .i64 0] 32) 3)) := hrb
  have HSB : Hid (y2.heap[sb]? = some (.cells (madeCells #[Value.int .u8 0] m.size.toNat) 5)) := hsb
  have HB2 : Hid (Below w.heap.size w y2) := B2
  have HDC : Hid (Below u1.heap.size u1 y2) := dc
  clear hg hrb hsb B2 dc
  go_upto_region 5 with fail
  clear kg kr kf
  refine wp_at2 fun y3 hy3 => ?_
  have hrow3 : y3.heap[rb]? = some (.cells ((madeCells #[Value.int .i64 0] 32).setIfInBounds 2 (.int .i64 2097152)) 3) := by rw [hy3]; exact heap_setCell_same y2 rb 2 _ 3 _ HRB.out
  have HG3 : Hid (y3.heap[g]? = some (.cells #[.slice v.code.a v.code.len v.code.cap, .int .i64 m.entry, .slice (some ⟨rb, 0, none⟩) 32 32, .slice v.data.a v.data.len v.data.cap, .slice (some ⟨sb, 0, none⟩) m.size.toNat m.size.toNat, .slice a len cap, .slice none 0 0, .int .i64 0, .int .i64 0, .int .i64 0] 25)) := by show y3.heap[g]? = _; rw [hy3, heap_setCell_other y2 _ g _ n4]; exact HG.out
  have HSB3 : y3.heap[sb]? = some (.cells (madeCells #[Value.int .u8 0] m.size.toNat) 5) := by rw [hy3, heap_setCell_other y2 _ sb _ (Ne.symm n6)]; exact HSB.out
  have X3 : Hid (y3.heap[w.heap.size + 1]? = some (.cells #[.slice none 0 0, .int .i64 0, .slice none 0 0, .slice none 0 0, .slice none 0 0, .slice none 0 0, .slice none 0 0, .int .i64 0, .int .i64 0, .int .i64 0] 25)) := by show y3.heap[w.heap.size + 1]? = _; rw [hy3, heap_setCell_other y2 _ _ _ (by have := Z1.out; show w.heap.size + 1 ≠ rb; omega)]; exact X2.out
  have D3 : Below u1.heap.size u1 y3 := by rw [hy3]; exact HDC.out.setCell n2 _
  have B3 : Hid (Below w.heap.size w y3) := B1.out.trans (D3.mono B1.out.size)
  have Z3 : Hid (w.heap.size + 1 < y3.heap.size) := Nat.lt_of_lt_of_le Z1.out D3.size
  have hn16 : m.size.toNat ≤ maxLen := by have := HSK.out; unfold maxLen; omega
  have O3 : Hid (MOwn 0 y3 ⟨v.code, ⟨some ⟨rb, 0, none⟩, 32, 32⟩, v.data, ⟨some ⟨sb, 0, none⟩, m.size.toNat, m.size.toNat⟩, ⟨a, len, cap⟩, ⟨none, 0, 0⟩⟩ (Pl.mStart m inp)) := by
    have hio := HI.out.keep (w' := y3) B3.out
    refine ⟨hio.1.weak (Nat.zero_le _), ?_, hio.2.weak (Nat.zero_le _), ?_, (HN.out.keep B3.out).weak (Nat.zero_le _), Own.nil _ _ _ _⟩
    · show Own .i64 3 0 y3 (some ⟨rb, 0, none⟩) 32 32 Pl.regs0
      exact own_row hrow3 (by rw [Array.toList_setIfInBounds, toList_madeCells_one]; rfl) (by decide) (by decide) (by decide) (Nat.zero_le _)
    · show Own .u8 5 0 y3 (some ⟨sb, 0, none⟩) m.size.toNat m.size.toNat (List.replicate m.size.toNat 0)
      exact own_row HSB3 (by rw [toList_madeCells_one, List.map_replicate]) (by simp) hn16 (fun x hx => by rw [List.eq_of_mem_replicate hx]; decide) (Nat.zero_le _)
  have HSZ : Hid (Pl.mSize (Pl.mStart m inp) ≤ 1048576) := by
    have h1 := HSK.out
    have h2 := HL.out
    have h3 := HN.out.row.1
    have h4 := HCD.out
    show Pl.mSize (Pl.mStart m inp) ≤ 1048576
    unfold Pl.mSize Pl.mStart Pl.regs0
    simp
    omega
  clear hy3 HG HSB HRB HB2 HDC X2 D3 hrow3 HSB3 hn16 Q1 X1 B1 hS0
  go_wp2_with (refine wpList_load_row rfl 25 _ rfl (g) ?hx 25 #[.slice v.code.a v.code.len v.code.cap, .int .i64 m.entry, .slice (some ⟨rb, 0, none⟩) 32 32, .slice v.data.a v.data.len v.data.cap, .slice (some ⟨sb, 0, none⟩) m.size.toNat m.size.toNat, .slice a len cap, .slice none 0 0, .int .i64 0, .int .i64 0, .int .i64 0] (0, 0) _ ?hg Try.underlying25 ?hd ?hi ?_; (case hx => rfl); (case hg => exact HG3.out); (case hd => rfl); (case hi => kernel_rfl))
  refine (l3Copy_any ⟨v.code, ⟨some ⟨rb, 0, none⟩, 32, 32⟩, v.data, ⟨some ⟨sb, 0, none⟩, m.size.toNat, m.size.toNat⟩, ⟨a, len, cap⟩, ⟨none, 0, 0⟩⟩ (Pl.mStart m inp) y3 O3.out HSZ.out).mono ?_
  rintro e y4 ⟨v1, rfl, o4, _, d4⟩
  have X4 : Hid (y4.heap[w.heap.size + 1]? = some (.cells #[.slice none 0 0, .int .i64 0, .slice none 0 0, .slice none 0 0, .slice none 0 0, .slice none 0 0, .slice none 0 0, .int .i64 0, .int .i64 0, .int .i64 0] 25)) := (d4.block _ Z3.out).trans X3.out
  have B4 : Hid (Below w.heap.size w y4) := B3.out.trans (d4.mono B3.out.size)
  have O4 : Hid (MOwn (w.heap.size + 2) y4 v1 (Pl.mStart m inp)) := MOwn.weak o4 (by have := Z3.out; omega)
  have Z4 : Hid (w.heap.size + 1 < y3.heap.size) := Z3.out
  clear d4 HG3 X3 B3 O3 HSZ
  go_wp2_with (refine wpList_store_row rfl 25 _ _ rfl (w.heap.size + 1) #[.slice v1.code.a v1.code.len v1.code.cap, .int .i64 m.entry, .slice v1.regs.a v1.regs.len v1.regs.cap, .slice v1.data.a v1.data.len v1.data.cap, .slice v1.stk.a v1.stk.len v1.stk.cap, .slice v1.inp.a v1.inp.len v1.inp.cap, .slice v1.out.a v1.out.len v1.out.cap, .int .i64 0, .int .i64 0, .int .i64 0] ?hx ?hy 25 #[.slice none 0 0, .int .i64 0, .slice none 0 0, .slice none 0 0, .slice none 0 0, .slice none 0 0, .slice none 0 0, .int .i64 0, .int .i64 0, .int .i64 0] ?hg ?hi ?ho ?h1 ?_; (case hx => rfl); (case hy => rfl); (case hg => exact X4.out); (case hi => kernel_rfl); (case ho => kernel_rfl); (case h1 => kernel_rfl); refine Hid.out ?_)
  unfold Hid
  go_wp2
  exact bodyPost_ret (v := .tuple #[.agg #[.slice v1.code.a v1.code.len v1.code.cap, .int .i64 m.entry, .slice v1.regs.a v1.regs.len v1.regs.cap, .slice v1.data.a v1.data.len v1.data.cap, .slice v1.stk.a v1.stk.len v1.stk.cap, .slice v1.inp.a v1.inp.len v1.inp.cap, .slice v1.out.a v1.out.len v1.out.cap, .int .i64 0, .int .i64 0, .int .i64 0], .bool true]) (results_cell_tmp2 Try.results44 _ _ (w.heap.size + 1) 25 #[.slice v1.code.a v1.code.len v1.code.cap, .int .i64 m.entry, .slice v1.regs.a v1.regs.len v1.regs.cap, .slice v1.data.a v1.data.len v1.data.cap, .slice v1.stk.a v1.stk.len v1.stk.cap, .slice v1.inp.a v1.inp.len v1.inp.cap, .slice v1.out.a v1.out.len v1.out.cap, .int .i64 0, .int .i64 0, .int .i64 0] (0, 0) _ _ rfl rfl (setRow_heap _ _ _ _ 25 _ X4.out) Try.underlying25 rfl (by kernel_rfl)) rfl ⟨v1, rfl, MOwn.weak (MOwn.setRow2 O4.out (by omega) _) (by omega), below_setRow2 B4.out (by omega) _⟩
end Go.Proofs.Ytfcfnbncgadomaa.W
