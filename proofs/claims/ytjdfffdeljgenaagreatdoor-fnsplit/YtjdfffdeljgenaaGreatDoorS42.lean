import Derived.Test.YtjdfffdeljgenaaGreatDoorS41
import Derived.Test.YtjdfffdeljgenaaGreatDoorS33
set_option linter.unusedVariables false
set_option linter.unusedSimpArgs false
namespace Go.Proofs.YtjdfffdeljgenaaGreatDoor.W
open Go.RowKit
structure ZMid (w : World) (c g : Nat) (v : MV) (m : Pl.Mac) (u : World) : Prop where
  box : u.heap[g]? = some (.cells #[.slice v.code.a v.code.len v.code.cap, .int .i64 m.pc, .slice v.regs.a v.regs.len v.regs.cap, .slice v.data.a v.data.len v.data.cap, .slice v.stk.a v.stk.len v.stk.cap, .slice v.inp.a v.inp.len v.inp.cap, .slice v.out.a v.out.len v.out.cap, .int .i64 m.steps, .int .i64 m.fin, .int .i64 m.val] 25)
  res : u.heap[w.heap.size]? = some (.cells #[.slice none 0 0, .int .i64 0, .slice none 0 0, .slice none 0 0, .slice none 0 0, .slice none 0 0, .slice none 0 0, .int .i64 0, .int .i64 0, .int .i64 0] 25)
  own : MOwn (w.heap.size + 1) u v m
  rd : RdOk u c
  bel : OnlyB c w u
  rg : w.heap.size < g
  cw : c < w.heap.size
  sz : Pl.mSize m ≤ 200000
  pc : -1099511627776 ≤ m.pc ∧ m.pc ≤ 1099511627776
  st : -1099511627776 ≤ m.steps ∧ m.steps ≤ 1099511627776
  fi : -1099511627776 ≤ m.fin ∧ m.fin ≤ 1099511627776
  va : -1099511627776 ≤ m.val ∧ m.val ≤ 1099511627776
theorem ZMid.lt {w u : World} {c g : Nat} {v : MV} {m : Pl.Mac} (h : ZMid w c g v m u) : g < u.heap.size := (Array.getElem?_eq_some_iff.1 h.box).1
theorem ZMid.cell {w u : World} {c g : Nat} {v : MV} {m : Pl.Mac} (h : ZMid w c g v m u) (j : Nat) : u.cell? ⟨g, j, none⟩ = (#[.slice v.code.a v.code.len v.code.cap, .int .i64 m.pc, .slice v.regs.a v.regs.len v.regs.cap, .slice v.data.a v.data.len v.data.cap, .slice v.stk.a v.stk.len v.stk.cap, .slice v.inp.a v.inp.len v.inp.cap, .slice v.out.a v.out.len v.out.cap, .int .i64 m.steps, .int .i64 m.fin, .int .i64 m.val] : Array Value)[j]? := cell_of_row u g j _ 25 (0, 0) h.box
theorem ZMid.frz {w u : World} {c g : Nat} {v : MV} {m : Pl.Mac} (h : ZMid w c g v m u) (j : Nat) : u.frozen? ⟨g, j, none⟩ = false := frozen_of_row u g j _ 25 h.box
theorem mown_only {c lo : Nat} {u u' : World} {v : MV} {m : Pl.Mac} (h : MOwn lo u v m) (ho : OnlyB c u u') (hc : c < lo) : MOwn lo u' v m :=
  ⟨h.1.othr fun i hi => ho.block i (h.1.at_ hi).2 (by have := h.1.at_ hi; omega), h.2.1.othr fun i hi => ho.block i (h.2.1.at_ hi).2 (by have := h.2.1.at_ hi; omega), h.2.2.1.othr fun i hi => ho.block i (h.2.2.1.at_ hi).2 (by have := h.2.2.1.at_ hi; omega), h.2.2.2.1.othr fun i hi => ho.block i (h.2.2.2.1.at_ hi).2 (by have := h.2.2.2.1.at_ hi; omega), h.2.2.2.2.1.othr fun i hi => ho.block i (h.2.2.2.2.1.at_ hi).2 (by have := h.2.2.2.2.1.at_ hi; omega), h.2.2.2.2.2.othr fun i hi => ho.block i (h.2.2.2.2.2.at_ hi).2 (by have := h.2.2.2.2.2.at_ hi; omega)⟩
theorem ZMid.only {w u u' : World} {c g : Nat} {v : MV} {m : Pl.Mac} (h : ZMid w c g v m u) (hr : RdOk u' c) (ho : OnlyB c u u') : ZMid w c g v m u' := by
  have hl := h.lt
  have h1 := h.rg
  have h2 := h.cw
  exact ⟨(ho.block g hl (by omega)).trans h.box, (ho.block _ (by omega) (by omega)).trans h.res, mown_only h.own ho (by omega), hr, h.bel.trans ho, h1, h2, h.sz, h.pc, h.st, h.fi, h.va⟩
theorem ZMid.alloc {w u : World} {c g : Nat} {v : MV} {m : Pl.Mac} (h : ZMid w c g v m u) (o : Obj) : ZMid w c g v m (u.alloc o) := h.only (h.rd.alloc o) (OnlyB.of_below (below_alloc u o))
theorem ZMid.drew {w u : World} {c g : Nat} {v : MV} {m : Pl.Mac} (h : ZMid w c g v m u) : ZMid w c g v m u.drew := h.only (h.rd.drewN 1) ⟨rfl, rfl, rfl, Nat.le_refl _, fun _ _ _ => rfl⟩
theorem ZMid.setNum {w u : World} {c g : Nat} {v : MV} {m : Pl.Mac} (h : ZMid w c g v m u) (ap : Apart g v) (j : Nat) (x : Int) (m2 : Pl.Mac) (e : (#[.slice v.code.a v.code.len v.code.cap, .int .i64 m.pc, .slice v.regs.a v.regs.len v.regs.cap, .slice v.data.a v.data.len v.data.cap, .slice v.stk.a v.stk.len v.stk.cap, .slice v.inp.a v.inp.len v.inp.cap, .slice v.out.a v.out.len v.out.cap, .int .i64 m.steps, .int .i64 m.fin, .int .i64 m.val] : Array Value).setIfInBounds j (.int .i64 x) = #[.slice v.code.a v.code.len v.code.cap, .int .i64 m2.pc, .slice v.regs.a v.regs.len v.regs.cap, .slice v.data.a v.data.len v.data.cap, .slice v.stk.a v.stk.len v.stk.cap, .slice v.inp.a v.inp.len v.inp.cap, .slice v.out.a v.out.len v.out.cap, .int .i64 m2.steps, .int .i64 m2.fin, .int .i64 m2.val]) (e1 : m2.code = m.code ∧ m2.regs = m.regs ∧ m2.data = m.data ∧ m2.stk = m.stk ∧ m2.inp = m.inp ∧ m2.out = m.out)
    (pc : -1099511627776 ≤ m2.pc ∧ m2.pc ≤ 1099511627776) (st : -1099511627776 ≤ m2.steps ∧ m2.steps ≤ 1099511627776) (fi : -1099511627776 ≤ m2.fin ∧ m2.fin ≤ 1099511627776) (va : -1099511627776 ≤ m2.val ∧ m2.val ≤ 1099511627776) : ZMid w c g v m2 (u.setCell ⟨g, j, none⟩ (.int .i64 x)) := by
  have h1 := h.rg
  have h2 := h.cw
  have hk : ∀ y, y ≠ g → (u.setCell ⟨g, j, none⟩ (.int .i64 x)).heap[y]? = u.heap[y]? := fun y hy => Below.heap_setCell u ⟨g, j, none⟩ _ y hy
  obtain ⟨a1, a2, a3, a4, a5, a6⟩ := e1
  refine ⟨row_put h.box j _ e, (hk _ (by omega)).trans h.res, ?_, h.rd.setOther (by omega), h.bel.low ((Below.refl _ _).setCell (show w.heap.size ≤ g by omega) _), h1, h2, by have := h.sz; unfold Pl.mSize at this ⊢; rw [a1, a2, a3, a4, a5, a6]; exact this, pc, st, fi, va⟩
  unfold MOwn
  rw [a1, a2, a3, a4, a5, a6]
  exact ⟨h.own.1.other fun y hy => hk y (ap.ne 1 (by decide) (by decide) (by rw [← hy]; rfl)), h.own.2.1.other fun y hy => hk y (ap.ne 2 (by decide) (by decide) (by rw [← hy]; rfl)), h.own.2.2.1.other fun y hy => hk y (ap.ne 3 (by decide) (by decide) (by rw [← hy]; rfl)), h.own.2.2.2.1.other fun y hy => hk y (ap.ne 4 (by decide) (by decide) (by rw [← hy]; rfl)), h.own.2.2.2.2.1.other fun y hy => hk y (ap.ne 5 (by decide) (by decide) (by rw [← hy]; rfl)), h.own.2.2.2.2.2.other fun y hy => hk y (ap.ne 6 (by decide) (by decide) (by rw [← hy]; rfl))⟩
theorem ZMid.own_lt {w u : World} {c g : Nat} {v : MV} {m : Pl.Mac} (h : ZMid w c g v m u) (j x : Nat) (hj : 1 ≤ j) (hx : (blks g v)[j]? = some (some x)) : x < u.heap.size := (mown_blk h.own g j x hj hx).2
theorem ZMid.setRegs {w u u1 : World} {c g : Nat} {v : MV} {m : Pl.Mac} (h : ZMid w c g v m u) (ap : Apart g v) (s : SV) (zs : List Int) (ho : Own .i64 3 (w.heap.size + 1) u1 s.a s.len s.cap zs)
    (hk : ∀ b, b < u.heap.size → (∀ x, v.regs.a.map (·.block) = some x → b ≠ x) → u1.heap[b]? = u.heap[b]?) (hb : Below w.heap.size u u1)
    (hn : ∀ x, s.a.map (·.block) = some x → v.regs.a.map (·.block) = some x ∨ u.heap.size ≤ x) (hl : zs.length ≤ m.regs.length + 10001) (hsz : Pl.mSize m ≤ 180000) :
    ZMid w c g { v with regs := s } { m with regs := zs } (u1.setCell ⟨g, 2, none⟩ (.slice s.a s.len s.cap)) := by
  have hlt := h.lt
  have h1 := h.rg
  have h2 := h.cw
  have hs := hb.size
  have bx : u1.heap[g]? = some (.cells #[.slice v.code.a v.code.len v.code.cap, .int .i64 m.pc, .slice v.regs.a v.regs.len v.regs.cap, .slice v.data.a v.data.len v.data.cap, .slice v.stk.a v.stk.len v.stk.cap, .slice v.inp.a v.inp.len v.inp.cap, .slice v.out.a v.out.len v.out.cap, .int .i64 m.steps, .int .i64 m.fin, .int .i64 m.val] 25) := (hk g hlt fun x hx e => ap.ne 2 (by decide) (by decide) (show (blks g v)[2]? = some (some x) by rw [← hx]; rfl) e.symm).trans h.box
  have hg : ∀ y, y ≠ g → (u1.setCell ⟨g, 2, none⟩ (.slice s.a s.len s.cap)).heap[y]? = u1.heap[y]? := fun y hy => Below.heap_setCell u1 ⟨g, 2, none⟩ _ y hy
  have hne : ∀ x, s.a.map (·.block) = some x → x ≠ g := fun x hx e => by
    rcases hn x hx with q | q
    · exact ap.ne 2 (by decide) (by decide) (show (blks g v)[2]? = some (some x) by rw [← q]; rfl) e
    · omega
  have hr : u1.heap[w.heap.size]? = u.heap[w.heap.size]? := hk _ (by omega) fun x hx e => by have := (mown_blk h.own g 2 x (by decide) (show (blks g v)[2]? = some (some x) by rw [← hx]; rfl)).1; omega
  exact ⟨row_put bx 2 _ rfl, (hg _ (by omega)).trans (hr.trans h.res), ⟨(h.own.1.other fun y hy => hk y (h.own_lt 1 y (by decide) (by rw [← hy]; rfl)) (fun x hx e => ap.two 2 1 (by decide) (by decide) (by decide) (by rw [← hx]; rfl) (show (blks g v)[1]? = some (some y) by rw [← hy]; rfl) e)).other fun y hy => hg y (ap.ne 1 (by decide) (by decide) (by rw [← hy]; rfl)), ho.other fun y hy => hg y (hne y hy), (h.own.2.2.1.other fun y hy => hk y (h.own_lt 3 y (by decide) (by rw [← hy]; rfl)) (fun x hx e => ap.two 2 3 (by decide) (by decide) (by decide) (by rw [← hx]; rfl) (show (blks g v)[3]? = some (some y) by rw [← hy]; rfl) e)).other fun y hy => hg y (ap.ne 3 (by decide) (by decide) (by rw [← hy]; rfl)), (h.own.2.2.2.1.other fun y hy => hk y (h.own_lt 4 y (by decide) (by rw [← hy]; rfl)) (fun x hx e => ap.two 2 4 (by decide) (by decide) (by decide) (by rw [← hx]; rfl) (show (blks g v)[4]? = some (some y) by rw [← hy]; rfl) e)).other fun y hy => hg y (ap.ne 4 (by decide) (by decide) (by rw [← hy]; rfl)), (h.own.2.2.2.2.1.other fun y hy => hk y (h.own_lt 5 y (by decide) (by rw [← hy]; rfl)) (fun x hx e => ap.two 2 5 (by decide) (by decide) (by decide) (by rw [← hx]; rfl) (show (blks g v)[5]? = some (some y) by rw [← hy]; rfl) e)).other fun y hy => hg y (ap.ne 5 (by decide) (by decide) (by rw [← hy]; rfl)), (h.own.2.2.2.2.2.other fun y hy => hk y (h.own_lt 6 y (by decide) (by rw [← hy]; rfl)) (fun x hx e => ap.two 2 6 (by decide) (by decide) (by decide) (by rw [← hx]; rfl) (show (blks g v)[6]? = some (some y) by rw [← hy]; rfl) e)).other fun y hy => hg y (ap.ne 6 (by decide) (by decide) (by rw [← hy]; rfl))⟩, (h.rd.keep hb h2).setOther (by omega), (h.bel.low hb).low ((Below.refl _ _).setCell (show w.heap.size ≤ g by omega) _), h1, h2, by unfold Pl.mSize at hsz ⊢; dsimp only; omega, h.pc, h.st, h.fi, h.va⟩
theorem ZMid.setStk {w u u1 : World} {c g : Nat} {v : MV} {m : Pl.Mac} (h : ZMid w c g v m u) (ap : Apart g v) (s : SV) (zs : List Int) (ho : Own .u8 5 (w.heap.size + 1) u1 s.a s.len s.cap zs)
    (hk : ∀ b, b < u.heap.size → (∀ x, v.stk.a.map (·.block) = some x → b ≠ x) → u1.heap[b]? = u.heap[b]?) (hb : Below w.heap.size u u1)
    (hn : ∀ x, s.a.map (·.block) = some x → v.stk.a.map (·.block) = some x ∨ u.heap.size ≤ x) (hl : zs.length ≤ m.stk.length + 10001) (hsz : Pl.mSize m ≤ 180000) :
    ZMid w c g { v with stk := s } { m with stk := zs } (u1.setCell ⟨g, 4, none⟩ (.slice s.a s.len s.cap)) := by
  have hlt := h.lt
  have h1 := h.rg
  have h2 := h.cw
  have hs := hb.size
  have bx : u1.heap[g]? = some (.cells #[.slice v.code.a v.code.len v.code.cap, .int .i64 m.pc, .slice v.regs.a v.regs.len v.regs.cap, .slice v.data.a v.data.len v.data.cap, .slice v.stk.a v.stk.len v.stk.cap, .slice v.inp.a v.inp.len v.inp.cap, .slice v.out.a v.out.len v.out.cap, .int .i64 m.steps, .int .i64 m.fin, .int .i64 m.val] 25) := (hk g hlt fun x hx e => ap.ne 4 (by decide) (by decide) (show (blks g v)[4]? = some (some x) by rw [← hx]; rfl) e.symm).trans h.box
  have hg : ∀ y, y ≠ g → (u1.setCell ⟨g, 4, none⟩ (.slice s.a s.len s.cap)).heap[y]? = u1.heap[y]? := fun y hy => Below.heap_setCell u1 ⟨g, 4, none⟩ _ y hy
  have hne : ∀ x, s.a.map (·.block) = some x → x ≠ g := fun x hx e => by
    rcases hn x hx with q | q
    · exact ap.ne 4 (by decide) (by decide) (show (blks g v)[4]? = some (some x) by rw [← q]; rfl) e
    · omega
  have hr : u1.heap[w.heap.size]? = u.heap[w.heap.size]? := hk _ (by omega) fun x hx e => by have := (mown_blk h.own g 4 x (by decide) (show (blks g v)[4]? = some (some x) by rw [← hx]; rfl)).1; omega
  exact ⟨row_put bx 4 _ rfl, (hg _ (by omega)).trans (hr.trans h.res), ⟨(h.own.1.other fun y hy => hk y (h.own_lt 1 y (by decide) (by rw [← hy]; rfl)) (fun x hx e => ap.two 4 1 (by decide) (by decide) (by decide) (by rw [← hx]; rfl) (show (blks g v)[1]? = some (some y) by rw [← hy]; rfl) e)).other fun y hy => hg y (ap.ne 1 (by decide) (by decide) (by rw [← hy]; rfl)), (h.own.2.1.other fun y hy => hk y (h.own_lt 2 y (by decide) (by rw [← hy]; rfl)) (fun x hx e => ap.two 4 2 (by decide) (by decide) (by decide) (by rw [← hx]; rfl) (show (blks g v)[2]? = some (some y) by rw [← hy]; rfl) e)).other fun y hy => hg y (ap.ne 2 (by decide) (by decide) (by rw [← hy]; rfl)), (h.own.2.2.1.other fun y hy => hk y (h.own_lt 3 y (by decide) (by rw [← hy]; rfl)) (fun x hx e => ap.two 4 3 (by decide) (by decide) (by decide) (by rw [← hx]; rfl) (show (blks g v)[3]? = some (some y) by rw [← hy]; rfl) e)).other fun y hy => hg y (ap.ne 3 (by decide) (by decide) (by rw [← hy]; rfl)), ho.other fun y hy => hg y (hne y hy), (h.own.2.2.2.2.1.other fun y hy => hk y (h.own_lt 5 y (by decide) (by rw [← hy]; rfl)) (fun x hx e => ap.two 4 5 (by decide) (by decide) (by decide) (by rw [← hx]; rfl) (show (blks g v)[5]? = some (some y) by rw [← hy]; rfl) e)).other fun y hy => hg y (ap.ne 5 (by decide) (by decide) (by rw [← hy]; rfl)), (h.own.2.2.2.2.2.other fun y hy => hk y (h.own_lt 6 y (by decide) (by rw [← hy]; rfl)) (fun x hx e => ap.two 4 6 (by decide) (by decide) (by decide) (by rw [← hx]; rfl) (show (blks g v)[6]? = some (some y) by rw [← hy]; rfl) e)).other fun y hy => hg y (ap.ne 6 (by decide) (by decide) (by rw [← hy]; rfl))⟩, (h.rd.keep hb h2).setOther (by omega), (h.bel.low hb).low ((Below.refl _ _).setCell (show w.heap.size ≤ g by omega) _), h1, h2, by unfold Pl.mSize at hsz ⊢; dsimp only; omega, h.pc, h.st, h.fi, h.va⟩
theorem ZMid.setInp {w u u1 : World} {c g : Nat} {v : MV} {m : Pl.Mac} (h : ZMid w c g v m u) (ap : Apart g v) (s : SV) (zs : List Int) (ho : Own .u8 5 (w.heap.size + 1) u1 s.a s.len s.cap zs)
    (hk : ∀ b, b < u.heap.size → (∀ x, v.inp.a.map (·.block) = some x → b ≠ x) → u1.heap[b]? = u.heap[b]?) (hb : Below w.heap.size u u1)
    (hn : ∀ x, s.a.map (·.block) = some x → v.inp.a.map (·.block) = some x ∨ u.heap.size ≤ x) (hl : zs.length ≤ m.inp.length + 10001) (hsz : Pl.mSize m ≤ 180000) :
    ZMid w c g { v with inp := s } { m with inp := zs } (u1.setCell ⟨g, 5, none⟩ (.slice s.a s.len s.cap)) := by
  have hlt := h.lt
  have h1 := h.rg
  have h2 := h.cw
  have hs := hb.size
  have bx : u1.heap[g]? = some (.cells #[.slice v.code.a v.code.len v.code.cap, .int .i64 m.pc, .slice v.regs.a v.regs.len v.regs.cap, .slice v.data.a v.data.len v.data.cap, .slice v.stk.a v.stk.len v.stk.cap, .slice v.inp.a v.inp.len v.inp.cap, .slice v.out.a v.out.len v.out.cap, .int .i64 m.steps, .int .i64 m.fin, .int .i64 m.val] 25) := (hk g hlt fun x hx e => ap.ne 5 (by decide) (by decide) (show (blks g v)[5]? = some (some x) by rw [← hx]; rfl) e.symm).trans h.box
  have hg : ∀ y, y ≠ g → (u1.setCell ⟨g, 5, none⟩ (.slice s.a s.len s.cap)).heap[y]? = u1.heap[y]? := fun y hy => Below.heap_setCell u1 ⟨g, 5, none⟩ _ y hy
  have hne : ∀ x, s.a.map (·.block) = some x → x ≠ g := fun x hx e => by
    rcases hn x hx with q | q
    · exact ap.ne 5 (by decide) (by decide) (show (blks g v)[5]? = some (some x) by rw [← q]; rfl) e
    · omega
  have hr : u1.heap[w.heap.size]? = u.heap[w.heap.size]? := hk _ (by omega) fun x hx e => by have := (mown_blk h.own g 5 x (by decide) (show (blks g v)[5]? = some (some x) by rw [← hx]; rfl)).1; omega
  exact ⟨row_put bx 5 _ rfl, (hg _ (by omega)).trans (hr.trans h.res), ⟨(h.own.1.other fun y hy => hk y (h.own_lt 1 y (by decide) (by rw [← hy]; rfl)) (fun x hx e => ap.two 5 1 (by decide) (by decide) (by decide) (by rw [← hx]; rfl) (show (blks g v)[1]? = some (some y) by rw [← hy]; rfl) e)).other fun y hy => hg y (ap.ne 1 (by decide) (by decide) (by rw [← hy]; rfl)), (h.own.2.1.other fun y hy => hk y (h.own_lt 2 y (by decide) (by rw [← hy]; rfl)) (fun x hx e => ap.two 5 2 (by decide) (by decide) (by decide) (by rw [← hx]; rfl) (show (blks g v)[2]? = some (some y) by rw [← hy]; rfl) e)).other fun y hy => hg y (ap.ne 2 (by decide) (by decide) (by rw [← hy]; rfl)), (h.own.2.2.1.other fun y hy => hk y (h.own_lt 3 y (by decide) (by rw [← hy]; rfl)) (fun x hx e => ap.two 5 3 (by decide) (by decide) (by decide) (by rw [← hx]; rfl) (show (blks g v)[3]? = some (some y) by rw [← hy]; rfl) e)).other fun y hy => hg y (ap.ne 3 (by decide) (by decide) (by rw [← hy]; rfl)), (h.own.2.2.2.1.other fun y hy => hk y (h.own_lt 4 y (by decide) (by rw [← hy]; rfl)) (fun x hx e => ap.two 5 4 (by decide) (by decide) (by decide) (by rw [← hx]; rfl) (show (blks g v)[4]? = some (some y) by rw [← hy]; rfl) e)).other fun y hy => hg y (ap.ne 4 (by decide) (by decide) (by rw [← hy]; rfl)), ho.other fun y hy => hg y (hne y hy), (h.own.2.2.2.2.2.other fun y hy => hk y (h.own_lt 6 y (by decide) (by rw [← hy]; rfl)) (fun x hx e => ap.two 5 6 (by decide) (by decide) (by decide) (by rw [← hx]; rfl) (show (blks g v)[6]? = some (some y) by rw [← hy]; rfl) e)).other fun y hy => hg y (ap.ne 6 (by decide) (by decide) (by rw [← hy]; rfl))⟩, (h.rd.keep hb h2).setOther (by omega), (h.bel.low hb).low ((Below.refl _ _).setCell (show w.heap.size ≤ g by omega) _), h1, h2, by unfold Pl.mSize at hsz ⊢; dsimp only; omega, h.pc, h.st, h.fi, h.va⟩
theorem ZMid.setOut {w u u1 : World} {c g : Nat} {v : MV} {m : Pl.Mac} (h : ZMid w c g v m u) (ap : Apart g v) (s : SV) (zs : List Int) (ho : Own .u8 5 (w.heap.size + 1) u1 s.a s.len s.cap zs)
    (hk : ∀ b, b < u.heap.size → (∀ x, v.out.a.map (·.block) = some x → b ≠ x) → u1.heap[b]? = u.heap[b]?) (hb : Below w.heap.size u u1)
    (hn : ∀ x, s.a.map (·.block) = some x → v.out.a.map (·.block) = some x ∨ u.heap.size ≤ x) (hl : zs.length ≤ m.out.length + 10001) (hsz : Pl.mSize m ≤ 180000) :
    ZMid w c g { v with out := s } { m with out := zs } (u1.setCell ⟨g, 6, none⟩ (.slice s.a s.len s.cap)) := by
  have hlt := h.lt
  have h1 := h.rg
  have h2 := h.cw
  have hs := hb.size
  have bx : u1.heap[g]? = some (.cells #[.slice v.code.a v.code.len v.code.cap, .int .i64 m.pc, .slice v.regs.a v.regs.len v.regs.cap, .slice v.data.a v.data.len v.data.cap, .slice v.stk.a v.stk.len v.stk.cap, .slice v.inp.a v.inp.len v.inp.cap, .slice v.out.a v.out.len v.out.cap, .int .i64 m.steps, .int .i64 m.fin, .int .i64 m.val] 25) := (hk g hlt fun x hx e => ap.ne 6 (by decide) (by decide) (show (blks g v)[6]? = some (some x) by rw [← hx]; rfl) e.symm).trans h.box
  have hg : ∀ y, y ≠ g → (u1.setCell ⟨g, 6, none⟩ (.slice s.a s.len s.cap)).heap[y]? = u1.heap[y]? := fun y hy => Below.heap_setCell u1 ⟨g, 6, none⟩ _ y hy
  have hne : ∀ x, s.a.map (·.block) = some x → x ≠ g := fun x hx e => by
    rcases hn x hx with q | q
    · exact ap.ne 6 (by decide) (by decide) (show (blks g v)[6]? = some (some x) by rw [← q]; rfl) e
    · omega
  have hr : u1.heap[w.heap.size]? = u.heap[w.heap.size]? := hk _ (by omega) fun x hx e => by have := (mown_blk h.own g 6 x (by decide) (show (blks g v)[6]? = some (some x) by rw [← hx]; rfl)).1; omega
  exact ⟨row_put bx 6 _ rfl, (hg _ (by omega)).trans (hr.trans h.res), ⟨(h.own.1.other fun y hy => hk y (h.own_lt 1 y (by decide) (by rw [← hy]; rfl)) (fun x hx e => ap.two 6 1 (by decide) (by decide) (by decide) (by rw [← hx]; rfl) (show (blks g v)[1]? = some (some y) by rw [← hy]; rfl) e)).other fun y hy => hg y (ap.ne 1 (by decide) (by decide) (by rw [← hy]; rfl)), (h.own.2.1.other fun y hy => hk y (h.own_lt 2 y (by decide) (by rw [← hy]; rfl)) (fun x hx e => ap.two 6 2 (by decide) (by decide) (by decide) (by rw [← hx]; rfl) (show (blks g v)[2]? = some (some y) by rw [← hy]; rfl) e)).other fun y hy => hg y (ap.ne 2 (by decide) (by decide) (by rw [← hy]; rfl)), (h.own.2.2.1.other fun y hy => hk y (h.own_lt 3 y (by decide) (by rw [← hy]; rfl)) (fun x hx e => ap.two 6 3 (by decide) (by decide) (by decide) (by rw [← hx]; rfl) (show (blks g v)[3]? = some (some y) by rw [← hy]; rfl) e)).other fun y hy => hg y (ap.ne 3 (by decide) (by decide) (by rw [← hy]; rfl)), (h.own.2.2.2.1.other fun y hy => hk y (h.own_lt 4 y (by decide) (by rw [← hy]; rfl)) (fun x hx e => ap.two 6 4 (by decide) (by decide) (by decide) (by rw [← hx]; rfl) (show (blks g v)[4]? = some (some y) by rw [← hy]; rfl) e)).other fun y hy => hg y (ap.ne 4 (by decide) (by decide) (by rw [← hy]; rfl)), (h.own.2.2.2.2.1.other fun y hy => hk y (h.own_lt 5 y (by decide) (by rw [← hy]; rfl)) (fun x hx e => ap.two 6 5 (by decide) (by decide) (by decide) (by rw [← hx]; rfl) (show (blks g v)[5]? = some (some y) by rw [← hy]; rfl) e)).other fun y hy => hg y (ap.ne 5 (by decide) (by decide) (by rw [← hy]; rfl)), ho.other fun y hy => hg y (hne y hy)⟩, (h.rd.keep hb h2).setOther (by omega), (h.bel.low hb).low ((Below.refl _ _).setCell (show w.heap.size ≤ g by omega) _), h1, h2, by unfold Pl.mSize at hsz ⊢; dsimp only; omega, h.pc, h.st, h.fi, h.va⟩
theorem ZMid.setPc {w u : World} {c g : Nat} {v : MV} {m : Pl.Mac} (h : ZMid w c g v m u) (ap : Apart g v) (x : Int) (hx : -1099511627776 ≤ x ∧ x ≤ 1099511627776) : ZMid w c g v { m with pc := x } (u.setCell ⟨g, 1, none⟩ (.int .i64 x)) := h.setNum ap 1 x _ rfl ⟨rfl, rfl, rfl, rfl, rfl, rfl⟩ hx h.st h.fi h.va
theorem ZMid.setSteps {w u : World} {c g : Nat} {v : MV} {m : Pl.Mac} (h : ZMid w c g v m u) (ap : Apart g v) (x : Int) (hx : -1099511627776 ≤ x ∧ x ≤ 1099511627776) : ZMid w c g v { m with steps := x } (u.setCell ⟨g, 7, none⟩ (.int .i64 x)) := h.setNum ap 7 x _ rfl ⟨rfl, rfl, rfl, rfl, rfl, rfl⟩ h.pc hx h.fi h.va
theorem ZMid.setFin {w u : World} {c g : Nat} {v : MV} {m : Pl.Mac} (h : ZMid w c g v m u) (ap : Apart g v) (x : Int) (hx : -1099511627776 ≤ x ∧ x ≤ 1099511627776) : ZMid w c g v { m with fin := x } (u.setCell ⟨g, 8, none⟩ (.int .i64 x)) := h.setNum ap 8 x _ rfl ⟨rfl, rfl, rfl, rfl, rfl, rfl⟩ h.pc h.st hx h.va
theorem ZMid.setVal {w u : World} {c g : Nat} {v : MV} {m : Pl.Mac} (h : ZMid w c g v m u) (ap : Apart g v) (x : Int) (hx : -1099511627776 ≤ x ∧ x ≤ 1099511627776) : ZMid w c g v { m with val := x } (u.setCell ⟨g, 9, none⟩ (.int .i64 x)) := h.setNum ap 9 x _ rfl ⟨rfl, rfl, rfl, rfl, rfl, rfl⟩ h.pc h.st h.fi hx
theorem ZMid.grewRegs {w u U w1 : World} {c g G cap : Nat} {v : MV} {m : Pl.Mac} (h : ZMid w c g v m u) (ap : Apart g v) (hU : Below u.heap.size u U) (x : Int) (hx : (Lit.int .i64 x).wf = true) (hown : w1.ownsRow (w.heap.size + 1) 3 1 (.slice (some ⟨G, 0, none⟩) (v.regs.len + 1) cap) (v.regs.len + 1) (m.regs.map (Value.int .i64) ++ [.int .i64 x]))
    (hgr : U.grownBy w1 (Value.slice v.regs.a v.regs.len v.regs.cap).ownBlock) (hat : (Value.slice v.regs.a v.regs.len v.regs.cap).ownBlock = some G ∨ G = U.heap.size) (hsz : Pl.mSize m ≤ 180000) :
    ZMid w c g { v with regs := ⟨some ⟨G, 0, none⟩, v.regs.len + 1, cap⟩ } { m with regs := m.regs ++ [x] } (w1.setCell ⟨g, 2, none⟩ (.slice (some ⟨G, 0, none⟩) (v.regs.len + 1) cap)) := by
  have hs := hU.size
  have hlt := h.lt
  have h1 := h.rg
  have hob : (Value.slice v.regs.a v.regs.len v.regs.cap).ownBlock = v.regs.a.map (·.block) := own_blk h.own.2.1
  have hbU : Below w.heap.size u U := hU.mono (by omega)
  refine h.setRegs ap ⟨some ⟨G, 0, none⟩, v.regs.len + 1, cap⟩ (m.regs ++ [x]) ⟨by rw [List.map_append]; exact hown, fun n hn => ?_⟩ (fun b hb hne => (hgr.block b (by omega) (fun e => hne b (by rw [← hob]; exact e.symm) rfl)).trans (hU.block b hb)) (hbU.grown hgr (by omega) fun j hj => by have := h.own.2.1.at_ hj; omega) (fun y hy => ?_) (by simp) hsz
  · rcases List.mem_append.1 hn with hn | hn
    · exact h.own.2.1.2 n hn
    · simp at hn; subst hn; exact hx
  · cases hy
    rw [hob] at hat
    rcases hat with e | e
    · exact .inl e
    · exact .inr (by show u.heap.size ≤ G; omega)
theorem ZMid.farRegs {w u U w1 : World} {c g : Nat} {v : MV} {m : Pl.Mac} (h : ZMid w c g v m u) (ap : Apart g v) (hU : Below u.heap.size u U) (hgr : U.grownBy w1 (Value.slice v.regs.a v.regs.len v.regs.cap).ownBlock) : w1.heap[g]? = some (.cells #[.slice v.code.a v.code.len v.code.cap, .int .i64 m.pc, .slice v.regs.a v.regs.len v.regs.cap, .slice v.data.a v.data.len v.data.cap, .slice v.stk.a v.stk.len v.stk.cap, .slice v.inp.a v.inp.len v.inp.cap, .slice v.out.a v.out.len v.out.cap, .int .i64 m.steps, .int .i64 m.fin, .int .i64 m.val] 25) := by
  have hob : (Value.slice v.regs.a v.regs.len v.regs.cap).ownBlock = v.regs.a.map (·.block) := own_blk h.own.2.1
  refine (hgr.block g (by have := h.lt; have := hU.size; omega) (fun e => ?_)).trans ((hU.block g h.lt).trans h.box)
  rw [hob] at e
  exact ap.ne 2 (by decide) (by decide) (show (blks g v)[2]? = some (some g) by rw [e]; rfl) rfl
theorem ZMid.grewStk {w u U w1 : World} {c g G cap : Nat} {v : MV} {m : Pl.Mac} (h : ZMid w c g v m u) (ap : Apart g v) (hU : Below u.heap.size u U) (x : Int) (hx : (Lit.int .u8 x).wf = true) (hown : w1.ownsRow (w.heap.size + 1) 5 1 (.slice (some ⟨G, 0, none⟩) (v.stk.len + 1) cap) (v.stk.len + 1) (m.stk.map (Value.int .u8) ++ [.int .u8 x]))
    (hgr : U.grownBy w1 (Value.slice v.stk.a v.stk.len v.stk.cap).ownBlock) (hat : (Value.slice v.stk.a v.stk.len v.stk.cap).ownBlock = some G ∨ G = U.heap.size) (hsz : Pl.mSize m ≤ 180000) :
    ZMid w c g { v with stk := ⟨some ⟨G, 0, none⟩, v.stk.len + 1, cap⟩ } { m with stk := m.stk ++ [x] } (w1.setCell ⟨g, 4, none⟩ (.slice (some ⟨G, 0, none⟩) (v.stk.len + 1) cap)) := by
  have hs := hU.size
  have hlt := h.lt
  have h1 := h.rg
  have hob : (Value.slice v.stk.a v.stk.len v.stk.cap).ownBlock = v.stk.a.map (·.block) := own_blk h.own.2.2.2.1
  have hbU : Below w.heap.size u U := hU.mono (by omega)
  refine h.setStk ap ⟨some ⟨G, 0, none⟩, v.stk.len + 1, cap⟩ (m.stk ++ [x]) ⟨by rw [List.map_append]; exact hown, fun n hn => ?_⟩ (fun b hb hne => (hgr.block b (by omega) (fun e => hne b (by rw [← hob]; exact e.symm) rfl)).trans (hU.block b hb)) (hbU.grown hgr (by omega) fun j hj => by have := h.own.2.2.2.1.at_ hj; omega) (fun y hy => ?_) (by simp) hsz
  · rcases List.mem_append.1 hn with hn | hn
    · exact h.own.2.2.2.1.2 n hn
    · simp at hn; subst hn; exact hx
  · cases hy
    rw [hob] at hat
    rcases hat with e | e
    · exact .inl e
    · exact .inr (by show u.heap.size ≤ G; omega)
theorem ZMid.farStk {w u U w1 : World} {c g : Nat} {v : MV} {m : Pl.Mac} (h : ZMid w c g v m u) (ap : Apart g v) (hU : Below u.heap.size u U) (hgr : U.grownBy w1 (Value.slice v.stk.a v.stk.len v.stk.cap).ownBlock) : w1.heap[g]? = some (.cells #[.slice v.code.a v.code.len v.code.cap, .int .i64 m.pc, .slice v.regs.a v.regs.len v.regs.cap, .slice v.data.a v.data.len v.data.cap, .slice v.stk.a v.stk.len v.stk.cap, .slice v.inp.a v.inp.len v.inp.cap, .slice v.out.a v.out.len v.out.cap, .int .i64 m.steps, .int .i64 m.fin, .int .i64 m.val] 25) := by
  have hob : (Value.slice v.stk.a v.stk.len v.stk.cap).ownBlock = v.stk.a.map (·.block) := own_blk h.own.2.2.2.1
  refine (hgr.block g (by have := h.lt; have := hU.size; omega) (fun e => ?_)).trans ((hU.block g h.lt).trans h.box)
  rw [hob] at e
  exact ap.ne 4 (by decide) (by decide) (show (blks g v)[4]? = some (some g) by rw [e]; rfl) rfl
theorem ZMid.setReg {w u : World} {c g r : Nat} {v : MV} {m : Pl.Mac} (h : ZMid w c g v m u) (ap : Apart g v) (hr : v.regs.a = some ⟨r, 0, none⟩) (n : Nat) (x : Int) (hx : (Lit.int .i64 x).wf = true) : ZMid w c g v { m with regs := m.regs.set n x } (u.setCell ⟨r, n, none⟩ (.int .i64 x)) := by
  have h1 := h.rg
  have h2 := h.cw
  have hb2 : (blks g v)[2]? = some (some r) := by simp [blks, hr]
  have hrl := (mown_blk h.own g 2 r (by decide) hb2).1
  have hg := ap.ne 2 (by decide) (by decide) hb2
  have hk : ∀ y, y ≠ r → (u.setCell ⟨r, n, none⟩ (.int .i64 x)).heap[y]? = u.heap[y]? := fun y hy => Below.heap_setCell u ⟨r, n, none⟩ _ y hy
  refine ⟨(hk g (Ne.symm hg)).trans h.box, (hk _ (by omega)).trans h.res, ⟨h.own.1.other fun y hy => hk y (ap.two 2 1 (by decide) (by decide) (by decide) hb2 (by rw [← hy]; rfl)), ?_, h.own.2.2.1.other fun y hy => hk y (ap.two 2 3 (by decide) (by decide) (by decide) hb2 (by rw [← hy]; rfl)), h.own.2.2.2.1.other fun y hy => hk y (ap.two 2 4 (by decide) (by decide) (by decide) hb2 (by rw [← hy]; rfl)), h.own.2.2.2.2.1.other fun y hy => hk y (ap.two 2 5 (by decide) (by decide) (by decide) hb2 (by rw [← hy]; rfl)), h.own.2.2.2.2.2.other fun y hy => hk y (ap.two 2 6 (by decide) (by decide) (by decide) hb2 (by rw [← hy]; rfl))⟩, h.rd.setOther (by omega), h.bel.low ((Below.refl _ _).setCell (show w.heap.size ≤ r by omega) _), h1, h2, by have := h.sz; unfold Pl.mSize at this ⊢; dsimp only; rw [List.length_set]; exact this, h.pc, h.st, h.fi, h.va⟩
  have ho := h.own.2.1.1
  have hw := h.own.2.1.2
  rw [hr] at ho
  show Own _ _ _ _ v.regs.a _ _ _
  rw [hr]
  refine ⟨?_, fun q hq => ?_⟩
  · rw [List.map_set]; exact (ho.stored n (.int .i64 x)).1
  · rcases List.mem_or_eq_of_mem_set hq with hq | rfl
    · exact hw q hq
    · exact hx
end Go.Proofs.YtjdfffdeljgenaaGreatDoor.W
