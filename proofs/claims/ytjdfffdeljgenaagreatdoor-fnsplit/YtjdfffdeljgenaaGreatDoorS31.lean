import Derived.Test.YtjdfffdeljgenaaGreatDoorS16
import Derived.Test.YtjdfffdeljgenaaGreatDoorS17
import Derived.Test.YtjdfffdeljgenaaGreatDoorS33
import Derived.Test.YtjdfffdeljgenaaGreatDoorS09
import Derived.Test.YtjdfffdeljgenaaGreatDoorS04
import Derived.Test.YtjdfffdeljgenaaGreatDoorS02
set_option linter.unusedVariables false
set_option linter.unusedSimpArgs false
namespace Go.Proofs.YtjdfffdeljgenaaGreatDoor.W
open Go.RowKit
theorem Run.other {D : Nat → Prop} {g : Nat} {u u' : World} {v : MV} {m : Pl.Mac} (h : Run D g u v m) (hs : u.heap.size ≤ u'.heap.size) (hb : ∀ (i x : Nat), (blks g v)[i]? = some (some x) → u'.heap[x]? = u.heap[x]?) : Run D g u' v m :=
  ⟨fun x hx => ⟨Nat.lt_of_lt_of_le (h.av x hx).1 hs, (h.av x hx).2⟩, (hb 0 g rfl).trans h.box,
   h.code.other hs fun x hx => hb 1 x (by show some (v.code.a.map (·.block)) = _; rw [hx]),
   h.regs.other fun x hx => hb 2 x (by show some (v.regs.a.map (·.block)) = _; rw [hx]),
   h.data.other fun x hx => hb 3 x (by show some (v.data.a.map (·.block)) = _; rw [hx]),
   h.stk.other fun x hx => hb 4 x (by show some (v.stk.a.map (·.block)) = _; rw [hx]),
   h.inp.other hs fun x hx => hb 5 x (by show some (v.inp.a.map (·.block)) = _; rw [hx]),
   h.out.other fun x hx => hb 6 x (by show some (v.out.a.map (·.block)) = _; rw [hx]),
   h.ap, fun i x hx => Nat.lt_of_lt_of_le (h.lt i x hx) hs, fun i x hx j => (World.frozen?_of_block (w := u) (hb i x hx)).trans (h.fz i x hx j)⟩
def Seen (D : Nat → Prop) (lo s : Nat) (u : World) (ns : List Int) : Prop := ∀ k, k < ns.length → u.cell? ⟨s, k, none⟩ = some (.pointer none) ∨ ∃ b, u.cell? ⟨s, k, none⟩ = some (.pointer (some ⟨b, 0, none⟩)) ∧ D b ∧ lo ≤ b ∧ u.heap[b]? = some (.cells (Pl.decV (ns.getD k 0)) 74) ∧ Pl.dec (ns.getD k 0) ≠ 0
def rcells (g s n : Nat) (v : MV) : Array Value := #[.pointer (some ⟨g, 0, none⟩), .iface 78 (.slice v.data.a v.data.len v.data.cap), .iface 79 (.slice v.stk.a v.stk.len v.stk.cap), .slice (some ⟨s, 0, none⟩) n n]
structure Rn (D : Nat → Prop) (lo p g s : Nat) (u : World) (v : MV) (m : Pl.Mac) : Prop where
  run : Run D g u v m
  pd : D p
  sd : D s
  ps : p ≠ s
  pl : p < lo
  sl : s < lo
  ls : lo ≤ u.heap.size
  row : u.heap[p]? = some (.cells (rcells g s m.code.length v) 57)
  tabs : Tabs u
  td : D 0 ∧ D 1 ∧ D 2 ∧ 0 ≠ s ∧ 1 ≠ s ∧ 2 ≠ s
  fz : ∀ k, u.frozen? ⟨s, k, none⟩ = false
  seen : Seen D lo s u m.code
theorem Tabs.keep {u u' : World} (h : Tabs u) (h0 : u'.heap[0]? = u.heap[0]?) (h1 : u'.heap[1]? = u.heap[1]?) (h2 : u'.heap[2]? = u.heap[2]?) : Tabs u' :=
  ⟨fun k hk => (World.cell?_of_block (w := u) h0).trans (h.ali k hk), fun k hk => (World.cell?_of_block (w := u) h1).trans (h.lds k hk), fun k hk => (World.cell?_of_block (w := u) h2).trans (h.sts k hk)⟩
theorem Rn.rr {D : Nat → Prop} {lo p g s : Nat} {u : World} {v : MV} {m : Pl.Mac} (h : Rn D lo p g s u v m) : Rr D p g u v m := ⟨h.run, h.pd, cell_of_row u p 0 _ 57 (0, 0) h.row⟩
theorem Rn.cell {D : Nat → Prop} {lo p g s : Nat} {u : World} {v : MV} {m : Pl.Mac} (h : Rn D lo p g s u v m) (j : Nat) : u.cell? ⟨p, j, none⟩ = (rcells g s m.code.length v)[j]? := cell_of_row u p j _ 57 (0, 0) h.row
theorem Rn.step {D : Nat → Prop} {lo p g s : Nat} {u : World} {v : MV} {m : Pl.Mac} (h : Rn D lo p g s u v m) {u' : World} {v' : MV} {m' : Pl.Mac} (hR : Run D g u' v' m') (hM : MemS v v') (hc : m'.code = m.code) (X : Nat) (xp : X ≠ p) (xs : X ≠ s) (xl : X < lo) (xt : 0 ≠ X ∧ 1 ≠ X ∧ 2 ≠ X) (hS : St (fun x => D x ∧ x ≠ X) u u') : Rn D lo p g s u' v' m' := by
  have ks : u'.heap[s]? = u.heap[s]? := hS.keep s ⟨h.sd, xs.symm⟩
  refine ⟨hR, h.pd, h.sd, h.ps, h.pl, h.sl, Nat.le_trans h.ls hS.size, ?_, h.tabs.keep (hS.keep _ ⟨h.td.1, xt.1⟩) (hS.keep _ ⟨h.td.2.1, xt.2.1⟩) (hS.keep _ ⟨h.td.2.2.1, xt.2.2⟩), h.td, fun k => (World.frozen?_of_block (w := u) ks).trans (h.fz k), ?_⟩
  · rw [hS.keep p ⟨h.pd, xp.symm⟩, h.row, hc]
    unfold rcells
    rw [hM.data, hM.stk]
  · intro k hk
    rw [hc] at hk ⊢
    rcases h.seen k hk with e | ⟨b, e, hb, hl, hrow, hd⟩
    · exact .inl ((World.cell?_of_block (w := u) ks).trans e)
    · exact .inr ⟨b, (World.cell?_of_block (w := u) ks).trans e, hb, hl, (hS.keep b ⟨hb, by omega⟩).trans hrow, hd⟩
theorem Rn.keep {D : Nat → Prop} {lo p g s : Nat} {u : World} {v : MV} {m : Pl.Mac} (h : Rn D lo p g s u v m) {u' : World} (hB : Below u.heap.size u u') : Rn D lo p g s u' v m := by
  have ks : u'.heap[s]? = u.heap[s]? := hB.block s (h.run.av s h.sd).1
  refine ⟨h.run.keep hB, h.pd, h.sd, h.ps, h.pl, h.sl, Nat.le_trans h.ls hB.size, (hB.block p (h.run.av p h.pd).1).trans h.row, h.tabs.keep (hB.block _ (h.run.av _ h.td.1).1) (hB.block _ (h.run.av _ h.td.2.1).1) (hB.block _ (h.run.av _ h.td.2.2.1).1), h.td, fun k => (World.frozen?_of_block (w := u) ks).trans (h.fz k), ?_⟩
  intro k hk
  rcases h.seen k hk with e | ⟨b, e, hb, hl, hrow, hd⟩
  · exact .inl ((World.cell?_of_block (w := u) ks).trans e)
  · exact .inr ⟨b, (World.cell?_of_block (w := u) ks).trans e, hb, hl, (hB.block b (h.run.av b hb).1).trans hrow, hd⟩
def fetchEnd (m : Pl.Mac) : Ending :=
  if Pl.place m.code.length m.pc = -1 then ends 1 else if Pl.dec (Pl.word m) = 0 then ends 2 else .returned (.agg (Pl.decV (Pl.word m)))
theorem rfetch_run {D : Nat → Prop} {lo p g s : Nat} {u : World} {v : MV} {m : Pl.Mac} (h : Rn D lo p g s u v m) (hv : Pl.Vd m) :
    Calls Tryz.prog 63 #[.pointer (some ⟨p, 0, none⟩)] u fun e u' => e = fetchEnd m ∧ ∃ D' : Nat → Prop, (∀ x, D x → D' x) ∧ Rn D' lo p g s u' v m ∧ St (fun x => D x ∧ x ≠ s) u u' := by
  have hcl : m.code.length = v.code.len := h.run.code.1
  have cm : u.cell? ⟨p, 0, none⟩ = some (.pointer (some ⟨g, 0, none⟩)) := h.cell 0
  have cs : u.cell? ⟨p, 3, none⟩ = some (.slice (some ⟨s, 0, none⟩) m.code.length m.code.length) := h.cell 3
  have cc : u.cell? ⟨g, 0, none⟩ = some (.slice v.code.a m.code.length v.code.cap) := by rw [hcl]; exact h.run.cell 0
  have cp : u.cell? ⟨g, 1, none⟩ = some (.int .i64 m.pc) := h.run.cell 1
  have hn := hv.code
  have keep : ∀ u', Below u.heap.size u u' → ∃ D' : Nat → Prop, (∀ x, D x → D' x) ∧ Rn D' lo p g s u' v m ∧ St (fun x => D x ∧ x ≠ s) u u' := fun u' hB => ⟨D, fun _ q => q, h.keep hB, (h.run.st hB).mono fun x q => q.1⟩
  unfold fetchEnd
  rcases Pl.place_cases m.code.length m.pc with hq | ⟨k, hq, hk⟩
  · rw [if_pos hq]
    exact (rfetch_pc p g _ _ _ m.pc hn hv.pc u cm cc cp hq).mono fun e u' ⟨he, hB⟩ => ⟨he, keep u' hB⟩
  rw [if_neg (by omega)]
  have hw : Pl.word m = m.code.getD k 0 := by unfold Pl.word; rw [hq]; rfl
  rw [hw]
  rcases h.seen k hk with e | ⟨b, e, hb, hl, hrow, hd⟩
  rotate_left
  · rw [if_neg hd]
    exact (rfetch_old p g _ _ _ m.pc hn hv.pc u cm cc cp k hq hk s b cs e _ _ _ _ _ hrow).mono fun e u' ⟨he, hB⟩ => ⟨he, keep u' hB⟩
  obtain ⟨i1, i2, i3, i4, i5⟩ := h.run.code
  rcases i5 with i5 | ⟨cb, co, ia, _, hbb, hcc⟩
  · omega
  have cw : u.cell? ⟨cb, co + k, none⟩ = some (.int .i64 (m.code.getD k 0)) := hcc k (by omega)
  rw [ia] at cc
  by_cases hd : Pl.dec (m.code.getD k 0) = 0
  · rw [if_pos hd]
    refine (rfetch_bad p g cb co _ _ m.pc hn hv.pc u cm cc cp k hq hk s cs e _ cw (Pl.dec (m.code.getD k 0) : Int) (Pl.dRd (m.code.getD k 0)) (Pl.dR1 (m.code.getD k 0)) (Pl.dR2 (m.code.getD k 0)) (Pl.dIm (m.code.getD k 0)) (fun U => ?_)).mono fun e u' ⟨he, hB⟩ => ⟨he, keep u' hB⟩
    have := implDec_any (m.code.getD k 0) U
    rw [show (Pl.dec (m.code.getD k 0) != 0) = false by rw [hd]; rfl] at this
    exact this
  rw [if_neg hd]
  refine (rfetch_new p g cb co _ _ m.pc hn hv.pc u cm cc cp k hq hk s cs e _ cw (Pl.dec (m.code.getD k 0) : Int) (Pl.dRd (m.code.getD k 0)) (Pl.dR1 (m.code.getD k 0)) (Pl.dR2 (m.code.getD k 0)) (Pl.dIm (m.code.getD k 0)) h.ps (h.fz k) (fun U => ?_)).mono fun e2 u' ⟨he, b, hb1, hb2, hB⟩ => ⟨he, ?_⟩
  · have := implDec_any (m.code.getD k 0) U
    rw [show (Pl.dec (m.code.getD k 0) != 0) = true by simpa using hd] at this
    exact this
  have hS1 : St (fun x => D x ∧ x ≠ s) u (u.setCell ⟨s, k, none⟩ (.pointer (some ⟨b, 0, none⟩))) := St.set fun x hx => hx.2
  have hsz : (u.setCell ⟨s, k, none⟩ (.pointer (some ⟨b, 0, none⟩))).heap.size = u.heap.size := by simp
  have hR1 : Run D g (u.setCell ⟨s, k, none⟩ (.pointer (some ⟨b, 0, none⟩))) v m := h.run.other (by omega) fun i x hx => Below.heap_setCell _ _ _ _ (fun q => (h.run.av s h.sd).2 i (by rw [hx]; exact congrArg _ (congrArg _ q)))
  have hS : St (fun x => D x ∧ x ≠ s) u u' := ⟨hB.os, hB.tape, hB.output, by have := hB.size; omega, fun x hx => (hB.block x (h.run.av x hx.1).1).trans (hS1.keep x hx)⟩
  have hR2 : Run D g u' v m := hR1.keep (by rw [hsz]; exact hB)
  have hlt : b < u'.heap.size := (Array.getElem?_eq_some_iff.1 hb2).1
  have hslt := (h.run.av s h.sd).1
  have hR3 : Run (fun x => D x ∨ x = b) g u' v m := by
    refine ⟨fun x hx => ?_, hR2.box, hR2.code, hR2.regs, hR2.data, hR2.stk, hR2.inp, hR2.out, hR2.ap, hR2.lt, hR2.fz⟩
    rcases hx with hx | rfl
    · exact hR2.av x hx
    · exact ⟨hlt, fun i q => by have := h.run.lt i _ q; omega⟩
  have ks : ∀ j, u'.cell? ⟨s, j, none⟩ = (u.setCell ⟨s, k, none⟩ (.pointer (some ⟨b, 0, none⟩))).cell? ⟨s, j, none⟩ := fun j => World.cell?_of_block (w := u.setCell ⟨s, k, none⟩ (.pointer (some ⟨b, 0, none⟩))) (hB.block s hslt)
  refine ⟨fun x => D x ∨ x = b, fun x q => .inl q, ⟨hR3, .inl h.pd, .inl h.sd, h.ps, h.pl, h.sl, Nat.le_trans h.ls hS.size, (hS.keep p ⟨h.pd, h.ps⟩).trans h.row, h.tabs.keep (hS.keep _ ⟨h.td.1, h.td.2.2.2.1⟩) (hS.keep _ ⟨h.td.2.1, h.td.2.2.2.2.1⟩) (hS.keep _ ⟨h.td.2.2.1, h.td.2.2.2.2.2⟩), ⟨.inl h.td.1, .inl h.td.2.1, .inl h.td.2.2.1, h.td.2.2.2⟩, fun j => ?_, ?_⟩, hS⟩
  · refine (World.frozen?_of_block (w := u.setCell ⟨s, k, none⟩ (.pointer (some ⟨b, 0, none⟩))) (hB.block s hslt)).trans ?_
    rw [World.frozen?_setCell]
    exact h.fz j
  · intro j hj
    by_cases ej : j = k
    · subst ej
      exact .inr ⟨b, (ks j).trans (cell_setCell_self e), .inr rfl, Nat.le_trans h.ls hb1, hb2, hd⟩
    · have kj : u'.cell? ⟨s, j, none⟩ = u.cell? ⟨s, j, none⟩ := (ks j).trans (World.cell?_setCell_other _ _ _ _ (by intro q; injection q with _ q2; exact ej q2.symm))
      rcases h.seen j hj with e3 | ⟨b3, e3, hb3, hl3, hrow3, hd3⟩
      · exact .inl (kj.trans e3)
      · exact .inr ⟨b3, kj.trans e3, .inl hb3, hl3, (hS.keep b3 ⟨hb3, by have := h.sl; omega⟩).trans hrow3, hd3⟩
end Go.Proofs.YtjdfffdeljgenaaGreatDoor.W
namespace Go.Proofs.YtjdfffdeljgenaaGreatDoor.Pl
theorem step_pc {m : Mac} (h : place m.code.length m.pc = -1) : step m = { m with steps := m.steps + 1, fin := 2, val := 1 } := by unfold step; rw [if_pos h]
theorem step_dec {m : Mac} (h : place m.code.length m.pc ≠ -1) (hd : dec (word m) = 0) : step m = { m with steps := m.steps + 1, fin := 2, val := 2 } := by unfold step; rw [if_neg h, if_pos hd]
theorem step_bad {m : Mac} (h : place m.code.length m.pc ≠ -1) (hd : dec (word m) ≠ 0) (ha : (act { m with steps := m.steps + 1 } (insOf (word m))).2 ≠ 0) : step m = { (act { m with steps := m.steps + 1 } (insOf (word m))).1 with fin := 2, val := (act { m with steps := m.steps + 1 } (insOf (word m))).2 } := by unfold step; rw [if_neg h, if_neg hd, if_neg ha]
theorem step_good {m : Mac} (h : place m.code.length m.pc ≠ -1) (hd : dec (word m) ≠ 0) (ha : (act { m with steps := m.steps + 1 } (insOf (word m))).2 = 0) : step m = (act { m with steps := m.steps + 1 } (insOf (word m))).1 := by unfold step; rw [if_neg h, if_neg hd, if_pos ha]
theorem run_ended {m : Mac} (h : m.fin ≠ 0) (n : Nat) : run n m = m := W.Pl_run_stop fun q => h q.1
theorem form_mem : ∀ k : Nat, k < 48 → 28 ≤ k → k ≤ 36 → -2048 ≤ lo (fmN k) ∧ hi (fmN k) ≤ 2047 := by decide +kernel
theorem mem_im {n : Int} (h : dec n ≠ 0) (h1 : 28 ≤ (insOf n).op) (h2 : (insOf n).op ≤ 36) : -2048 ≤ (insOf n).im ∧ (insOf n).im ≤ 2047 := by
  obtain ⟨k1, k2, hk⟩ := dec_ok h
  replace h1 : (28 : Int) ≤ (dec n : Int) := h1
  replace h2 : (dec n : Int) ≤ 36 := h2
  have hl := form_mem (dec n) (by omega) (by omega) (by omega)
  show -2048 ≤ dIm n ∧ dIm n ≤ 2047
  generalize fmN (dec n) = f at *
  unfold okF rg imo at hk
  simp only [Bool.and_eq_true, decide_eq_true_eq] at hk
  obtain ⟨_, ⟨d1, d2⟩, _⟩ := hk
  exact ⟨by omega, by omega⟩
end Go.Proofs.YtjdfffdeljgenaaGreatDoor.Pl
namespace Go.Proofs.YtjdfffdeljgenaaGreatDoor.W
open Go.RowKit
def LopMk (fb rb p g : Nat) (fl fn st : Int) (u24 u25 u36 u37 u38 u39 : Value) (dv : Array Value)  (L : Array Bool) : Act := { tmps := #[.pointer (some ⟨fb, 0, none⟩), .pointer (some ⟨rb, 0, none⟩), .int .i64 (fl), .bool true, .bool true, .pointer (some ⟨p, 0, none⟩), .pointer (some ⟨p, 0, none⟩), .pointer (some ⟨p, 0, none⟩), .pointer (some ⟨g, 0, none⟩), .pointer (some ⟨g, 0, none⟩), .pointer (some ⟨g, 8, none⟩), .int .i64 (fn), .bool true, .bool true, .bool true, .pointer (some ⟨p, 0, none⟩), .pointer (some ⟨p, 0, none⟩), .pointer (some ⟨p, 0, none⟩), .pointer (some ⟨g, 0, none⟩), .pointer (some ⟨g, 0, none⟩), .pointer (some ⟨g, 7, none⟩), .int .i64 (st), .bool true, .bool true, u24, u25, .pointer (some ⟨p, 0, none⟩), .pointer (some ⟨p, 0, none⟩), .pointer (some ⟨p, 0, none⟩), .pointer (some ⟨g, 0, none⟩), .pointer (some ⟨g, 0, none⟩), .pointer (some ⟨g, 7, none⟩), .int .i64 (st), .int .i64 (st + 1), .pointer (some ⟨g, 0, none⟩), .pointer (some ⟨g, 7, none⟩), sld u36 L 0 (.pointer (some ⟨p, 0, none⟩)), sld u37 L 1 (.pointer (some ⟨p, 0, none⟩)), sld u38 L 2 (.agg dv), sld u39 L 3 (.tuple #[])], defers := [] }
theorem fetchEnd_ok {m : Pl.Mac} (h : fetchEnd m = .returned (.agg (Pl.decV (Pl.word m)))) : Pl.place m.code.length m.pc ≠ -1 ∧ Pl.dec (Pl.word m) ≠ 0 := by
  unfold fetchEnd at h
  by_cases hp : Pl.place m.code.length m.pc = -1
  · rw [if_pos hp] at h; cases h
  · by_cases hd : Pl.dec (Pl.word m) = 0
    · rw [if_neg hp, if_pos hd] at h; cases h
    · exact ⟨hp, hd⟩
def LoopPost (D : Nat → Prop) (lo p g s fb : Nat) (u : World) (v : MV) (m : Pl.Mac) (fuel : Int) (e : Ending) (u' : World) : Prop := ∃ (D' : Nat → Prop) (v' : MV) (m' : Pl.Mac) (f : Int), (∀ x, D x → D' x) ∧ Rn D' lo p g s u' v' m' ∧ MemS v v' ∧ St (fun x => D x ∧ x ≠ s ∧ x ≠ fb) u u' ∧ e = ends f ∧ (f = 0 → Pl.run fuel.toNat m = m') ∧ (f ≠ 0 → Pl.run fuel.toNat m = { m' with fin := 2, val := f })
theorem setCell_row {w : World} {b : Nat} {x y : Value} {t : TypeId} (h : w.heap[b]? = some (.cells #[x] t)) : (w.setCell ⟨b, 0, none⟩ y).heap[b]? = some (.cells #[y] t) := by
  simp only [World.setCell, Array.getElem?_modify, if_true]
  rw [h]
  rfl
set_option maxRecDepth 8000 in
set_option maxHeartbeats 4000000 in
theorem rloop_run {D : Nat → Prop} {lo p g s fb rb : Nat} {u : World} {v : MV} {m : Pl.Mac} (h : Rn D lo p g s u v m) (hv : Pl.Vd m) (fuel : Int) (hfl : -9223372036854775808 ≤ fuel ∧ fuel ≤ 9223372036854775807) (hfb : u.heap[fb]? = some (.cells #[.int .i64 fuel] 3)) (hrb : u.heap[rb]? = some (.cells #[.pointer (some ⟨p, 0, none⟩)] 80)) (dfb : D fb) (drb : D rb) (hne : fb ≠ rb ∧ fb ≠ p ∧ fb ≠ s ∧ rb ≠ s ∧ fb < lo ∧ 0 ≠ fb ∧ 1 ≠ fb ∧ 2 ≠ fb) :
    Calls Tryz.prog 61 #[.pointer (some ⟨fb, 0, none⟩), .pointer (some ⟨rb, 0, none⟩)] u fun e u' => LoopPost D lo p g s fb u v m fuel e u' := by
  have HH : Hid (Rn D lo p g s u v m) := h
  have HV : Hid (Pl.Vd m) := hv
  have HF : Hid (u.heap[fb]? = some (.cells #[.int .i64 fuel] 3)) := hfb
  have HRB : Hid (u.heap[rb]? = some (.cells #[.pointer (some ⟨p, 0, none⟩)] 80)) := hrb
  have HNE : Hid (fb ≠ rb ∧ fb ≠ p ∧ fb ≠ s ∧ rb ≠ s ∧ fb < lo ∧ 0 ≠ fb ∧ 1 ≠ fb ∧ 2 ≠ fb) := hne
  have HDF : Hid (D fb ∧ D rb) := ⟨dfb, drb⟩
  clear h hv hfb hrb hne dfb drb
  go_enter Tryz.func61, Tryz.ntmps61
  go_wp2_with fail
  go_loopw [] (fun wr => ∃ (D' : Nat → Prop) (v2 : MV) (m2 : Pl.Mac) (k : Nat), k ≤ fuel.toNat ∧ (∀ x, D x → D' x) ∧ Rn D' lo p g s wr v2 m2 ∧ MemS v v2 ∧ Pl.Vd m2 ∧ m2.code = m.code ∧ wr.heap[fb]? = some (.cells #[.int .i64 (fuel - k)] 3) ∧ Pl.run (fuel.toNat - k) m2 = Pl.run fuel.toNat m ∧ St (fun x => D x ∧ x ≠ s ∧ x ≠ fb) u wr) (fun wr => (intOf ((wr.cell? ⟨fb, 0, none⟩).getD undef)).toNat)
  case atStart => exact ⟨D, v, m, 0, Nat.zero_le _, fun _ q => q, HH.out, MemS.refl v, HV.out, rfl, by simpa using HF.out, rfl, St.refl _ _⟩
  case round =>
    obtain ⟨D', v2, m2, k, hk, hD, hR, hM, hVd, hcode, hfw, hrun, hS⟩ := hrel
    have cf : wr.cell? ⟨fb, 0, none⟩ = some (.int .i64 (fuel - k)) := cell_of_row wr fb 0 _ 3 (0, 0) hfw
    have zf : wr.frozen? ⟨fb, 0, none⟩ = false := frozen_of_row wr fb 0 _ 3 hfw
    have cb : wr.cell? ⟨rb, 0, none⟩ = some (.pointer (some ⟨p, 0, none⟩)) := cell_of_row wr rb 0 _ 80 (0, 0) ((hS.keep rb ⟨HDF.out.2, HNE.out.2.2.2.1, fun q => HNE.out.1 q.symm⟩).trans HRB.out)
    have cm : wr.cell? ⟨p, 0, none⟩ = some (.pointer (some ⟨g, 0, none⟩)) := hR.cell 0
    have c8 : wr.cell? ⟨g, 8, none⟩ = some (.int .i64 m2.fin) := hR.run.cell 8
    have c7 : wr.cell? ⟨g, 7, none⟩ = some (.int .i64 m2.steps) := hR.run.cell 7
    have f7 : wr.frozen? ⟨g, 7, none⟩ = false := hR.run.unfrozen 7
    have RR : Hid (Rn D' lo p g s wr v2 m2) := hR
    have VV : Hid (Pl.Vd m2) := hVd
    have SS : Hid (St (fun x => D x ∧ x ≠ s ∧ x ≠ fb) u wr) := hS
    have UU : Hid (Pl.run (fuel.toNat - k) m2 = Pl.run fuel.toNat m) := hrun
    have FW : Hid (wr.heap[fb]? = some (.cells #[.int .i64 (fuel - k)] 3)) := hfw
    have HD2 : Hid (∀ x, D x → D' x) := hD
    have MM : Hid (MemS v v2) := hM
    have HCD : Hid (m2.code = m.code) := hcode
    have HKK : Hid (k ≤ fuel.toNat) := hk
    clear hR hVd hS hrun hfw hD hM hcode hk
    by_cases hgo : (k : Int) < fuel ∧ m2.fin = 0 ∧ m2.steps < 1000000
    · obtain ⟨g1, g2, g3⟩ := hgo
      have e1 : decide ((k : Int) < fuel) = true := by simpa using g1
      have e2 : (m2.fin == 0) = true := by simpa using g2
      have e3 : decide (m2.steps < 1000000) = true := by simpa using g3
      have hst := VV.out.steps
      have hw : IntKind.i64.wrap (m2.steps + 1) = m2.steps + 1 := by rw [IntKind.wrap_i64]; omega
      have G2 : Hid (m2.fin = 0) := g2
      have G3 : Hid (m2.steps < 1000000) := g3
      clear g2 g3
      go_upto_region 3 with fail
      obtain ⟨U1, hU1⟩ : ∃ U1, U1 = wr.setCell ⟨g, 7, none⟩ (.int .i64 (m2.steps + 1)) := ⟨_, rfl⟩
      obtain ⟨m3, hm3⟩ : ∃ m3 : Pl.Mac, m3 = { m2 with steps := m2.steps + 1 } := ⟨_, rfl⟩
      have s1 : St D' wr U1 := by rw [hU1]; exact St.set (RR.out.run.ne 0 rfl)
      have r1 : Rn D' lo p g s U1 v2 m3 := RR.out.step (by rw [hU1, hm3]; exact RR.out.run.setSteps _) (MemS.refl v2) (by rw [hm3]) fb HNE.out.2.1 HNE.out.2.2.1 HNE.out.2.2.2.2.1 HNE.out.2.2.2.2.2 (s1.mono fun x hx => hx.1)
      have RU1 : Hid (Rn D' lo p g s U1 v2 m3) := r1
      have v3d : Pl.Vd m3 := by rw [hm3]; exact VV.out.setSteps _ (by have := G3.out; omega)
      have HRD : Hid (D' rb ∧ rb ≠ s) := ⟨HD2.out rb HDF.out.2, HNE.out.2.2.2.1⟩
      have cb1 : U1.drew.cell? ⟨rb, 0, none⟩ = some (.pointer (some ⟨p, 0, none⟩)) := (World.cell?_of_block (w := wr) (s1.keep rb HRD.out.1)).trans cb
      have HFE : Hid _ := rfetch_run (r1.keep (Below.refl _ _).drew) v3d
      have HRU : Hid (Pl.run (fuel.toNat - k) m2 = Pl.run fuel.toNat m) := UU.out
      have hrk : Pl.run (fuel.toNat - k) m2 = Pl.run (fuel.toNat - (k + 1)) (Pl.step m2) := by
        have : fuel.toNat - k = (fuel.toNat - (k + 1)) + 1 := by omega
        rw [this, Pl_run_go ⟨G2.out, G3.out⟩]
      have HGO : Hid (Pl.run (fuel.toNat - k) m2 = Pl.run (fuel.toNat - (k + 1)) (Pl.step m2)) := hrk
      have HST : Hid (∀ w2, St (fun x => D' x ∧ x ≠ s) U1.drew w2 → St (fun x => D x ∧ x ≠ s ∧ x ≠ fb) u w2) := fun w2 q => SS.out.trans (((s1.trans (RU1.out.run.st (Below.refl _ _).drew)).mono fun x hx => HD2.out x hx.1).trans (q.mono fun x hx => ⟨HD2.out x hx.1, hx.2.1⟩))
      have HPC : Hid (Pl.place m3.code.length m3.pc = -1 → Pl.run (fuel.toNat - k) m2 = { m3 with fin := 2, val := 1 }) := fun q => by
        rw [hm3] at q ⊢
        rw [hrk, Pl.step_pc (m := m2) q]
        exact Pl.run_ended (show (2 : Int) ≠ 0 by decide) _
      have HDC : Hid (Pl.place m3.code.length m3.pc ≠ -1 → Pl.dec (Pl.word m3) = 0 → Pl.run (fuel.toNat - k) m2 = { m3 with fin := 2, val := 2 }) := fun q q2 => by
        rw [hm3] at q q2 ⊢
        rw [hrk, Pl.step_dec (m := m2) q q2]
        exact Pl.run_ended (show (2 : Int) ≠ 0 by decide) _
      have HAC : Hid (Pl.place m3.code.length m3.pc ≠ -1 → Pl.dec (Pl.word m3) ≠ 0 → (Pl.act m3 (Pl.insOf (Pl.word m3))).2 ≠ 0 → Pl.run (fuel.toNat - k) m2 = { (Pl.act m3 (Pl.insOf (Pl.word m3))).1 with fin := 2, val := (Pl.act m3 (Pl.insOf (Pl.word m3))).2 }) := fun q q2 q3 => by
        rw [hm3] at q q2 q3 ⊢
        rw [hrk, Pl.step_bad (m := m2) q q2 q3]
        exact Pl.run_ended (show (2 : Int) ≠ 0 by decide) _
      have HOK : Hid (Pl.place m3.code.length m3.pc ≠ -1 → Pl.dec (Pl.word m3) ≠ 0 → (Pl.act m3 (Pl.insOf (Pl.word m3))).2 = 0 → Pl.step m2 = (Pl.act m3 (Pl.insOf (Pl.word m3))).1) := fun q q2 q3 => by
        rw [hm3] at q q2 q3 ⊢
        exact Pl.step_good (m := m2) q q2 q3
      have HVS : Hid (Pl.Vd (Pl.step m2) ∧ (Pl.step m2).code = m.code) := ⟨VV.out.step (fun n hn => Pl.u8_bd (RR.out.run.inp.2.2.2.1 n hn)) G3.out, (Pl.step_same m2).1.trans HCD.out⟩
      have f30 : m3.fin = 0 := by rw [hm3]; exact G2.out
      have HDO : Hid (∀ (w1 : World) (D2 : Nat → Prop), Pl.dec (Pl.word m3) ≠ 0 → Rn D2 lo p g s w1 v2 m3 → Calls Tryz.prog 62 #[.pointer (some ⟨p, 0, none⟩), .agg (Pl.decV (Pl.word m3))] w1 fun e u' => e = ends (Pl.act m3 (Pl.insOf (Pl.word m3))).2 ∧ (∃ v', MemS v2 v' ∧ Run D2 g u' v' (Pl.act m3 (Pl.insOf (Pl.word m3))).1) ∧ St D2 w1 u') := fun w1 D2 q r => by
        rw [Pl.insOf_cells q]
        exact rdo_all r.rr v3d f30 _ (Pl.insOf_ok q) (Pl.mem_im q) r.tabs (r.cell 1) (r.cell 2)
      have FW1 : Hid (U1.drew.heap[fb]? = some (.cells #[.int .i64 (fuel - k)] 3)) := (s1.keep fb (HD2.out fb HDF.out.1)).trans FW.out
      rw [← hU1]
      clear hU1 s1 r1 v3d hrk hm3 f30 c7 c8 cm cb f7 cf zf hst
      refine wp_region_any (by kernel_rfl) ?_
      change wpAny _ _ _ _ _ _ _ (World.drew _)
      refine wpAny_inw (fun L act w => ∃ w1, act = LopMk fb rb p g (fuel - k) m2.fin m2.steps u24 u25 u36 u37 u38 u39 (Pl.decV (Pl.word m3)) L ∧ TwoW U1.drew (fun w1 : World => fetchEnd m3 = .returned (.agg (Pl.decV (Pl.word m3))) ∧ (∃ D2 : Nat → Prop, (∀ x, D' x → D2 x) ∧ Rn D2 lo p g s w1 v2 m3 ∧ St (fun x => D' x ∧ x ≠ s) U1.drew w1)) (fun w2 : World => (Pl.act m3 (Pl.insOf (Pl.word m3))).2 = 0 ∧ Pl.place m3.code.length m3.pc ≠ -1 ∧ Pl.dec (Pl.word m3) ≠ 0 ∧ ∃ (D2 : Nat → Prop) (v3 : MV), (∀ x, D' x → D2 x) ∧ Rn D2 lo p g s w2 v3 (Pl.act m3 (Pl.insOf (Pl.word m3))).1 ∧ MemS v2 v3 ∧ St (fun x => D' x ∧ x ≠ s) U1.drew w2) 2 3 w1 L w) ?done (by kernel_rfl) ?step _ 4 _ _ (by kernel_rfl) ?init (by decide)
      case init => exact ⟨u, by simp only [LopMk, sld_no (up_init _ _)], TwoW.init⟩
      case step =>
        intro L act w i o hI hlt hs nl hC hd ho K hK
        obtain ⟨w1, rfl, hW⟩ := hI
        have hi_lt : i < 4 := (Array.getElem?_eq_some_iff.1 ho).1
        rcases (show i = 0 ∨ i = 1 ∨ i = 2 ∨ i = 3 by omega) with rfl | rfl | rfl | rfl
        · change some _ = some o at ho
          cases ho
          have n3 : up L 3 = false := hC.no nl 3 rfl (by kernel_rfl)
          have xb := hW.cell n3 cb1 (fun q => by obtain ⟨_, D2, _, _, y⟩ := q; exact (World.cell?_of_block (w := U1.drew) (y.keep rb (HRD.out))).trans cb1)
          simp only [LopMk]
          go_simp
          exact hK _ _ ⟨w1, by simp only [LopMk, sld_set hlt, reduceIte, Nat.reduceEqDiff]; try rfl, (hW.keep hlt (by decide) (by decide))⟩
        · change some _ = some o at ho
          cases ho
          have n2 : up L 2 = false := hC.no nl 2 rfl (by kernel_rfl)
          have n3 : up L 3 = false := hC.no n2 3 rfl (by kernel_rfl)
          have xb := hW.cell n3 cb1 (fun q => by obtain ⟨_, D2, _, _, y⟩ := q; exact (World.cell?_of_block (w := U1.drew) (y.keep rb (HRD.out))).trans cb1)
          simp only [LopMk]
          go_simp
          exact hK _ _ ⟨w1, by simp only [LopMk, sld_set hlt, reduceIte, Nat.reduceEqDiff]; try rfl, (hW.keep hlt (by decide) (by decide))⟩
        · change some _ = some o at ho
          cases ho
          have q1 : up L 1 = true := (by first | exact hd { on := 1, ground := .data } (by simp) rfl | exact hd { on := 1, ground := .chain } (by simp) rfl | exact hd { on := 1, ground := .phase } (by simp) rfl)
          have n3 : up L 3 = false := hC.no nl 3 rfl (by kernel_rfl)
          obtain rfl := hW.1 nl
          simp only [LopMk, sld_yes q1]
          go_simp
          refine Calls.mono HFE.out ?_
          rintro e w2 ⟨rfl, D2, y1, y2, y3⟩
          by_cases hp : Pl.place m3.code.length m3.pc = -1
          · rw [show fetchEnd m3 = .panicked [{ v := .iface 97 (.int .i64 1), recovered := false }] by unfold fetchEnd; rw [if_pos hp]; rfl]
            refine panic_exit (P := Tryz.prog) (fn := Tryz.f61) rfl ?_
            refine ⟨D2, v2, m3, 1, fun x hx => y1 x (HD2.out x hx), y2, MM.out, HST.out _ y3, rfl, fun q => absurd q (by decide), fun _ => ?_⟩
            rw [← HRU.out]
            exact HPC.out hp
          by_cases hd0 : Pl.dec (Pl.word m3) = 0
          · rw [show fetchEnd m3 = .panicked [{ v := .iface 97 (.int .i64 2), recovered := false }] by unfold fetchEnd; rw [if_neg hp, if_pos hd0]; rfl]
            refine panic_exit (P := Tryz.prog) (fn := Tryz.f61) rfl ?_
            refine ⟨D2, v2, m3, 2, fun x hx => y1 x (HD2.out x hx), y2, MM.out, HST.out _ y3, rfl, fun q => absurd q (by decide), fun _ => ?_⟩
            rw [← HRU.out]
            exact HDC.out hp hd0
          have hfe : fetchEnd m3 = .returned (.agg (Pl.decV (Pl.word m3))) := by unfold fetchEnd; rw [if_neg hp, if_neg hd0]
          rw [hfe]
          go_simp
          exact hK _ _ ⟨w2, by simp only [LopMk, sld_set hlt, sld_yes q1, reduceIte, Nat.reduceEqDiff]; try rfl, TwoW.first hlt (by decide) n3 ⟨hfe, D2, y1, y2, y3⟩⟩
        · change some _ = some o at ho
          cases ho
          have q0 : up L 0 = true := (by first | exact hd { on := 0, ground := .data } (by simp) rfl | exact hd { on := 0, ground := .chain } (by simp) rfl | exact hd { on := 0, ground := .phase } (by simp) rfl)
          have q2 : up L 2 = true := (by first | exact hd { on := 2, ground := .data } (by simp) rfl | exact hd { on := 2, ground := .chain } (by simp) rfl | exact hd { on := 2, ground := .phase } (by simp) rfl)
          obtain ⟨⟨hfe, D2, y1, y2, y3⟩, y4, _⟩ := hW.2 q2
          obtain rfl := y4 nl
          obtain ⟨hp, hd0⟩ := fetchEnd_ok hfe
          simp only [LopMk, sld_yes q0, sld_yes q2]
          go_simp
          refine Calls.mono (HDO.out _ D2 hd0 y2) ?_
          rintro e w2 ⟨he, ⟨v3, hM3, hR3⟩, hS3⟩
          have y5 : Rn D2 lo p g s w2 v3 (Pl.act m3 (Pl.insOf (Pl.word m3))).1 := y2.step hR3 hM3 (Pl.act_same _ _).1 fb HNE.out.2.1 HNE.out.2.2.1 HNE.out.2.2.2.2.1 HNE.out.2.2.2.2.2 (hS3.mono fun x hx => hx.1)
          have y6 : St (fun x => D' x ∧ x ≠ s) U1.drew w2 := y3.trans (hS3.mono fun x hx => y1 x hx.1)
          by_cases hF : (Pl.act m3 (Pl.insOf (Pl.word m3))).2 = 0
          rotate_left
          · rw [he, show ends (Pl.act m3 (Pl.insOf (Pl.word m3))).2 = .panicked [{ v := .iface 97 (.int .i64 (Pl.act m3 (Pl.insOf (Pl.word m3))).2), recovered := false }] by unfold ends; rw [if_neg hF]]
            refine panic_exit (P := Tryz.prog) (fn := Tryz.f61) rfl ?_
            refine ⟨D2, v3, _, (Pl.act m3 (Pl.insOf (Pl.word m3))).2, fun x hx => y1 x (HD2.out x hx), y5, MM.out.trans hM3, HST.out _ y6, by unfold ends; rw [if_neg hF], fun q => absurd q hF, fun _ => ?_⟩
            rw [← HRU.out]
            exact HAC.out hp hd0 hF
          rw [he, hF, show ends 0 = .returned (.tuple #[]) from rfl]
          go_simp
          exact hK _ _ ⟨w, by simp only [LopMk, sld_set hlt, sld_yes q0, sld_yes q2, reduceIte, Nat.reduceEqDiff]; try rfl, hW.second hlt q2 ⟨hF, hp, hd0, D2, v3, y1, y5, hM3, y6⟩⟩
      case done =>
        rintro L act w ⟨w1, rfl, hW⟩ hall
        obtain ⟨_, _, y2⟩ := hW.2 (hall 2 (by decide))
        obtain ⟨hF, hp, hd0, D2, v3, y1, y5, hM3, y6⟩ := y2 (hall 3 (by decide))
        clear hW y2
        have e5 : Pl.step m2 = (Pl.act m3 (Pl.insOf (Pl.word m3))).1 := HOK.out hp hd0 hF
        rw [← e5] at y5
        have fw2 : w.heap[fb]? = some (.cells #[.int .i64 (fuel - k)] 3) := (y6.keep fb ⟨HD2.out fb HDF.out.1, HNE.out.2.2.1⟩).trans FW1.out
        have cf : w.cell? ⟨fb, 0, none⟩ = some (.int .i64 (fuel - k)) := cell_of_row w fb 0 _ 3 (0, 0) fw2
        have zf : w.frozen? ⟨fb, 0, none⟩ = false := frozen_of_row w fb 0 _ 3 fw2
        have Y5 : Hid (Rn D2 lo p g s w v3 (Pl.step m2)) := y5
        have Y1 : Hid (∀ x, D' x → D2 x) := y1
        have Y6 : Hid (St (fun x => D' x ∧ x ≠ s) U1.drew w) := y6
        have YM : Hid (MemS v2 v3) := hM3
        have FW2 : Hid (w.heap[fb]? = some (.cells #[.int .i64 (fuel - k)] 3)) := fw2
        have hwf : IntKind.i64.wrap (fuel - k - 1) = fuel - k - 1 := by rw [IntKind.wrap_i64]; omega
        clear y5 y1 y6 hM3 fw2 hF hp hd0 e5
        simp only [LopMk, sld_yes (hall 0 (by decide)), sld_yes (hall 1 (by decide)), sld_yes (hall 2 (by decide)), sld_yes (hall 3 (by decide))]
        go_wp2_with fail
        go_roundw
        case rel =>
          have hD2f : D2 fb := Y1.out _ (HD2.out _ HDF.out.1)
          have hSF : St (fun x => D2 x ∧ x ≠ fb) w (w.setCell ⟨fb, 0, none⟩ (.int .i64 (fuel - k - 1))) := St.set fun x hx => hx.2
          refine ⟨D2, v3, Pl.step m2, k + 1, by omega, fun x hx => Y1.out x (HD2.out x hx), Y5.out.step (Y5.out.run.other (by simp) fun i x hx => Below.heap_setCell _ _ _ _ (fun q => (Y5.out.run.av fb hD2f).2 i (by rw [hx]; exact congrArg _ (congrArg _ q)))) (MemS.refl _) rfl fb HNE.out.2.1 HNE.out.2.2.1 HNE.out.2.2.2.2.1 HNE.out.2.2.2.2.2 hSF, MM.out.trans YM.out, HVS.out.1, HVS.out.2, ?_, HGO.out.symm.trans HRU.out, (HST.out _ Y6.out).trans (hSF.mono fun x hx => ⟨Y1.out x (HD2.out x hx.1), hx.2.2⟩)⟩
          rw [setCell_row FW2.out]
          show some (Obj.cells #[.int .i64 (fuel - k - 1)] 3 (0, 0)) = _
          rw [show fuel - (k : Int) - 1 = fuel - ((k + 1 : Nat) : Int) by omega]
        case measure =>
          have cw : wr.cell? ⟨fb, 0, none⟩ = some (.int .i64 (fuel - k)) := cell_of_row wr fb 0 _ 3 (0, 0) FW.out
          rw [cell_setCell_self cf, cw]
          show (fuel - (k : Int) - 1).toNat < (fuel - (k : Int)).toNat
          omega
    · have hfin : Pl.run fuel.toNat m = m2 := by
        rw [← UU.out]
        by_cases g1 : (k : Int) < fuel
        · exact Pl_run_stop fun q => hgo ⟨g1, q⟩
        · have : fuel.toNat - k = 0 := by omega
          rw [this]; rfl
      have HFIN : Hid (Pl.run fuel.toNat m = m2) := hfin
      have hend : ∀ (b1 b2 b3 : Bool), b1 = decide ((k : Int) < fuel) → b2 = (m2.fin == 0) → b3 = decide (m2.steps < 1000000) → (b1 && b2 && b3) = false := by
        intro b1 b2 b3 h1 h2 h3
        rw [h1, h2, h3]
        by_cases q1 : (k : Int) < fuel
        · by_cases q2 : m2.fin = 0
          · by_cases q3 : m2.steps < 1000000
            · exact absurd ⟨q1, q2, q3⟩ hgo
            · simp [q3]
          · simp [q2]
        · simp [q1]
      obtain ⟨b1, hb1'⟩ : ∃ b1, decide ((k : Int) < fuel) = b1 := ⟨_, rfl⟩
      obtain ⟨b2, hb2'⟩ : ∃ b2, (m2.fin == 0) = b2 := ⟨_, rfl⟩
      obtain ⟨b3, hb3'⟩ : ∃ b3, decide (m2.steps < 1000000) = b3 := ⟨_, rfl⟩
      have hbb := hend b1 b2 b3 hb1'.symm hb2'.symm hb3'.symm
      clear hend hgo hfin UU
      cases b1
      rotate_left
      cases b2
      rotate_left
      cases b3
      rotate_left
      · exact absurd hbb (by decide)
      all_goals
        clear hbb
        go_wp2_with fail
        go_end0
        refine ⟨D', v2, m2, 0, HD2.out, RR.out, MM.out, SS.out, rfl, fun _ => HFIN.out, fun q => absurd rfl q⟩
end Go.Proofs.YtjdfffdeljgenaaGreatDoor.W
namespace Go.Proofs.YtjdfffdeljgenaaGreatDoor.W
open Go.RowKit
set_option maxRecDepth 100000 in
theorem catchP (p : Addr) (x c : Int) (older : List PanicEntry) (w : World) (hc : w.cell? p = some (.int .i64 x)) (hz : w.frozen? p = false) :
    CallsD Tryz.prog 78 #[.pointer (some p)] (.panicking ({ v := .iface 97 (.int .i64 c), recovered := false } :: older)) w fun e u' w' =>
      e = .returned (.tuple #[]) ∧ u' = .panicking ({ v := .iface 97 (.int .i64 c), recovered := true } :: older) ∧ w' = w.setCell p (.int .i64 c) := by
  refine callsD_of_wpS Tryz.func78 rfl fun c₀ cs hu => ?_
  apply wpS_seq
  apply wpS_region
  simp [wpOpsS, go_sem, recoverD, hu, Tryz.ntmps78, Exit.thenS]
  apply wpS_seq
  apply wpS_region
  have hn : ∀ w : World, (binOp .neq 20 (.iface 97 (.int .i64 c)) .nilIface).run Tryz.prog w = .ok (.bool true) w := fun _ => by kernel_rfl
  simp [wpOpsS, go_sem, hn, Exit.thenS]
  refine wpS_cond (t := true) (by simp [Act.eval, Array.replicate]) ?_
  simp only [if_true]
  apply wpS_region
  have hta : ∀ w : World, (Instr.typeAssert (.iface 97 (.int .i64 c)) 20 97 false).run Tryz.prog w = .ok (.int .i64 c) w := fun _ => by kernel_rfl
  simp [wpOpsS, go_sem, hc, hz, hta, bodyPostS, results, Tryz.results78]
set_option maxRecDepth 100000 in
theorem catchI (p : Addr) (w : World) :
    CallsD Tryz.prog 78 #[.pointer (some p)] .returning w fun e u' w' => e = .returned (.tuple #[]) ∧ u' = .returning ∧ w' = w := by
  refine callsD_of_wpS Tryz.func78 rfl fun c₀ cs hu => ?_
  apply wpS_seq
  apply wpS_region
  simp [wpOpsS, go_sem, recoverD, hu, Tryz.ntmps78, Exit.thenS]
  apply wpS_seq
  apply wpS_region
  have hn : ∀ w : World, (binOp .neq 20 .nilIface .nilIface).run Tryz.prog w = .ok (.bool false) w := fun _ => by kernel_rfl
  simp [wpOpsS, go_sem, hn, Exit.thenS]
  refine wpS_cond (t := false) (by simp [Act.eval, Array.replicate]) ?_
  simp only [Bool.false_eq_true, if_false]
  refine wpS_of_wp (wp_skip ?_)
  cases c₀
  simp_all [bodyPostS, results, Tryz.results78]
set_option maxRecDepth 100000 in
set_option maxHeartbeats 1000000 in
theorem faultOf_R (caps : Array Value) (w : World) (post : Int → World → Prop)
    (HD : Calls Tryz.prog 61 caps (w.alloc (.cells #[.int .i64 0] 3)) fun e w' => ∃ f, e = ends f ∧ post f w') (HC : Hid (∀ f u, post f u → u.heap[w.heap.size]? = some (.cells #[.int .i64 0] 3))) :
    Calls Tryz.prog 60 #[.func (.func 61) #[] caps] w fun e w' => ∃ f u, e = .returned (.int .i64 f) ∧ post f u ∧ w' = u.setCell ⟨w.heap.size, 0, none⟩ (.int .i64 f) := by
  have hmf : ∀ (fn : Fn) (first cap : Array Value) (w : World), (Instr.makeFunc fn first cap).run Tryz.prog w = .ok (.func fn first cap) w := fun _ _ _ _ => rfl
  go_enter_defers Tryz.func60, Tryz.ntmps60
  go_wp2_with fail
  refine HD.mono ?_
  rintro e u ⟨f, rfl, hp⟩
  have hc := cell_of_row u w.heap.size 0 _ 3 (0, 0) (HC.out f u hp)
  have hz := frozen_of_row u w.heap.size 0 _ 3 (HC.out f u hp)
  have hc' : u.cell? ⟨w.heap.size, 0, none⟩ = some (.int .i64 0) := hc
  have HP : Hid (post f u) := hp
  clear hc hp
  by_cases hf : f = 0
  · subst hf
    rw [show ends 0 = .returned (.tuple #[]) from rfl]
    go_wp2_with fail
    refine leaves_cons (f := 78) (args := #[.pointer (some ⟨w.heap.size, 0, none⟩)]) (by simp) (by simp [go_sem]) ?_
    refine (catchI ⟨w.heap.size, 0, none⟩ _).mono ?_
    rintro e u' w'' ⟨rfl, rfl, rfl⟩
    simp [Leaves, settle, results, Tryz.results60, go_sem, hc']
    first | exact ⟨u, HP.out, rfl⟩ | exact ⟨0, u, rfl, HP.out, rfl⟩
  · rw [show ends f = .panicked [{ v := .iface 97 (.int .i64 f), recovered := false }] by unfold ends; rw [if_neg hf]]
    go_wp2_with fail
    refine leaves_cons (f := 78) (args := #[.pointer (some ⟨w.heap.size, 0, none⟩)]) (by simp) (by simp [go_sem]) ?_
    refine (catchP ⟨w.heap.size, 0, none⟩ 0 f [] _ hc' hz).mono ?_
    rintro e u' w'' ⟨rfl, rfl, rfl⟩
    simp [Leaves, settle, results, Tryz.results60, go_sem, hc']
    first | exact ⟨u, HP.out, rfl⟩ | exact ⟨f, u, rfl, HP.out, rfl⟩
theorem heap_alloc_at9 (w : World) (o : Obj) (b : Nat) (h : w.heap.size = b) : (w.alloc o).heap[b]? = some o := by subst h; exact heap_alloc_new w o
def LoopEnd (D : Nat → Prop) (lo p g s fb : Nat) (u : World) (v : MV) (m : Pl.Mac) (fuel : Int) (f : Int) (u' : World) : Prop := ∃ (D' : Nat → Prop) (v' : MV) (m' : Pl.Mac), (∀ x, D x → D' x) ∧ Rn D' lo p g s u' v' m' ∧ MemS v v' ∧ St (fun x => D x ∧ x ≠ s ∧ x ≠ fb) u u' ∧ (f = 0 → Pl.run fuel.toNat m = m') ∧ (f ≠ 0 → Pl.run fuel.toNat m = { m' with fin := 2, val := f })
theorem Run.widen {D D' : Nat → Prop} {g : Nat} {u : World} {v : MV} {m : Pl.Mac} (h : Run D g u v m) (hd : ∀ x, D' x → x < u.heap.size ∧ ∀ i : Nat, (blks g v)[i]? ≠ some (some x)) : Run D' g u v m := ⟨hd, h.box, h.code, h.regs, h.data, h.stk, h.inp, h.out, h.ap, h.lt, h.fz⟩
set_option maxRecDepth 8000 in
set_option maxHeartbeats 4000000 in
theorem rrun_run {D : Nat → Prop} {lo p g s : Nat} {u : World} {v : MV} {m : Pl.Mac} (h : Rn D lo p g s u v m) (hnil : ∀ k, k < m.code.length → u.cell? ⟨s, k, none⟩ = some (.pointer none)) (hv : Pl.Vd m) (fuel : Int) (hfl : -9223372036854775808 ≤ fuel ∧ fuel ≤ 9223372036854775807) :
    Calls Tryz.prog 31 #[.pointer (some ⟨p, 0, none⟩), .int .i64 fuel] u fun e u' => e = .returned (.tuple #[]) ∧ ∃ v' : MV, MemS v v' ∧ Run (fun x => D x ∧ x ≠ s) g u' v' (Pl.run fuel.toNat m) ∧ St (fun x => D x ∧ x ≠ s) u u' := by
  have hps := (h.run.av p h.pd).1
  have hss := (h.run.av s h.sd).1
  have t0 := (h.run.av _ h.td.1).1
  have t1 := (h.run.av _ h.td.2.1).1
  have t2 := (h.run.av _ h.td.2.2.1).1
  obtain ⟨U, hU⟩ : ∃ U, U = (u.alloc (.cells #[.pointer (some ⟨p, 0, none⟩)] 80)).alloc (.cells #[.int .i64 fuel] 3) := ⟨_, rfl⟩
  obtain ⟨U1, hU1⟩ : ∃ U1, U1 = U.alloc (.cells #[.int .i64 0] 3) := ⟨_, rfl⟩
  have zU : U.heap.size = u.heap.size + 2 := by rw [hU]; simp
  have z1 : U1.heap.size = u.heap.size + 3 := by rw [hU1]; simp [zU]
  have bU : Below u.heap.size u U := by rw [hU]; exact ((Below.refl _ _).alloc (Nat.le_refl _) _).alloc (by simp) _
  have b1 : Below U.heap.size U U1 := by rw [hU1]; exact below_alloc U _
  have rb : U.heap[u.heap.size]? = some (.cells #[.pointer (some ⟨p, 0, none⟩)] 80) := by rw [hU, Below.heap_alloc _ _ _ (by simp)]; exact heap_alloc_new u _
  have fb : U.heap[u.heap.size + 1]? = some (.cells #[.int .i64 fuel] 3) := by rw [hU]; exact heap_alloc_at9 _ _ _ (by simp)
  have rb1 : U1.heap[u.heap.size]? = some (.cells #[.pointer (some ⟨p, 0, none⟩)] 80) := (b1.block _ (by omega)).trans rb
  have fb1 : U1.heap[u.heap.size + 1]? = some (.cells #[.int .i64 fuel] 3) := (b1.block _ (by omega)).trans fb
  have fc1 : U1.heap[U.heap.size]? = some (.cells #[.int .i64 0] 3) := by rw [hU1]; exact heap_alloc_new U _
  have B1 : Below u.heap.size u U1 := bU.trans (b1.mono (by omega))
  have k1 := h.keep B1
  obtain ⟨D1, hD1⟩ : ∃ D1 : Nat → Prop, D1 = fun x => D x ∨ x = u.heap.size ∨ x = u.heap.size + 1 ∨ x = u.heap.size + 2 := ⟨_, rfl⟩
  have dd : ∀ x, D x → D1 x := fun x hx => by rw [hD1]; exact .inl hx
  have N1 : Rn D1 U1.heap.size p g s U1 v m := by
    refine ⟨k1.run.widen fun x hx => ?_, dd _ h.pd, dd _ h.sd, h.ps, by omega, by omega, Nat.le_refl _, k1.row, k1.tabs, ⟨dd _ h.td.1, dd _ h.td.2.1, dd _ h.td.2.2.1, h.td.2.2.2⟩, k1.fz, fun k hk => .inl ((B1.cell hss).trans (hnil k hk))⟩
    rw [hD1] at hx
    rcases hx with hx | hx
    · exact k1.run.av x hx
    · exact ⟨by omega, fun i q => by have := h.run.lt i x q; omega⟩
  have HL := rloop_run (fb := u.heap.size + 1) (rb := u.heap.size) N1 hv fuel hfl fb1 rb1 (by rw [hD1]; exact .inr (.inr (.inl rfl))) (by rw [hD1]; exact .inr (.inl rfl)) ⟨by omega, by omega, by omega, by omega, by omega, by omega, by omega, by omega⟩
  have HF := faultOf_R #[.pointer (some ⟨u.heap.size + 1, 0, none⟩), .pointer (some ⟨u.heap.size, 0, none⟩)] U (LoopEnd D1 U1.heap.size p g s (u.heap.size + 1) U1 v m fuel) (by
    rw [← hU1]
    refine HL.mono ?_
    rintro e u' ⟨D', v', m', f, q1, q2, q3, q4, q5, q6, q7⟩
    exact ⟨f, q5, D', v', m', q1, q2, q3, q4, q6, q7⟩) (by
    rintro f u' ⟨D', v', m', q1, q2, q3, q4, q6, q7⟩
    exact (q4.keep _ ⟨by rw [hD1]; exact .inr (.inr (.inr (by omega))), by omega, by omega⟩).trans fc1)
  have HB : Hid (Below u.heap.size u U1 ∧ Run D g u v m) := ⟨B1, h.run⟩
  have hmf : ∀ (fn : Fn) (first cap : Array Value) (w : World), (Instr.makeFunc fn first cap).run Tryz.prog w = .ok (.func fn first cap) w := fun _ _ _ _ => rfl
  have HSS : Hid (s < u.heap.size ∧ p < u.heap.size ∧ U.heap.size = u.heap.size + 2 ∧ p ≠ s ∧ D p) := ⟨hss, hps, zU, h.ps, h.pd⟩
  have RB1 : Hid (U1.heap[u.heap.size]? = some (.cells #[.pointer (some ⟨p, 0, none⟩)] 80)) := rb1
  have HD1 : Hid (D1 = fun x => D x ∨ x = u.heap.size ∨ x = u.heap.size + 1 ∨ x = u.heap.size + 2) := hD1
  have FF : Hid _ := HF
  clear h hnil HL HF N1 k1 bU b1 rb fb rb1 fb1 fc1 B1 hU1 z1 hD1 dd hps hss t0 t1 t2 zU
  go_enter Tryz.func31, Tryz.ntmps31
  go_wp2_with fail
  rw [← hU]
  refine Calls.mono FF.out ?_
  rintro e u2 ⟨f, u1, rfl, ⟨D', v', m', q1, q2, q3, q4, q6, q7⟩, hu2⟩
  have hd' : ∀ x, D x → D' x := fun x hx => q1 x (by rw [HD1.out]; exact .inl hx)
  have dfc : D' (U.heap.size) := q1 _ (by rw [HD1.out]; exact .inr (.inr (.inr HSS.out.2.2.1)))
  have sA : St (fun x => D x ∧ x ≠ s) u u1 := (HB.out.2.st HB.out.1).mono (fun x hx => hx.1) |>.trans (q4.mono fun x hx => ⟨by rw [HD1.out]; exact .inl hx.1, hx.2, by have := (HB.out.2.av x hx.1).1; omega⟩)
  have r2 : Run D' g u2 v' m' := by rw [hu2]; exact q2.run.other (by simp) fun i x hx => Below.heap_setCell _ _ _ _ (fun q => (q2.run.av _ dfc).2 i (by rw [hx]; exact congrArg _ (congrArg _ q)))
  have sB : St (fun x => D x ∧ x ≠ s) u1 u2 := by rw [hu2]; exact St.set fun x hx => by have := (HB.out.2.av x hx.1).1; have := HSS.out.2.2.1; omega
  have drb : D' u.heap.size := q1 _ (by rw [HD1.out]; exact .inr (.inl rfl))
  have hne : u.heap.size ≠ U.heap.size ∧ p ≠ U.heap.size := by have := HSS.out; omega
  have crb : u2.cell? ⟨u.heap.size, 0, none⟩ = some (.pointer (some ⟨p, 0, none⟩)) := by
    rw [hu2, World.cell?_setCell_other _ _ _ _ (by intro e; injection e with e1 _; exact hne.1 e1.symm)]
    exact cell_of_row u1 u.heap.size 0 _ 80 (0, 0) ((q4.keep _ ⟨by rw [HD1.out]; exact .inr (.inl rfl), by have := HSS.out.1; omega, by omega⟩).trans RB1.out)
  have cp : u2.cell? ⟨p, 0, none⟩ = some (.pointer (some ⟨g, 0, none⟩)) := by
    rw [hu2, World.cell?_setCell_other _ _ _ _ (by intro e; injection e with e1 _; exact hne.2 e1.symm)]
    exact q2.cell 0
  have c8 : u2.cell? ⟨g, 8, none⟩ = some (.int .i64 m'.fin) := r2.cell 8
  have f8 : u2.frozen? ⟨g, 8, none⟩ = false := r2.unfrozen 8
  have f9 : u2.frozen? ⟨g, 9, none⟩ = false := r2.unfrozen 9
  have ng1 : u.heap.size ≠ g := fun q => (r2.av _ drb).2 0 (by rw [q]; rfl)
  have ng2 : p ≠ g := fun q => (r2.av _ (hd' p HSS.out.2.2.2.2)).2 0 (by rw [q]; rfl)
  have crb' : ∀ y, (u2.setCell ⟨g, 8, none⟩ y).cell? ⟨u.heap.size, 0, none⟩ = some (.pointer (some ⟨p, 0, none⟩)) := fun y => by rw [World.cell?_setCell_other _ _ _ _ (by intro e; injection e with e1 _; exact ng1 e1.symm)]; exact crb
  have cp' : ∀ y, (u2.setCell ⟨g, 8, none⟩ y).cell? ⟨p, 0, none⟩ = some (.pointer (some ⟨g, 0, none⟩)) := fun y => by rw [World.cell?_setCell_other _ _ _ _ (by intro e; injection e with e1 _; exact ng2 e1.symm)]; exact cp
  have c9' : ∀ y, (u2.setCell ⟨g, 8, none⟩ y).cell? ⟨g, 9, none⟩ = some (.int .i64 m'.val) := fun y => by rw [World.cell?_setCell_other _ _ _ _ (by intro e; injection e with _ e2; cases e2)]; exact r2.cell 9
  have RR : Hid (Run D' g u2 v' m') := r2
  have SS : Hid (St (fun x => D x ∧ x ≠ s) u u2) := sA.trans sB
  have MM : Hid (MemS v v') := q3
  have HD' : Hid (∀ x, D x ∧ x ≠ s → D' x) := fun x hx => hd' x hx.1
  by_cases hf : f = 0
  · have hrun : Pl.run fuel.toNat m = m' := q6 hf
    have HRUN : Hid _ := hrun
    have e0 : (f != 0) = false := by simpa using hf
    clear q1 q2 q3 q4 q6 q7 hu2 sA sB r2 hf hrun
    go_wp2_with fail
    go_end0
    exact ⟨rfl, v', MM.out, by rw [HRUN.out]; exact RR.out.mono HD'.out, SS.out⟩
  · have hrun : Pl.run fuel.toNat m = { m' with fin := 2, val := f } := q7 hf
    have HRUN : Hid _ := hrun
    have e0 : (f != 0) = true := by simpa using hf
    have HFIN : Hid (Run D' g ((u2.setCell ⟨g, 8, none⟩ (.int .i64 2)).setCell ⟨g, 9, none⟩ (.int .i64 f)) v' { m' with fin := 2, val := f } ∧ St (fun x => D x ∧ x ≠ s) u ((u2.setCell ⟨g, 8, none⟩ (.int .i64 2)).setCell ⟨g, 9, none⟩ (.int .i64 f))) := ⟨(RR.out.setFin 2).setVal f, (SS.out.trans (St.set fun x hx => RR.out.ne 0 rfl x (HD'.out x hx))).trans (St.set fun x hx => RR.out.ne 0 rfl x (HD'.out x hx))⟩
    clear q1 q2 q3 q4 q6 q7 hu2 sA sB r2 hf hrun
    go_wp2_with fail
    go_end0
    exact ⟨rfl, v', MM.out, by rw [HRUN.out]; exact HFIN.out.1.mono HD'.out, HFIN.out.2⟩
end Go.Proofs.YtjdfffdeljgenaaGreatDoor.W
namespace Go.Proofs.YtjdfffdeljgenaaGreatDoor.W
open Go.RowKit
def Wr (k : IntKind) (lo : Nat) (w : World) (a : Option Addr) (len cap : Nat) (zs : List Int) : Prop := Row k lo w a len cap zs ∧ (0 < len → ∀ b off, a = some ⟨b, off, none⟩ → ∀ i, w.frozen? ⟨b, i, none⟩ = false)
theorem Wr.row {k : IntKind} {lo : Nat} {w : World} {a : Option Addr} {len cap : Nat} {zs : List Int} (h : Wr k lo w a len cap zs) : Row k lo w a len cap zs := h.1
theorem Wr.other {k : IntKind} {lo : Nat} {w w' : World} {a : Option Addr} {len cap : Nat} {zs : List Int} (h : Wr k lo w a len cap zs) (hs : w.heap.size ≤ w'.heap.size) (hb : ∀ x, a.map (·.block) = some x → w'.heap[x]? = w.heap[x]?) : Wr k lo w' a len cap zs :=
  ⟨h.1.other hs hb, fun hl b off e i => (World.frozen?_of_block (w := w) (hb b (by rw [e]; rfl))).trans (h.2 hl b off e i)⟩
theorem Wr.keep {k : IntKind} {lo : Nat} {w w' : World} {a : Option Addr} {len cap : Nat} {zs : List Int} (h : Wr k lo w a len cap zs) (hB : Below w.heap.size w w') : Wr k lo w' a len cap zs :=
  ⟨h.1.keep hB, fun hl b off e i => by
    rcases h.1.2.2.2.2 with h0 | ⟨b', off', e', _, hb, _⟩
    · omega
    · rw [e] at e'
      cases e'
      exact (hB.frozen hb).trans (h.2 hl b off e i)⟩
def WrM (lo : Nat) (w : World) (v : MV) (m : Pl.Mac) : Prop := Wr .i64 lo w v.code.a v.code.len v.code.cap m.code ∧ Wr .i64 lo w v.regs.a v.regs.len v.regs.cap m.regs ∧ Wr .u8 lo w v.data.a v.data.len v.data.cap m.data ∧ Wr .u8 lo w v.stk.a v.stk.len v.stk.cap m.stk ∧ Wr .u8 lo w v.inp.a v.inp.len v.inp.cap m.inp ∧ Wr .u8 lo w v.out.a v.out.len v.out.cap m.out
theorem WrM.keep {lo : Nat} {w w' : World} {v : MV} {m : Pl.Mac} (h : WrM lo w v m) (hB : Below w.heap.size w w') : WrM lo w' v m := ⟨h.1.keep hB, h.2.1.keep hB, h.2.2.1.keep hB, h.2.2.2.1.keep hB, h.2.2.2.2.1.keep hB, h.2.2.2.2.2.keep hB⟩
theorem WrM.is {lo : Nat} {w : World} {v : MV} {m : Pl.Mac} (h : WrM lo w v m) : MIs lo w v m := ⟨h.1.1, h.2.1.1, h.2.2.1.1, h.2.2.2.1.1, h.2.2.2.2.1.1, h.2.2.2.2.2.1⟩
end Go.Proofs.YtjdfffdeljgenaaGreatDoor.W
