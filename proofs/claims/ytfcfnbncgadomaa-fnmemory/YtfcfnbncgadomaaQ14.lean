import Derived.Test.YtfcfnbncgadomaaQ01
import Derived.OneCell
import Derived.Test.YtfcfnbncgadomaaQ00
import Derived.Deep.RegionHeld3
import Derived.Deep.Light
import Derived.Deep.RegionWith
import Derived.Deep.QuietTactic
set_option linter.unusedVariables false
set_option linter.unusedSimpArgs false
namespace Go.Proofs.Ytfcfnbncgadomaa.W
open Go.RowKit
/-- the blocks of a machine at work: its own, and those of its six slices -/
def blks (g : Nat) (v : MV) : List (Option Nat) := [some g, v.code.a.map (·.block), v.regs.a.map (·.block), v.data.a.map (·.block), v.stk.a.map (·.block), v.inp.a.map (·.block), v.out.a.map (·.block)]
def Apart (g : Nat) (v : MV) : Prop := ∀ i j, i < 7 → j < 7 → i ≠ j → ∀ x, (blks g v)[i]? = some (some x) → (blks g v)[j]? ≠ some (some x)
/-- a machine at work in block g; what D tells is none of its blocks -/
structure Run (D : Nat → Prop) (g : Nat) (u : World) (v : MV) (m : Pl.Mac) : Prop where
  av : ∀ x, D x → x < u.heap.size ∧ ∀ i : Nat, (blks g v)[i]? ≠ some (some x)
  box : u.heap[g]? = some (.cells #[.slice v.code.a v.code.len v.code.cap, .int .i64 m.pc, .slice v.regs.a v.regs.len v.regs.cap, .slice v.data.a v.data.len v.data.cap, .slice v.stk.a v.stk.len v.stk.cap, .slice v.inp.a v.inp.len v.inp.cap, .slice v.out.a v.out.len v.out.cap, .int .i64 m.steps, .int .i64 m.fin, .int .i64 m.val] 25)
  code : Row .i64 0 u v.code.a v.code.len v.code.cap m.code
  regs : Own .i64 3 0 u v.regs.a v.regs.len v.regs.cap m.regs
  data : Own .u8 5 0 u v.data.a v.data.len v.data.cap m.data
  stk : Own .u8 5 0 u v.stk.a v.stk.len v.stk.cap m.stk
  inp : Row .u8 0 u v.inp.a v.inp.len v.inp.cap m.inp
  out : Own .u8 5 0 u v.out.a v.out.len v.out.cap m.out
  ap : Apart g v
  lt : ∀ (i : Nat) x, (blks g v)[i]? = some (some x) → x < u.heap.size
/-- what D tells has not turned -/
structure St (D : Nat → Prop) (u u' : World) : Prop where
  os : u'.os = u.os
  tape : u'.tape = u.tape
  output : u'.output = u.output
  size : u.heap.size ≤ u'.heap.size
  keep : ∀ x, D x → u'.heap[x]? = u.heap[x]?
theorem St.refl (D : Nat → Prop) (u : World) : St D u u := ⟨rfl, rfl, rfl, Nat.le_refl _, fun _ _ => rfl⟩
theorem St.trans {D : Nat → Prop} {a b c : World} (h : St D a b) (k : St D b c) : St D a c := ⟨k.os.trans h.os, k.tape.trans h.tape, k.output.trans h.output, Nat.le_trans h.size k.size, fun x hx => (k.keep x hx).trans (h.keep x hx)⟩
theorem St.set {D : Nat → Prop} {u : World} {b j : Nat} {y : Value} (h : ∀ x, D x → x ≠ b) : St D u (u.setCell ⟨b, j, none⟩ y) := ⟨rfl, rfl, rfl, by simp, fun x hx => Below.heap_setCell u ⟨b, j, none⟩ y x (h x hx)⟩
theorem Row.other {k : IntKind} {lo : Nat} {w w' : World} {a : Option Addr} {len cap : Nat} {zs : List Int} (h : Row k lo w a len cap zs) (hs : w.heap.size ≤ w'.heap.size) (hb : ∀ x, a.map (·.block) = some x → w'.heap[x]? = w.heap[x]?) : Row k lo w' a len cap zs := by
  obtain ⟨h1, h2, h3, h4, h5⟩ := h
  refine ⟨h1, h2, h3, h4, ?_⟩
  rcases h5 with h5 | ⟨b, off, ha, hlo, hlt, hc⟩
  · exact .inl h5
  · refine .inr ⟨b, off, ha, hlo, Nat.lt_of_lt_of_le hlt hs, fun i hi => ?_⟩
    rw [World.cell?_of_block (a := ⟨b, off + i, none⟩) (hb b (by rw [ha]; rfl))]
    exact hc i hi
theorem Own.other {k : IntKind} {e : TypeId} {lo : Nat} {w w' : World} {a : Option Addr} {len cap : Nat} {zs : List Int} (h : Own k e lo w a len cap zs) (hb : ∀ x, a.map (·.block) = some x → w'.heap[x]? = w.heap[x]?) : Own k e lo w' a len cap zs := by
  obtain ⟨hown, hwf⟩ := h
  refine ⟨⟨hown.1, ?_⟩, hwf⟩
  rcases hown.2 with h0 | ⟨g, cap', cur, h0, hlo, hg, hr⟩
  · exact .inl h0
  · refine .inr ⟨g, cap', cur, h0, hlo, ?_, hr⟩
    simp only [Value.slice.injEq] at h0
    rw [hb g (by rw [h0.1]; rfl)]
    exact hg
/-- where nothing but new blocks has come -/
theorem Run.keep {D : Nat → Prop} {g : Nat} {u u' : World} {v : MV} {m : Pl.Mac} (h : Run D g u v m) (hb : Below u.heap.size u u') : Run D g u' v m :=
  ⟨fun x hx => ⟨Nat.lt_of_lt_of_le (h.av x hx).1 hb.size, (h.av x hx).2⟩, (hb.block g (Array.getElem?_eq_some_iff.1 h.box).1).trans h.box, h.code.keep hb, h.regs.keep hb, h.data.keep hb, h.stk.keep hb, h.inp.keep hb, h.out.keep hb, h.ap, fun i x hx => Nat.lt_of_lt_of_le (h.lt i x hx) hb.size⟩
theorem Run.st {D : Nat → Prop} {g : Nat} {u u' : World} {v : MV} {m : Pl.Mac} (h : Run D g u v m) (hb : Below u.heap.size u u') : St D u u' := ⟨hb.os, hb.tape, hb.output, hb.size, fun x hx => hb.block x (h.av x hx).1⟩
theorem Run.ne {D : Nat → Prop} {g : Nat} {u : World} {v : MV} {m : Pl.Mac} (h : Run D g u v m) (i : Nat) {b : Nat} (hb : (blks g v)[i]? = some (some b)) : ∀ x, D x → x ≠ b := fun x hx e => (h.av x hx).2 i (by rw [hb, e])
theorem Apart.ne {g : Nat} {v : MV} (h : Apart g v) (i : Nat) (hi : i < 7) (h0 : i ≠ 0) {x : Nat} (hx : (blks g v)[i]? = some (some x)) : x ≠ g := by
  intro e
  exact h i 0 hi (by decide) h0 x hx (by rw [e]; rfl)
/-- a cell of the box is set -/
theorem Run.boxed {D : Nat → Prop} {g : Nat} {u : World} {v v2 : MV} {m m2 : Pl.Mac} (h : Run D g u v m) (j : Nat) (x : Value) (e : (#[.slice v.code.a v.code.len v.code.cap, .int .i64 m.pc, .slice v.regs.a v.regs.len v.regs.cap, .slice v.data.a v.data.len v.data.cap, .slice v.stk.a v.stk.len v.stk.cap, .slice v.inp.a v.inp.len v.inp.cap, .slice v.out.a v.out.len v.out.cap, .int .i64 m.steps, .int .i64 m.fin, .int .i64 m.val] : Array Value).setIfInBounds j x = #[.slice v2.code.a v2.code.len v2.code.cap, .int .i64 m2.pc, .slice v2.regs.a v2.regs.len v2.regs.cap, .slice v2.data.a v2.data.len v2.data.cap, .slice v2.stk.a v2.stk.len v2.stk.cap, .slice v2.inp.a v2.inp.len v2.inp.cap, .slice v2.out.a v2.out.len v2.out.cap, .int .i64 m2.steps, .int .i64 m2.fin, .int .i64 m2.val])
    (e1 : v2.code = v.code ∧ m2.code = m.code) (e2 : v2.regs = v.regs ∧ m2.regs = m.regs) (e3 : v2.data = v.data ∧ m2.data = m.data) (e4 : v2.stk = v.stk ∧ m2.stk = m.stk) (e5 : v2.inp = v.inp ∧ m2.inp = m.inp) (e6 : v2.out = v.out ∧ m2.out = m.out) : Run D g (u.setCell ⟨g, j, none⟩ x) v2 m2 := by
  have hs : u.heap.size ≤ (u.setCell ⟨g, j, none⟩ x).heap.size := by simp
  have hk : ∀ y, y ≠ g → (u.setCell ⟨g, j, none⟩ x).heap[y]? = u.heap[y]? := fun y hy => Below.heap_setCell u ⟨g, j, none⟩ x y hy
  obtain ⟨vc, vr, vd, vs, vi, vo⟩ := v
  obtain ⟨vc', vr', vd', vs', vi', vo'⟩ := v2
  dsimp only at e1 e2 e3 e4 e5 e6
  obtain ⟨rfl, e1⟩ := e1
  obtain ⟨rfl, e2⟩ := e2
  obtain ⟨rfl, e3⟩ := e3
  obtain ⟨rfl, e4⟩ := e4
  obtain ⟨rfl, e5⟩ := e5
  obtain ⟨rfl, e6⟩ := e6
  exact ⟨fun y hy => ⟨by simpa using (h.av y hy).1, (h.av y hy).2⟩, row_put h.box j x e, e1 ▸ h.code.other hs fun y hy => hk y (h.ap.ne 1 (by decide) (by decide) (by rw [← hy]; rfl)), e2 ▸ h.regs.other fun y hy => hk y (h.ap.ne 2 (by decide) (by decide) (by rw [← hy]; rfl)), e3 ▸ h.data.other fun y hy => hk y (h.ap.ne 3 (by decide) (by decide) (by rw [← hy]; rfl)), e4 ▸ h.stk.other fun y hy => hk y (h.ap.ne 4 (by decide) (by decide) (by rw [← hy]; rfl)), e5 ▸ h.inp.other hs fun y hy => hk y (h.ap.ne 5 (by decide) (by decide) (by rw [← hy]; rfl)), e6 ▸ h.out.other fun y hy => hk y (h.ap.ne 6 (by decide) (by decide) (by rw [← hy]; rfl)), h.ap, fun i y hy => by simpa using h.lt i y hy⟩
theorem Run.setPc {D : Nat → Prop} {g : Nat} {u : World} {v : MV} {m : Pl.Mac} (h : Run D g u v m) (x : Int) : Run D g (u.setCell ⟨g, 1, none⟩ (.int .i64 x)) v { m with pc := x } := h.boxed 1 _ rfl ⟨rfl, rfl⟩ ⟨rfl, rfl⟩ ⟨rfl, rfl⟩ ⟨rfl, rfl⟩ ⟨rfl, rfl⟩ ⟨rfl, rfl⟩
theorem Run.setSteps {D : Nat → Prop} {g : Nat} {u : World} {v : MV} {m : Pl.Mac} (h : Run D g u v m) (x : Int) : Run D g (u.setCell ⟨g, 7, none⟩ (.int .i64 x)) v { m with steps := x } := h.boxed 7 _ rfl ⟨rfl, rfl⟩ ⟨rfl, rfl⟩ ⟨rfl, rfl⟩ ⟨rfl, rfl⟩ ⟨rfl, rfl⟩ ⟨rfl, rfl⟩
theorem Run.setFin {D : Nat → Prop} {g : Nat} {u : World} {v : MV} {m : Pl.Mac} (h : Run D g u v m) (x : Int) : Run D g (u.setCell ⟨g, 8, none⟩ (.int .i64 x)) v { m with fin := x } := h.boxed 8 _ rfl ⟨rfl, rfl⟩ ⟨rfl, rfl⟩ ⟨rfl, rfl⟩ ⟨rfl, rfl⟩ ⟨rfl, rfl⟩ ⟨rfl, rfl⟩
theorem Run.setVal {D : Nat → Prop} {g : Nat} {u : World} {v : MV} {m : Pl.Mac} (h : Run D g u v m) (x : Int) : Run D g (u.setCell ⟨g, 9, none⟩ (.int .i64 x)) v { m with val := x } := h.boxed 9 _ rfl ⟨rfl, rfl⟩ ⟨rfl, rfl⟩ ⟨rfl, rfl⟩ ⟨rfl, rfl⟩ ⟨rfl, rfl⟩ ⟨rfl, rfl⟩
theorem Apart.two {g : Nat} {v : MV} (h : Apart g v) (i j : Nat) (hi : i < 7) (hj : j < 7) (hij : i ≠ j) {x y : Nat} (hx : (blks g v)[i]? = some (some x)) (hy : (blks g v)[j]? = some (some y)) : y ≠ x := by
  intro e
  exact h i j hi hj hij x hx (by rw [hy, e])
/-- a register is set -/
theorem Run.setReg {D : Nat → Prop} {g r : Nat} {u : World} {v : MV} {m : Pl.Mac} (h : Run D g u v m) (hr : v.regs.a = some ⟨r, 0, none⟩) (n : Nat) (x : Int) (hw : (Lit.int .i64 x).wf = true) : Run D g (u.setCell ⟨r, n, none⟩ (.int .i64 x)) v { m with regs := m.regs.set n x } := by
  have hs : u.heap.size ≤ (u.setCell ⟨r, n, none⟩ (.int .i64 x)).heap.size := by simp
  have hk : ∀ y, y ≠ r → (u.setCell ⟨r, n, none⟩ (.int .i64 x)).heap[y]? = u.heap[y]? := fun y hy => Below.heap_setCell u ⟨r, n, none⟩ _ y hy
  have hb : (blks g v)[2]? = some (some r) := by simp [blks, hr]
  refine ⟨fun y hy => ⟨by simpa using (h.av y hy).1, (h.av y hy).2⟩, (hk g (h.ap.ne 2 (by decide) (by decide) hb).symm).trans h.box, h.code.other hs fun y hy => hk y (h.ap.two 2 1 (by decide) (by decide) (by decide) hb (by rw [← hy]; rfl)), ?_, h.data.other fun y hy => hk y (h.ap.two 2 3 (by decide) (by decide) (by decide) hb (by rw [← hy]; rfl)), h.stk.other fun y hy => hk y (h.ap.two 2 4 (by decide) (by decide) (by decide) hb (by rw [← hy]; rfl)), h.inp.other hs fun y hy => hk y (h.ap.two 2 5 (by decide) (by decide) (by decide) hb (by rw [← hy]; rfl)), h.out.other fun y hy => hk y (h.ap.two 2 6 (by decide) (by decide) (by decide) hb (by rw [← hy]; rfl)), h.ap, fun i y hy => by simpa using h.lt i y hy⟩
  have ho := h.regs.1
  rw [hr] at ho ⊢
  have st := (ho.stored n (.int .i64 x)).1
  refine ⟨?_, fun q hq => ?_⟩
  · rw [List.map_set]; exact st
  · rcases List.mem_or_eq_of_mem_set hq with hq | rfl
    · exact h.regs.2 q hq
    · exact hw
end Go.Proofs.Ytfcfnbncgadomaa.W
namespace Go.Proofs.Ytfcfnbncgadomaa.Pl
/-- whether a branch is taken -/
def brt (op a b : Int) : Bool :=
  if op = 37 ∨ op = 38 then (a == b) == (op == 37) else if op = 39 ∨ op = 40 then decide (sg a < sg b) == (op == 39) else decide (a < b) == (op == 41)
/-- the kind of a load or store -/
def lsk (op : Int) : Int := if op = 34 then 2 else if op = 35 then 4 else if op = 36 then 5 else if op = 28 then 1 else if op = 29 then 3 else if op = 30 then 5 else if op = 31 then 2 else 4
end Go.Proofs.Ytfcfnbncgadomaa.Pl
namespace Go.Proofs.Ytfcfnbncgadomaa.W
open Go.RowKit
theorem l3Set_no (p : Value) (n x : Int) (h : n ≤ 0) (w : World) : Calls Try.prog 98 #[p, .int .i64 n, .int .i64 x] w fun e w' => e = .returned (.tuple #[]) ∧ w' = w := by
  go_enter Try.func98, Try.ntmps98
  go_wp2
  go_end0
  exact ⟨rfl, rfl⟩
set_option maxHeartbeats 2000000 in
theorem l3Set_yes (g r c n : Nat) (x : Int) (y : Value) (h1 : 1 ≤ n) (h2 : n ≤ 31) (w : World) (hc : w.cell? ⟨g, 2, none⟩ = some (.slice (some ⟨r, 0, none⟩) 32 c)) (hr : w.cell? ⟨r, n, none⟩ = some y) (hf : w.frozen? ⟨r, n, none⟩ = false) :
    Calls Try.prog 98 #[.pointer (some ⟨g, 0, none⟩), .int .i64 n, .int .i64 x] w fun e w' => e = .returned (.tuple #[]) ∧ ∃ k, w' = (w.setCell ⟨r, n, none⟩ (.int .i64 (Pl.wd x))).drewN k := by
  have e1 : decide ((0 : Int) < (n : Int)) = true := by simp; omega
  have e2 : (n : Int) < 32 := by omega
  go_enter Try.func98, Try.ntmps98
  go_wp2_with fail
  go_region_with (go_at_call 38; refine (specWord_any _ _).mono ?_; rintro e v1 ⟨rfl, rfl⟩)
  all_goals
    go_end0
    exact ⟨rfl, 1, rfl⟩
theorem l3Taken_any (op a b : Int) (h1 : 37 ≤ op) (h2 : op ≤ 42) (w : World) : Calls Try.prog 103 #[.int .i64 op, .int .i64 a, .int .i64 b] w fun e w' => e = .returned (.bool (Pl.brt op a b)) ∧ w' = w := by
  have : op = 37 ∨ op = 38 ∨ op = 39 ∨ op = 40 ∨ op = 41 ∨ op = 42 := by omega
  rcases this with rfl | rfl | rfl | rfl | rfl | rfl
  all_goals
    go_enter Try.func103, Try.ntmps103
    go_wp2_with (go_at_call 105; refine (specSigned_any _ _).mono ?_; rintro e u1 ⟨rfl, rfl⟩)
    go_ret
    exact ⟨ret_bool (by simp [Pl.brt]), rfl⟩
theorem l3Kinds_any (op : Int) (h : (28 ≤ op ∧ op ≤ 32) ∨ (34 ≤ op ∧ op ≤ 36)) (w : World) : Calls Try.prog 99 #[.int .i64 op] w fun e w' => e = .returned (.int .i64 (Pl.lsk op)) ∧ Below w.heap.size w w' := by
  have : op = 28 ∨ op = 29 ∨ op = 30 ∨ op = 31 ∨ op = 32 ∨ op = 34 ∨ op = 35 ∨ op = 36 := by omega
  rcases this with rfl | rfl | rfl | rfl | rfl | rfl | rfl | rfl
  all_goals
    go_enter Try.func99, Try.ntmps99
    go_wp2
    go_ret
    exact ⟨rfl, (Below.refl _ _).alloc (Nat.le_refl _) _⟩
end Go.Proofs.Ytfcfnbncgadomaa.W
namespace Go.Proofs.Ytfcfnbncgadomaa.W
open Go.RowKit
theorem fl_alloc {u : World} {p : Addr} {x : Value} (h : u.cell? p = some x) (o : Obj) : (u.alloc o).cell? p = some x := by
  rw [(below_alloc u o).cell (World.block_lt_of_cell? u p h)]
  exact h
set_option maxRecDepth 8000 in
set_option maxHeartbeats 4000000 in
theorem flow_br (g r c : Nat) (op : Int) (rd r1 r2 : Nat) (im pc a b : Int) (h1 : 37 ≤ op) (h2 : op ≤ 42) (hp : 0 ≤ pc ∧ pc ≤ 4294967295) (hi : -2147483648 ≤ im ∧ im ≤ 2147483648) (q1 : r1 ≤ 31) (q2 : r2 ≤ 31) (u : World)
    (cp : u.cell? ⟨g, 1, none⟩ = some (.int .i64 pc)) (cr : u.cell? ⟨g, 2, none⟩ = some (.slice (some ⟨r, 0, none⟩) 32 c)) (ca : u.cell? ⟨r, r1, none⟩ = some (.int .i64 a)) (cb : u.cell? ⟨r, r2, none⟩ = some (.int .i64 b)) :
    Calls Try.prog 96 #[.pointer (some ⟨g, 0, none⟩), .agg #[.int .i64 op, .int .i64 rd, .int .i64 r1, .int .i64 r2, .int .i64 im]] u fun e w' => e = .returned (.tuple #[.int .i64 (if Pl.brt op a b then Pl.wd (pc + im) else Pl.wd (pc + 4)), .bool true]) ∧ Below u.heap.size u w' := by
  have cp' := fl_alloc cp
  have cr' := fl_alloc cr
  have ca' := fl_alloc ca
  have cb' := fl_alloc cb
  clear cp cr ca cb
  have e1 : decide (37 ≤ op) = true := by simpa using h1
  have e2 : decide (op ≤ 42) = true := by simpa using h2
  have l1 : (r1 : Int) < 32 := by omega
  have l2 : (r2 : Int) < 32 := by omega
  have hw1 : IntKind.i64.wrap (pc + im) = pc + im := by rw [IntKind.wrap_i64]; omega
  have hw2 : IntKind.i64.wrap (pc + 4) = pc + 4 := by rw [IntKind.wrap_i64]; omega
  have HT : Hid (∀ w, Calls Try.prog 103 #[.int .i64 op, .int .i64 a, .int .i64 b] w fun e w' => e = .returned (.bool (Pl.brt op a b)) ∧ w' = w) := fun w => l3Taken_any op a b h1 h2 w
  cases ht : Pl.brt op a b
  · rw [ht] at HT
    go_enter Try.func96, Try.ntmps96
    go_wp2_with (go_at_call 38; refine (specWord_any _ _).mono ?_; rintro e v1 ⟨rfl, rfl⟩)
    go_quiet ((go_at_call 103; exact Calls.quiet_of_same (HT.out _)))
    go_wp2
    go_ret2
    exact ⟨rfl, below_drewN (below_alloc _ _) _⟩
  · rw [ht] at HT
    go_enter Try.func96, Try.ntmps96
    go_wp2_with (go_at_call 38; refine (specWord_any _ _).mono ?_; rintro e v1 ⟨rfl, rfl⟩)
    go_quiet ((go_at_call 103; exact Calls.quiet_of_same (HT.out _)))
    go_wp2
    go_region_with (go_at_call 38; refine (specWord_any _ _).mono ?_; rintro e v1 ⟨rfl, rfl⟩)
    all_goals
      go_wp2
      go_ret2
      exact ⟨rfl, by repeat (first | exact below_alloc _ _ | refine Below.drew ?_ | refine below_drewN ?_ _)⟩
set_option maxRecDepth 8000 in
set_option maxHeartbeats 4000000 in
theorem flow_no (g : Nat) (op rd r1 r2 im pc : Int) (h1 : op < 37 ∨ 42 < op) (h2 : op ≠ 45) (h3 : op ≠ 33) (hp : 0 ≤ pc ∧ pc ≤ 4294967295) (u : World) (cp : u.cell? ⟨g, 1, none⟩ = some (.int .i64 pc)) :
    Calls Try.prog 96 #[.pointer (some ⟨g, 0, none⟩), .agg #[.int .i64 op, .int .i64 rd, .int .i64 r1, .int .i64 r2, .int .i64 im]] u fun e w' => e = .returned (.tuple #[.int .i64 (Pl.wd (pc + 4)), .bool false]) ∧ Below u.heap.size u w' := by
  have cp' := fl_alloc cp
  clear cp
  have e4 : (op == 45) = false := by simpa using h2
  have e5 : (op == 33) = false := by simpa using h3
  by_cases h : op < 37
  · have e1 : decide (37 ≤ op) = false := by simp; omega
    go_enter Try.func96, Try.ntmps96
    go_wp2_with (go_at_call 38; refine (specWord_any _ _).mono ?_; rintro e v1 ⟨rfl, rfl⟩)
    go_ret2
    exact ⟨rfl, below_alloc _ _⟩
  · have e1 : decide (37 ≤ op) = true := by simp; omega
    have e2 : decide (op ≤ 42) = false := by simp; omega
    go_enter Try.func96, Try.ntmps96
    go_wp2_with (go_at_call 38; refine (specWord_any _ _).mono ?_; rintro e v1 ⟨rfl, rfl⟩)
    go_ret2
    exact ⟨rfl, below_alloc _ _⟩
set_option maxRecDepth 8000 in
set_option maxHeartbeats 4000000 in
/-- jal: behind the setting of a register, which 'post' tells -/
theorem flow_jal (g : Nat) (rd r1 r2 im pc : Int) (hp : 0 ≤ pc ∧ pc ≤ 4294967295) (hi : -2147483648 ≤ im ∧ im ≤ 2147483648) (u : World) (post : World → Prop)
    (cp : u.cell? ⟨g, 1, none⟩ = some (.int .i64 pc))
    (hs : ∀ U : World, Below u.heap.size u U → u.heap.size < U.heap.size → Calls Try.prog 98 #[.pointer (some ⟨g, 0, none⟩), .int .i64 rd, .int .i64 (Pl.wd (pc + 4))] U fun e w' => e = .returned (.tuple #[]) ∧ post w' ∧ w'.cell? ⟨g, 1, none⟩ = some (.int .i64 pc) ∧ ∀ j, w'.cell? ⟨u.heap.size, j, none⟩ = U.cell? ⟨u.heap.size, j, none⟩) :
    Calls Try.prog 96 #[.pointer (some ⟨g, 0, none⟩), .agg #[.int .i64 45, .int .i64 rd, .int .i64 r1, .int .i64 r2, .int .i64 im]] u fun e w' => e = .returned (.tuple #[.int .i64 (Pl.wd (pc + im)), .bool true]) ∧ ∃ w1 k, post w1 ∧ w' = w1.drewN k := by
  have cp' := fl_alloc cp
  clear cp
  have HS : Hid (∀ U : World, Below u.heap.size u U → u.heap.size < U.heap.size → Calls Try.prog 98 #[.pointer (some ⟨g, 0, none⟩), .int .i64 rd, .int .i64 (Pl.wd (pc + 4))] U fun e w' => e = .returned (.tuple #[]) ∧ post w' ∧ w'.cell? ⟨g, 1, none⟩ = some (.int .i64 pc) ∧ ∀ j, w'.cell? ⟨u.heap.size, j, none⟩ = U.cell? ⟨u.heap.size, j, none⟩) := hs
  clear hs
  have hw1 : IntKind.i64.wrap (pc + im) = pc + im := by rw [IntKind.wrap_i64]; omega
  have hw2 : IntKind.i64.wrap (pc + 4) = pc + 4 := by rw [IntKind.wrap_i64]; omega
  have b4 : (u.alloc (.cells #[.int .i64 45, .int .i64 rd, .int .i64 r1, .int .i64 r2, .int .i64 im] 105)).cell? ⟨u.heap.size, 4, none⟩ = some (.int .i64 im) := cell_of_row _ u.heap.size 4 _ 105 (0, 0) (heap_alloc_new u _)
  go_enter Try.func96, Try.ntmps96
  go_wp2_with (first | (go_at_call 38; refine (specWord_any _ _).mono ?_; rintro e v1 ⟨rfl, rfl⟩) | (go_at_call 98; refine (HS.out _ (below_alloc u _) (by simp)).mono ?_; rintro e v2 ⟨rfl, hpost, p1, p2⟩; have p3 := (p2 4).trans b4; clear p2 cp' b4))
  go_quiet ((go_at_call 38; exact Calls.quiet_of_same (specWord_any _ _)))
  go_wp2
  go_ret2
  exact ⟨rfl, _, _, hpost, rfl⟩
set_option maxRecDepth 8000 in
set_option maxHeartbeats 4000000 in
theorem flow_jalr (g r c : Nat) (rd : Int) (r1 : Nat) (r2 im pc a : Int) (hp : 0 ≤ pc ∧ pc ≤ 4294967295) (ha : 0 ≤ a ∧ a ≤ 4294967295) (hi : -2147483648 ≤ im ∧ im ≤ 2147483648) (q1 : r1 ≤ 31) (u : World) (post : World → Prop)
    (cp : u.cell? ⟨g, 1, none⟩ = some (.int .i64 pc)) (cr : u.cell? ⟨g, 2, none⟩ = some (.slice (some ⟨r, 0, none⟩) 32 c)) (ca : u.cell? ⟨r, r1, none⟩ = some (.int .i64 a))
    (hs : ∀ U : World, Below u.heap.size u U → u.heap.size < U.heap.size → Calls Try.prog 98 #[.pointer (some ⟨g, 0, none⟩), .int .i64 rd, .int .i64 (Pl.wd (pc + 4))] U fun e w' => e = .returned (.tuple #[]) ∧ post w') :
    Calls Try.prog 96 #[.pointer (some ⟨g, 0, none⟩), .agg #[.int .i64 33, .int .i64 rd, .int .i64 r1, .int .i64 r2, .int .i64 im]] u fun e w' => e = .returned (.tuple #[.int .i64 (Pl.wd (a + im) - Pl.wd (a + im) % 2), .bool true]) ∧ post w' := by
  have cp' := fl_alloc cp
  have cr' := fl_alloc cr
  have ca' := fl_alloc ca
  clear cp cr ca
  have HS : Hid (∀ U : World, Below u.heap.size u U → u.heap.size < U.heap.size → Calls Try.prog 98 #[.pointer (some ⟨g, 0, none⟩), .int .i64 rd, .int .i64 (Pl.wd (pc + 4))] U fun e w' => e = .returned (.tuple #[]) ∧ post w') := hs
  clear hs
  have l1 : (r1 : Int) < 32 := by omega
  have hw1 : IntKind.i64.wrap (a + im) = a + im := by rw [IntKind.wrap_i64]; omega
  have hw2 : IntKind.i64.wrap (pc + 4) = pc + 4 := by rw [IntKind.wrap_i64]; omega
  have hT := Pl.wd_bd (a + im)
  go_enter Try.func96, Try.ntmps96
  go_wp2_with (go_at_call 38; refine (specWord_any _ _).mono ?_; rintro e v1 ⟨rfl, rfl⟩)
  go_quiet ((go_at_call 38; exact Calls.quiet_of_same (specWord_any _ _)))
  generalize hTT : Pl.wd (a + im) = T at *
  have HTT : Hid (Pl.wd (a + im) = T) := hTT
  clear hTT
  go_wp2_with (go_at_call 98; refine (HS.out _ (below_drewN (below_alloc u _) _) (by show u.heap.size < (u.alloc _).heap.size; simp)).mono ?_; rintro e v2 ⟨rfl, hpost⟩)
  go_ret2
  refine ⟨?_, hpost⟩
  rw [HTT.out]
  rfl
end Go.Proofs.Ytfcfnbncgadomaa.W
namespace Go.Proofs.Ytfcfnbncgadomaa.Pl
/-- an instruction -/
structure Ins where
  op : Int
  rd : Nat
  r1 : Nat
  r2 : Nat
  im : Int
/-- its numbers lie where those of instructions lie -/
structure InsOk (i : Ins) : Prop where
  op1 : 1 ≤ i.op
  op2 : i.op ≤ 47
  rd : i.rd ≤ 31
  r1 : i.r1 ≤ 31
  r2 : i.r2 ≤ 31
  im : -2147483648 ≤ i.im ∧ i.im ≤ 2147483648
/-- a valid machine -/
structure Vd (m : Mac) : Prop where
  code : m.code.length ≤ 16384
  data : m.data.length ≤ 65536
  stk : m.stk.length ≤ 65536
  pc : 0 ≤ m.pc ∧ m.pc ≤ 4294967295
  regs : m.regs.length = 32
  word : ∀ n, n < 32 → 0 ≤ m.regs.getD n 0 ∧ m.regs.getD n 0 ≤ 4294967295
  inp : m.inp.length ≤ 10000
  out : m.out.length ≤ 10000
  steps : 0 ≤ m.steps ∧ m.steps ≤ 1000000
def rv (m : Mac) (n : Nat) : Int := m.regs.getD n 0
def setR (m : Mac) (n : Nat) (x : Int) : Mac := if n = 0 then m else { m with regs := m.regs.set n (wd x) }
/-- where pc goes, whether the instruction jumps, and the machine behind it -/
def flow (m : Mac) (i : Ins) : Int × Bool × Mac :=
  if 37 ≤ i.op ∧ i.op ≤ 42 then (if brt i.op (rv m i.r1) (rv m i.r2) then wd (m.pc + i.im) else wd (m.pc + 4), true, m)
  else if i.op = 45 then (wd (m.pc + i.im), true, setR m i.rd (wd (m.pc + 4)))
  else if i.op = 33 then (wd (rv m i.r1 + i.im) - wd (rv m i.r1 + i.im) % 2, true, setR m i.rd (wd (m.pc + 4)))
  else (wd (m.pc + 4), false, m)
theorem setR_pc (m : Mac) (n : Nat) (x : Int) : (setR m n x).pc = m.pc := by unfold setR; split <;> rfl
theorem wd_bdd (x : Int) : 0 ≤ wd x ∧ wd x ≤ 4294967295 := by unfold wd; omega
end Go.Proofs.Ytfcfnbncgadomaa.Pl
namespace Go.Proofs.Ytfcfnbncgadomaa.W
open Go.RowKit
/-- what a call leaves: a machine at work, and all else as it was -/
def Left (D : Nat → Prop) (g : Nat) (u u' : World) (m : Pl.Mac) : Prop := ∃ v, Run D g u' v m ∧ St D u u' ∧ u'.heap.size ≤ u'.heap.size
theorem Run.cell {D : Nat → Prop} {g : Nat} {u : World} {v : MV} {m : Pl.Mac} (h : Run D g u v m) (j : Nat) : u.cell? ⟨g, j, none⟩ = (#[.slice v.code.a v.code.len v.code.cap, .int .i64 m.pc, .slice v.regs.a v.regs.len v.regs.cap, .slice v.data.a v.data.len v.data.cap, .slice v.stk.a v.stk.len v.stk.cap, .slice v.inp.a v.inp.len v.inp.cap, .slice v.out.a v.out.len v.out.cap, .int .i64 m.steps, .int .i64 m.fin, .int .i64 m.val] : Array Value)[j]? := cell_of_row u g j _ 25 (0, 0) h.box
theorem Run.regsAt {D : Nat → Prop} {g : Nat} {u : World} {v : MV} {m : Pl.Mac} (h : Run D g u v m) (hv : m.regs.length = 32) : ∃ r c, v.regs = ⟨some ⟨r, 0, none⟩, 32, c⟩ ∧ (∀ n, n < 32 → u.cell? ⟨r, n, none⟩ = some (.int .i64 (m.regs.getD n 0))) ∧ (∀ n, u.frozen? ⟨r, n, none⟩ = false) := by
  have hl : v.regs.len = 32 := by have := h.regs.row.1; omega
  have ho := h.regs.1
  generalize v.regs = sv at ho hl ⊢
  obtain ⟨a, len, cap⟩ := sv
  dsimp only at ho hl
  subst hl
  rcases ho.2 with ⟨_, h1⟩ | ⟨r, c', cur, h0, _⟩
  · omega
  · simp only [Value.slice.injEq] at h0
    obtain ⟨rfl, _, rfl⟩ := h0
    refine ⟨r, cap, rfl, fun n hn => ?_, fun n => ho.frozenAt n⟩
    have := ho.cellAt n (by omega)
    rw [this, List.getElem?_map, List.getElem?_eq_getElem (by omega), List.getD_eq_getElem?_getD, List.getElem?_eq_getElem (by omega)]
    rfl
theorem l3Set_run {D : Nat → Prop} {g : Nat} {u : World} {v : MV} {m : Pl.Mac} (h : Run D g u v m) (hv : m.regs.length = 32) (n : Nat) (hn : n ≤ 31) (x : Int) :
    Calls Try.prog 98 #[.pointer (some ⟨g, 0, none⟩), .int .i64 n, .int .i64 x] u fun e u' => e = .returned (.tuple #[]) ∧ Run D g u' v (Pl.setR m n x) ∧ St D u u' ∧ (∀ b, b < u.heap.size → (blks g v)[2]? ≠ some (some b) → u'.heap[b]? = u.heap[b]?) := by
  by_cases h0 : n = 0
  · subst h0
    exact (l3Set_no _ _ x (by decide) u).mono fun e u' ⟨he, hu⟩ => by rw [hu]; exact ⟨he, h, St.refl _ _, fun _ _ _ => rfl⟩
  · obtain ⟨r, c, hr, hc, hf⟩ := h.regsAt hv
    have hcell : u.cell? ⟨g, 2, none⟩ = some (.slice (some ⟨r, 0, none⟩) 32 c) := by rw [h.cell 2, hr]; rfl
    have hb : (blks g v)[2]? = some (some r) := by simp [blks, hr]
    refine (l3Set_yes g r c n x _ (by omega) hn u hcell (hc n (by omega)) (hf n)).mono fun e u' ⟨he, k, hu⟩ => ?_
    have e1 : Pl.setR m n x = { m with regs := m.regs.set n (Pl.wd x) } := by unfold Pl.setR; rw [if_neg h0]
    have hR := h.setReg (r := r) (by rw [hr]) n (Pl.wd x) (by
      have := Pl.wd_bdd x
      generalize Pl.wd x = y at this
      simp [Lit.wf, IntKind.min, IntKind.max, IntKind.signed, IntKind.bits]
      omega)
    rw [hu, e1]
    refine ⟨he, hR.keep (below_drewN (Below.refl _ _) k), (St.set (h.ne 2 hb)).trans (hR.st (below_drewN (Below.refl _ _) k)), fun b hbl hne => ?_⟩
    show (u.setCell ⟨r, n, none⟩ _).heap[b]? = _
    exact Below.heap_setCell u ⟨r, n, none⟩ _ b (fun e => hne (by rw [hb, e]))
theorem l3Flow_run {D : Nat → Prop} {g : Nat} {u : World} {v : MV} {m : Pl.Mac} (h : Run D g u v m) (hv : Pl.Vd m) (i : Pl.Ins) (hi : Pl.InsOk i) :
    Calls Try.prog 96 #[.pointer (some ⟨g, 0, none⟩), .agg #[.int .i64 i.op, .int .i64 i.rd, .int .i64 i.r1, .int .i64 i.r2, .int .i64 i.im]] u fun e u' => e = .returned (.tuple #[.int .i64 (Pl.flow m i).1, .bool (Pl.flow m i).2.1]) ∧ Run D g u' v (Pl.flow m i).2.2 ∧ St D u u' := by
  obtain ⟨r, c, hr, hc, hf⟩ := h.regsAt hv.regs
  have cp : u.cell? ⟨g, 1, none⟩ = some (.int .i64 m.pc) := h.cell 1
  have cr : u.cell? ⟨g, 2, none⟩ = some (.slice (some ⟨r, 0, none⟩) 32 c) := by rw [h.cell 2, hr]; rfl
  have hrb : r < u.heap.size := block_lt_of_cell (hc 0 (by decide))
  obtain ⟨op, rd, r1, r2, im⟩ := i
  obtain ⟨o1, o2, d1, d2, d3, d4⟩ := hi
  dsimp only at o1 o2 d1 d2 d3 d4 ⊢
  unfold Pl.flow
  dsimp only
  by_cases hb : 37 ≤ op ∧ op ≤ 42
  · rw [if_pos hb]
    exact (flow_br g r c op rd r1 r2 im m.pc _ _ hb.1 hb.2 hv.pc d4 d2 d3 u cp cr (hc r1 (by omega)) (hc r2 (by omega))).mono fun e u' ⟨he, d⟩ => ⟨he, h.keep d, h.st d⟩
  rw [if_neg hb]
  by_cases h45 : op = 45
  · rw [if_pos h45]
    subst h45
    refine (flow_jal g rd r1 r2 im m.pc hv.pc d4 u (fun w' => Run D g w' v (Pl.setR m rd (Pl.wd (m.pc + 4))) ∧ St D u w') cp fun U hU hlt => ?_).mono fun e u' ⟨he, w1, k, ⟨hR, hS⟩, hw⟩ => ?_
    · refine (l3Set_run (h.keep hU) hv.regs rd d1 _).mono fun e u' ⟨he, hR, hS, hk⟩ => ⟨he, ⟨hR, (h.st hU).trans hS⟩, ?_, fun j => ?_⟩
      · rw [hR.cell 1, Pl.setR_pc]; rfl
      · refine World.cell?_of_block (a := ⟨u.heap.size, j, none⟩) (hk u.heap.size hlt ?_)
        simp [blks, hr]
        omega
    · rw [hw]
      exact ⟨he, hR.keep (below_drewN (Below.refl _ _) k), hS.trans (hR.st (below_drewN (Below.refl _ _) k))⟩
  rw [if_neg h45]
  by_cases h33 : op = 33
  · rw [if_pos h33]
    subst h33
    refine (flow_jalr g r c rd r1 r2 im m.pc _ hv.pc (hv.word r1 (by omega)) d4 d2 u (fun w' => Run D g w' v (Pl.setR m rd (Pl.wd (m.pc + 4))) ∧ St D u w') cp cr (hc r1 (by omega)) fun U hU hlt => ?_)
    exact (l3Set_run (h.keep hU) hv.regs rd d1 _).mono fun e u' ⟨he, hR, hS, hk⟩ => ⟨he, hR, (h.st hU).trans hS⟩
  rw [if_neg h33]
  exact (flow_no g op rd r1 r2 im m.pc (by omega) h45 h33 hv.pc u cp).mono fun e u' ⟨he, d⟩ => ⟨he, h.keep d, h.st d⟩
end Go.Proofs.Ytfcfnbncgadomaa.W
