import Derived.Test.YtjdfffdeljgenaaGreatDoorS01
import Derived.OneCell
import Derived.Test.YtjdfffdeljgenaaGreatDoorS00
import Derived.Deep.RegionHeld3
import Derived.Deep.Light
import Derived.Deep.RegionWith
import Derived.Deep.QuietTactic
import Derived.Test.YtjdfffdeljgenaaGreatDoorS03
import Derived.Test.YtjdfffdeljgenaaGreatDoorS04
import Derived.Deep.AppendLies
import Derived.Deep.RegionLaw
set_option linter.unusedVariables false
set_option linter.unusedSimpArgs false
namespace Go.Proofs.YtjdfffdeljgenaaGreatDoor.W
open Go.RowKit
def blks (g : Nat) (v : MV) : List (Option Nat) := [some g, v.code.a.map (·.block), v.regs.a.map (·.block), v.data.a.map (·.block), v.stk.a.map (·.block), v.inp.a.map (·.block), v.out.a.map (·.block)]
def Apart (g : Nat) (v : MV) : Prop := ∀ i j, i < 7 → j < 7 → i ≠ j → ∀ x, (blks g v)[i]? = some (some x) → (blks g v)[j]? ≠ some (some x)
structure Run (D : Nat → Prop) (g : Nat) (u : World) (v : MV) (m : Pl.Mac) : Prop where
  av : ∀ x, D x → x < u.heap.size ∧ ∀ i : Nat, (blks g v)[i]? ≠ some (some x)
  box : u.heap[g]? = some (.cells #[.slice v.code.a v.code.len v.code.cap, .int .i64 m.pc, .slice v.regs.a v.regs.len v.regs.cap, .slice v.data.a v.data.len v.data.cap, .slice v.stk.a v.stk.len v.stk.cap, .slice v.inp.a v.inp.len v.inp.cap, .slice v.out.a v.out.len v.out.cap, .int .i64 m.steps, .int .i64 m.fin, .int .i64 m.val] 25)
  code : Row .i64 0 u v.code.a v.code.len v.code.cap m.code
  regs : Own .i64 3 0 u v.regs.a v.regs.len v.regs.cap m.regs
  data : Own .u8 5 0 u v.data.a v.data.len v.data.cap m.data
  stk : Own .u8 5 0 u v.stk.a v.stk.len v.stk.cap m.stk
  inp : Row .u8 0 u v.inp.a v.inp.len v.inp.cap m.inp
  out : Own .u8 5 0 u v.out.a v.out.len v.out.cap m.out
  ap : Apart g v
  lt : ∀ (i : Nat) x, (blks g v)[i]? = some (some x) → x < u.heap.size
  fz : ∀ (i : Nat) x, (blks g v)[i]? = some (some x) → ∀ j, u.frozen? ⟨x, j, none⟩ = false
structure St (D : Nat → Prop) (u u' : World) : Prop where
  os : u'.os = u.os
  tape : u'.tape = u.tape
  output : u'.output = u.output
  size : u.heap.size ≤ u'.heap.size
  keep : ∀ x, D x → u'.heap[x]? = u.heap[x]?
theorem St.refl (D : Nat → Prop) (u : World) : St D u u := ⟨rfl, rfl, rfl, Nat.le_refl _, fun _ _ => rfl⟩
theorem St.trans {D : Nat → Prop} {a b c : World} (h : St D a b) (k : St D b c) : St D a c := ⟨k.os.trans h.os, k.tape.trans h.tape, k.output.trans h.output, Nat.le_trans h.size k.size, fun x hx => (k.keep x hx).trans (h.keep x hx)⟩
theorem St.set {D : Nat → Prop} {u : World} {b j : Nat} {y : Value} (h : ∀ x, D x → x ≠ b) : St D u (u.setCell ⟨b, j, none⟩ y) := ⟨rfl, rfl, rfl, by simp, fun x hx => Below.heap_setCell u ⟨b, j, none⟩ y x (h x hx)⟩
theorem Row.other {k : IntKind} {lo : Nat} {w w' : World} {a : Option Addr} {len cap : Nat} {zs : List Int} (h : Row k lo w a len cap zs) (hs : w.heap.size ≤ w'.heap.size) (hb : ∀ x, a.map (·.block) = some x → w'.heap[x]? = w.heap[x]?) : Row k lo w' a len cap zs := by
  obtain ⟨h1, h2, h3, h4, h5⟩ := h
  refine ⟨h1, h2, h3, h4, ?_⟩
  rcases h5 with h5 | ⟨b, off, ha, hlo, hlt, hc⟩
  · exact .inl h5
  · refine .inr ⟨b, off, ha, hlo, Nat.lt_of_lt_of_le hlt hs, fun i hi => ?_⟩
    rw [World.cell?_of_block (a := ⟨b, off + i, none⟩) (hb b (by rw [ha]; rfl))]
    exact hc i hi
theorem Own.other {k : IntKind} {e : TypeId} {lo : Nat} {w w' : World} {a : Option Addr} {len cap : Nat} {zs : List Int} (h : Own k e lo w a len cap zs) (hb : ∀ x, a.map (·.block) = some x → w'.heap[x]? = w.heap[x]?) : Own k e lo w' a len cap zs := by
  obtain ⟨hown, hwf⟩ := h
  refine ⟨⟨hown.1, ?_⟩, hwf⟩
  rcases hown.2 with h0 | ⟨g, cap', cur, h0, hlo, hg, hr⟩
  · exact .inl h0
  · refine .inr ⟨g, cap', cur, h0, hlo, ?_, hr⟩
    simp only [Value.slice.injEq] at h0
    rw [hb g (by rw [h0.1]; rfl)]
    exact hg
theorem own_unfrozen {k : IntKind} {e : TypeId} {lo : Nat} {w : World} {a : Option Addr} {len cap : Nat} {zs : List Int} (h : Own k e lo w a len cap zs) {x : Nat} (hx : a.map (·.block) = some x) (j : Nat) : w.frozen? ⟨x, j, none⟩ = false := by
  rcases h.1.2 with ⟨h0, _⟩ | ⟨b, c, cur, h0, _, hg, _⟩
  · simp only [Value.slice.injEq] at h0; rw [h0.1] at hx; cases hx
  · simp only [Value.slice.injEq] at h0
    rw [h0.1] at hx
    cases hx
    exact frozen_of_row w b j _ e hg
theorem Run.keep {D : Nat → Prop} {g : Nat} {u u' : World} {v : MV} {m : Pl.Mac} (h : Run D g u v m) (hb : Below u.heap.size u u') : Run D g u' v m :=
  ⟨fun x hx => ⟨Nat.lt_of_lt_of_le (h.av x hx).1 hb.size, (h.av x hx).2⟩, (hb.block g (Array.getElem?_eq_some_iff.1 h.box).1).trans h.box, h.code.keep hb, h.regs.keep hb, h.data.keep hb, h.stk.keep hb, h.inp.keep hb, h.out.keep hb, h.ap, fun i x hx => Nat.lt_of_lt_of_le (h.lt i x hx) hb.size, fun i x hx j => (hb.frozen (h.lt i x hx)).trans (h.fz i x hx j)⟩
theorem Run.st {D : Nat → Prop} {g : Nat} {u u' : World} {v : MV} {m : Pl.Mac} (h : Run D g u v m) (hb : Below u.heap.size u u') : St D u u' := ⟨hb.os, hb.tape, hb.output, hb.size, fun x hx => hb.block x (h.av x hx).1⟩
theorem Run.ne {D : Nat → Prop} {g : Nat} {u : World} {v : MV} {m : Pl.Mac} (h : Run D g u v m) (i : Nat) {b : Nat} (hb : (blks g v)[i]? = some (some b)) : ∀ x, D x → x ≠ b := fun x hx e => (h.av x hx).2 i (by rw [hb, e])
theorem Apart.ne {g : Nat} {v : MV} (h : Apart g v) (i : Nat) (hi : i < 7) (h0 : i ≠ 0) {x : Nat} (hx : (blks g v)[i]? = some (some x)) : x ≠ g := by
  intro e
  exact h i 0 hi (by decide) h0 x hx (by rw [e]; rfl)
theorem Run.boxed {D : Nat → Prop} {g : Nat} {u : World} {v v2 : MV} {m m2 : Pl.Mac} (h : Run D g u v m) (j : Nat) (x : Value) (e : (#[.slice v.code.a v.code.len v.code.cap, .int .i64 m.pc, .slice v.regs.a v.regs.len v.regs.cap, .slice v.data.a v.data.len v.data.cap, .slice v.stk.a v.stk.len v.stk.cap, .slice v.inp.a v.inp.len v.inp.cap, .slice v.out.a v.out.len v.out.cap, .int .i64 m.steps, .int .i64 m.fin, .int .i64 m.val] : Array Value).setIfInBounds j x = #[.slice v2.code.a v2.code.len v2.code.cap, .int .i64 m2.pc, .slice v2.regs.a v2.regs.len v2.regs.cap, .slice v2.data.a v2.data.len v2.data.cap, .slice v2.stk.a v2.stk.len v2.stk.cap, .slice v2.inp.a v2.inp.len v2.inp.cap, .slice v2.out.a v2.out.len v2.out.cap, .int .i64 m2.steps, .int .i64 m2.fin, .int .i64 m2.val])
    (e1 : v2.code = v.code ∧ m2.code = m.code) (e2 : v2.regs = v.regs ∧ m2.regs = m.regs) (e3 : v2.data = v.data ∧ m2.data = m.data) (e4 : v2.stk = v.stk ∧ m2.stk = m.stk) (e5 : v2.inp = v.inp ∧ m2.inp = m.inp) (e6 : v2.out = v.out ∧ m2.out = m.out) : Run D g (u.setCell ⟨g, j, none⟩ x) v2 m2 := by
  have hs : u.heap.size ≤ (u.setCell ⟨g, j, none⟩ x).heap.size := by simp
  have hk : ∀ y, y ≠ g → (u.setCell ⟨g, j, none⟩ x).heap[y]? = u.heap[y]? := fun y hy => Below.heap_setCell u ⟨g, j, none⟩ x y hy
  obtain ⟨vc, vr, vd, vs, vi, vo⟩ := v
  obtain ⟨vc', vr', vd', vs', vi', vo'⟩ := v2
  dsimp only at e1 e2 e3 e4 e5 e6
  obtain ⟨rfl, e1⟩ := e1
  obtain ⟨rfl, e2⟩ := e2
  obtain ⟨rfl, e3⟩ := e3
  obtain ⟨rfl, e4⟩ := e4
  obtain ⟨rfl, e5⟩ := e5
  obtain ⟨rfl, e6⟩ := e6
  exact ⟨fun y hy => ⟨by simpa using (h.av y hy).1, (h.av y hy).2⟩, row_put h.box j x e, e1 ▸ h.code.other hs fun y hy => hk y (h.ap.ne 1 (by decide) (by decide) (by rw [← hy]; rfl)), e2 ▸ h.regs.other fun y hy => hk y (h.ap.ne 2 (by decide) (by decide) (by rw [← hy]; rfl)), e3 ▸ h.data.other fun y hy => hk y (h.ap.ne 3 (by decide) (by decide) (by rw [← hy]; rfl)), e4 ▸ h.stk.other fun y hy => hk y (h.ap.ne 4 (by decide) (by decide) (by rw [← hy]; rfl)), e5 ▸ h.inp.other hs fun y hy => hk y (h.ap.ne 5 (by decide) (by decide) (by rw [← hy]; rfl)), e6 ▸ h.out.other fun y hy => hk y (h.ap.ne 6 (by decide) (by decide) (by rw [← hy]; rfl)), h.ap, fun i y hy => by simpa using h.lt i y hy, fun i y hy jj => (World.frozen?_setCell _ _ _ _).trans (h.fz i y hy jj)⟩
theorem Run.setPc {D : Nat → Prop} {g : Nat} {u : World} {v : MV} {m : Pl.Mac} (h : Run D g u v m) (x : Int) : Run D g (u.setCell ⟨g, 1, none⟩ (.int .i64 x)) v { m with pc := x } := h.boxed 1 _ rfl ⟨rfl, rfl⟩ ⟨rfl, rfl⟩ ⟨rfl, rfl⟩ ⟨rfl, rfl⟩ ⟨rfl, rfl⟩ ⟨rfl, rfl⟩
theorem Run.setSteps {D : Nat → Prop} {g : Nat} {u : World} {v : MV} {m : Pl.Mac} (h : Run D g u v m) (x : Int) : Run D g (u.setCell ⟨g, 7, none⟩ (.int .i64 x)) v { m with steps := x } := h.boxed 7 _ rfl ⟨rfl, rfl⟩ ⟨rfl, rfl⟩ ⟨rfl, rfl⟩ ⟨rfl, rfl⟩ ⟨rfl, rfl⟩ ⟨rfl, rfl⟩
theorem Run.setFin {D : Nat → Prop} {g : Nat} {u : World} {v : MV} {m : Pl.Mac} (h : Run D g u v m) (x : Int) : Run D g (u.setCell ⟨g, 8, none⟩ (.int .i64 x)) v { m with fin := x } := h.boxed 8 _ rfl ⟨rfl, rfl⟩ ⟨rfl, rfl⟩ ⟨rfl, rfl⟩ ⟨rfl, rfl⟩ ⟨rfl, rfl⟩ ⟨rfl, rfl⟩
theorem Run.setVal {D : Nat → Prop} {g : Nat} {u : World} {v : MV} {m : Pl.Mac} (h : Run D g u v m) (x : Int) : Run D g (u.setCell ⟨g, 9, none⟩ (.int .i64 x)) v { m with val := x } := h.boxed 9 _ rfl ⟨rfl, rfl⟩ ⟨rfl, rfl⟩ ⟨rfl, rfl⟩ ⟨rfl, rfl⟩ ⟨rfl, rfl⟩ ⟨rfl, rfl⟩
theorem Apart.two {g : Nat} {v : MV} (h : Apart g v) (i j : Nat) (hi : i < 7) (hj : j < 7) (hij : i ≠ j) {x y : Nat} (hx : (blks g v)[i]? = some (some x)) (hy : (blks g v)[j]? = some (some y)) : y ≠ x := by
  intro e
  exact h i j hi hj hij x hx (by rw [hy, e])
theorem Run.setReg {D : Nat → Prop} {g r : Nat} {u : World} {v : MV} {m : Pl.Mac} (h : Run D g u v m) (hr : v.regs.a = some ⟨r, 0, none⟩) (n : Nat) (x : Int) (hw : (Lit.int .i64 x).wf = true) : Run D g (u.setCell ⟨r, n, none⟩ (.int .i64 x)) v { m with regs := m.regs.set n x } := by
  have hs : u.heap.size ≤ (u.setCell ⟨r, n, none⟩ (.int .i64 x)).heap.size := by simp
  have hk : ∀ y, y ≠ r → (u.setCell ⟨r, n, none⟩ (.int .i64 x)).heap[y]? = u.heap[y]? := fun y hy => Below.heap_setCell u ⟨r, n, none⟩ _ y hy
  have hb : (blks g v)[2]? = some (some r) := by simp [blks, hr]
  refine ⟨fun y hy => ⟨by simpa using (h.av y hy).1, (h.av y hy).2⟩, (hk g (h.ap.ne 2 (by decide) (by decide) hb).symm).trans h.box, h.code.other hs fun y hy => hk y (h.ap.two 2 1 (by decide) (by decide) (by decide) hb (by rw [← hy]; rfl)), ?_, h.data.other fun y hy => hk y (h.ap.two 2 3 (by decide) (by decide) (by decide) hb (by rw [← hy]; rfl)), h.stk.other fun y hy => hk y (h.ap.two 2 4 (by decide) (by decide) (by decide) hb (by rw [← hy]; rfl)), h.inp.other hs fun y hy => hk y (h.ap.two 2 5 (by decide) (by decide) (by decide) hb (by rw [← hy]; rfl)), h.out.other fun y hy => hk y (h.ap.two 2 6 (by decide) (by decide) (by decide) hb (by rw [← hy]; rfl)), h.ap, fun i y hy => by simpa using h.lt i y hy, fun i y hy jj => (World.frozen?_setCell _ _ _ _).trans (h.fz i y hy jj)⟩
  have ho := h.regs.1
  rw [hr] at ho ⊢
  have st := (ho.stored n (.int .i64 x)).1
  refine ⟨?_, fun q hq => ?_⟩
  · rw [List.map_set]; exact st
  · rcases List.mem_or_eq_of_mem_set hq with hq | rfl
    · exact h.regs.2 q hq
    · exact hw
end Go.Proofs.YtjdfffdeljgenaaGreatDoor.W
namespace Go.Proofs.YtjdfffdeljgenaaGreatDoor.Pl
def brt (op a b : Int) : Bool :=
  if op = 37 ∨ op = 38 then (a == b) == (op == 37) else if op = 39 ∨ op = 40 then decide (sg a < sg b) == (op == 39) else decide (a < b) == (op == 41)
def lsk (op : Int) : Int := if op = 34 then 2 else if op = 35 then 4 else if op = 36 then 5 else if op = 28 then 1 else if op = 29 then 3 else if op = 30 then 5 else if op = 31 then 2 else 4
end Go.Proofs.YtjdfffdeljgenaaGreatDoor.Pl
namespace Go.Proofs.YtjdfffdeljgenaaGreatDoor.W
open Go.RowKit
theorem l3Set_no (p : Value) (n x : Int) (h : n ≤ 0) (w : World) : Calls Tryz.prog 72 #[p, .int .i64 n, .int .i64 x] w fun e w' => e = .returned (.tuple #[]) ∧ w' = w := by
  go_enter Tryz.func72, Tryz.ntmps72
  go_wp2
  go_end0
  exact ⟨rfl, rfl⟩
set_option maxHeartbeats 2000000 in
theorem l3Set_yes (g r c n : Nat) (x : Int) (y : Value) (h1 : 1 ≤ n) (h2 : n ≤ 31) (w : World) (hc : w.cell? ⟨g, 2, none⟩ = some (.slice (some ⟨r, 0, none⟩) 32 c)) (hr : w.cell? ⟨r, n, none⟩ = some y) (hf : w.frozen? ⟨r, n, none⟩ = false) :
    Calls Tryz.prog 72 #[.pointer (some ⟨g, 0, none⟩), .int .i64 n, .int .i64 x] w fun e w' => e = .returned (.tuple #[]) ∧ ∃ k, w' = (w.setCell ⟨r, n, none⟩ (.int .i64 (Pl.wd x))).drewN k := by
  have e1 : decide ((0 : Int) < (n : Int)) = true := by simp; omega
  have e2 : (n : Int) < 32 := by omega
  go_enter Tryz.func72, Tryz.ntmps72
  go_wp2_with fail
  go_region_with (go_at_call 75; refine (specWord_any _ _).mono ?_; rintro e v1 ⟨rfl, rfl⟩)
  all_goals
    go_end0
    exact ⟨rfl, 1, rfl⟩
theorem l3Taken_any (op a b : Int) (h1 : 37 ≤ op) (h2 : op ≤ 42) (w : World) : Calls Tryz.prog 97 #[.int .i64 op, .int .i64 a, .int .i64 b] w fun e w' => e = .returned (.bool (Pl.brt op a b)) ∧ w' = w := by
  have : op = 37 ∨ op = 38 ∨ op = 39 ∨ op = 40 ∨ op = 41 ∨ op = 42 := by omega
  rcases this with rfl | rfl | rfl | rfl | rfl | rfl
  all_goals
    go_enter Tryz.func97, Tryz.ntmps97
    go_wp2_with (go_at_call 99; refine (specSigned_any _ _).mono ?_; rintro e u1 ⟨rfl, rfl⟩)
    go_ret
    exact ⟨ret_bool (by simp [Pl.brt]), rfl⟩
theorem l3Kinds_any (op : Int) (h : (28 ≤ op ∧ op ≤ 32) ∨ (34 ≤ op ∧ op ≤ 36)) (w : World) : Calls Tryz.prog 74 #[.int .i64 op] w fun e w' => e = .returned (.int .i64 (Pl.lsk op)) ∧ Below w.heap.size w w' := by
  have : op = 28 ∨ op = 29 ∨ op = 30 ∨ op = 31 ∨ op = 32 ∨ op = 34 ∨ op = 35 ∨ op = 36 := by omega
  rcases this with rfl | rfl | rfl | rfl | rfl | rfl | rfl | rfl
  all_goals
    go_enter Tryz.func74, Tryz.ntmps74
    go_wp2
    go_ret
    exact ⟨rfl, (Below.refl _ _).alloc (Nat.le_refl _) _⟩
end Go.Proofs.YtjdfffdeljgenaaGreatDoor.W
namespace Go.Proofs.YtjdfffdeljgenaaGreatDoor.W
open Go.RowKit
theorem fl_alloc {u : World} {p : Addr} {x : Value} (h : u.cell? p = some x) (o : Obj) : (u.alloc o).cell? p = some x := by
  rw [(below_alloc u o).cell (World.block_lt_of_cell? u p h)]
  exact h
set_option maxRecDepth 8000 in
set_option maxHeartbeats 4000000 in
theorem flow_br (g r c : Nat) (op : Int) (rd r1 r2 : Nat) (im pc a b : Int) (h1 : 37 ≤ op) (h2 : op ≤ 42) (hp : 0 ≤ pc ∧ pc ≤ 4294967295) (hi : -2147483648 ≤ im ∧ im ≤ 2147483648) (q1 : r1 ≤ 31) (q2 : r2 ≤ 31) (u : World)
    (cp : u.cell? ⟨g, 1, none⟩ = some (.int .i64 pc)) (cr : u.cell? ⟨g, 2, none⟩ = some (.slice (some ⟨r, 0, none⟩) 32 c)) (ca : u.cell? ⟨r, r1, none⟩ = some (.int .i64 a)) (cb : u.cell? ⟨r, r2, none⟩ = some (.int .i64 b)) :
    Calls Tryz.prog 70 #[.pointer (some ⟨g, 0, none⟩), .agg #[.int .i64 op, .int .i64 rd, .int .i64 r1, .int .i64 r2, .int .i64 im]] u fun e w' => e = .returned (.tuple #[.int .i64 (if Pl.brt op a b then Pl.wd (pc + im) else Pl.wd (pc + 4)), .bool true]) ∧ Below u.heap.size u w' := by
  have cp' := fl_alloc cp
  have cr' := fl_alloc cr
  have ca' := fl_alloc ca
  have cb' := fl_alloc cb
  clear cp cr ca cb
  have e1 : decide (37 ≤ op) = true := by simpa using h1
  have e2 : decide (op ≤ 42) = true := by simpa using h2
  have l1 : (r1 : Int) < 32 := by omega
  have l2 : (r2 : Int) < 32 := by omega
  have hw1 : IntKind.i64.wrap (pc + im) = pc + im := by rw [IntKind.wrap_i64]; omega
  have hw2 : IntKind.i64.wrap (pc + 4) = pc + 4 := by rw [IntKind.wrap_i64]; omega
  have HT : Hid (∀ w, Calls Tryz.prog 97 #[.int .i64 op, .int .i64 a, .int .i64 b] w fun e w' => e = .returned (.bool (Pl.brt op a b)) ∧ w' = w) := fun w => l3Taken_any op a b h1 h2 w
  cases ht : Pl.brt op a b
  · rw [ht] at HT
    go_enter Tryz.func70, Tryz.ntmps70
    go_wp2_with (go_at_call 75; refine (specWord_any _ _).mono ?_; rintro e v1 ⟨rfl, rfl⟩)
    go_quiet ((go_at_call 97; exact Calls.quiet_of_same (HT.out _)))
    go_wp2
    go_ret2
    exact ⟨rfl, below_drewN (below_alloc _ _) _⟩
  · rw [ht] at HT
    go_enter Tryz.func70, Tryz.ntmps70
    go_wp2_with (go_at_call 75; refine (specWord_any _ _).mono ?_; rintro e v1 ⟨rfl, rfl⟩)
    go_quiet ((go_at_call 97; exact Calls.quiet_of_same (HT.out _)))
    go_wp2
    go_region_with (go_at_call 75; refine (specWord_any _ _).mono ?_; rintro e v1 ⟨rfl, rfl⟩)
    all_goals
      go_wp2
      go_ret2
      exact ⟨rfl, by repeat (first | exact below_alloc _ _ | refine Below.drew ?_ | refine below_drewN ?_ _)⟩
set_option maxRecDepth 8000 in
set_option maxHeartbeats 4000000 in
theorem flow_no (g : Nat) (op rd r1 r2 im pc : Int) (h1 : op < 37 ∨ 42 < op) (h2 : op ≠ 45) (h3 : op ≠ 33) (hp : 0 ≤ pc ∧ pc ≤ 4294967295) (u : World) (cp : u.cell? ⟨g, 1, none⟩ = some (.int .i64 pc)) :
    Calls Tryz.prog 70 #[.pointer (some ⟨g, 0, none⟩), .agg #[.int .i64 op, .int .i64 rd, .int .i64 r1, .int .i64 r2, .int .i64 im]] u fun e w' => e = .returned (.tuple #[.int .i64 (Pl.wd (pc + 4)), .bool false]) ∧ Below u.heap.size u w' := by
  have cp' := fl_alloc cp
  clear cp
  have e4 : (op == 45) = false := by simpa using h2
  have e5 : (op == 33) = false := by simpa using h3
  by_cases h : op < 37
  · have e1 : decide (37 ≤ op) = false := by simp; omega
    go_enter Tryz.func70, Tryz.ntmps70
    go_wp2_with (go_at_call 75; refine (specWord_any _ _).mono ?_; rintro e v1 ⟨rfl, rfl⟩)
    go_ret2
    exact ⟨rfl, below_alloc _ _⟩
  · have e1 : decide (37 ≤ op) = true := by simp; omega
    have e2 : decide (op ≤ 42) = false := by simp; omega
    go_enter Tryz.func70, Tryz.ntmps70
    go_wp2_with (go_at_call 75; refine (specWord_any _ _).mono ?_; rintro e v1 ⟨rfl, rfl⟩)
    go_ret2
    exact ⟨rfl, below_alloc _ _⟩
set_option maxRecDepth 8000 in
set_option maxHeartbeats 4000000 in
theorem flow_jal (g : Nat) (rd r1 r2 im pc : Int) (hp : 0 ≤ pc ∧ pc ≤ 4294967295) (hi : -2147483648 ≤ im ∧ im ≤ 2147483648) (u : World) (post : World → Prop)
    (cp : u.cell? ⟨g, 1, none⟩ = some (.int .i64 pc))
    (hs : ∀ U : World, Below u.heap.size u U → u.heap.size < U.heap.size → Calls Tryz.prog 72 #[.pointer (some ⟨g, 0, none⟩), .int .i64 rd, .int .i64 (Pl.wd (pc + 4))] U fun e w' => e = .returned (.tuple #[]) ∧ post w' ∧ w'.cell? ⟨g, 1, none⟩ = some (.int .i64 pc) ∧ ∀ j, w'.cell? ⟨u.heap.size, j, none⟩ = U.cell? ⟨u.heap.size, j, none⟩) :
    Calls Tryz.prog 70 #[.pointer (some ⟨g, 0, none⟩), .agg #[.int .i64 45, .int .i64 rd, .int .i64 r1, .int .i64 r2, .int .i64 im]] u fun e w' => e = .returned (.tuple #[.int .i64 (Pl.wd (pc + im)), .bool true]) ∧ ∃ w1 k, post w1 ∧ w' = w1.drewN k := by
  have cp' := fl_alloc cp
  clear cp
  have HS : Hid (∀ U : World, Below u.heap.size u U → u.heap.size < U.heap.size → Calls Tryz.prog 72 #[.pointer (some ⟨g, 0, none⟩), .int .i64 rd, .int .i64 (Pl.wd (pc + 4))] U fun e w' => e = .returned (.tuple #[]) ∧ post w' ∧ w'.cell? ⟨g, 1, none⟩ = some (.int .i64 pc) ∧ ∀ j, w'.cell? ⟨u.heap.size, j, none⟩ = U.cell? ⟨u.heap.size, j, none⟩) := hs
  clear hs
  have hw1 : IntKind.i64.wrap (pc + im) = pc + im := by rw [IntKind.wrap_i64]; omega
  have hw2 : IntKind.i64.wrap (pc + 4) = pc + 4 := by rw [IntKind.wrap_i64]; omega
  have b4 : (u.alloc (.cells #[.int .i64 45, .int .i64 rd, .int .i64 r1, .int .i64 r2, .int .i64 im] 74)).cell? ⟨u.heap.size, 4, none⟩ = some (.int .i64 im) := cell_of_row _ u.heap.size 4 _ 74 (0, 0) (heap_alloc_new u _)
  go_enter Tryz.func70, Tryz.ntmps70
  go_wp2_with (first | (go_at_call 75; refine (specWord_any _ _).mono ?_; rintro e v1 ⟨rfl, rfl⟩) | (go_at_call 72; refine (HS.out _ (below_alloc u _) (by simp)).mono ?_; rintro e v2 ⟨rfl, hpost, p1, p2⟩; have p3 := (p2 4).trans b4; clear p2 cp' b4))
  go_quiet ((go_at_call 75; exact Calls.quiet_of_same (specWord_any _ _)))
  go_wp2
  go_ret2
  exact ⟨rfl, _, _, hpost, rfl⟩
set_option maxRecDepth 8000 in
set_option maxHeartbeats 4000000 in
theorem flow_jalr (g r c : Nat) (rd : Int) (r1 : Nat) (r2 im pc a : Int) (hp : 0 ≤ pc ∧ pc ≤ 4294967295) (ha : 0 ≤ a ∧ a ≤ 4294967295) (hi : -2147483648 ≤ im ∧ im ≤ 2147483648) (q1 : r1 ≤ 31) (u : World) (post : World → Prop)
    (cp : u.cell? ⟨g, 1, none⟩ = some (.int .i64 pc)) (cr : u.cell? ⟨g, 2, none⟩ = some (.slice (some ⟨r, 0, none⟩) 32 c)) (ca : u.cell? ⟨r, r1, none⟩ = some (.int .i64 a))
    (hs : ∀ U : World, Below u.heap.size u U → u.heap.size < U.heap.size → Calls Tryz.prog 72 #[.pointer (some ⟨g, 0, none⟩), .int .i64 rd, .int .i64 (Pl.wd (pc + 4))] U fun e w' => e = .returned (.tuple #[]) ∧ post w') :
    Calls Tryz.prog 70 #[.pointer (some ⟨g, 0, none⟩), .agg #[.int .i64 33, .int .i64 rd, .int .i64 r1, .int .i64 r2, .int .i64 im]] u fun e w' => e = .returned (.tuple #[.int .i64 (Pl.wd (a + im) - Pl.wd (a + im) % 2), .bool true]) ∧ post w' := by
  have cp' := fl_alloc cp
  have cr' := fl_alloc cr
  have ca' := fl_alloc ca
  clear cp cr ca
  have HS : Hid (∀ U : World, Below u.heap.size u U → u.heap.size < U.heap.size → Calls Tryz.prog 72 #[.pointer (some ⟨g, 0, none⟩), .int .i64 rd, .int .i64 (Pl.wd (pc + 4))] U fun e w' => e = .returned (.tuple #[]) ∧ post w') := hs
  clear hs
  have l1 : (r1 : Int) < 32 := by omega
  have hw1 : IntKind.i64.wrap (a + im) = a + im := by rw [IntKind.wrap_i64]; omega
  have hw2 : IntKind.i64.wrap (pc + 4) = pc + 4 := by rw [IntKind.wrap_i64]; omega
  have hT := Pl.wd_bd (a + im)
  go_enter Tryz.func70, Tryz.ntmps70
  go_wp2_with (go_at_call 75; refine (specWord_any _ _).mono ?_; rintro e v1 ⟨rfl, rfl⟩)
  go_quiet ((go_at_call 75; exact Calls.quiet_of_same (specWord_any _ _)))
  generalize hTT : Pl.wd (a + im) = T at *
  have HTT : Hid (Pl.wd (a + im) = T) := hTT
  clear hTT
  go_wp2_with (go_at_call 72; refine (HS.out _ (below_drewN (below_alloc u _) _) (by show u.heap.size < (u.alloc _).heap.size; simp)).mono ?_; rintro e v2 ⟨rfl, hpost⟩)
  go_ret2
  refine ⟨?_, hpost⟩
  rw [HTT.out]
  rfl
end Go.Proofs.YtjdfffdeljgenaaGreatDoor.W
namespace Go.Proofs.YtjdfffdeljgenaaGreatDoor.Pl
structure Ins where
  op : Int
  rd : Nat
  r1 : Nat
  r2 : Nat
  im : Int
structure InsOk (i : Ins) : Prop where
  op1 : 1 ≤ i.op
  op2 : i.op ≤ 47
  rd : i.rd ≤ 31
  r1 : i.r1 ≤ 31
  r2 : i.r2 ≤ 31
  im : -2147483648 ≤ i.im ∧ i.im ≤ 2147483648
structure Vd (m : Mac) : Prop where
  code : m.code.length ≤ 16384
  data : m.data.length ≤ 65536
  stk : m.stk.length ≤ 65536
  pc : 0 ≤ m.pc ∧ m.pc ≤ 4294967295
  regs : m.regs.length = 32
  word : ∀ n, n < 32 → 0 ≤ m.regs.getD n 0 ∧ m.regs.getD n 0 ≤ 4294967295
  inp : m.inp.length ≤ 10000
  out : m.out.length ≤ 10000
  steps : 0 ≤ m.steps ∧ m.steps ≤ 1000000
def rv (m : Mac) (n : Nat) : Int := m.regs.getD n 0
def setR (m : Mac) (n : Nat) (x : Int) : Mac := if n = 0 then m else { m with regs := m.regs.set n (wd x) }
def flow (m : Mac) (i : Ins) : Int × Bool × Mac :=
  if 37 ≤ i.op ∧ i.op ≤ 42 then (if brt i.op (rv m i.r1) (rv m i.r2) then wd (m.pc + i.im) else wd (m.pc + 4), true, m)
  else if i.op = 45 then (wd (m.pc + i.im), true, setR m i.rd (wd (m.pc + 4)))
  else if i.op = 33 then (wd (rv m i.r1 + i.im) - wd (rv m i.r1 + i.im) % 2, true, setR m i.rd (wd (m.pc + 4)))
  else (wd (m.pc + 4), false, m)
theorem setR_pc (m : Mac) (n : Nat) (x : Int) : (setR m n x).pc = m.pc := by unfold setR; split <;> rfl
theorem wd_bdd (x : Int) : 0 ≤ wd x ∧ wd x ≤ 4294967295 := by unfold wd; omega
end Go.Proofs.YtjdfffdeljgenaaGreatDoor.Pl
namespace Go.Proofs.YtjdfffdeljgenaaGreatDoor.W
open Go.RowKit
theorem Run.cell {D : Nat → Prop} {g : Nat} {u : World} {v : MV} {m : Pl.Mac} (h : Run D g u v m) (j : Nat) : u.cell? ⟨g, j, none⟩ = (#[.slice v.code.a v.code.len v.code.cap, .int .i64 m.pc, .slice v.regs.a v.regs.len v.regs.cap, .slice v.data.a v.data.len v.data.cap, .slice v.stk.a v.stk.len v.stk.cap, .slice v.inp.a v.inp.len v.inp.cap, .slice v.out.a v.out.len v.out.cap, .int .i64 m.steps, .int .i64 m.fin, .int .i64 m.val] : Array Value)[j]? := cell_of_row u g j _ 25 (0, 0) h.box
theorem Run.regsAt {D : Nat → Prop} {g : Nat} {u : World} {v : MV} {m : Pl.Mac} (h : Run D g u v m) (hv : m.regs.length = 32) : ∃ r c, v.regs = ⟨some ⟨r, 0, none⟩, 32, c⟩ ∧ (∀ n, n < 32 → u.cell? ⟨r, n, none⟩ = some (.int .i64 (m.regs.getD n 0))) ∧ (∀ n, u.frozen? ⟨r, n, none⟩ = false) := by
  have hl : v.regs.len = 32 := by have := h.regs.row.1; omega
  have ho := h.regs.1
  generalize v.regs = sv at ho hl ⊢
  obtain ⟨a, len, cap⟩ := sv
  dsimp only at ho hl
  subst hl
  rcases ho.2 with ⟨_, h1⟩ | ⟨r, c', cur, h0, _⟩
  · omega
  · simp only [Value.slice.injEq] at h0
    obtain ⟨rfl, _, rfl⟩ := h0
    refine ⟨r, cap, rfl, fun n hn => ?_, fun n => ho.frozenAt n⟩
    have := ho.cellAt n (by omega)
    rw [this, List.getElem?_map, List.getElem?_eq_getElem (by omega), List.getD_eq_getElem?_getD, List.getElem?_eq_getElem (by omega)]
    rfl
theorem l3Set_run {D : Nat → Prop} {g : Nat} {u : World} {v : MV} {m : Pl.Mac} (h : Run D g u v m) (hv : m.regs.length = 32) (n : Nat) (hn : n ≤ 31) (x : Int) :
    Calls Tryz.prog 72 #[.pointer (some ⟨g, 0, none⟩), .int .i64 n, .int .i64 x] u fun e u' => e = .returned (.tuple #[]) ∧ Run D g u' v (Pl.setR m n x) ∧ St D u u' ∧ (∀ b, b < u.heap.size → (blks g v)[2]? ≠ some (some b) → u'.heap[b]? = u.heap[b]?) := by
  by_cases h0 : n = 0
  · subst h0
    exact (l3Set_no _ _ x (by decide) u).mono fun e u' ⟨he, hu⟩ => by rw [hu]; exact ⟨he, h, St.refl _ _, fun _ _ _ => rfl⟩
  · obtain ⟨r, c, hr, hc, hf⟩ := h.regsAt hv
    have hcell : u.cell? ⟨g, 2, none⟩ = some (.slice (some ⟨r, 0, none⟩) 32 c) := by rw [h.cell 2, hr]; rfl
    have hb : (blks g v)[2]? = some (some r) := by simp [blks, hr]
    refine (l3Set_yes g r c n x _ (by omega) hn u hcell (hc n (by omega)) (hf n)).mono fun e u' ⟨he, k, hu⟩ => ?_
    have e1 : Pl.setR m n x = { m with regs := m.regs.set n (Pl.wd x) } := by unfold Pl.setR; rw [if_neg h0]
    have hR := h.setReg (r := r) (by rw [hr]) n (Pl.wd x) (by
      have := Pl.wd_bdd x
      generalize Pl.wd x = y at this
      simp [Lit.wf, IntKind.min, IntKind.max, IntKind.signed, IntKind.bits]
      omega)
    rw [hu, e1]
    refine ⟨he, hR.keep (below_drewN (Below.refl _ _) k), (St.set (h.ne 2 hb)).trans (hR.st (below_drewN (Below.refl _ _) k)), fun b hbl hne => ?_⟩
    show (u.setCell ⟨r, n, none⟩ _).heap[b]? = _
    exact Below.heap_setCell u ⟨r, n, none⟩ _ b (fun e => hne (by rw [hb, e]))
theorem l3Flow_run {D : Nat → Prop} {g : Nat} {u : World} {v : MV} {m : Pl.Mac} (h : Run D g u v m) (hv : Pl.Vd m) (i : Pl.Ins) (hi : Pl.InsOk i) :
    Calls Tryz.prog 70 #[.pointer (some ⟨g, 0, none⟩), .agg #[.int .i64 i.op, .int .i64 i.rd, .int .i64 i.r1, .int .i64 i.r2, .int .i64 i.im]] u fun e u' => e = .returned (.tuple #[.int .i64 (Pl.flow m i).1, .bool (Pl.flow m i).2.1]) ∧ Run D g u' v (Pl.flow m i).2.2 ∧ St D u u' := by
  obtain ⟨r, c, hr, hc, hf⟩ := h.regsAt hv.regs
  have cp : u.cell? ⟨g, 1, none⟩ = some (.int .i64 m.pc) := h.cell 1
  have cr : u.cell? ⟨g, 2, none⟩ = some (.slice (some ⟨r, 0, none⟩) 32 c) := by rw [h.cell 2, hr]; rfl
  have hrb : r < u.heap.size := block_lt_of_cell (hc 0 (by decide))
  obtain ⟨op, rd, r1, r2, im⟩ := i
  obtain ⟨o1, o2, d1, d2, d3, d4⟩ := hi
  dsimp only at o1 o2 d1 d2 d3 d4 ⊢
  unfold Pl.flow
  dsimp only
  by_cases hb : 37 ≤ op ∧ op ≤ 42
  · rw [if_pos hb]
    exact (flow_br g r c op rd r1 r2 im m.pc _ _ hb.1 hb.2 hv.pc d4 d2 d3 u cp cr (hc r1 (by omega)) (hc r2 (by omega))).mono fun e u' ⟨he, d⟩ => ⟨he, h.keep d, h.st d⟩
  rw [if_neg hb]
  by_cases h45 : op = 45
  · rw [if_pos h45]
    subst h45
    refine (flow_jal g rd r1 r2 im m.pc hv.pc d4 u (fun w' => Run D g w' v (Pl.setR m rd (Pl.wd (m.pc + 4))) ∧ St D u w') cp fun U hU hlt => ?_).mono fun e u' ⟨he, w1, k, ⟨hR, hS⟩, hw⟩ => ?_
    · refine (l3Set_run (h.keep hU) hv.regs rd d1 _).mono fun e u' ⟨he, hR, hS, hk⟩ => ⟨he, ⟨hR, (h.st hU).trans hS⟩, ?_, fun j => ?_⟩
      · rw [hR.cell 1, Pl.setR_pc]; rfl
      · refine World.cell?_of_block (a := ⟨u.heap.size, j, none⟩) (hk u.heap.size hlt ?_)
        simp [blks, hr]
        omega
    · rw [hw]
      exact ⟨he, hR.keep (below_drewN (Below.refl _ _) k), hS.trans (hR.st (below_drewN (Below.refl _ _) k))⟩
  rw [if_neg h45]
  by_cases h33 : op = 33
  · rw [if_pos h33]
    subst h33
    refine (flow_jalr g r c rd r1 r2 im m.pc _ hv.pc (hv.word r1 (by omega)) d4 d2 u (fun w' => Run D g w' v (Pl.setR m rd (Pl.wd (m.pc + 4))) ∧ St D u w') cp cr (hc r1 (by omega)) fun U hU hlt => ?_)
    exact (l3Set_run (h.keep hU) hv.regs rd d1 _).mono fun e u' ⟨he, hR, hS, hk⟩ => ⟨he, hR, (h.st hU).trans hS⟩
  rw [if_neg h33]
  exact (flow_no g op rd r1 r2 im m.pc (by omega) h45 h33 hv.pc u cp).mono fun e u' ⟨he, d⟩ => ⟨he, h.keep d, h.st d⟩
end Go.Proofs.YtjdfffdeljgenaaGreatDoor.W
namespace Go.Proofs.YtjdfffdeljgenaaGreatDoor.Pl
abbrev inD (m : Mac) (at_ : Int) (sz : Nat) : Prop := 1048576 ≤ at_ ∧ at_ - 1048576 + sz ≤ m.data.length
abbrev inS (m : Mac) (at_ : Int) (sz : Nat) : Prop := 2097152 - (m.stk.length : Int) ≤ at_ ∧ at_ - (2097152 - (m.stk.length : Int)) + sz ≤ m.stk.length
def ldv (m : Mac) (k at_ : Int) : Int × Int :=
  if (at_.tmod (ks k) != 0) = true then (0, 3)
  else if inD m at_ (ks k).toNat then (nr k (ldk m.data (at_ - 1048576).toNat (ks k).toNat), 0)
  else if inS m at_ (ks k).toNat then (nr k (ldk m.stk (at_ - (2097152 - (m.stk.length : Int))).toNat (ks k).toNat), 0)
  else (0, 4)
def stv (m : Mac) (k at_ x : Int) : Mac × Int :=
  if (at_.tmod (ks k) != 0) = true then (m, 3)
  else if inD m at_ (ks k).toNat then ({ m with data := stk_ m.data (at_ - 1048576).toNat x (ks k).toNat }, 0)
  else if inS m at_ (ks k).toNat then ({ m with stk := stk_ m.stk (at_ - (2097152 - (m.stk.length : Int))).toNat x (ks k).toNat }, 0)
  else (m, 4)
theorem u8_bd {n : Int} (h : (Lit.int .u8 n).wf = true) : 0 ≤ n ∧ n ≤ 255 := by
  simp [Lit.wf, IntKind.min, IntKind.max, IntKind.signed, IntKind.bits] at h
  omega
theorem ks_cases {k : Int} (h1 : 1 ≤ k) (h2 : k ≤ 5) : ∃ s : Nat, ks k = s ∧ (s = 1 ∨ s = 2 ∨ s = 4) := by
  have : k = 1 ∨ k = 2 ∨ k = 3 ∨ k = 4 ∨ k = 5 := by omega
  rcases this with rfl | rfl | rfl | rfl | rfl
  · exact ⟨1, rfl, .inl rfl⟩
  · exact ⟨1, rfl, .inl rfl⟩
  · exact ⟨2, rfl, .inr (.inl rfl)⟩
  · exact ⟨2, rfl, .inr (.inl rfl)⟩
  · exact ⟨4, rfl, .inr (.inr rfl)⟩
end Go.Proofs.YtjdfffdeljgenaaGreatDoor.Pl
namespace Go.Proofs.YtjdfffdeljgenaaGreatDoor.W
open Go.RowKit
theorem own_at {u : World} {s : SV} {zs : List Int} (h : Own .u8 5 0 u s.a s.len s.cap zs) (h0 : 0 < s.len) : ∃ b, s.a = some ⟨b, 0, none⟩ ∧ (∀ i, i < s.len → u.cell? ⟨b, i, none⟩ = some (.int .u8 (zs.getD i 0))) ∧ zs.length = s.len := by
  have ho := h.1
  have hl := h.row.1
  rcases ho.2 with ⟨_, h1⟩ | ⟨b, c', cur, e0, _⟩
  · omega
  · simp only [Value.slice.injEq] at e0
    refine ⟨b, e0.1, fun i hi => ?_, hl⟩
    rw [e0.1] at ho
    have := ho.cellAt i (by omega)
    rw [this, List.getElem?_map, List.getElem?_eq_getElem (by omega), List.getD_eq_getElem?_getD, List.getElem?_eq_getElem (by omega)]
    rfl
theorem l3Load_run {D : Nat → Prop} {g : Nat} {u : World} {v : MV} {m : Pl.Mac} (h : Run D g u v m) (hv : Pl.Vd m) (k at_ : Int) (k1 : 1 ≤ k) (k2 : k ≤ 5) (ha : -9223372036854775808 ≤ at_ ∧ at_ ≤ 9223372036854775807) :
    Calls Tryz.prog 73 #[.pointer (some ⟨g, 0, none⟩), .int .i64 k, .int .i64 at_] u fun e u' => e = .returned (.tuple #[.int .i64 (Pl.ldv m k at_).1, .int .i64 (Pl.ldv m k at_).2]) ∧ u' = u := by
  obtain ⟨s, hk, hs4⟩ := Pl.ks_cases k1 k2
  have hs : 1 ≤ s ∧ s ≤ 4 := by omega
  have hld : m.data.length = v.data.len := h.data.row.1
  have hls : m.stk.length = v.stk.len := h.stk.row.1
  have b1 := hv.data
  have b2 := hv.stk
  unfold Pl.ldv
  rw [hk, Int.toNat_natCast]
  by_cases hal : (at_.tmod (s : Int) != 0) = true
  · rw [if_pos hal]
    exact l3Load_align g k at_ s hs hk hal u
  rw [if_neg hal]
  have hal' : (at_.tmod (s : Int) != 0) = false := by simpa using hal
  by_cases hd : Pl.inD m at_ s
  · rw [if_pos hd]
    unfold Pl.inD at hd
    obtain ⟨b, hb, hc, hl⟩ := own_at h.data (by omega)
    exact l3Load_data v m g k at_ b 0 (at_ - 1048576).toNat s m.data u h.box ha (by omega) (by omega) hs hs4 hk hal' (show at_ = _ by omega) (by omega) hb (fun n hn => Pl.u8_bd (h.data.2 n hn)) (fun i hi => by rw [Nat.zero_add]; exact hc _ (by omega))
  rw [if_neg hd]
  unfold Pl.inD at hd
  by_cases hst : Pl.inS m at_ s
  · rw [if_pos hst]
    unfold Pl.inS at hst
    obtain ⟨b, hb, hc, hl⟩ := own_at h.stk (by omega)
    exact l3Load_stack v m g k at_ b 0 (at_ - (2097152 - (m.stk.length : Int))).toNat s m.stk u h.box ha (by omega) (by omega) hs hs4 hk hal' (show _ ∨ _ by omega) (show at_ = _ by omega) (by omega) hb (fun n hn => Pl.u8_bd (h.stk.2 n hn)) (fun i hi => by rw [Nat.zero_add]; exact hc _ (by omega))
  rw [if_neg hst]
  unfold Pl.inS at hst
  exact l3Load_none v m g k at_ s u h.box ha (by omega) (by omega) hs hk hal' (show _ ∨ _ by omega) (show _ ∨ _ by omega)
theorem touch_block {b : Option Addr} {u u' : World} {x : Nat} (h : Touch b u u') {B : Nat} (hb : b = some ⟨B, 0, none⟩) (hx : x ≠ B) : u'.heap[x]? = u.heap[x]? := h.block x (fun ad had => by rw [hb] at had; cases had; exact hx)
theorem Run.setData {D : Nat → Prop} {g B : Nat} {u u' : World} {v : MV} {m : Pl.Mac} {zs : List Int} (h : Run D g u v m) (hb : v.data.a = some ⟨B, 0, none⟩) (ho : Own .u8 5 0 u' v.data.a v.data.len v.data.cap zs) (ht : Touch v.data.a u u') : Run D g u' v { m with data := zs } ∧ St D u u' := by
  have hB : (blks g v)[3]? = some (some B) := by simp [blks, hb]
  have hk : ∀ y, y ≠ B → u'.heap[y]? = u.heap[y]? := fun y hy => touch_block ht hb hy
  have hs : u.heap.size ≤ u'.heap.size := by rw [ht.size]; exact Nat.le_refl _
  exact ⟨⟨fun y hy => ⟨Nat.lt_of_lt_of_le (h.av y hy).1 hs, (h.av y hy).2⟩, (hk g (h.ap.ne 3 (by decide) (by decide) hB).symm).trans h.box, h.code.other hs fun y hy => hk y (h.ap.two 3 1 (by decide) (by decide) (by decide) hB (by rw [← hy]; rfl)), h.regs.other fun y hy => hk y (h.ap.two 3 2 (by decide) (by decide) (by decide) hB (by rw [← hy]; rfl)), ho, h.stk.other fun y hy => hk y (h.ap.two 3 4 (by decide) (by decide) (by decide) hB (by rw [← hy]; rfl)), h.inp.other hs fun y hy => hk y (h.ap.two 3 5 (by decide) (by decide) (by decide) hB (by rw [← hy]; rfl)), h.out.other fun y hy => hk y (h.ap.two 3 6 (by decide) (by decide) (by decide) hB (by rw [← hy]; rfl)), h.ap, fun i y hy => Nat.lt_of_lt_of_le (h.lt i y hy) hs, fun i y hy j => by
    by_cases e : y = B
    · subst e; exact own_unfrozen ho (by rw [hb]; rfl) j
    · exact (World.frozen?_of_block (w := u) (hk y e)).trans (h.fz i y hy j)⟩, ⟨ht.os, ht.tape, ht.output, hs, fun x hx => hk x (h.ne 3 hB x hx)⟩⟩
theorem Run.setStk {D : Nat → Prop} {g B : Nat} {u u' : World} {v : MV} {m : Pl.Mac} {zs : List Int} (h : Run D g u v m) (hb : v.stk.a = some ⟨B, 0, none⟩) (ho : Own .u8 5 0 u' v.stk.a v.stk.len v.stk.cap zs) (ht : Touch v.stk.a u u') : Run D g u' v { m with stk := zs } ∧ St D u u' := by
  have hB : (blks g v)[4]? = some (some B) := by simp [blks, hb]
  have hk : ∀ y, y ≠ B → u'.heap[y]? = u.heap[y]? := fun y hy => touch_block ht hb hy
  have hs : u.heap.size ≤ u'.heap.size := by rw [ht.size]; exact Nat.le_refl _
  exact ⟨⟨fun y hy => ⟨Nat.lt_of_lt_of_le (h.av y hy).1 hs, (h.av y hy).2⟩, (hk g (h.ap.ne 4 (by decide) (by decide) hB).symm).trans h.box, h.code.other hs fun y hy => hk y (h.ap.two 4 1 (by decide) (by decide) (by decide) hB (by rw [← hy]; rfl)), h.regs.other fun y hy => hk y (h.ap.two 4 2 (by decide) (by decide) (by decide) hB (by rw [← hy]; rfl)), h.data.other fun y hy => hk y (h.ap.two 4 3 (by decide) (by decide) (by decide) hB (by rw [← hy]; rfl)), ho, h.inp.other hs fun y hy => hk y (h.ap.two 4 5 (by decide) (by decide) (by decide) hB (by rw [← hy]; rfl)), h.out.other fun y hy => hk y (h.ap.two 4 6 (by decide) (by decide) (by decide) hB (by rw [← hy]; rfl)), h.ap, fun i y hy => Nat.lt_of_lt_of_le (h.lt i y hy) hs, fun i y hy j => by
    by_cases e : y = B
    · subst e; exact own_unfrozen ho (by rw [hb]; rfl) j
    · exact (World.frozen?_of_block (w := u) (hk y e)).trans (h.fz i y hy j)⟩, ⟨ht.os, ht.tape, ht.output, hs, fun x hx => hk x (h.ne 4 hB x hx)⟩⟩
theorem l3Store_run {D : Nat → Prop} {g : Nat} {u : World} {v : MV} {m : Pl.Mac} (h : Run D g u v m) (hv : Pl.Vd m) (k at_ x : Int) (k1 : 1 ≤ k) (k2 : k ≤ 5) (ha : -9223372036854775808 ≤ at_ ∧ at_ ≤ 9223372036854775807) :
    Calls Tryz.prog 76 #[.pointer (some ⟨g, 0, none⟩), .int .i64 k, .int .i64 at_, .int .i64 x] u fun e u' => e = .returned (.int .i64 (Pl.stv m k at_ x).2) ∧ Run D g u' v (Pl.stv m k at_ x).1 ∧ St D u u' := by
  obtain ⟨s, hk, hs4⟩ := Pl.ks_cases k1 k2
  have hs : 1 ≤ s ∧ s ≤ 4 := by omega
  have hld : m.data.length = v.data.len := h.data.row.1
  have hls : m.stk.length = v.stk.len := h.stk.row.1
  have b1 := hv.data
  have b2 := hv.stk
  unfold Pl.stv
  rw [hk, Int.toNat_natCast]
  by_cases hal : (at_.tmod (s : Int) != 0) = true
  · rw [if_pos hal]
    exact (l3Store_align g k at_ x s hs hk hal u).mono fun e u' ⟨he, hu⟩ => by rw [hu]; exact ⟨he, h, St.refl _ _⟩
  rw [if_neg hal]
  have hal' : (at_.tmod (s : Int) != 0) = false := by simpa using hal
  by_cases hd : Pl.inD m at_ s
  · rw [if_pos hd]
    unfold Pl.inD at hd
    obtain ⟨b, hb, hc, hl⟩ := own_at h.data (by omega)
    have hne : g ≠ b := (h.ap.ne 3 (by decide) (by decide) (show (blks g v)[3]? = some (some b) by simp [blks, hb])).symm
    exact (l3Store_data v m g k at_ x b (at_ - 1048576).toNat s m.data u h.box ha (by omega) (by omega) hs hk hal' (show at_ = _ by omega) (by omega) hb hne (fun n hn => Pl.u8_bd (h.data.2 n hn)) h.data).mono fun e u' ⟨he, ho, ht⟩ => ⟨he, h.setData hb ho ht⟩
  rw [if_neg hd]
  unfold Pl.inD at hd
  by_cases hst : Pl.inS m at_ s
  · rw [if_pos hst]
    unfold Pl.inS at hst
    obtain ⟨b, hb, hc, hl⟩ := own_at h.stk (by omega)
    have hne : g ≠ b := (h.ap.ne 4 (by decide) (by decide) (show (blks g v)[4]? = some (some b) by simp [blks, hb])).symm
    exact (l3Store_stack v m g k at_ x b (at_ - (2097152 - (m.stk.length : Int))).toNat s m.stk u h.box ha (by omega) (by omega) hs hk hal' (show _ ∨ _ by omega) (show at_ = _ by omega) (by omega) hb hne (fun n hn => Pl.u8_bd (h.stk.2 n hn)) h.stk).mono fun e u' ⟨he, ho, ht⟩ => ⟨he, h.setStk hb ho ht⟩
  rw [if_neg hst]
  unfold Pl.inS at hst
  exact (l3Store_none v m g k at_ x s u h.box ha (by omega) (by omega) hs hk hal' (show _ ∨ _ by omega) (show _ ∨ _ by omega)).mono fun e u' ⟨he, hu⟩ => by rw [hu]; exact ⟨he, h, St.refl _ _⟩
end Go.Proofs.YtjdfffdeljgenaaGreatDoor.W
namespace Go.Proofs.YtjdfffdeljgenaaGreatDoor.Pl
def ecall (m : Mac) : Mac × Int :=
  if rv m 17 = 1 then (if 10000 ≤ m.out.length then (m, 6) else ({ m with out := m.out ++ [rv m 10 % 256] }, 0))
  else if rv m 17 = 2 then (match m.inp with | [] => ({ m with regs := m.regs.set 10 4294967295 }, 0) | b :: r => ({ m with regs := m.regs.set 10 b, inp := r }, 0))
  else if rv m 17 = 3 then ({ m with fin := 1, val := rv m 10 }, 0)
  else if rv m 17 = 4 then ({ m with fin := 3, val := 0 }, 0)
  else (m, 5)
end Go.Proofs.YtjdfffdeljgenaaGreatDoor.Pl
namespace Go.Proofs.YtjdfffdeljgenaaGreatDoor.W
open Go.RowKit
set_option maxHeartbeats 2000000 in
theorem ec_no (g r c : Nat) (n : Int) (h1 : (n == 1) = false) (h2 : (n == 2) = false) (h3 : (n == 3) = false) (h4 : (n == 4) = false) (u : World) (cr : u.cell? ⟨g, 2, none⟩ = some (.slice (some ⟨r, 0, none⟩) 32 c)) (c17 : u.cell? ⟨r, 17, none⟩ = some (.int .i64 n)) :
    Calls Tryz.prog 77 #[.pointer (some ⟨g, 0, none⟩)] u fun e u' => e = .returned (.int .i64 5) ∧ u' = u := by
  go_enter Tryz.func77, Tryz.ntmps77
  go_wp2
  go_ret
  exact ⟨rfl, rfl⟩
set_option maxHeartbeats 2000000 in
theorem ec_full (g r c : Nat) (oa : Option Addr) (ol oc : Nat) (hol : 10000 ≤ ol) (hom : ol ≤ 1048576) (u : World) (cr : u.cell? ⟨g, 2, none⟩ = some (.slice (some ⟨r, 0, none⟩) 32 c)) (c17 : u.cell? ⟨r, 17, none⟩ = some (.int .i64 1)) (co : u.cell? ⟨g, 6, none⟩ = some (.slice oa ol oc)) :
    Calls Tryz.prog 77 #[.pointer (some ⟨g, 0, none⟩)] u fun e u' => e = .returned (.int .i64 6) ∧ u' = u := by
  have e1 : decide (10000 ≤ (ol : Int)) = true := by simp; omega
  go_enter Tryz.func77, Tryz.ntmps77
  go_wp2
  go_ret
  exact ⟨rfl, rfl⟩
set_option maxHeartbeats 2000000 in
theorem ec_exit (g r c : Nat) (x : Int) (y8 y9 : Value) (u : World) (cr : u.cell? ⟨g, 2, none⟩ = some (.slice (some ⟨r, 0, none⟩) 32 c)) (c17 : u.cell? ⟨r, 17, none⟩ = some (.int .i64 3)) (c10 : u.cell? ⟨r, 10, none⟩ = some (.int .i64 x)) (c8 : u.cell? ⟨g, 8, none⟩ = some y8) (c9 : u.cell? ⟨g, 9, none⟩ = some y9) (hf8 : u.frozen? ⟨g, 8, none⟩ = false) (hf9 : u.frozen? ⟨g, 9, none⟩ = false) (hne : g ≠ r) :
    Calls Tryz.prog 77 #[.pointer (some ⟨g, 0, none⟩)] u fun e u' => e = .returned (.int .i64 0) ∧ u' = (u.setCell ⟨g, 8, none⟩ (.int .i64 1)).setCell ⟨g, 9, none⟩ (.int .i64 x) := by
  have s1 : ∀ y, (u.setCell ⟨g, 8, none⟩ y).cell? ⟨g, 2, none⟩ = some (.slice (some ⟨r, 0, none⟩) 32 c) := fun y => by rw [World.cell?_setCell_other _ _ _ _ (by intro e; injection e with _ e2; cases e2)]; exact cr
  have s2 : ∀ y, (u.setCell ⟨g, 8, none⟩ y).cell? ⟨r, 10, none⟩ = some (.int .i64 x) := fun y => by rw [World.cell?_setCell_other _ _ _ _ (by intro e; injection e with e1 _; exact hne e1)]; exact c10
  go_enter Tryz.func77, Tryz.ntmps77
  go_wp2
  go_ret
  exact ⟨rfl, rfl⟩
set_option maxHeartbeats 2000000 in
theorem ec_over (g r c : Nat) (y8 y9 : Value) (u : World) (cr : u.cell? ⟨g, 2, none⟩ = some (.slice (some ⟨r, 0, none⟩) 32 c)) (c17 : u.cell? ⟨r, 17, none⟩ = some (.int .i64 4)) (c8 : u.cell? ⟨g, 8, none⟩ = some y8) (c9 : u.cell? ⟨g, 9, none⟩ = some y9) (hf8 : u.frozen? ⟨g, 8, none⟩ = false) (hf9 : u.frozen? ⟨g, 9, none⟩ = false) :
    Calls Tryz.prog 77 #[.pointer (some ⟨g, 0, none⟩)] u fun e u' => e = .returned (.int .i64 0) ∧ u' = (u.setCell ⟨g, 8, none⟩ (.int .i64 3)).setCell ⟨g, 9, none⟩ (.int .i64 0) := by
  go_enter Tryz.func77, Tryz.ntmps77
  go_wp2
  go_ret
  exact ⟨rfl, rfl⟩
set_option maxHeartbeats 2000000 in
theorem ec_none (g r c : Nat) (ia : Option Addr) (ic : Nat) (y : Value) (u : World) (cr : u.cell? ⟨g, 2, none⟩ = some (.slice (some ⟨r, 0, none⟩) 32 c)) (c17 : u.cell? ⟨r, 17, none⟩ = some (.int .i64 2)) (ci : u.cell? ⟨g, 5, none⟩ = some (.slice ia 0 ic)) (c10 : u.cell? ⟨r, 10, none⟩ = some y) (hf : u.frozen? ⟨r, 10, none⟩ = false) :
    Calls Tryz.prog 77 #[.pointer (some ⟨g, 0, none⟩)] u fun e u' => e = .returned (.int .i64 0) ∧ u' = u.setCell ⟨r, 10, none⟩ (.int .i64 4294967295) := by
  go_enter Tryz.func77, Tryz.ntmps77
  go_wp2
  go_ret
  exact ⟨rfl, rfl⟩
set_option maxRecDepth 8000 in
set_option maxHeartbeats 4000000 in
theorem ec_get (g r c b off il ic : Nat) (x : Int) (y : Value) (h1 : 1 ≤ il) (h2 : il ≤ ic) (h3 : (ic : Int) ≤ 9223372036854775807) (hx : 0 ≤ x ∧ x ≤ 255) (u : World) (cr : u.cell? ⟨g, 2, none⟩ = some (.slice (some ⟨r, 0, none⟩) 32 c)) (c17 : u.cell? ⟨r, 17, none⟩ = some (.int .i64 2)) (ci : u.cell? ⟨g, 5, none⟩ = some (.slice (some ⟨b, off, none⟩) il ic)) (cx : u.cell? ⟨b, off, none⟩ = some (.int .u8 x)) (c10 : u.cell? ⟨r, 10, none⟩ = some y) (hf : u.frozen? ⟨r, 10, none⟩ = false) (hg : u.frozen? ⟨g, 5, none⟩ = false) (hne : g ≠ r) :
    Calls Tryz.prog 77 #[.pointer (some ⟨g, 0, none⟩)] u fun e u' => e = .returned (.int .i64 0) ∧ ∃ k p, (il ≠ 1 → p = some ⟨b, off + 1, none⟩) ∧ (p = some ⟨b, off + 1, none⟩ ∨ p = some ⟨b, off, none⟩) ∧ u' = ((u.setCell ⟨r, 10, none⟩ (.int .i64 x)).drewN k).setCell ⟨g, 5, none⟩ (.slice p (il - 1) (ic - 1)) := by
  have l0 : ((il : Int) == 0) = false := by simp; omega
  have l1 : (0 : Int) < (il : Int) := by omega
  have l2 : (1 : Int) ≤ (il : Int) := by omega
  have l3 : (il : Int) ≤ (ic : Int) := by omega
  have s1 : ∀ z, (u.setCell ⟨r, 10, none⟩ z).cell? ⟨g, 5, none⟩ = some (.slice (some ⟨b, off, none⟩) il ic) := fun z => by rw [World.cell?_setCell_other _ _ _ _ (by intro e; injection e with e1 _; exact hne e1.symm)]; exact ci
  by_cases hic : ic = 1
  · subst hic
    obtain rfl : il = 1 := by omega
    go_enter Tryz.func77, Tryz.ntmps77
    go_wp2_with fail
    go_region_with (fail)
    all_goals
      go_wp2
      go_ret
      exact ⟨rfl, 1, _, fun h => absurd rfl h, .inr rfl, rfl⟩
  · go_enter Tryz.func77, Tryz.ntmps77
    go_wp2_with fail
    go_region_with (fail)
    all_goals
      go_wp2
      go_ret
      exact ⟨rfl, 1, _, fun _ => rfl, .inl rfl, rfl⟩
theorem grown_cell {u W w1 : World} {row : Option Nat} {g j : Nat} {x : Value} (hb : Below u.heap.size u W) (hg : W.grownBy w1 row) (hx : u.cell? ⟨g, j, none⟩ = some x) (hne : ∀ y, row = some y → y ≠ g) : w1.cell? ⟨g, j, none⟩ = some x := by
  have hl := block_lt_of_cell hx
  rw [World.cell?_of_block (a := ⟨g, j, none⟩) (hg.block g (Nat.lt_of_lt_of_le hl hb.size) (fun e => hne g e.symm rfl)), hb.cell (p := ⟨g, j, none⟩) hl]
  exact hx
theorem grown_frozen {u W w1 : World} {row : Option Nat} {g j : Nat} (hb : Below u.heap.size u W) (hg : W.grownBy w1 row) (hl : g < u.heap.size) (hx : u.frozen? ⟨g, j, none⟩ = false) (hne : ∀ y, row = some y → y ≠ g) : w1.frozen? ⟨g, j, none⟩ = false := by
  rw [World.frozen?_of_block (a := ⟨g, j, none⟩) (hg.block g (Nat.lt_of_lt_of_le hl hb.size) (fun e => hne g e.symm rfl)), hb.frozen (p := ⟨g, j, none⟩) hl]
  exact hx
theorem grown_from {u W w1 : World} {row : Option Nat} (hb : Below u.heap.size u W) (hg : W.grownBy w1 row) : u.grownBy w1 row :=
  ⟨hg.os.trans hb.os, hg.tape.trans hb.tape, hg.output.trans hb.output, Nat.le_trans hb.size hg.size, fun k hk hr => (hg.block k (Nat.lt_of_lt_of_le hk hb.size) hr).trans (hb.block k hk)⟩
theorem byte_cell (w : World) (x : Int) (j : Nat) (z : Value) (hj : [Value.int .u8 x][j]? = some z) : (w.alloc (.cells #[.int .u8 x] 5)).cell? ((⟨w.heap.size, 0, none⟩ : Addr).add j) = some z := by
  rcases j with _ | j
  · cases hj
    exact cell_of_row _ w.heap.size 0 _ 5 (0, 0) (heap_alloc_new w _)
  · simp at hj
set_option maxRecDepth 8000 in
set_option maxHeartbeats 8000000 in
theorem ec_put (g r c : Nat) (oa : Option Addr) (ol oc : Nat) (x : Int) (zs : List Int) (hol : ol < 10000) (hx : 0 ≤ x ∧ x ≤ 4294967295) (u : World) (cr : u.cell? ⟨g, 2, none⟩ = some (.slice (some ⟨r, 0, none⟩) 32 c)) (c17 : u.cell? ⟨r, 17, none⟩ = some (.int .i64 1)) (co : u.cell? ⟨g, 6, none⟩ = some (.slice oa ol oc)) (c10 : u.cell? ⟨r, 10, none⟩ = some (.int .i64 x)) (hg : u.frozen? ⟨g, 6, none⟩ = false)
    (ho : u.ownsRow 0 5 1 (.slice oa ol oc) ol (zs.map (Value.int .u8))) (hne : ∀ y, (Value.slice oa ol oc).ownBlock = some y → y ≠ g) :
    Calls Tryz.prog 77 #[.pointer (some ⟨g, 0, none⟩)] u fun e u' => e = .returned (.int .i64 0) ∧ ∃ (w1 : World) (G cap k : Nat), w1.ownsRow 0 5 1 (.slice (some ⟨G, 0, none⟩) (ol + 1) cap) (ol + 1) ((zs ++ [x % 256]).map (Value.int .u8)) ∧ u.grownBy w1 (Value.slice oa ol oc).ownBlock ∧ ((Value.slice oa ol oc).ownBlock = some G ∨ u.heap.size ≤ G) ∧ G < w1.heap.size ∧ u' = (w1.setCell ⟨g, 6, none⟩ (.slice (some ⟨G, 0, none⟩) (ol + 1) cap)).drewN k := by
  obtain ⟨i0, hi, hz0, hz1, hz2⟩ := info_parts Tryz.infou8
  have HO : Hid (u.ownsRow 0 5 1 (.slice oa ol oc) ol (zs.map (Value.int .u8))) := ho
  have HN : Hid (∀ y, (Value.slice oa ol oc).ownBlock = some y → y ≠ g) := hne
  clear ho hne
  have e1 : decide (10000 ≤ (ol : Int)) = false := by simp; omega
  have hX : IntKind.u8.wrap (x.tmod 256) = x % 256 := by rw [Int.tmod_eq_emod_of_nonneg hx.1]; simp [IntKind.wrap, IntKind.signed, IntKind.bits]
  have co' := fl_alloc co
  have cr' := fl_alloc cr
  have c10' := fl_alloc c10
  go_enter Tryz.func77, Tryz.ntmps77
  go_wp2_with fail
  go_region_law ((refine step_append_lies _ (by rfl) (.tmp 22) (.tmp 31) 22 (by rfl) 0 5 i0 (.int .u8 0) 1 1 Tryz.underlying22 hi hz0 hz1 hz2 rfl (by decide) (.slice oa ol oc) ol (zs.map (Value.int .u8)) (by rfl) (by first | exact HO.out.alloc _ | exact (HO.out.alloc _).drew) ⟨u.heap.size, 0, none⟩ 1 1 [.int .u8 (x % 256)] (by rfl) rfl (byte_cell u (x % 256)) (by intro z hz; simp at hz; subst hz; rfl) (by decide) (by unfold maxLen; omega) (by omega) (Nat.zero_le _) _ rfl ?_; intro G cap w1 hown1 hgrow hat hlt; have q6 : w1.cell? ⟨g, 6, none⟩ = some (.slice oa ol oc) := grown_cell (u := u) (by repeat (first | exact below_alloc _ _ | refine Below.drew ?_ | refine below_drewN ?_ _)) hgrow co HN.out; have qf : w1.frozen? ⟨g, 6, none⟩ = false := grown_frozen (u := u) (by repeat (first | exact below_alloc _ _ | refine Below.drew ?_ | refine below_drewN ?_ _)) hgrow (block_lt_of_cell co) hg HN.out; have HG : Hid (u.grownBy w1 (Value.slice oa ol oc).ownBlock) := grown_from (by repeat (first | exact below_alloc _ _ | refine Below.drew ?_ | refine below_drewN ?_ _)) hgrow; have HA : Hid ((Value.slice oa ol oc).ownBlock = some G ∨ u.heap.size ≤ G) := (by rcases hat with h | h; exact .inl h; exact .inr (by rw [h]; simp) : (Value.slice oa ol oc).ownBlock = some G ∨ u.heap.size ≤ G); have HW : Hid (w1.ownsRow 0 5 1 (.slice (some ⟨G, 0, none⟩) (ol + 1) cap) (ol + 1) ((zs ++ [x % 256]).map (Value.int .u8))) := (by rw [List.map_append]; exact hown1 : w1.ownsRow 0 5 1 (.slice (some ⟨G, 0, none⟩) (ol + 1) cap) (ol + 1) ((zs ++ [x % 256]).map (Value.int .u8))); clear hown1 hgrow hat))
  all_goals
    go_wp2
    go_ret
    first | exact ⟨rfl, w1, G, cap, 0, HW.out, HG.out, HA.out, hlt, rfl⟩ | exact ⟨rfl, w1, G, cap, 1, HW.out, HG.out, HA.out, hlt, rfl⟩
theorem Run.setInp {D : Nat → Prop} {g : Nat} {u : World} {v : MV} {m : Pl.Mac} (h : Run D g u v m) (p : Option Addr) (len cap : Nat) (zs : List Int) (hp : p.map (·.block) = v.inp.a.map (·.block)) (hr : Row .u8 0 u p len cap zs) :
    Run D g (u.setCell ⟨g, 5, none⟩ (.slice p len cap)) { v with inp := ⟨p, len, cap⟩ } { m with inp := zs } := by
  have hs : u.heap.size ≤ (u.setCell ⟨g, 5, none⟩ (.slice p len cap)).heap.size := by simp
  have hk : ∀ y, y ≠ g → (u.setCell ⟨g, 5, none⟩ (.slice p len cap)).heap[y]? = u.heap[y]? := fun y hy => Below.heap_setCell u ⟨g, 5, none⟩ _ y hy
  have hB : blks g { v with inp := ⟨p, len, cap⟩ } = blks g v := by simp [blks, hp]
  refine ⟨fun y hy => ⟨by simpa using (h.av y hy).1, by rw [hB]; exact (h.av y hy).2⟩, row_put h.box 5 _ rfl, h.code.other hs fun y hy => hk y (h.ap.ne 1 (by decide) (by decide) (by rw [← hy]; rfl)), h.regs.other fun y hy => hk y (h.ap.ne 2 (by decide) (by decide) (by rw [← hy]; rfl)), h.data.other fun y hy => hk y (h.ap.ne 3 (by decide) (by decide) (by rw [← hy]; rfl)), h.stk.other fun y hy => hk y (h.ap.ne 4 (by decide) (by decide) (by rw [← hy]; rfl)), hr.other hs fun y hy => hk y (h.ap.ne 5 (by decide) (by decide) (by rw [← hy, hp]; rfl)), h.out.other fun y hy => hk y (h.ap.ne 6 (by decide) (by decide) (by rw [← hy]; rfl)), ?_, fun i y hy => by rw [hB] at hy; simpa using h.lt i y hy, fun i y hy j => by rw [hB] at hy; exact (World.frozen?_setCell _ _ _ _).trans (h.fz i y hy j)⟩
  unfold Apart
  rw [hB]
  exact h.ap
theorem own_blk {k : IntKind} {e : TypeId} {lo : Nat} {u : World} {a : Option Addr} {len cap : Nat} {zs : List Int} (h : Own k e lo u a len cap zs) : (Value.slice a len cap).ownBlock = a.map (·.block) := by
  rcases h.1.2 with ⟨h0, _⟩ | ⟨b, c, cur, h0, _⟩
  · rw [h0]; simp only [Value.slice.injEq] at h0; rw [h0.1]; rfl
  · rw [h0]; simp only [Value.slice.injEq] at h0; rw [h0.1]; rfl
theorem Run.setOut {D : Nat → Prop} {g G n cap : Nat} {u w1 : World} {v : MV} {m : Pl.Mac} {zs : List Int} (h : Run D g u v m) (hg : u.grownBy w1 (v.out.a.map (·.block))) (hG : v.out.a.map (·.block) = some G ∨ u.heap.size ≤ G) (hl : G < w1.heap.size) (ho : Own .u8 5 0 w1 (some ⟨G, 0, none⟩) n cap zs) :
    Run D g (w1.setCell ⟨g, 6, none⟩ (.slice (some ⟨G, 0, none⟩) n cap)) { v with out := ⟨some ⟨G, 0, none⟩, n, cap⟩ } { m with out := zs } ∧ St D u (w1.setCell ⟨g, 6, none⟩ (.slice (some ⟨G, 0, none⟩) n cap)) := by
  have b6 : (blks g v)[6]? = some (v.out.a.map (·.block)) := rfl
  have hk : ∀ (i : Nat) y, i < 6 → (blks g v)[i]? = some (some y) → w1.heap[y]? = u.heap[y]? := fun i y hi hy => hg.block y (h.lt i y hy) (fun e => h.ap i 6 (by omega) (by decide) (by omega) y hy (by rw [b6, ← e]))
  have hGne : ∀ (i : Nat) y, i < 6 → (blks g v)[i]? = some (some y) → y ≠ G := fun i y hi hy e => by
    rcases hG with h1 | h1
    · exact h.ap i 6 (by omega) (by decide) (by omega) y hy (by rw [b6, h1, e])
    · have := h.lt i y hy; omega
  have hgg : (blks g v)[0]? = some (some g) := rfl
  have hs1 : u.heap.size ≤ w1.heap.size := hg.size
  have hs : w1.heap.size ≤ (w1.setCell ⟨g, 6, none⟩ (.slice (some ⟨G, 0, none⟩) n cap)).heap.size := by simp
  have kk : ∀ (i : Nat) y, i < 6 → i ≠ 0 → (blks g v)[i]? = some (some y) → (w1.setCell ⟨g, 6, none⟩ (.slice (some ⟨G, 0, none⟩) n cap)).heap[y]? = u.heap[y]? := fun i y hi h0 hy => (Below.heap_setCell w1 ⟨g, 6, none⟩ _ y (h.ap.ne i (by omega) h0 hy)).trans (hk i y hi hy)
  have hB : ∀ (i : Nat), i < 6 → (blks g { v with out := ⟨some ⟨G, 0, none⟩, n, cap⟩ })[i]? = (blks g v)[i]? := fun i hi => by
    rcases (show i = 0 ∨ i = 1 ∨ i = 2 ∨ i = 3 ∨ i = 4 ∨ i = 5 by omega) with e | e | e | e | e | e <;> subst e <;> rfl
  have hB6 : (blks g { v with out := ⟨some ⟨G, 0, none⟩, n, cap⟩ })[6]? = some (some G) := rfl
  have hB7 : ∀ (i : Nat), 7 ≤ i → (blks g { v with out := ⟨some ⟨G, 0, none⟩, n, cap⟩ })[i]? = none := fun i hi => List.getElem?_eq_none (by simpa [blks] using hi)
  have hDG : ∀ x, D x → x ≠ G := fun x hx e => by
    rcases hG with h1 | h1
    · exact (h.av x hx).2 6 (by rw [b6, h1, e])
    · have := (h.av x hx).1; omega
  refine ⟨⟨fun x hx => ⟨Nat.lt_of_lt_of_le (h.av x hx).1 (Nat.le_trans hs1 hs), fun i => ?_⟩, row_put ((hk 0 g (by decide) hgg).trans h.box) 6 _ rfl, h.code.other (Nat.le_trans hs1 hs) fun y hy => kk 1 y (by decide) (by decide) (by rw [← hy]; rfl), h.regs.other fun y hy => kk 2 y (by decide) (by decide) (by rw [← hy]; rfl), h.data.other fun y hy => kk 3 y (by decide) (by decide) (by rw [← hy]; rfl), h.stk.other fun y hy => kk 4 y (by decide) (by decide) (by rw [← hy]; rfl), h.inp.other (Nat.le_trans hs1 hs) fun y hy => kk 5 y (by decide) (by decide) (by rw [← hy]; rfl), ho.other fun y hy => Below.heap_setCell w1 ⟨g, 6, none⟩ _ y (by cases hy; exact (hGne 0 g (by decide) hgg).symm), fun i j hi hj hij x hx hx2 => ?_, fun i x hx => ?_, fun i x hx j => by
    rcases Nat.lt_or_ge i 6 with h6 | h6
    · rw [hB i h6] at hx
      exact (World.frozen?_setCell _ _ _ _).trans ((World.frozen?_of_block (w := u) (hk i x h6 hx)).trans (h.fz i x hx j))
    · rcases Nat.eq_or_lt_of_le h6 with e | e
      · rw [← e, hB6] at hx
        cases hx
        exact (World.frozen?_setCell _ _ _ _).trans (own_unfrozen ho rfl j)
      · rw [hB7 i e] at hx; cases hx⟩, ⟨hg.os, hg.tape, hg.output, Nat.le_trans hs1 hs, fun x hx => ?_⟩⟩
  · by_cases h6 : i < 6
    · rw [hB i h6]; exact (h.av x hx).2 i
    · by_cases e6 : i = 6
      · subst e6; rw [hB6]; intro e; cases e; exact hDG _ hx rfl
      · rw [hB7 i (by omega)]; intro e; cases e
  · by_cases i6 : i = 6
    · subst i6
      rw [hB6] at hx
      cases hx
      rw [hB j (by omega)] at hx2
      exact hGne j G (by omega) hx2 rfl
    · by_cases j6 : j = 6
      · subst j6
        rw [hB6] at hx2
        cases hx2
        rw [hB i (by omega)] at hx
        exact hGne i G (by omega) hx rfl
      · rw [hB i (by omega)] at hx
        rw [hB j (by omega)] at hx2
        exact h.ap i j hi hj hij x hx hx2
  · by_cases h6 : i < 6
    · rw [hB i h6] at hx; exact Nat.lt_of_lt_of_le (h.lt i x hx) (Nat.le_trans hs1 hs)
    · by_cases e6 : i = 6
      · subst e6; rw [hB6] at hx; cases hx; exact Nat.lt_of_lt_of_le hl hs
      · rw [hB7 i (by omega)] at hx; cases hx
  · rw [Below.heap_setCell w1 ⟨g, 6, none⟩ _ x (h.ne 0 hgg x hx)]
    exact hg.block x (h.av x hx).1 (fun e => (h.av x hx).2 6 (by rw [b6, ← e]))
end Go.Proofs.YtjdfffdeljgenaaGreatDoor.W
