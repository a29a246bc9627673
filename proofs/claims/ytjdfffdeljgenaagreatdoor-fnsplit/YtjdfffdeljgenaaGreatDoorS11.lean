import Derived.Test.YtjdfffdeljgenaaGreatDoorS10
import Derived.Test.YtjdfffdeljgenaaGreatDoorS08
import Derived.Test.YtjdfffdeljgenaaGreatDoorS02
import Derived.Test.YtjdfffdeljgenaaGreatDoorS04
import Derived.Test.YtjdfffdeljgenaaGreatDoorS18
import Derived.Deep.Cut
import Derived.Deep.DeepCutAuto
import Derived.Deep.CutRange
import Derived.Laws.ResultCell
import Derived.Laws.Tables
set_option linter.unusedVariables false
set_option linter.unusedSimpArgs false
namespace Go.Proofs.YtjdfffdeljgenaaGreatDoor.Pl
end Go.Proofs.YtjdfffdeljgenaaGreatDoor.Pl
namespace Go.Proofs.YtjdfffdeljgenaaGreatDoor.W
open Go.RowKit
set_option maxHeartbeats 1000000 in
theorem cloneInts_row {lo : Nat} (a : Option Addr) (len cap : Nat) (zs : List Int) (w : World) (h : Row .i64 lo w a len cap zs) (hsz : len ≤ 1048576) :
    Calls Tryz.prog 58 #[.slice a len cap] w fun e w' => ∃ a' cap', e = .returned (.slice a' len cap') ∧ Own .i64 3 w.heap.size w' a' len cap' zs ∧ Below w.heap.size w w' := by
  obtain ⟨i0, hi, hz0, hz1, hz2⟩ := info_parts Tryz.infoi64
  have hq : ∀ (w : World) (a : Option Addr) (n c n' c' : Nat), (binOp .eql 23 (.slice a n c) (.slice none n' c')).run Tryz.prog w = .ok (.bool a.isNone) w := fun w a n c n' c' => Lib.run_eql_slice_nil w _ _ a n c n' c' Tryz.underlying23
  obtain ⟨hl, hlc, hcm, hwf, h5⟩ := h
  have HW : Hid (∀ n ∈ zs, (Lit.int .i64 n).wf = true) := hwf
  clear hwf
  have hE : (w.alloc (.cells #[] 3)).ownsRow w.heap.size 3 1 (.slice (some ⟨w.heap.size, 0, none⟩) 0 0) 0 [] := World.ownsRow_lit w #[] 0 (Nat.le_refl _) (Nat.zero_le _) rfl
  cases a with
  | none =>
    have h0 : len = 0 := by rcases h5 with h | ⟨b, off, hb, _⟩; exact h; cases hb
    subst h0
    have hz : zs = [] := by cases zs with | nil => rfl | cons => simp at hl
    subst hz
    clear hl h5
    go_enter Tryz.func58, Tryz.ntmps58
    go_wp2
    go_ret
    exact ⟨none, 0, rfl, ⟨World.ownsRow_nil _ _ _ _, fun n hn => (by cases hn)⟩, Below.refl _ _⟩
  | some ad =>
    have HN : Hid (∀ j u, (zs.map (Value.int .i64))[j]? = some u → (w.alloc (.cells #[] 3)).cell? (ad.add j) = some u) := fun j u hj => by
      have hjl : j < len := by
        have := (List.getElem?_eq_some_iff.1 hj).1
        rw [List.length_map] at this
        omega
      rcases h5 with h | ⟨b, off, hb, _, hlt, hc⟩
      · omega
      · cases hb
        have e1 : (⟨b, off, none⟩ : Addr).add j = ⟨b, off + j, none⟩ := by
          simp only [Addr.add]
          split <;> simp_all
        rw [e1, (below_alloc w _).cell (p := ⟨b, off + j, none⟩) hlt, hc j hjl, ← hj, List.getElem?_map, List.getElem?_eq_getElem (by omega), List.getD_eq_getElem?_getD, List.getElem?_eq_getElem (by omega)]
        rfl
    clear h5
    go_enter Tryz.func58, Tryz.ntmps58
    go_wp2_with (at_builtin; refine wpList_append_own _ rfl (.tmp 5) (.tmp 6) 23 rfl w.heap.size 3 i0 (.int .i64 0) 1 8 Tryz.underlying23 hi hz0 hz1 hz2 rfl (by decide) _ 0 [] rfl hE ad len cap (zs.map (Value.int .i64)) rfl (by rw [List.length_map, hl, Nat.mul_one]) HN.out (by intro u hu; obtain ⟨n, _, rfl⟩ := List.mem_map.1 hu; rfl) (by unfold maxLen; omega) (by omega) (by simp) ?_)
    intro v' u1 hown' hgr _
    have HO' : Hid (u1.ownsRow w.heap.size 3 1 v' len (zs.map (Value.int .i64))) := by show u1.ownsRow _ _ _ _ _ _; simpa using hown'
    have HB : Hid (Below w.heap.size w u1) := (below_alloc w _).grown hgr (by simp) (fun k hk => by simp [Value.ownBlock] at hk; omega)
    clear hown' hgr hE HN
    obtain ⟨a', c', hv⟩ : ∃ a' c', v' = .slice a' len c' := by
      rcases HO'.out.2 with ⟨q0, q1⟩ | ⟨g', c', _, q0, _⟩
      · subst q1; exact ⟨none, 0, q0⟩
      · exact ⟨_, c', q0⟩
    subst hv
    go_wp2
    go_ret
    exact ⟨a', c', rfl, ⟨HO'.out, HW.out⟩, HB.out⟩
set_option maxHeartbeats 1000000 in
theorem cloneBytes_row {lo : Nat} (a : Option Addr) (len cap : Nat) (zs : List Int) (w : World) (h : Row .u8 lo w a len cap zs) (hsz : len ≤ 1048576) :
    Calls Tryz.prog 59 #[.slice a len cap] w fun e w' => ∃ a' cap', e = .returned (.slice a' len cap') ∧ Own .u8 5 w.heap.size w' a' len cap' zs ∧ Below w.heap.size w w' := by
  obtain ⟨i0, hi, hz0, hz1, hz2⟩ := info_parts Tryz.infou8
  have hq : ∀ (w : World) (a : Option Addr) (n c n' c' : Nat), (binOp .eql 22 (.slice a n c) (.slice none n' c')).run Tryz.prog w = .ok (.bool a.isNone) w := fun w a n c n' c' => Lib.run_eql_slice_nil w _ _ a n c n' c' Tryz.underlying22
  obtain ⟨hl, hlc, hcm, hwf, h5⟩ := h
  have HW : Hid (∀ n ∈ zs, (Lit.int .u8 n).wf = true) := hwf
  clear hwf
  have hE : (w.alloc (.cells #[] 5)).ownsRow w.heap.size 5 1 (.slice (some ⟨w.heap.size, 0, none⟩) 0 0) 0 [] := World.ownsRow_lit w #[] 0 (Nat.le_refl _) (Nat.zero_le _) rfl
  cases a with
  | none =>
    have h0 : len = 0 := by rcases h5 with h | ⟨b, off, hb, _⟩; exact h; cases hb
    subst h0
    have hz : zs = [] := by cases zs with | nil => rfl | cons => simp at hl
    subst hz
    clear hl h5
    go_enter Tryz.func59, Tryz.ntmps59
    go_wp2
    go_ret
    exact ⟨none, 0, rfl, ⟨World.ownsRow_nil _ _ _ _, fun n hn => (by cases hn)⟩, Below.refl _ _⟩
  | some ad =>
    have HN : Hid (∀ j u, (zs.map (Value.int .u8))[j]? = some u → (w.alloc (.cells #[] 5)).cell? (ad.add j) = some u) := fun j u hj => by
      have hjl : j < len := by
        have := (List.getElem?_eq_some_iff.1 hj).1
        rw [List.length_map] at this
        omega
      rcases h5 with h | ⟨b, off, hb, _, hlt, hc⟩
      · omega
      · cases hb
        have e1 : (⟨b, off, none⟩ : Addr).add j = ⟨b, off + j, none⟩ := by
          simp only [Addr.add]
          split <;> simp_all
        rw [e1, (below_alloc w _).cell (p := ⟨b, off + j, none⟩) hlt, hc j hjl, ← hj, List.getElem?_map, List.getElem?_eq_getElem (by omega), List.getD_eq_getElem?_getD, List.getElem?_eq_getElem (by omega)]
        rfl
    clear h5
    go_enter Tryz.func59, Tryz.ntmps59
    go_wp2_with (at_builtin; refine wpList_append_own _ rfl (.tmp 5) (.tmp 6) 22 rfl w.heap.size 5 i0 (.int .u8 0) 1 1 Tryz.underlying22 hi hz0 hz1 hz2 rfl (by decide) _ 0 [] rfl hE ad len cap (zs.map (Value.int .u8)) rfl (by rw [List.length_map, hl, Nat.mul_one]) HN.out (by intro u hu; obtain ⟨n, _, rfl⟩ := List.mem_map.1 hu; rfl) (by unfold maxLen; omega) (by omega) (by simp) ?_)
    intro v' u1 hown' hgr _
    have HO' : Hid (u1.ownsRow w.heap.size 5 1 v' len (zs.map (Value.int .u8))) := by show u1.ownsRow _ _ _ _ _ _; simpa using hown'
    have HB : Hid (Below w.heap.size w u1) := (below_alloc w _).grown hgr (by simp) (fun k hk => by simp [Value.ownBlock] at hk; omega)
    clear hown' hgr hE HN
    obtain ⟨a', c', hv⟩ : ∃ a' c', v' = .slice a' len c' := by
      rcases HO'.out.2 with ⟨q0, q1⟩ | ⟨g', c', _, q0, _⟩
      · subst q1; exact ⟨none, 0, q0⟩
      · exact ⟨_, c', q0⟩
    subst hv
    go_wp2
    go_ret
    exact ⟨a', c', rfl, ⟨HO'.out, HW.out⟩, HB.out⟩
set_option maxHeartbeats 4000000 in
theorem copyMachine_row {lo : Nat} (v : MV) (m : Pl.Mac) (w : World) (h : MIs lo w v m) (hsz : Pl.mSize m ≤ 1048576) :
    Calls Tryz.prog 29 #[.agg #[.slice v.code.a v.code.len v.code.cap, .int .i64 m.pc, .slice v.regs.a v.regs.len v.regs.cap, .slice v.data.a v.data.len v.data.cap, .slice v.stk.a v.stk.len v.stk.cap, .slice v.inp.a v.inp.len v.inp.cap, .slice v.out.a v.out.len v.out.cap, .int .i64 m.steps, .int .i64 m.fin, .int .i64 m.val]] w fun e w' => ∃ v' : MV, e = .returned (.agg #[.slice v'.code.a v'.code.len v'.code.cap, .int .i64 m.pc, .slice v'.regs.a v'.regs.len v'.regs.cap, .slice v'.data.a v'.data.len v'.data.cap, .slice v'.stk.a v'.stk.len v'.stk.cap, .slice v'.inp.a v'.inp.len v'.inp.cap, .slice v'.out.a v'.out.len v'.out.cap, .int .i64 m.steps, .int .i64 m.fin, .int .i64 m.val]) ∧ MOwn w.heap.size w' v' m ∧ MSep v' ∧ Below w.heap.size w w' := by
  obtain ⟨⟨ca, cl, cc⟩, ⟨ra, rl, rc⟩, ⟨da, dl, dc⟩, ⟨sa, sl, sc⟩, ⟨ia, il, ic⟩, ⟨oa, ol, oc⟩⟩ := v
  obtain ⟨code, pc, regs, data, stk, inp, out, steps, fin, val⟩ := m
  unfold Pl.mSize at hsz
  obtain ⟨r1, r2, r3, r4, r5, r6⟩ := h
  dsimp only at r1 r2 r3 r4 r5 r6 hsz ⊢
  have hs : cl ≤ 1048576 ∧ rl ≤ 1048576 ∧ dl ≤ 1048576 ∧ sl ≤ 1048576 ∧ il ≤ 1048576 ∧ ol ≤ 1048576 := by
    rw [r1.1, r2.1, r3.1, r4.1, r5.1, r6.1] at hsz
    omega
  clear hsz
  obtain ⟨s1, s2, s3, s4, s5, s6⟩ := hs
  have R1 : Hid (Row .i64 lo w ca cl cc code) := r1
  have R2 : Hid (Row .i64 lo w ra rl rc regs) := r2
  have R3 : Hid (Row .u8 lo w da dl dc data) := r3
  have R4 : Hid (Row .u8 lo w sa sl sc stk) := r4
  have R5 : Hid (Row .u8 lo w ia il ic inp) := r5
  have R6 : Hid (Row .u8 lo w oa ol oc out) := r6
  clear r1 r2 r3 r4 r5 r6
  go_enter Tryz.func29, Tryz.ntmps29
  go_wp2_with fail
  refine calls_at fun U1 hU1 => ?_
  have z1 : U1.heap.size = w.heap.size + 2 := by rw [hU1]; simp
  have ot1 : U1.heap[w.heap.size]? = some (.cells #[.slice ca cl cc, .int .i64 pc, .slice ra rl rc, .slice da dl dc, .slice sa sl sc, .slice ia il ic, .slice oa ol oc, .int .i64 steps, .int .i64 fin, .int .i64 val] 25) := by
    rw [hU1, Below.heap_alloc _ _ _ (by simp)]
    exact heap_alloc_new w _
  have re1 : U1.heap[w.heap.size + 1]? = some (.cells #[.slice none 0 0, .int .i64 0, .slice none 0 0, .slice none 0 0, .slice none 0 0, .slice none 0 0, .slice none 0 0, .int .i64 0, .int .i64 0, .int .i64 0] 25) := by
    rw [hU1]
    have := heap_alloc_new (w.alloc (.cells #[.slice ca cl cc, .int .i64 pc, .slice ra rl rc, .slice da dl dc, .slice sa sl sc, .slice ia il ic, .slice oa ol oc, .int .i64 steps, .int .i64 fin, .int .i64 val] 25)) (.cells #[.slice none 0 0, .int .i64 0, .slice none 0 0, .slice none 0 0, .slice none 0 0, .slice none 0 0, .slice none 0 0, .int .i64 0, .int .i64 0, .int .i64 0] 25)
    simpa using this
  have b1 : Below w.heap.size w U1 := by
    rw [hU1]
    exact ((Below.refl _ _).alloc (Nat.le_refl _) _).alloc (by simp) _
  have HK1 : Hid (U1.heap.size = w.heap.size + 2 ∧ Below w.heap.size w U1) := ⟨z1, b1⟩
  clear z1 b1
  refine (cloneInts_row ca cl cc code U1 (R1.out.keep HK1.out.2) s1).mono ?_
  rintro e u1 ⟨a1, c1, rfl, o1, d1⟩
  have zz1 : w.heap.size + 1 < U1.heap.size := by have := HK1.out.1; omega
  have q1 : u1.heap[w.heap.size]? = some (.cells #[.slice ca cl cc, .int .i64 pc, .slice ra rl rc, .slice da dl dc, .slice sa sl sc, .slice ia il ic, .slice oa ol oc, .int .i64 steps, .int .i64 fin, .int .i64 val] 25) := by rw [d1.block _ (by omega)]; exact ot1
  have X1 : Hid (u1.heap[w.heap.size + 1]? = some (.cells #[.slice none 0 0, .int .i64 0, .slice none 0 0, .slice none 0 0, .slice none 0 0, .slice none 0 0, .slice none 0 0, .int .i64 0, .int .i64 0, .int .i64 0] 25)) := by
    show u1.heap[w.heap.size + 1]? = _
    rw [d1.block _ (by omega)]; exact re1
  have Q1 : Hid _ := q1
  have ko : ∀ j, u1.cell? ⟨w.heap.size, j, none⟩ = (#[.slice ca cl cc, .int .i64 pc, .slice ra rl rc, .slice da dl dc, .slice sa sl sc, .slice ia il ic, .slice oa ol oc, .int .i64 steps, .int .i64 fin, .int .i64 val] : Array Value)[j]? := fun j => cell_of_row u1 (w.heap.size) j _ 25 (0, 0) q1
  have kf : ∀ j, u1.frozen? ⟨w.heap.size, j, none⟩ = false := fun j => frozen_of_row u1 (w.heap.size) j _ 25 q1
  have O1 : Hid (Own .i64 3 U1.heap.size u1 a1 cl c1 code) := o1
  have D1 : Hid (Below U1.heap.size U1 u1) := d1
  have B1 : Hid (Below w.heap.size w u1) := HK1.out.2.trans (d1.mono (by have := zz1; omega))
  have S1 : Hid (U1.heap.size ≤ u1.heap.size) := d1.size
  clear o1 d1 ot1 re1 hU1 q1
  go_wp2_with fail
  clear ko kf
  refine calls_at fun U2 hU2 => ?_
  have ot2 : U2.heap[w.heap.size]? = some (.cells #[.slice a1 cl c1, .int .i64 pc, .slice ra rl rc, .slice da dl dc, .slice sa sl sc, .slice ia il ic, .slice oa ol oc, .int .i64 steps, .int .i64 fin, .int .i64 val] 25) := by
    rw [hU2]
    exact row_put Q1.out 0 (.slice a1 cl c1) rfl
  have re2 : U2.heap[w.heap.size + 1]? = some (.cells #[.slice none 0 0, .int .i64 0, .slice none 0 0, .slice none 0 0, .slice none 0 0, .slice none 0 0, .slice none 0 0, .int .i64 0, .int .i64 0, .int .i64 0] 25) := by
    rw [hU2]
    exact keep_oth X1.out (show w.heap.size + 1 ≠ w.heap.size by omega)
  have HK2 : Hid (U2.heap.size = u1.heap.size ∧ Below w.heap.size w U2) := by
    rw [hU2]
    exact ⟨by simp, B1.out.setCell (show w.heap.size ≤ w.heap.size by omega) _⟩
  have A1 : Hid (Above (w.heap.size + 1 + 1) u1 U2) := by
    rw [hU2]
    exact (Above.refl _ _).setCell (show w.heap.size < w.heap.size + 1 + 1 by omega) _
  refine (cloneInts_row ra rl rc regs U2 (R2.out.keep HK2.out.2) s2).mono ?_
  rintro e u2 ⟨a2, c2, rfl, o2, d2⟩
  have zz2 : w.heap.size + 1 < U2.heap.size := by have := HK2.out.1; have := zz1; have := S1.out; omega
  have q2 : u2.heap[w.heap.size]? = some (.cells #[.slice a1 cl c1, .int .i64 pc, .slice ra rl rc, .slice da dl dc, .slice sa sl sc, .slice ia il ic, .slice oa ol oc, .int .i64 steps, .int .i64 fin, .int .i64 val] 25) := by rw [d2.block _ (by omega)]; exact ot2
  have X2 : Hid (u2.heap[w.heap.size + 1]? = some (.cells #[.slice none 0 0, .int .i64 0, .slice none 0 0, .slice none 0 0, .slice none 0 0, .slice none 0 0, .slice none 0 0, .int .i64 0, .int .i64 0, .int .i64 0] 25)) := by
    show u2.heap[w.heap.size + 1]? = _
    rw [d2.block _ (by omega)]; exact re2
  have Q2 : Hid _ := q2
  have ko : ∀ j, u2.cell? ⟨w.heap.size, j, none⟩ = (#[.slice a1 cl c1, .int .i64 pc, .slice ra rl rc, .slice da dl dc, .slice sa sl sc, .slice ia il ic, .slice oa ol oc, .int .i64 steps, .int .i64 fin, .int .i64 val] : Array Value)[j]? := fun j => cell_of_row u2 (w.heap.size) j _ 25 (0, 0) q2
  have kf : ∀ j, u2.frozen? ⟨w.heap.size, j, none⟩ = false := fun j => frozen_of_row u2 (w.heap.size) j _ 25 q2
  have O2 : Hid (Own .i64 3 U2.heap.size u2 a2 rl c2 regs) := o2
  have D2 : Hid (Below U2.heap.size U2 u2) := d2
  have B2 : Hid (Below w.heap.size w u2) := HK2.out.2.trans (d2.mono (by have := zz2; omega))
  have S2 : Hid (U2.heap.size ≤ u2.heap.size) := d2.size
  clear o2 d2 ot2 re2 hU2 q2
  go_wp2_with fail
  clear ko kf
  refine calls_at fun U3 hU3 => ?_
  have ot3 : U3.heap[w.heap.size]? = some (.cells #[.slice a1 cl c1, .int .i64 pc, .slice a2 rl c2, .slice da dl dc, .slice sa sl sc, .slice ia il ic, .slice oa ol oc, .int .i64 steps, .int .i64 fin, .int .i64 val] 25) := by
    rw [hU3]
    exact row_put Q2.out 2 (.slice a2 rl c2) rfl
  have re3 : U3.heap[w.heap.size + 1]? = some (.cells #[.slice none 0 0, .int .i64 0, .slice none 0 0, .slice none 0 0, .slice none 0 0, .slice none 0 0, .slice none 0 0, .int .i64 0, .int .i64 0, .int .i64 0] 25) := by
    rw [hU3]
    exact keep_oth X2.out (show w.heap.size + 1 ≠ w.heap.size by omega)
  have HK3 : Hid (U3.heap.size = u2.heap.size ∧ Below w.heap.size w U3) := by
    rw [hU3]
    exact ⟨by simp, B2.out.setCell (show w.heap.size ≤ w.heap.size by omega) _⟩
  have A2 : Hid (Above (w.heap.size + 1 + 1) u2 U3) := by
    rw [hU3]
    exact (Above.refl _ _).setCell (show w.heap.size < w.heap.size + 1 + 1 by omega) _
  refine (cloneBytes_row da dl dc data U3 (R3.out.keep HK3.out.2) s3).mono ?_
  rintro e u3 ⟨a3, c3, rfl, o3, d3⟩
  have zz3 : w.heap.size + 1 < U3.heap.size := by have := HK3.out.1; have := zz2; have := S2.out; omega
  have q3 : u3.heap[w.heap.size]? = some (.cells #[.slice a1 cl c1, .int .i64 pc, .slice a2 rl c2, .slice da dl dc, .slice sa sl sc, .slice ia il ic, .slice oa ol oc, .int .i64 steps, .int .i64 fin, .int .i64 val] 25) := by rw [d3.block _ (by omega)]; exact ot3
  have X3 : Hid (u3.heap[w.heap.size + 1]? = some (.cells #[.slice none 0 0, .int .i64 0, .slice none 0 0, .slice none 0 0, .slice none 0 0, .slice none 0 0, .slice none 0 0, .int .i64 0, .int .i64 0, .int .i64 0] 25)) := by
    show u3.heap[w.heap.size + 1]? = _
    rw [d3.block _ (by omega)]; exact re3
  have Q3 : Hid _ := q3
  have ko : ∀ j, u3.cell? ⟨w.heap.size, j, none⟩ = (#[.slice a1 cl c1, .int .i64 pc, .slice a2 rl c2, .slice da dl dc, .slice sa sl sc, .slice ia il ic, .slice oa ol oc, .int .i64 steps, .int .i64 fin, .int .i64 val] : Array Value)[j]? := fun j => cell_of_row u3 (w.heap.size) j _ 25 (0, 0) q3
  have kf : ∀ j, u3.frozen? ⟨w.heap.size, j, none⟩ = false := fun j => frozen_of_row u3 (w.heap.size) j _ 25 q3
  have O3 : Hid (Own .u8 5 U3.heap.size u3 a3 dl c3 data) := o3
  have D3 : Hid (Below U3.heap.size U3 u3) := d3
  have B3 : Hid (Below w.heap.size w u3) := HK3.out.2.trans (d3.mono (by have := zz3; omega))
  have S3 : Hid (U3.heap.size ≤ u3.heap.size) := d3.size
  clear o3 d3 ot3 re3 hU3 q3
  go_wp2_with fail
  clear ko kf
  refine calls_at fun U4 hU4 => ?_
  have ot4 : U4.heap[w.heap.size]? = some (.cells #[.slice a1 cl c1, .int .i64 pc, .slice a2 rl c2, .slice a3 dl c3, .slice sa sl sc, .slice ia il ic, .slice oa ol oc, .int .i64 steps, .int .i64 fin, .int .i64 val] 25) := by
    rw [hU4]
    exact row_put Q3.out 3 (.slice a3 dl c3) rfl
  have re4 : U4.heap[w.heap.size + 1]? = some (.cells #[.slice none 0 0, .int .i64 0, .slice none 0 0, .slice none 0 0, .slice none 0 0, .slice none 0 0, .slice none 0 0, .int .i64 0, .int .i64 0, .int .i64 0] 25) := by
    rw [hU4]
    exact keep_oth X3.out (show w.heap.size + 1 ≠ w.heap.size by omega)
  have HK4 : Hid (U4.heap.size = u3.heap.size ∧ Below w.heap.size w U4) := by
    rw [hU4]
    exact ⟨by simp, B3.out.setCell (show w.heap.size ≤ w.heap.size by omega) _⟩
  have A3 : Hid (Above (w.heap.size + 1 + 1) u3 U4) := by
    rw [hU4]
    exact (Above.refl _ _).setCell (show w.heap.size < w.heap.size + 1 + 1 by omega) _
  refine (cloneBytes_row sa sl sc stk U4 (R4.out.keep HK4.out.2) s4).mono ?_
  rintro e u4 ⟨a4, c4, rfl, o4, d4⟩
  have zz4 : w.heap.size + 1 < U4.heap.size := by have := HK4.out.1; have := zz3; have := S3.out; omega
  have q4 : u4.heap[w.heap.size]? = some (.cells #[.slice a1 cl c1, .int .i64 pc, .slice a2 rl c2, .slice a3 dl c3, .slice sa sl sc, .slice ia il ic, .slice oa ol oc, .int .i64 steps, .int .i64 fin, .int .i64 val] 25) := by rw [d4.block _ (by omega)]; exact ot4
  have X4 : Hid (u4.heap[w.heap.size + 1]? = some (.cells #[.slice none 0 0, .int .i64 0, .slice none 0 0, .slice none 0 0, .slice none 0 0, .slice none 0 0, .slice none 0 0, .int .i64 0, .int .i64 0, .int .i64 0] 25)) := by
    show u4.heap[w.heap.size + 1]? = _
    rw [d4.block _ (by omega)]; exact re4
  have Q4 : Hid _ := q4
  have ko : ∀ j, u4.cell? ⟨w.heap.size, j, none⟩ = (#[.slice a1 cl c1, .int .i64 pc, .slice a2 rl c2, .slice a3 dl c3, .slice sa sl sc, .slice ia il ic, .slice oa ol oc, .int .i64 steps, .int .i64 fin, .int .i64 val] : Array Value)[j]? := fun j => cell_of_row u4 (w.heap.size) j _ 25 (0, 0) q4
  have kf : ∀ j, u4.frozen? ⟨w.heap.size, j, none⟩ = false := fun j => frozen_of_row u4 (w.heap.size) j _ 25 q4
  have O4 : Hid (Own .u8 5 U4.heap.size u4 a4 sl c4 stk) := o4
  have D4 : Hid (Below U4.heap.size U4 u4) := d4
  have B4 : Hid (Below w.heap.size w u4) := HK4.out.2.trans (d4.mono (by have := zz4; omega))
  have S4 : Hid (U4.heap.size ≤ u4.heap.size) := d4.size
  clear o4 d4 ot4 re4 hU4 q4
  go_wp2_with fail
  clear ko kf
  refine calls_at fun U5 hU5 => ?_
  have ot5 : U5.heap[w.heap.size]? = some (.cells #[.slice a1 cl c1, .int .i64 pc, .slice a2 rl c2, .slice a3 dl c3, .slice a4 sl c4, .slice ia il ic, .slice oa ol oc, .int .i64 steps, .int .i64 fin, .int .i64 val] 25) := by
    rw [hU5]
    exact row_put Q4.out 4 (.slice a4 sl c4) rfl
  have re5 : U5.heap[w.heap.size + 1]? = some (.cells #[.slice none 0 0, .int .i64 0, .slice none 0 0, .slice none 0 0, .slice none 0 0, .slice none 0 0, .slice none 0 0, .int .i64 0, .int .i64 0, .int .i64 0] 25) := by
    rw [hU5]
    exact keep_oth X4.out (show w.heap.size + 1 ≠ w.heap.size by omega)
  have HK5 : Hid (U5.heap.size = u4.heap.size ∧ Below w.heap.size w U5) := by
    rw [hU5]
    exact ⟨by simp, B4.out.setCell (show w.heap.size ≤ w.heap.size by omega) _⟩
  have A4 : Hid (Above (w.heap.size + 1 + 1) u4 U5) := by
    rw [hU5]
    exact (Above.refl _ _).setCell (show w.heap.size < w.heap.size + 1 + 1 by omega) _
  refine (cloneBytes_row ia il ic inp U5 (R5.out.keep HK5.out.2) s5).mono ?_
  rintro e u5 ⟨a5, c5, rfl, o5, d5⟩
  have zz5 : w.heap.size + 1 < U5.heap.size := by have := HK5.out.1; have := zz4; have := S4.out; omega
  have q5 : u5.heap[w.heap.size]? = some (.cells #[.slice a1 cl c1, .int .i64 pc, .slice a2 rl c2, .slice a3 dl c3, .slice a4 sl c4, .slice ia il ic, .slice oa ol oc, .int .i64 steps, .int .i64 fin, .int .i64 val] 25) := by rw [d5.block _ (by omega)]; exact ot5
  have X5 : Hid (u5.heap[w.heap.size + 1]? = some (.cells #[.slice none 0 0, .int .i64 0, .slice none 0 0, .slice none 0 0, .slice none 0 0, .slice none 0 0, .slice none 0 0, .int .i64 0, .int .i64 0, .int .i64 0] 25)) := by
    show u5.heap[w.heap.size + 1]? = _
    rw [d5.block _ (by omega)]; exact re5
  have Q5 : Hid _ := q5
  have ko : ∀ j, u5.cell? ⟨w.heap.size, j, none⟩ = (#[.slice a1 cl c1, .int .i64 pc, .slice a2 rl c2, .slice a3 dl c3, .slice a4 sl c4, .slice ia il ic, .slice oa ol oc, .int .i64 steps, .int .i64 fin, .int .i64 val] : Array Value)[j]? := fun j => cell_of_row u5 (w.heap.size) j _ 25 (0, 0) q5
  have kf : ∀ j, u5.frozen? ⟨w.heap.size, j, none⟩ = false := fun j => frozen_of_row u5 (w.heap.size) j _ 25 q5
  have O5 : Hid (Own .u8 5 U5.heap.size u5 a5 il c5 inp) := o5
  have D5 : Hid (Below U5.heap.size U5 u5) := d5
  have B5 : Hid (Below w.heap.size w u5) := HK5.out.2.trans (d5.mono (by have := zz5; omega))
  have S5 : Hid (U5.heap.size ≤ u5.heap.size) := d5.size
  clear o5 d5 ot5 re5 hU5 q5
  go_wp2_with fail
  clear ko kf
  refine calls_at fun U6 hU6 => ?_
  have ot6 : U6.heap[w.heap.size]? = some (.cells #[.slice a1 cl c1, .int .i64 pc, .slice a2 rl c2, .slice a3 dl c3, .slice a4 sl c4, .slice a5 il c5, .slice oa ol oc, .int .i64 steps, .int .i64 fin, .int .i64 val] 25) := by
    rw [hU6]
    exact row_put Q5.out 5 (.slice a5 il c5) rfl
  have re6 : U6.heap[w.heap.size + 1]? = some (.cells #[.slice none 0 0, .int .i64 0, .slice none 0 0, .slice none 0 0, .slice none 0 0, .slice none 0 0, .slice none 0 0, .int .i64 0, .int .i64 0, .int .i64 0] 25) := by
    rw [hU6]
    exact keep_oth X5.out (show w.heap.size + 1 ≠ w.heap.size by omega)
  have HK6 : Hid (U6.heap.size = u5.heap.size ∧ Below w.heap.size w U6) := by
    rw [hU6]
    exact ⟨by simp, B5.out.setCell (show w.heap.size ≤ w.heap.size by omega) _⟩
  have A5 : Hid (Above (w.heap.size + 1 + 1) u5 U6) := by
    rw [hU6]
    exact (Above.refl _ _).setCell (show w.heap.size < w.heap.size + 1 + 1 by omega) _
  refine (cloneBytes_row oa ol oc out U6 (R6.out.keep HK6.out.2) s6).mono ?_
  rintro e u6 ⟨a6, c6, rfl, o6, d6⟩
  have zz6 : w.heap.size + 1 < U6.heap.size := by have := HK6.out.1; have := zz5; have := S5.out; omega
  have q6 : u6.heap[w.heap.size]? = some (.cells #[.slice a1 cl c1, .int .i64 pc, .slice a2 rl c2, .slice a3 dl c3, .slice a4 sl c4, .slice a5 il c5, .slice oa ol oc, .int .i64 steps, .int .i64 fin, .int .i64 val] 25) := by rw [d6.block _ (by omega)]; exact ot6
  have X6 : Hid (u6.heap[w.heap.size + 1]? = some (.cells #[.slice none 0 0, .int .i64 0, .slice none 0 0, .slice none 0 0, .slice none 0 0, .slice none 0 0, .slice none 0 0, .int .i64 0, .int .i64 0, .int .i64 0] 25)) := by
    show u6.heap[w.heap.size + 1]? = _
    rw [d6.block _ (by omega)]; exact re6
  have Q6 : Hid _ := q6
  have ko : ∀ j, u6.cell? ⟨w.heap.size, j, none⟩ = (#[.slice a1 cl c1, .int .i64 pc, .slice a2 rl c2, .slice a3 dl c3, .slice a4 sl c4, .slice a5 il c5, .slice oa ol oc, .int .i64 steps, .int .i64 fin, .int .i64 val] : Array Value)[j]? := fun j => cell_of_row u6 (w.heap.size) j _ 25 (0, 0) q6
  have kf : ∀ j, u6.frozen? ⟨w.heap.size, j, none⟩ = false := fun j => frozen_of_row u6 (w.heap.size) j _ 25 q6
  have O6 : Hid (Own .u8 5 U6.heap.size u6 a6 ol c6 out) := o6
  have D6 : Hid (Below U6.heap.size U6 u6) := d6
  have B6 : Hid (Below w.heap.size w u6) := HK6.out.2.trans (d6.mono (by have := zz6; omega))
  have S6 : Hid (U6.heap.size ≤ u6.heap.size) := d6.size
  clear o6 d6 ot6 re6 hU6 q6
  have hrow : (u6.setCell ⟨w.heap.size, 6, none⟩ (.slice a6 ol c6)).heap[w.heap.size]? = some (.cells #[.slice a1 cl c1, .int .i64 pc, .slice a2 rl c2, .slice a3 dl c3, .slice a4 sl c4, .slice a5 il c5, .slice a6 ol c6, .int .i64 steps, .int .i64 fin, .int .i64 val] 25) := row_put Q6.out 6 (.slice a6 ol c6) rfl
  have hres : (u6.setCell ⟨w.heap.size, 6, none⟩ (.slice a6 ol c6)).heap[w.heap.size + 1]? = some (.cells #[.slice none 0 0, .int .i64 0, .slice none 0 0, .slice none 0 0, .slice none 0 0, .slice none 0 0, .slice none 0 0, .int .i64 0, .int .i64 0, .int .i64 0] 25) := keep_oth X6.out (show w.heap.size + 1 ≠ w.heap.size by omega)
  have HRES : Hid _ := hres
  have HROW : Hid _ := hrow
  clear hrow hres
  have HAB : Hid (Above (w.heap.size + 1 + 1) u6 (u6.setCell ⟨w.heap.size, 6, none⟩ (.slice a6 ol c6)) ∧ Below w.heap.size w (u6.setCell ⟨w.heap.size, 6, none⟩ (.slice a6 ol c6))) := ⟨(Above.refl _ _).setCell (show w.heap.size < w.heap.size + 1 + 1 by omega) _, B6.out.setCell (show w.heap.size ≤ w.heap.size by omega) _⟩
  go_wp2_with (first | (refine wpList_load_row rfl 25 _ rfl (w.heap.size) ?hx 25 #[.slice a1 cl c1, .int .i64 pc, .slice a2 rl c2, .slice a3 dl c3, .slice a4 sl c4, .slice a5 il c5, .slice a6 ol c6, .int .i64 steps, .int .i64 fin, .int .i64 val] (0, 0) _ ?hg Tryz.underlying25 ?hd ?hi ?_; (case hx => rfl); (case hg => exact HROW.out); (case hd => rfl); (case hi => kernel_rfl)) | (refine wpList_store_row rfl 25 _ _ rfl (w.heap.size + 1) #[.slice a1 cl c1, .int .i64 pc, .slice a2 rl c2, .slice a3 dl c3, .slice a4 sl c4, .slice a5 il c5, .slice a6 ol c6, .int .i64 steps, .int .i64 fin, .int .i64 val] ?hx ?hy 25 #[.slice none 0 0, .int .i64 0, .slice none 0 0, .slice none 0 0, .slice none 0 0, .slice none 0 0, .slice none 0 0, .int .i64 0, .int .i64 0, .int .i64 0] ?hg ?hi ?ho ?h1 ?_; (case hx => rfl); (case hy => rfl); (case hg => exact HRES.out); (case hi => kernel_rfl); (case ho => kernel_rfl); (case h1 => kernel_rfl); refine Hid.out ?_))
  unfold Hid
  clear ko kf
  go_wp2_with fail
  refine bodyPost_ret (v := .agg #[.slice a1 cl c1, .int .i64 pc, .slice a2 rl c2, .slice a3 dl c3, .slice a4 sl c4, .slice a5 il c5, .slice a6 ol c6, .int .i64 steps, .int .i64 fin, .int .i64 val]) ?hres rfl ⟨⟨⟨a1, cl, c1⟩, ⟨a2, rl, c2⟩, ⟨a3, dl, c3⟩, ⟨a4, sl, c4⟩, ⟨a5, il, c5⟩, ⟨a6, ol, c6⟩⟩, rfl, ⟨((O1.out.same ((A1.out.trans (Above.of_below D2.out)).trans ((A2.out.trans (Above.of_below D3.out)).trans ((A3.out.trans (Above.of_below D4.out)).trans ((A4.out.trans (Above.of_below D5.out)).trans ((A5.out.trans (Above.of_below D6.out)).trans (HAB.out.1.setRow (show w.heap.size + 1 < w.heap.size + 1 + 1 from by omega) _)))))) (by have := zz1; omega)).lower (by have := zz1; omega)), ((O2.out.same ((A2.out.trans (Above.of_below D3.out)).trans ((A3.out.trans (Above.of_below D4.out)).trans ((A4.out.trans (Above.of_below D5.out)).trans ((A5.out.trans (Above.of_below D6.out)).trans (HAB.out.1.setRow (show w.heap.size + 1 < w.heap.size + 1 + 1 from by omega) _))))) (by have := zz2; omega)).lower (by have := zz2; omega)), ((O3.out.same ((A3.out.trans (Above.of_below D4.out)).trans ((A4.out.trans (Above.of_below D5.out)).trans ((A5.out.trans (Above.of_below D6.out)).trans (HAB.out.1.setRow (show w.heap.size + 1 < w.heap.size + 1 + 1 from by omega) _)))) (by have := zz3; omega)).lower (by have := zz3; omega)), ((O4.out.same ((A4.out.trans (Above.of_below D5.out)).trans ((A5.out.trans (Above.of_below D6.out)).trans (HAB.out.1.setRow (show w.heap.size + 1 < w.heap.size + 1 + 1 from by omega) _))) (by have := zz4; omega)).lower (by have := zz4; omega)), ((O5.out.same ((A5.out.trans (Above.of_below D6.out)).trans (HAB.out.1.setRow (show w.heap.size + 1 < w.heap.size + 1 + 1 from by omega) _)) (by have := zz5; omega)).lower (by have := zz5; omega)), ((O6.out.same (HAB.out.1.setRow (show w.heap.size + 1 < w.heap.size + 1 + 1 from by omega) _) (by have := zz6; omega)).lower (by have := zz6; omega))⟩, ⟨U1.heap.size, U2.heap.size, U3.heap.size, U4.heap.size, U5.heap.size, U6.heap.size, u6.heap.size, O1.out.span (by have := HK2.out.1; omega), O2.out.span (by have := HK3.out.1; omega), O3.out.span (by have := HK4.out.1; omega), O4.out.span (by have := HK5.out.1; omega), O5.out.span (by have := HK6.out.1; omega), O6.out.span (by omega), (by have := S1.out; have := HK2.out.1; omega), (by have := S2.out; have := HK3.out.1; omega), (by have := S3.out; have := HK4.out.1; omega), (by have := S4.out; have := HK5.out.1; omega), (by have := S5.out; have := HK6.out.1; omega), (by have := S6.out; omega)⟩, below_setRow HAB.out.2 (show w.heap.size ≤ w.heap.size + 1 from by omega) _⟩
  case hres =>
    refine results_cell_row Tryz.results29 _ _ (w.heap.size + 1) 25 #[.slice a1 cl c1, .int .i64 pc, .slice a2 rl c2, .slice a3 dl c3, .slice a4 sl c4, .slice a5 il c5, .slice a6 ol c6, .int .i64 steps, .int .i64 fin, .int .i64 val] (0, 0) _ ?hp ?hg Tryz.underlying25 ?hd ?hi
    case hp => rfl
    case hg => exact setRow_heap _ _ _ _ _ _ HRES.out
    case hd => rfl
    case hi => kernel_rfl
end Go.Proofs.YtjdfffdeljgenaaGreatDoor.W
namespace Go.Proofs.YtjdfffdeljgenaaGreatDoor.W
open Go.RowKit
structure OnlyB (c : Nat) (w w' : World) : Prop where
  os : w'.os = w.os
  tape : w'.tape = w.tape
  output : w'.output = w.output
  size : w.heap.size ≤ w'.heap.size
  block : ∀ b, b < w.heap.size → b ≠ c → w'.heap[b]? = w.heap[b]?
theorem OnlyB.below {c : Nat} {w w' : World} (h : OnlyB c w w') (hc : c < w.heap.size) : Below c w w' := ⟨h.os, h.tape, h.output, h.size, fun b hb => h.block b (by omega) (by omega)⟩
theorem OnlyB.refl (c : Nat) (w : World) : OnlyB c w w := ⟨rfl, rfl, rfl, Nat.le_refl _, fun _ _ _ => rfl⟩
theorem OnlyB.trans {c : Nat} {a b d : World} (h : OnlyB c a b) (k : OnlyB c b d) : OnlyB c a d := ⟨k.os.trans h.os, k.tape.trans h.tape, k.output.trans h.output, Nat.le_trans h.size k.size, fun x hx hc => (k.block x (Nat.lt_of_lt_of_le hx h.size) hc).trans (h.block x hx hc)⟩
theorem OnlyB.of_below {c : Nat} {a b : World} (h : Below a.heap.size a b) : OnlyB c a b := ⟨h.os, h.tape, h.output, h.size, fun x hx _ => h.block x hx⟩
theorem OnlyB.low {c : Nat} {w a b : World} (h : OnlyB c w a) (k : Below w.heap.size a b) : OnlyB c w b := ⟨k.os.trans h.os, k.tape.trans h.tape, k.output.trans h.output, Nat.le_trans h.size k.size, fun x hx hc => (k.block x hx).trans (h.block x hx hc)⟩
set_option maxHeartbeats 1000000 in
theorem next_only (w : World) (c : Nat) (h : RdOk w c) : Calls Tryz.prog 23 #[.pointer (some ⟨c, 0, none⟩)] w fun e w' => ∃ m : Nat, e = .returned (.int .i64 (m : Int)) ∧ m ≤ 255 ∧ RdOk w' c ∧ OnlyB c w w' := by
  obtain ⟨a, len, cap, p, hrow, hl, hp, hbytes⟩ := h
  have hc0 : w.cell? ⟨c, 0, none⟩ = some (.slice a len cap) := by rw [cell_of_row w c 0 _ 66 (0, 0) hrow]; rfl
  have hc1 : w.cell? ⟨c, 1, none⟩ = some (.int .i64 (p : Int)) := by rw [cell_of_row w c 1 _ 66 (0, 0) hrow]; rfl
  have hf1 : w.frozen? ⟨c, 1, none⟩ = false := frozen_of_row w c 1 _ 66 hrow
  by_cases hlt : p < len
  · obtain ⟨b, off, rfl, hb, hby⟩ : ∃ b off, a = some ⟨b, off, none⟩ ∧ b < c ∧ ∀ i, i < len → ∃ v : Nat, v ≤ 255 ∧ w.cell? ⟨b, off + i, none⟩ = some (.int .u8 (v : Int)) := by
      rcases hbytes with h0 | h0
      · omega
      · exact h0
    obtain ⟨v, hv, hcv⟩ := hby p hlt
    have HB : Hid (∀ i, i < len → ∃ v : Nat, v ≤ 255 ∧ w.cell? ⟨b, off + i, none⟩ = some (.int .u8 (v : Int))) := hby
    have HR : Hid (w.heap[c]? = some (.cells #[.slice (some ⟨b, off, none⟩) len cap, .int .i64 (p : Int)] 66)) := hrow
    clear hby hrow hbytes
    go_enter Tryz.func23, Tryz.ntmps23
    go_wp2_with fail
    go_quiet (fail)
    go_wp2_with fail
    go_quiet (fail)
    go_wp2
    go_ret
    refine ⟨v, rfl, hv, ?_, ?_⟩
    · exact rd_after rfl HR.out hl hlt hb HB.out
    · exact ⟨rfl, rfl, rfl, Nat.le_of_eq (World.size_setCell _ _ _).symm, fun b _ hb' => heap_setCell_other _ ⟨c, 1, none⟩ b _ hb'⟩
  · have HR : Hid (w.heap[c]? = some (.cells #[.slice a len cap, .int .i64 (p : Int)] 66)) := hrow
    have HB : Hid (len = 0 ∨ ∃ b off, a = some ⟨b, off, none⟩ ∧ b < c ∧ ∀ i, i < len → ∃ v : Nat, v ≤ 255 ∧ w.cell? ⟨b, off + i, none⟩ = some (.int .u8 (v : Int))) := hbytes
    clear hrow hbytes
    go_enter Tryz.func23, Tryz.ntmps23
    go_wp2_with fail
    go_quiet (fail)
    go_wp2
    go_ret
    exact ⟨0, rfl, by decide, ⟨a, len, cap, p, HR.out, hl, hp, HB.out⟩, ⟨rfl, rfl, rfl, Nat.le_refl _, fun b _ _ => rfl⟩⟩
structure InSt (w : World) (c r g : Nat) (u : World) : Prop where
  rd : RdOk u c
  row : ∃ a b d e f : Int, u.heap[g]? = some (.cells #[.int .i64 a, .int .i64 b, .int .i64 d, .int .i64 e, .int .i64 f] 74)
  res : u.heap[r]? = some (.cells #[.int .i64 0, .int .i64 0, .int .i64 0, .int .i64 0, .int .i64 0] 74)
  bel : OnlyB c w u
  cr : c < r
  rg : r < g
  wr : w.heap.size ≤ r
theorem InSt.lt {w u : World} {c r g : Nat} (h : InSt w c r g u) : g < u.heap.size := by
  obtain ⟨a, b, d, e, f, hr⟩ := h.row
  exact (Array.getElem?_eq_some_iff.1 hr).1
theorem InSt.alloc {w u : World} {c r g : Nat} (h : InSt w c r g u) (o : Obj) : InSt w c r g (u.alloc o) := by
  have hl := h.lt
  have h1 := h.cr
  have h2 := h.rg
  obtain ⟨a, b, d, e, f, hr⟩ := h.row
  exact ⟨h.rd.alloc o, ⟨a, b, d, e, f, by rw [Below.heap_alloc u o g hl]; exact hr⟩, by rw [Below.heap_alloc u o r (by omega)]; exact h.res, h.bel.low ((Below.refl _ _).alloc (by have := h.wr; omega) _), h1, h2, h.wr⟩
theorem InSt.only {w u u' : World} {c r g : Nat} (h : InSt w c r g u) (hr : RdOk u' c) (ho : OnlyB c u u') : InSt w c r g u' := by
  have hl := h.lt
  have h1 := h.cr
  have h2 := h.rg
  obtain ⟨a, b, d, e, f, hrow⟩ := h.row
  exact ⟨hr, ⟨a, b, d, e, f, by rw [ho.block g hl (by omega)]; exact hrow⟩, by rw [ho.block r (by omega) (by omega)]; exact h.res, h.bel.trans ho, h1, h2, h.wr⟩
theorem RdOk.setOther {u : World} {c g i : Nat} {x : Value} (h : RdOk u c) (hg : c < g) : RdOk (u.setCell ⟨g, i, none⟩ x) c := by
  obtain ⟨a, len, cap, p, hrow, hl, hp, hb⟩ := h
  refine ⟨a, len, cap, p, by rw [heap_setCell_other u ⟨g, i, none⟩ c x (by show c ≠ g; omega)]; exact hrow, hl, hp, ?_⟩
  rcases hb with hb | ⟨b, off, ha, hbc, hby⟩
  · exact .inl hb
  · refine .inr ⟨b, off, ha, hbc, fun j hj => ?_⟩
    obtain ⟨v, hv, hc⟩ := hby j hj
    exact ⟨v, hv, by rw [← hc]; exact World.cell?_of_block (w := u) (heap_setCell_other u ⟨g, i, none⟩ b x (by show b ≠ g; omega))⟩
theorem InSt.set {w u : World} {c r g : Nat} (h : InSt w c r g u) (i : Nat) (hi : i < 5) (x : Int) : InSt w c r g (u.setCell ⟨g, i, none⟩ (.int .i64 x)) := by
  have h1 := h.cr
  have h2 := h.rg
  obtain ⟨a, b, d, e, f, hrow⟩ := h.row
  refine ⟨h.rd.setOther (by omega), ?_, by rw [heap_setCell_other u ⟨g, i, none⟩ r _ (by show r ≠ g; omega)]; exact h.res, h.bel.low ((Below.refl _ _).setCell (show w.heap.size ≤ g by have := h.wr; omega) _), h1, h2, h.wr⟩
  rw [heap_setCell_same u g i _ 74 _ hrow]
  rcases (show i = 0 ∨ i = 1 ∨ i = 2 ∨ i = 3 ∨ i = 4 by omega) with rfl | rfl | rfl | rfl | rfl
  · exact ⟨x, b, d, e, f, rfl⟩
  · exact ⟨a, x, d, e, f, rfl⟩
  · exact ⟨a, b, x, e, f, rfl⟩
  · exact ⟨a, b, d, x, f, rfl⟩
  · exact ⟨a, b, d, e, x, rfl⟩
end Go.Proofs.YtjdfffdeljgenaaGreatDoor.W
namespace Go.Proofs.YtjdfffdeljgenaaGreatDoor.W
open Go.RowKit
theorem wp_at {P : Program} {code : Code} {Q : Exit → Act → World → Prop} {a : Act} {W : World} (h : ∀ U, U = W → code.wp P Q a U) : code.wp P Q a W := h W rfl
theorem below_setRow' {B : Nat} {a w : World} (h : Below B a w) {g : Nat} (hg : B ≤ g) (cs : Array Value) : Below B a (w.setRow g cs) :=
  ⟨h.os, h.tape, h.output, by rw [size_setRow]; exact h.size, fun k hk => (setRow_other w g k cs (by omega)).trans (h.block k hk)⟩
theorem RdOk.setRowOther {u : World} {c r g : Nat} (h : RdOk u c) (hg : c < r) (hg' : r < g) (cs : Array Value) : RdOk (u.setRow r cs) c := by
  obtain ⟨a, len, cap, p, hrow, hl, hp, hb⟩ := h
  refine ⟨a, len, cap, p, by rw [setRow_other u r c cs (by omega)]; exact hrow, hl, hp, ?_⟩
  rcases hb with hb | ⟨b, off, ha, hbc, hby⟩
  · exact .inl hb
  · refine .inr ⟨b, off, ha, hbc, fun j hj => ?_⟩
    obtain ⟨v, hv, hc⟩ := hby j hj
    exact ⟨v, hv, by rw [← hc]; exact World.cell?_of_block (w := u) (setRow_other u r b cs (by omega))⟩
theorem rng : ∀ f : Nat, f < 9 → -1048576 ≤ Pl.lo f ∧ Pl.lo f ≤ 0 ∧ 0 ≤ Pl.hi f ∧ Pl.hi f ≤ 1048575 ∧ 1 ≤ Pl.st f ∧ Pl.st f ≤ 2 := by decide +kernel
def tab6 (L U D : Int) : Array Value := #[.int .i64 L, .int .i64 U, .int .i64 (U + D), .int .i64 (L - D), .int .i64 0, .int .i64 (-D)]
theorem tab6_at (L U D : Int) : ∀ j : Nat, j < 6 → ∃ n : Int, (tab6 L U D)[j]? = some (.int .i64 n)
  | 0, _ => ⟨_, rfl⟩ | 1, _ => ⟨_, rfl⟩ | 2, _ => ⟨_, rfl⟩ | 3, _ => ⟨_, rfl⟩ | 4, _ => ⟨_, rfl⟩ | 5, _ => ⟨_, rfl⟩
  | n + 6, h => absurd h (by omega)
def tabA : Array Value := #[.int .i64 0, .int .i64 48, .int .i64 (-1)]
theorem tabA_at : ∀ j : Nat, j < 3 → ∃ n : Int, tabA[j]? = some (.int .i64 n)
  | 0, _ => ⟨_, rfl⟩ | 1, _ => ⟨_, rfl⟩ | 2, _ => ⟨_, rfl⟩
  | n + 3, h => absurd h (by omega)
def tabB : Array Value := #[.int .i64 32, .int .i64 (-1), .int .i64 1]
theorem tabB_at : ∀ j : Nat, j < 3 → ∃ n : Int, tabB[j]? = some (.int .i64 n)
  | 0, _ => ⟨_, rfl⟩ | 1, _ => ⟨_, rfl⟩ | 2, _ => ⟨_, rfl⟩
  | n + 3, h => absurd h (by omega)
set_option maxRecDepth 20000 in
set_option maxHeartbeats 8000000 in
theorem inst_only (w : World) (c : Nat) (h : RdOk w c) : Calls Tryz.prog 88 #[.pointer (some ⟨c, 0, none⟩)] w fun e w' => ∃ op rd r1 r2 im : Int, e = .returned (.agg #[.int .i64 op, .int .i64 rd, .int .i64 r1, .int .i64 r2, .int .i64 im]) ∧ RdOk w' c ∧ OnlyB c w w' := by
  have H0 : Hid (RdOk w c) := h
  have hcw := h.lt
  clear h
  go_enter Tryz.func88, Tryz.ntmps88
  go_wp2_with fail
  refine (next_only _ c (H0.out.alloc _)).mono ?_
  rintro e w1 ⟨k, rfl, hk, R1, O1⟩
  have hres : w1.heap[w.heap.size]? = some (.cells #[.int .i64 0, .int .i64 0, .int .i64 0, .int .i64 0, .int .i64 0] 74) := by rw [O1.block _ (by simp) (by omega)]; exact heap_alloc_new w _
  have B1 : OnlyB c w w1 := (OnlyB.of_below ((Below.refl _ _).alloc (Nat.le_refl _) _)).trans O1
  have hsz : w.heap.size < w1.heap.size := by have := O1.size; simp at this; omega
  obtain ⟨r, hr⟩ : ∃ r, r = w.heap.size := ⟨_, rfl⟩
  rw [← hr] at hres hsz hcw ⊢
  have hwr : Hid (w.heap.size ≤ r) := by show w.heap.size ≤ r; omega
  clear O1 hr
  go_upto_region 3 with fail
  have hq : (1 + (k : Int) % 47) = ((1 + k % 47 : Nat) : Int) := by omega
  rw [hq]
  obtain ⟨q, hqq⟩ : ∃ q, q = 1 + k % 47 := ⟨_, rfl⟩
  rw [← hqq]
  have q1 : 1 ≤ q := by omega
  have q2 : q ≤ 47 := by omega
  clear hq hqq
  obtain ⟨u2, hu2⟩ : ∃ u, w1.alloc (.cells #[.int .i64 (q : Int), .int .i64 0, .int .i64 0, .int .i64 0, .int .i64 0] 74) = u := ⟨_, rfl⟩
  rw [hu2]
  obtain ⟨g, hg⟩ : ∃ g, g = w1.heap.size := ⟨_, rfl⟩
  rw [← hg]
  have hrow2 : u2.heap[g]? = some (.cells #[.int .i64 (q : Int), .int .i64 0, .int .i64 0, .int .i64 0, .int .i64 0] 74) := by rw [← hu2, hg]; exact heap_alloc_new w1 _
  have S2 : Hid (InSt w c r g u2) := ⟨by rw [← hu2]; exact R1.alloc _, ⟨_, _, _, _, _, hrow2⟩, by rw [← hu2, Below.heap_alloc w1 _ r hsz]; exact hres, by rw [← hu2]; exact B1.trans (OnlyB.of_below ((Below.refl _ _).alloc (Nat.le_refl _) _)), hcw, by omega, hwr.out⟩
  have kc2 : ∀ j, u2.cell? ⟨g, j, none⟩ = (#[.int .i64 (q : Int), .int .i64 0, .int .i64 0, .int .i64 0, .int .i64 0] : Array Value)[j]? := fun j => cell_of_row u2 g j _ 74 (0, 0) hrow2
  clear hrow2 hu2 hg R1 B1 hres hsz H0
  go_wp2_with fail
  refine (form_any q q1 q2 _).mono ?_
  rintro e u3 ⟨rfl, h3⟩
  rw [h3]
  clear h3 u3 kc2
  obtain ⟨f1, f2, _⟩ := Pl.fm_cases q (by omega) q1
  obtain ⟨f, hf⟩ : ∃ f, f = Pl.fmN q := ⟨_, rfl⟩
  rw [← hf] at f1 f2 ⊢
  clear hf
  go_wp2_with fail
  refine (parts_any f f1 f2 _).mono ?_
  rintro e u3 ⟨rfl, h3⟩
  have S3 : Hid (InSt w c r g u3) := by show InSt w c r g u3; rw [h3]; exact S2.out.alloc _
  clear h3 S2
  obtain ⟨p, hp⟩ : ∃ p, p = Pl.pts f := ⟨_, rfl⟩
  have pb : 0 ≤ p ∧ p ≤ 14 := by rw [hp]; exact Pl.pts_bd f (by omega)
  rw [← hp]
  clear hp
  go_wp2_with fail
  refine (next_only _ c S3.out.rd).mono ?_
  rintro e u4 ⟨v, rfl, hv, R4, O4⟩
  have S4 : Hid (InSt w c r g u4) := S3.out.only R4 O4
  clear R4 O4 S3
  go_upto_if 28 with fail
  go_cut [4] from 13 to 142 (fun s4 wx => s4 = .pointer (some ⟨g, 0, none⟩) ∧ InSt w c r g wx)
  case first =>
    obtain ⟨ra99, rb99, rx99, ry99, rz99, hr99⟩ := S4.out.row
    have kc99 : ∀ j, u4.cell? ⟨g, j, none⟩ = (#[.int .i64 ra99, .int .i64 rb99, .int .i64 rx99, .int .i64 ry99, .int .i64 rz99] : Array Value)[j]? := (fun j => cell_of_row u4 g j _ 74 (0, 0) hr99)
    have kf99 : ∀ j, u4.frozen? ⟨g, j, none⟩ = false := (fun j => frozen_of_row u4 g j _ 74 hr99)
    clear hr99
    go_wp2_with fail
    all_goals
      go_meet
      refine ⟨rfl, ?_⟩
      first
        | exact S4.out
        | exact S4.out.set _ (by decide) _
  case rest =>
  obtain ⟨rfl, hst⟩ := hcut
  obtain ⟨y5, hu5⟩ : ∃ u : World, u = wc := ⟨wc, rfl⟩
  rw [← hu5] at hst ⊢
  have S5 : Hid (InSt w c r g y5) := hst
  clear hst hu5 S4
  go_upto_if 35 with fail
  go_cut [4] from 13 to 142 (fun s4 wx => s4 = .pointer (some ⟨g, 0, none⟩) ∧ InSt w c r g wx)
  case first =>
    obtain ⟨ra99, rb99, rx99, ry99, rz99, hr99⟩ := S5.out.row
    have kc99 : ∀ j, y5.cell? ⟨g, j, none⟩ = (#[.int .i64 ra99, .int .i64 rb99, .int .i64 rx99, .int .i64 ry99, .int .i64 rz99] : Array Value)[j]? := (fun j => cell_of_row y5 g j _ 74 (0, 0) hr99)
    have kf99 : ∀ j, y5.frozen? ⟨g, j, none⟩ = false := (fun j => frozen_of_row y5 g j _ 74 hr99)
    clear hr99
    go_wp2_with fail
    · refine (next_only _ c S5.out.rd).mono ?_
      rintro e y61 ⟨m1, rfl, hm1, R61, O61⟩
      have S61 : Hid (InSt w c r g y61) := S5.out.only R61 O61
      clear R61 O61 kc99 kf99
      obtain ⟨ra61, rb61, rx61, ry61, rz61, hr61⟩ := S61.out.row
      have kc61 : ∀ j, y61.cell? ⟨g, j, none⟩ = (#[.int .i64 ra61, .int .i64 rb61, .int .i64 rx61, .int .i64 ry61, .int .i64 rz61] : Array Value)[j]? := (fun j => cell_of_row y61 g j _ 74 (0, 0) hr61)
      have kf61 : ∀ j, y61.frozen? ⟨g, j, none⟩ = false := (fun j => frozen_of_row y61 g j _ 74 hr61)
      clear hr61
      go_wp2_with fail
      go_meet
      exact ⟨rfl, S61.out.set _ (by decide) _⟩
    · go_meet
      exact ⟨rfl, S5.out⟩
  case rest =>
  obtain ⟨rfl, hst⟩ := hcut
  obtain ⟨y6, hu6⟩ : ∃ u : World, u = wc := ⟨wc, rfl⟩
  rw [← hu6] at hst ⊢
  have S6 : Hid (InSt w c r g y6) := hst
  clear hst hu6 S5
  go_upto_if 43 with fail
  go_cut [4] from 13 to 142 (fun s4 wx => s4 = .pointer (some ⟨g, 0, none⟩) ∧ InSt w c r g wx)
  case first =>
    obtain ⟨ra99, rb99, rx99, ry99, rz99, hr99⟩ := S6.out.row
    have kc99 : ∀ j, y6.cell? ⟨g, j, none⟩ = (#[.int .i64 ra99, .int .i64 rb99, .int .i64 rx99, .int .i64 ry99, .int .i64 rz99] : Array Value)[j]? := (fun j => cell_of_row y6 g j _ 74 (0, 0) hr99)
    have kf99 : ∀ j, y6.frozen? ⟨g, j, none⟩ = false := (fun j => frozen_of_row y6 g j _ 74 hr99)
    clear hr99
    go_wp2_with fail
    · refine (next_only _ c S6.out.rd).mono ?_
      rintro e y71 ⟨m2, rfl, hm2, R71, O71⟩
      have S71 : Hid (InSt w c r g y71) := S6.out.only R71 O71
      clear R71 O71 kc99 kf99
      obtain ⟨ra71, rb71, rx71, ry71, rz71, hr71⟩ := S71.out.row
      have kc71 : ∀ j, y71.cell? ⟨g, j, none⟩ = (#[.int .i64 ra71, .int .i64 rb71, .int .i64 rx71, .int .i64 ry71, .int .i64 rz71] : Array Value)[j]? := (fun j => cell_of_row y71 g j _ 74 (0, 0) hr71)
      have kf71 : ∀ j, y71.frozen? ⟨g, j, none⟩ = false := (fun j => frozen_of_row y71 g j _ 74 hr71)
      clear hr71
      go_wp2_with fail
      go_meet
      exact ⟨rfl, S71.out.set _ (by decide) _⟩
    · go_meet
      exact ⟨rfl, S6.out⟩
  case rest =>
  obtain ⟨rfl, hst⟩ := hcut
  obtain ⟨y7, hu7⟩ : ∃ u : World, u = wc := ⟨wc, rfl⟩
  rw [← hu7] at hst ⊢
  have S7 : Hid (InSt w c r g y7) := hst
  clear hst hu7 S6
  go_wp2_with fail
  refine (range_any f f1 f2 _).mono ?_
  rintro e y8 ⟨rfl, h8⟩
  rw [h8]
  clear h8 y8
  obtain ⟨L, hL⟩ : ∃ L, L = Pl.lo f := ⟨_, rfl⟩
  obtain ⟨U, hU⟩ : ∃ U, U = Pl.hi f := ⟨_, rfl⟩
  obtain ⟨D, hD⟩ : ∃ D, D = Pl.st f := ⟨_, rfl⟩
  have rb := rng f (by omega)
  rw [← hL, ← hU, ← hD] at rb
  rw [← hL, ← hU, ← hD]
  clear hL hU hD
  obtain ⟨L1, L2, U1, U2, D1, D2⟩ := rb
  go_wp2_with fail
  refine (next_only _ c S7.out.rd).mono ?_
  rintro e y8 ⟨n1, rfl, hn1, R8, O8⟩
  have S8 : Hid (InSt w c r g y8) := S7.out.only R8 O8
  clear R8 O8 S7
  go_wp2_with fail
  refine (next_only _ c S8.out.rd).mono ?_
  rintro e y9 ⟨n2, rfl, hn2, R9, O9⟩
  have S9 : Hid (InSt w c r g y9) := S8.out.only R9 O9
  clear R9 O9 S8
  go_wp2_with fail
  refine (next_only _ c S9.out.rd).mono ?_
  rintro e y10 ⟨n3, rfl, hn3, R10, O10⟩
  have S10 : Hid (InSt w c r g y10) := S9.out.only R10 O10
  clear R10 O10 S9
  have hne1 : ¬ (U - L + 1 = 0) := by omega
  have hne2 : ¬ (D = 0) := by omega
  go_upto_if 66 with fail
  go_cut [4] from 13 to 142 (fun s4 wx => s4 = .pointer (some ⟨g, 0, none⟩) ∧ InSt w c r g wx)
  case first =>
    obtain ⟨ra99, rb99, rx99, ry99, rz99, hr99⟩ := S10.out.row
    have kc99 : ∀ j, y10.cell? ⟨g, j, none⟩ = (#[.int .i64 ra99, .int .i64 rb99, .int .i64 rx99, .int .i64 ry99, .int .i64 rz99] : Array Value)[j]? := (fun j => cell_of_row y10 g j _ 74 (0, 0) hr99)
    have kf99 : ∀ j, y10.frozen? ⟨g, j, none⟩ = false := (fun j => frozen_of_row y10 g j _ 74 hr99)
    clear hr99
    go_upto_if 81 with fail
    · refine wp_at fun y12 hy12 => ?_
      have S12 : Hid (InSt w c r g y12) := by show InSt w c r g y12; rw [hy12]; exact S10.out.set _ (by decide) _
      clear hy12 kc99 kf99 S10
      obtain ⟨sa12, sb12, sx12, sy12, sz12, hs12⟩ := S12.out.row
      have hl12 := S12.out.lt
      have ac12 : ∀ o j, (y12.alloc o).cell? ⟨g, j, none⟩ = (#[.int .i64 sa12, .int .i64 sb12, .int .i64 sx12, .int .i64 sy12, .int .i64 sz12] : Array Value)[j]? := (fun o j => cell_of_row (y12.alloc o) g j _ 74 (0, 0) ((Below.heap_alloc y12 o g hl12).trans hs12))
      have af12 : ∀ o j, (y12.alloc o).frozen? ⟨g, j, none⟩ = false := (fun o j => frozen_of_row (y12.alloc o) g j _ 74 ((Below.heap_alloc y12 o g hl12).trans hs12))
      clear hs12
      obtain ⟨t, ht⟩ := tab6_at L U D (v % 6) (by omega)
      have hc : (y12.alloc (.cells (tab6 L U D) 3)).cell? ⟨y12.heap.size, v % 6, none⟩ = some (.int .i64 t) := by rw [cell_of_row _ _ _ (tab6 L U D) 3 (0, 0) (heap_alloc_new y12 _)]; exact ht
      clear ht
      go_wp2_with (refine Great.wpList_buildSliceTo rfl 23 3 6 _ rfl y12.heap.size rfl _ rfl Tryz.underlying23 (tab6 L U D) (by kernel_rfl) ?_)
      · go_meet
        exact ⟨rfl, (S12.out.set 4 (by decide) _).alloc _⟩
      · go_meet
        exact ⟨rfl, S12.out⟩
    · go_wp2_with fail
      go_meet
      exact ⟨rfl, S10.out⟩
  case rest =>
  obtain ⟨rfl, hst⟩ := hcut
  obtain ⟨y11, hu11⟩ : ∃ u : World, u = wc := ⟨wc, rfl⟩
  rw [← hu11] at hst ⊢
  have S11 : Hid (InSt w c r g y11) := hst
  clear hst hu11 S10
  go_upto_if 99 with fail
  go_cut [4] from 13 to 142 (fun s4 wx => s4 = .pointer (some ⟨g, 0, none⟩) ∧ InSt w c r g wx)
  case first =>
    obtain ⟨ra99, rb99, rx99, ry99, rz99, hr99⟩ := S11.out.row
    have kc99 : ∀ j, y11.cell? ⟨g, j, none⟩ = (#[.int .i64 ra99, .int .i64 rb99, .int .i64 rx99, .int .i64 ry99, .int .i64 rz99] : Array Value)[j]? := (fun j => cell_of_row y11 g j _ 74 (0, 0) hr99)
    have kf99 : ∀ j, y11.frozen? ⟨g, j, none⟩ = false := (fun j => frozen_of_row y11 g j _ 74 hr99)
    clear hr99
    obtain ⟨sa11, sb11, sx11, sy11, sz11, hs11⟩ := S11.out.row
    have hl11 := S11.out.lt
    have ac11 : ∀ o j, (y11.alloc o).cell? ⟨g, j, none⟩ = (#[.int .i64 sa11, .int .i64 sb11, .int .i64 sx11, .int .i64 sy11, .int .i64 sz11] : Array Value)[j]? := (fun o j => cell_of_row (y11.alloc o) g j _ 74 (0, 0) ((Below.heap_alloc y11 o g hl11).trans hs11))
    have af11 : ∀ o j, (y11.alloc o).frozen? ⟨g, j, none⟩ = false := (fun o j => frozen_of_row (y11.alloc o) g j _ 74 ((Below.heap_alloc y11 o g hl11).trans hs11))
    clear hs11
    obtain ⟨t, ht⟩ := tabA_at (v / 5 % 3) (by omega)
    have hc : (y11.alloc (.cells tabA 3)).cell? ⟨y11.heap.size, v / 5 % 3, none⟩ = some (.int .i64 t) := by rw [cell_of_row _ _ _ tabA 3 (0, 0) (heap_alloc_new y11 _)]; exact ht
    obtain ⟨t', ht'⟩ := tabB_at (v / 5 % 3) (by omega)
    have hc' : (y11.alloc (.cells tabB 3)).cell? ⟨y11.heap.size, v / 5 % 3, none⟩ = some (.int .i64 t') := by rw [cell_of_row _ _ _ tabB 3 (0, 0) (heap_alloc_new y11 _)]; exact ht'
    clear ht ht'
    by_cases h5 : v % 5 = 0
    · have e5 : ((v : Int) % 5 == 0) = true := by simp; omega
      clear h5 hc'
      go_wp2_with (refine Great.wpList_buildSliceTo rfl 23 3 3 _ rfl y11.heap.size rfl _ rfl Tryz.underlying23 tabA (by kernel_rfl) ?_)
      all_goals
        go_meet
        refine ⟨rfl, ?_⟩
        first
          | exact S11.out
          | exact (S11.out.set 0 (by decide) _).alloc _
    · have e5 : ((v : Int) % 5 == 0) = false := by simp; omega
      clear h5 hc
      go_wp2_with (refine Great.wpList_buildSliceTo rfl 23 3 3 _ rfl y11.heap.size rfl _ rfl Tryz.underlying23 tabB (by kernel_rfl) ?_)
      all_goals
        go_meet
        refine ⟨rfl, ?_⟩
        first
          | exact S11.out
          | exact S11.out.set 4 (by decide) _
          | exact (S11.out.set 1 (by decide) _).alloc _
          | exact (S11.out.set 2 (by decide) _).alloc _
          | exact (S11.out.set 3 (by decide) _).alloc _
  case rest =>
  obtain ⟨rfl, hst⟩ := hcut
  obtain ⟨y13, hu13⟩ : ∃ u : World, u = wc := ⟨wc, rfl⟩
  rw [← hu13] at hst ⊢
  have S13 : Hid (InSt w c r g y13) := hst
  clear hst hu13 S11
  obtain ⟨ra, rb, rx, ry, rz, hrow⟩ := S13.out.row
  have hres := S13.out.res
  have hrg := S13.out.rg
  have HB : Hid (OnlyB c w y13 ∧ RdOk y13 c ∧ c < r ∧ r < g) := ⟨S13.out.bel, S13.out.rd, S13.out.cr, hrg⟩
  go_wp2_with (first | (refine wpList_load_row rfl 74 _ rfl g ?hx 74 #[.int .i64 ra, .int .i64 rb, .int .i64 rx, .int .i64 ry, .int .i64 rz] (0, 0) _ ?hg Tryz.underlying74 ?hd ?hi ?_; (case hx => rfl); (case hg => exact hrow); (case hd => rfl); (case hi => kernel_rfl)) | (refine wpList_store_row rfl 74 _ _ rfl r #[.int .i64 ra, .int .i64 rb, .int .i64 rx, .int .i64 ry, .int .i64 rz] ?hx ?hy 74 #[.int .i64 0, .int .i64 0, .int .i64 0, .int .i64 0, .int .i64 0] ?hg ?hi ?ho ?h1 ?_; (case hx => rfl); (case hy => rfl); (case hg => exact hres); (case hi => kernel_rfl); (case ho => kernel_rfl); (case h1 => kernel_rfl); refine Hid.out ?_))
  unfold Hid
  go_wp2
  obtain ⟨hb1, hb2, hb3, hb4⟩ := HB.out
  exact bodyPost_ret (v := .agg #[.int .i64 ra, .int .i64 rb, .int .i64 rx, .int .i64 ry, .int .i64 rz]) (results_cell_row Tryz.results88 _ _ r 74 #[.int .i64 ra, .int .i64 rb, .int .i64 rx, .int .i64 ry, .int .i64 rz] (0, 0) _ rfl (setRow_heap _ _ _ _ 74 _ hres) Tryz.underlying74 rfl (by kernel_rfl)) rfl ⟨ra, rb, rx, ry, rz, rfl, hb2.setRowOther hb3 hb4 _, hb1.low (below_setRow' (Below.refl _ _) hwr.out _)⟩
end Go.Proofs.YtjdfffdeljgenaaGreatDoor.W
