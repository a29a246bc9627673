import Derived.Test.YtjdfffdeljgenaaGreatDoorP02
import Derived.Laws.AppendOwnNone
import Derived.Lib.SliceRun
set_option linter.unusedVariables false
namespace Go.Proofs.YtjdfffdeljgenaaGreatDoor.W
open Go.RowKit
set_option maxHeartbeats 1000000 in
theorem cloneInts_any {lo : Nat} (a : Option Addr) (len cap : Nat) (zs : List Int) (w : World) (h : Own .i64 3 lo w a len cap zs) (hsz : len ≤ 1048576) :
    Calls Tryz.prog 58 #[.slice a len cap] w fun e w' => ∃ a' cap', e = .returned (.slice a' len cap') ∧ Own .i64 3 w.heap.size w' a' len cap' zs ∧ Below w.heap.size w w' := by
  obtain ⟨i0, hi, hz0, hz1, hz2⟩ := info_parts Tryz.infoi64
  have hq : ∀ (w : World) (a : Option Addr) (n c n' c' : Nat), (binOp .eql 23 (.slice a n c) (.slice none n' c')).run Tryz.prog w = .ok (.bool a.isNone) w := fun w a n c n' c' => Lib.run_eql_slice_nil w _ _ a n c n' c' Tryz.underlying23
  obtain ⟨hown, hwf⟩ := h
  have hl : zs.length = len := by have := hown.1; simpa using this
  have HW : Hid (∀ n ∈ zs, (Lit.int .i64 n).wf = true) := hwf
  have HO : Hid (w.ownsRow lo 3 1 (.slice a len cap) len (zs.map (Value.int .i64))) := hown
  clear hwf
  rcases hown.2 with ⟨h0, h1⟩ | ⟨g, cap', cur, h0, hlo, hg, hnc, hcm, hcs, htake⟩
  · simp only [Value.slice.injEq] at h0
    obtain ⟨rfl, rfl, rfl⟩ := h0
    have hz : zs = [] := by cases zs with | nil => rfl | cons => simp at hl
    subst hz
    clear hown hl
    go_enter Tryz.func58, Tryz.ntmps58
    go_wp2
    go_ret
    exact ⟨none, 0, rfl, ⟨World.ownsRow_nil _ _ _ _, fun n hn => (by cases hn)⟩, Below.refl _ _⟩
  · simp only [Value.slice.injEq] at h0
    obtain ⟨rfl, _, rfl⟩ := h0
    have hE : (w.alloc (.cells #[] 3)).ownsRow w.heap.size 3 1 (.slice (some ⟨w.heap.size, 0, none⟩) 0 0) 0 [] := World.ownsRow_lit w #[] 0 (Nat.le_refl _) (Nat.zero_le _) rfl
    have HL : Hid (g < w.heap.size) := (Array.getElem?_eq_some_iff.1 hg).1
    have HN : Hid (∀ j u, (zs.map (Value.int .i64))[j]? = some u → (w.alloc (.cells #[] 3)).cell? ((⟨g, 0, none⟩ : Addr).add j) = some u) := fun j u hj => ((hown.alloc _).cells (g := g) rfl j u hj)
    clear hown hg hcs htake hlo hcm hnc
    go_enter Tryz.func58, Tryz.ntmps58
    go_wp2_with (at_builtin; refine wpList_append_own _ rfl (.tmp 5) (.tmp 6) 23 rfl w.heap.size 3 i0 (.int .i64 0) 1 8 Tryz.underlying23 hi hz0 hz1 hz2 rfl (by decide) _ 0 [] rfl hE ⟨g, 0, none⟩ len cap (zs.map (Value.int .i64)) rfl (by rw [List.length_map, hl, Nat.mul_one]) HN.out (by intro u hu; obtain ⟨n, _, rfl⟩ := List.mem_map.1 hu; rfl) (by unfold maxLen; omega) (by omega) (by simp) ?_)
    intro v' u1 hown' hgr _
    have HO' : Hid (u1.ownsRow w.heap.size 3 1 v' len (zs.map (Value.int .i64))) := by show u1.ownsRow _ _ _ _ _ _; simpa using hown'
    have HB : Hid (Below w.heap.size w u1) := (below_alloc w _).grown hgr (by simp) (fun k hk => by simp [Value.ownBlock] at hk; omega)
    clear hown' hgr hE HN HO
    obtain ⟨a', c', hv⟩ : ∃ a' c', v' = .slice a' len c' := by
      rcases HO'.out.2 with ⟨q0, q1⟩ | ⟨g', c', _, q0, _⟩
      · subst q1; exact ⟨none, 0, q0⟩
      · exact ⟨_, c', q0⟩
    subst hv
    go_wp2
    go_ret
    exact ⟨a', c', rfl, ⟨HO'.out, HW.out⟩, HB.out⟩
set_option maxHeartbeats 1000000 in
theorem cloneBytes_any {lo : Nat} (a : Option Addr) (len cap : Nat) (zs : List Int) (w : World) (h : Own .u8 5 lo w a len cap zs) (hsz : len ≤ 1048576) :
    Calls Tryz.prog 59 #[.slice a len cap] w fun e w' => ∃ a' cap', e = .returned (.slice a' len cap') ∧ Own .u8 5 w.heap.size w' a' len cap' zs ∧ Below w.heap.size w w' := by
  obtain ⟨i0, hi, hz0, hz1, hz2⟩ := info_parts Tryz.infou8
  have hq : ∀ (w : World) (a : Option Addr) (n c n' c' : Nat), (binOp .eql 22 (.slice a n c) (.slice none n' c')).run Tryz.prog w = .ok (.bool a.isNone) w := fun w a n c n' c' => Lib.run_eql_slice_nil w _ _ a n c n' c' Tryz.underlying22
  obtain ⟨hown, hwf⟩ := h
  have hl : zs.length = len := by have := hown.1; simpa using this
  have HW : Hid (∀ n ∈ zs, (Lit.int .u8 n).wf = true) := hwf
  have HO : Hid (w.ownsRow lo 5 1 (.slice a len cap) len (zs.map (Value.int .u8))) := hown
  clear hwf
  rcases hown.2 with ⟨h0, h1⟩ | ⟨g, cap', cur, h0, hlo, hg, hnc, hcm, hcs, htake⟩
  · simp only [Value.slice.injEq] at h0
    obtain ⟨rfl, rfl, rfl⟩ := h0
    have hz : zs = [] := by cases zs with | nil => rfl | cons => simp at hl
    subst hz
    clear hown hl
    go_enter Tryz.func59, Tryz.ntmps59
    go_wp2
    go_ret
    exact ⟨none, 0, rfl, ⟨World.ownsRow_nil _ _ _ _, fun n hn => (by cases hn)⟩, Below.refl _ _⟩
  · simp only [Value.slice.injEq] at h0
    obtain ⟨rfl, _, rfl⟩ := h0
    have hE : (w.alloc (.cells #[] 5)).ownsRow w.heap.size 5 1 (.slice (some ⟨w.heap.size, 0, none⟩) 0 0) 0 [] := World.ownsRow_lit w #[] 0 (Nat.le_refl _) (Nat.zero_le _) rfl
    have HL : Hid (g < w.heap.size) := (Array.getElem?_eq_some_iff.1 hg).1
    have HN : Hid (∀ j u, (zs.map (Value.int .u8))[j]? = some u → (w.alloc (.cells #[] 5)).cell? ((⟨g, 0, none⟩ : Addr).add j) = some u) := fun j u hj => ((hown.alloc _).cells (g := g) rfl j u hj)
    clear hown hg hcs htake hlo hcm hnc
    go_enter Tryz.func59, Tryz.ntmps59
    go_wp2_with (at_builtin; refine wpList_append_own _ rfl (.tmp 5) (.tmp 6) 22 rfl w.heap.size 5 i0 (.int .u8 0) 1 1 Tryz.underlying22 hi hz0 hz1 hz2 rfl (by decide) _ 0 [] rfl hE ⟨g, 0, none⟩ len cap (zs.map (Value.int .u8)) rfl (by rw [List.length_map, hl, Nat.mul_one]) HN.out (by intro u hu; obtain ⟨n, _, rfl⟩ := List.mem_map.1 hu; rfl) (by unfold maxLen; omega) (by omega) (by simp) ?_)
    intro v' u1 hown' hgr _
    have HO' : Hid (u1.ownsRow w.heap.size 5 1 v' len (zs.map (Value.int .u8))) := by show u1.ownsRow _ _ _ _ _ _; simpa using hown'
    have HB : Hid (Below w.heap.size w u1) := (below_alloc w _).grown hgr (by simp) (fun k hk => by simp [Value.ownBlock] at hk; omega)
    clear hown' hgr hE HN HO
    obtain ⟨a', c', hv⟩ : ∃ a' c', v' = .slice a' len c' := by
      rcases HO'.out.2 with ⟨q0, q1⟩ | ⟨g', c', _, q0, _⟩
      · subst q1; exact ⟨none, 0, q0⟩
      · exact ⟨_, c', q0⟩
    subst hv
    go_wp2
    go_ret
    exact ⟨a', c', rfl, ⟨HO'.out, HW.out⟩, HB.out⟩
end Go.Proofs.YtjdfffdeljgenaaGreatDoor.W
namespace Go.Proofs.YtjdfffdeljgenaaGreatDoor.W
open Go.RowKit
theorem keep_oth {U : World} {g b i : Nat} {o : Obj} {v : Value} (h : U.heap[g]? = some o) (hg : g ≠ b) : (U.setCell ⟨b, i, none⟩ v).heap[g]? = some o := (Below.heap_setCell U ⟨b, i, none⟩ v g hg).trans h
def Span (s : SV) (lo hi : Nat) : Prop := ∀ ad, s.a = some ad → lo ≤ ad.block ∧ ad.block < hi
theorem Own.span {k : IntKind} {e : TypeId} {lo hi : Nat} {w : World} {a : Option Addr} {len cap : Nat} {zs : List Int} (h : Own k e lo w a len cap zs) (hh : w.heap.size ≤ hi) : Span ⟨a, len, cap⟩ lo hi := by
  intro ad had
  have had' : a = some ad := had
  subst had'
  have := h.1.lt ad.block rfl
  omega
def MSep (v : MV) : Prop := ∃ t0 t1 t2 t3 t4 t5 t6 : Nat, Span v.code t0 t1 ∧ Span v.regs t1 t2 ∧ Span v.data t2 t3 ∧ Span v.stk t3 t4 ∧ Span v.inp t4 t5 ∧ Span v.out t5 t6 ∧ t0 ≤ t1 ∧ t1 ≤ t2 ∧ t2 ≤ t3 ∧ t3 ≤ t4 ∧ t4 ≤ t5 ∧ t5 ≤ t6
set_option maxHeartbeats 4000000 in
theorem copyMachine_any {lo : Nat} (v : MV) (m : Pl.Mac) (w : World) (h : MOwn lo w v m) (hsz : Pl.mSize m ≤ 1048576) :
    Calls Tryz.prog 29 #[.agg #[.slice v.code.a v.code.len v.code.cap, .int .i64 m.pc, .slice v.regs.a v.regs.len v.regs.cap, .slice v.data.a v.data.len v.data.cap, .slice v.stk.a v.stk.len v.stk.cap, .slice v.inp.a v.inp.len v.inp.cap, .slice v.out.a v.out.len v.out.cap, .int .i64 m.steps, .int .i64 m.fin, .int .i64 m.val]] w fun e w' => ∃ v' : MV, e = .returned (.agg #[.slice v'.code.a v'.code.len v'.code.cap, .int .i64 m.pc, .slice v'.regs.a v'.regs.len v'.regs.cap, .slice v'.data.a v'.data.len v'.data.cap, .slice v'.stk.a v'.stk.len v'.stk.cap, .slice v'.inp.a v'.inp.len v'.inp.cap, .slice v'.out.a v'.out.len v'.out.cap, .int .i64 m.steps, .int .i64 m.fin, .int .i64 m.val]) ∧ MOwn w.heap.size w' v' m ∧ MSep v' ∧ Below w.heap.size w w' := by
  obtain ⟨⟨ca, cl, cc⟩, ⟨ra, rl, rc⟩, ⟨da, dl, dc⟩, ⟨sa, sl, sc⟩, ⟨ia, il, ic⟩, ⟨oa, ol, oc⟩⟩ := v
  obtain ⟨code, pc, regs, data, stk, inp, out, steps, fin, val⟩ := m
  unfold Pl.mSize at hsz
  obtain ⟨r1, r2, r3, r4, r5, r6⟩ := h
  dsimp only at r1 r2 r3 r4 r5 r6 hsz ⊢
  have hs : cl ≤ 1048576 ∧ rl ≤ 1048576 ∧ dl ≤ 1048576 ∧ sl ≤ 1048576 ∧ il ≤ 1048576 ∧ ol ≤ 1048576 := by
    rw [r1.row.1, r2.row.1, r3.row.1, r4.row.1, r5.row.1, r6.row.1] at hsz
    omega
  clear hsz
  obtain ⟨s1, s2, s3, s4, s5, s6⟩ := hs
  have R1 : Hid (Own .i64 3 lo w ca cl cc code) := r1
  have R2 : Hid (Own .i64 3 lo w ra rl rc regs) := r2
  have R3 : Hid (Own .u8 5 lo w da dl dc data) := r3
  have R4 : Hid (Own .u8 5 lo w sa sl sc stk) := r4
  have R5 : Hid (Own .u8 5 lo w ia il ic inp) := r5
  have R6 : Hid (Own .u8 5 lo w oa ol oc out) := r6
  clear r1 r2 r3 r4 r5 r6
  go_enter Tryz.func29, Tryz.ntmps29
  go_wp2_with fail
  refine calls_at fun U1 hU1 => ?_
  have z1 : U1.heap.size = w.heap.size + 2 := by rw [hU1]; simp
  have ot1 : U1.heap[w.heap.size]? = some (.cells #[.slice ca cl cc, .int .i64 pc, .slice ra rl rc, .slice da dl dc, .slice sa sl sc, .slice ia il ic, .slice oa ol oc, .int .i64 steps, .int .i64 fin, .int .i64 val] 25) := by
    rw [hU1, Below.heap_alloc _ _ _ (by simp)]
    exact heap_alloc_new w _
  have re1 : U1.heap[w.heap.size + 1]? = some (.cells #[.slice none 0 0, .int .i64 0, .slice none 0 0, .slice none 0 0, .slice none 0 0, .slice none 0 0, .slice none 0 0, .int .i64 0, .int .i64 0, .int .i64 0] 25) := by
    rw [hU1]
    have := heap_alloc_new (w.alloc (.cells #[.slice ca cl cc, .int .i64 pc, .slice ra rl rc, .slice da dl dc, .slice sa sl sc, .slice ia il ic, .slice oa ol oc, .int .i64 steps, .int .i64 fin, .int .i64 val] 25)) (.cells #[.slice none 0 0, .int .i64 0, .slice none 0 0, .slice none 0 0, .slice none 0 0, .slice none 0 0, .slice none 0 0, .int .i64 0, .int .i64 0, .int .i64 0] 25)
    simpa using this
  have b1 : Below w.heap.size w U1 := by
    rw [hU1]
    exact ((Below.refl _ _).alloc (Nat.le_refl _) _).alloc (by simp) _
  have HK1 : Hid (U1.heap.size = w.heap.size + 2 ∧ Below w.heap.size w U1) := ⟨z1, b1⟩
  clear z1 b1
  refine (cloneInts_any ca cl cc code U1 (R1.out.keep HK1.out.2) s1).mono ?_
  rintro e u1 ⟨a1, c1, rfl, o1, d1⟩
  have zz1 : w.heap.size + 1 < U1.heap.size := by have := HK1.out.1; omega
  have q1 : u1.heap[w.heap.size]? = some (.cells #[.slice ca cl cc, .int .i64 pc, .slice ra rl rc, .slice da dl dc, .slice sa sl sc, .slice ia il ic, .slice oa ol oc, .int .i64 steps, .int .i64 fin, .int .i64 val] 25) := by rw [d1.block _ (by omega)]; exact ot1
  have X1 : Hid (u1.heap[w.heap.size + 1]? = some (.cells #[.slice none 0 0, .int .i64 0, .slice none 0 0, .slice none 0 0, .slice none 0 0, .slice none 0 0, .slice none 0 0, .int .i64 0, .int .i64 0, .int .i64 0] 25)) := by
    show u1.heap[w.heap.size + 1]? = _
    rw [d1.block _ (by omega)]; exact re1
  have Q1 : Hid _ := q1
  have ko : ∀ j, u1.cell? ⟨w.heap.size, j, none⟩ = (#[.slice ca cl cc, .int .i64 pc, .slice ra rl rc, .slice da dl dc, .slice sa sl sc, .slice ia il ic, .slice oa ol oc, .int .i64 steps, .int .i64 fin, .int .i64 val] : Array Value)[j]? := fun j => cell_of_row u1 (w.heap.size) j _ 25 (0, 0) q1
  have kf : ∀ j, u1.frozen? ⟨w.heap.size, j, none⟩ = false := fun j => frozen_of_row u1 (w.heap.size) j _ 25 q1
  have O1 : Hid (Own .i64 3 U1.heap.size u1 a1 cl c1 code) := o1
  have D1 : Hid (Below U1.heap.size U1 u1) := d1
  have B1 : Hid (Below w.heap.size w u1) := HK1.out.2.trans (d1.mono (by have := zz1; omega))
  have S1 : Hid (U1.heap.size ≤ u1.heap.size) := d1.size
  clear o1 d1 ot1 re1 hU1 q1
  go_wp2_with fail
  clear ko kf
  refine calls_at fun U2 hU2 => ?_
  have ot2 : U2.heap[w.heap.size]? = some (.cells #[.slice a1 cl c1, .int .i64 pc, .slice ra rl rc, .slice da dl dc, .slice sa sl sc, .slice ia il ic, .slice oa ol oc, .int .i64 steps, .int .i64 fin, .int .i64 val] 25) := by
    rw [hU2]
    exact row_put Q1.out 0 (.slice a1 cl c1) rfl
  have re2 : U2.heap[w.heap.size + 1]? = some (.cells #[.slice none 0 0, .int .i64 0, .slice none 0 0, .slice none 0 0, .slice none 0 0, .slice none 0 0, .slice none 0 0, .int .i64 0, .int .i64 0, .int .i64 0] 25) := by
    rw [hU2]
    exact keep_oth X1.out (show w.heap.size + 1 ≠ w.heap.size by omega)
  have HK2 : Hid (U2.heap.size = u1.heap.size ∧ Below w.heap.size w U2) := by
    rw [hU2]
    exact ⟨by simp, B1.out.setCell (show w.heap.size ≤ w.heap.size by omega) _⟩
  have A1 : Hid (Above (w.heap.size + 1 + 1) u1 U2) := by
    rw [hU2]
    exact (Above.refl _ _).setCell (show w.heap.size < w.heap.size + 1 + 1 by omega) _
  refine (cloneInts_any ra rl rc regs U2 (R2.out.keep HK2.out.2) s2).mono ?_
  rintro e u2 ⟨a2, c2, rfl, o2, d2⟩
  have zz2 : w.heap.size + 1 < U2.heap.size := by have := HK2.out.1; have := zz1; have := S1.out; omega
  have q2 : u2.heap[w.heap.size]? = some (.cells #[.slice a1 cl c1, .int .i64 pc, .slice ra rl rc, .slice da dl dc, .slice sa sl sc, .slice ia il ic, .slice oa ol oc, .int .i64 steps, .int .i64 fin, .int .i64 val] 25) := by rw [d2.block _ (by omega)]; exact ot2
  have X2 : Hid (u2.heap[w.heap.size + 1]? = some (.cells #[.slice none 0 0, .int .i64 0, .slice none 0 0, .slice none 0 0, .slice none 0 0, .slice none 0 0, .slice none 0 0, .int .i64 0, .int .i64 0, .int .i64 0] 25)) := by
    show u2.heap[w.heap.size + 1]? = _
    rw [d2.block _ (by omega)]; exact re2
  have Q2 : Hid _ := q2
  have ko : ∀ j, u2.cell? ⟨w.heap.size, j, none⟩ = (#[.slice a1 cl c1, .int .i64 pc, .slice ra rl rc, .slice da dl dc, .slice sa sl sc, .slice ia il ic, .slice oa ol oc, .int .i64 steps, .int .i64 fin, .int .i64 val] : Array Value)[j]? := fun j => cell_of_row u2 (w.heap.size) j _ 25 (0, 0) q2
  have kf : ∀ j, u2.frozen? ⟨w.heap.size, j, none⟩ = false := fun j => frozen_of_row u2 (w.heap.size) j _ 25 q2
  have O2 : Hid (Own .i64 3 U2.heap.size u2 a2 rl c2 regs) := o2
  have D2 : Hid (Below U2.heap.size U2 u2) := d2
  have B2 : Hid (Below w.heap.size w u2) := HK2.out.2.trans (d2.mono (by have := zz2; omega))
  have S2 : Hid (U2.heap.size ≤ u2.heap.size) := d2.size
  clear o2 d2 ot2 re2 hU2 q2
  go_wp2_with fail
  clear ko kf
  refine calls_at fun U3 hU3 => ?_
  have ot3 : U3.heap[w.heap.size]? = some (.cells #[.slice a1 cl c1, .int .i64 pc, .slice a2 rl c2, .slice da dl dc, .slice sa sl sc, .slice ia il ic, .slice oa ol oc, .int .i64 steps, .int .i64 fin, .int .i64 val] 25) := by
    rw [hU3]
    exact row_put Q2.out 2 (.slice a2 rl c2) rfl
  have re3 : U3.heap[w.heap.size + 1]? = some (.cells #[.slice none 0 0, .int .i64 0, .slice none 0 0, .slice none 0 0, .slice none 0 0, .slice none 0 0, .slice none 0 0, .int .i64 0, .int .i64 0, .int .i64 0] 25) := by
    rw [hU3]
    exact keep_oth X2.out (show w.heap.size + 1 ≠ w.heap.size by omega)
  have HK3 : Hid (U3.heap.size = u2.heap.size ∧ Below w.heap.size w U3) := by
    rw [hU3]
    exact ⟨by simp, B2.out.setCell (show w.heap.size ≤ w.heap.size by omega) _⟩
  have A2 : Hid (Above (w.heap.size + 1 + 1) u2 U3) := by
    rw [hU3]
    exact (Above.refl _ _).setCell (show w.heap.size < w.heap.size + 1 + 1 by omega) _
  refine (cloneBytes_any da dl dc data U3 (R3.out.keep HK3.out.2) s3).mono ?_
  rintro e u3 ⟨a3, c3, rfl, o3, d3⟩
  have zz3 : w.heap.size + 1 < U3.heap.size := by have := HK3.out.1; have := zz2; have := S2.out; omega
  have q3 : u3.heap[w.heap.size]? = some (.cells #[.slice a1 cl c1, .int .i64 pc, .slice a2 rl c2, .slice da dl dc, .slice sa sl sc, .slice ia il ic, .slice oa ol oc, .int .i64 steps, .int .i64 fin, .int .i64 val] 25) := by rw [d3.block _ (by omega)]; exact ot3
  have X3 : Hid (u3.heap[w.heap.size + 1]? = some (.cells #[.slice none 0 0, .int .i64 0, .slice none 0 0, .slice none 0 0, .slice none 0 0, .slice none 0 0, .slice none 0 0, .int .i64 0, .int .i64 0, .int .i64 0] 25)) := by
    show u3.heap[w.heap.size + 1]? = _
    rw [d3.block _ (by omega)]; exact re3
  have Q3 : Hid _ := q3
  have ko : ∀ j, u3.cell? ⟨w.heap.size, j, none⟩ = (#[.slice a1 cl c1, .int .i64 pc, .slice a2 rl c2, .slice da dl dc, .slice sa sl sc, .slice ia il ic, .slice oa ol oc, .int .i64 steps, .int .i64 fin, .int .i64 val] : Array Value)[j]? := fun j => cell_of_row u3 (w.heap.size) j _ 25 (0, 0) q3
  have kf : ∀ j, u3.frozen? ⟨w.heap.size, j, none⟩ = false := fun j => frozen_of_row u3 (w.heap.size) j _ 25 q3
  have O3 : Hid (Own .u8 5 U3.heap.size u3 a3 dl c3 data) := o3
  have D3 : Hid (Below U3.heap.size U3 u3) := d3
  have B3 : Hid (Below w.heap.size w u3) := HK3.out.2.trans (d3.mono (by have := zz3; omega))
  have S3 : Hid (U3.heap.size ≤ u3.heap.size) := d3.size
  clear o3 d3 ot3 re3 hU3 q3
  go_wp2_with fail
  clear ko kf
  refine calls_at fun U4 hU4 => ?_
  have ot4 : U4.heap[w.heap.size]? = some (.cells #[.slice a1 cl c1, .int .i64 pc, .slice a2 rl c2, .slice a3 dl c3, .slice sa sl sc, .slice ia il ic, .slice oa ol oc, .int .i64 steps, .int .i64 fin, .int .i64 val] 25) := by
    rw [hU4]
    exact row_put Q3.out 3 (.slice a3 dl c3) rfl
  have re4 : U4.heap[w.heap.size + 1]? = some (.cells #[.slice none 0 0, .int .i64 0, .slice none 0 0, .slice none 0 0, .slice none 0 0, .slice none 0 0, .slice none 0 0, .int .i64 0, .int .i64 0, .int .i64 0] 25) := by
    rw [hU4]
    exact keep_oth X3.out (show w.heap.size + 1 ≠ w.heap.size by omega)
  have HK4 : Hid (U4.heap.size = u3.heap.size ∧ Below w.heap.size w U4) := by
    rw [hU4]
    exact ⟨by simp, B3.out.setCell (show w.heap.size ≤ w.heap.size by omega) _⟩
  have A3 : Hid (Above (w.heap.size + 1 + 1) u3 U4) := by
    rw [hU4]
    exact (Above.refl _ _).setCell (show w.heap.size < w.heap.size + 1 + 1 by omega) _
  refine (cloneBytes_any sa sl sc stk U4 (R4.out.keep HK4.out.2) s4).mono ?_
  rintro e u4 ⟨a4, c4, rfl, o4, d4⟩
  have zz4 : w.heap.size + 1 < U4.heap.size := by have := HK4.out.1; have := zz3; have := S3.out; omega
  have q4 : u4.heap[w.heap.size]? = some (.cells #[.slice a1 cl c1, .int .i64 pc, .slice a2 rl c2, .slice a3 dl c3, .slice sa sl sc, .slice ia il ic, .slice oa ol oc, .int .i64 steps, .int .i64 fin, .int .i64 val] 25) := by rw [d4.block _ (by omega)]; exact ot4
  have X4 : Hid (u4.heap[w.heap.size + 1]? = some (.cells #[.slice none 0 0, .int .i64 0, .slice none 0 0, .slice none 0 0, .slice none 0 0, .slice none 0 0, .slice none 0 0, .int .i64 0, .int .i64 0, .int .i64 0] 25)) := by
    show u4.heap[w.heap.size + 1]? = _
    rw [d4.block _ (by omega)]; exact re4
  have Q4 : Hid _ := q4
  have ko : ∀ j, u4.cell? ⟨w.heap.size, j, none⟩ = (#[.slice a1 cl c1, .int .i64 pc, .slice a2 rl c2, .slice a3 dl c3, .slice sa sl sc, .slice ia il ic, .slice oa ol oc, .int .i64 steps, .int .i64 fin, .int .i64 val] : Array Value)[j]? := fun j => cell_of_row u4 (w.heap.size) j _ 25 (0, 0) q4
  have kf : ∀ j, u4.frozen? ⟨w.heap.size, j, none⟩ = false := fun j => frozen_of_row u4 (w.heap.size) j _ 25 q4
  have O4 : Hid (Own .u8 5 U4.heap.size u4 a4 sl c4 stk) := o4
  have D4 : Hid (Below U4.heap.size U4 u4) := d4
  have B4 : Hid (Below w.heap.size w u4) := HK4.out.2.trans (d4.mono (by have := zz4; omega))
  have S4 : Hid (U4.heap.size ≤ u4.heap.size) := d4.size
  clear o4 d4 ot4 re4 hU4 q4
  go_wp2_with fail
  clear ko kf
  refine calls_at fun U5 hU5 => ?_
  have ot5 : U5.heap[w.heap.size]? = some (.cells #[.slice a1 cl c1, .int .i64 pc, .slice a2 rl c2, .slice a3 dl c3, .slice a4 sl c4, .slice ia il ic, .slice oa ol oc, .int .i64 steps, .int .i64 fin, .int .i64 val] 25) := by
    rw [hU5]
    exact row_put Q4.out 4 (.slice a4 sl c4) rfl
  have re5 : U5.heap[w.heap.size + 1]? = some (.cells #[.slice none 0 0, .int .i64 0, .slice none 0 0, .slice none 0 0, .slice none 0 0, .slice none 0 0, .slice none 0 0, .int .i64 0, .int .i64 0, .int .i64 0] 25) := by
    rw [hU5]
    exact keep_oth X4.out (show w.heap.size + 1 ≠ w.heap.size by omega)
  have HK5 : Hid (U5.heap.size = u4.heap.size ∧ Below w.heap.size w U5) := by
    rw [hU5]
    exact ⟨by simp, B4.out.setCell (show w.heap.size ≤ w.heap.size by omega) _⟩
  have A4 : Hid (Above (w.heap.size + 1 + 1) u4 U5) := by
    rw [hU5]
    exact (Above.refl _ _).setCell (show w.heap.size < w.heap.size + 1 + 1 by omega) _
  refine (cloneBytes_any ia il ic inp U5 (R5.out.keep HK5.out.2) s5).mono ?_
  rintro e u5 ⟨a5, c5, rfl, o5, d5⟩
  have zz5 : w.heap.size + 1 < U5.heap.size := by have := HK5.out.1; have := zz4; have := S4.out; omega
  have q5 : u5.heap[w.heap.size]? = some (.cells #[.slice a1 cl c1, .int .i64 pc, .slice a2 rl c2, .slice a3 dl c3, .slice a4 sl c4, .slice ia il ic, .slice oa ol oc, .int .i64 steps, .int .i64 fin, .int .i64 val] 25) := by rw [d5.block _ (by omega)]; exact ot5
  have X5 : Hid (u5.heap[w.heap.size + 1]? = some (.cells #[.slice none 0 0, .int .i64 0, .slice none 0 0, .slice none 0 0, .slice none 0 0, .slice none 0 0, .slice none 0 0, .int .i64 0, .int .i64 0, .int .i64 0] 25)) := by
    show u5.heap[w.heap.size + 1]? = _
    rw [d5.block _ (by omega)]; exact re5
  have Q5 : Hid _ := q5
  have ko : ∀ j, u5.cell? ⟨w.heap.size, j, none⟩ = (#[.slice a1 cl c1, .int .i64 pc, .slice a2 rl c2, .slice a3 dl c3, .slice a4 sl c4, .slice ia il ic, .slice oa ol oc, .int .i64 steps, .int .i64 fin, .int .i64 val] : Array Value)[j]? := fun j => cell_of_row u5 (w.heap.size) j _ 25 (0, 0) q5
  have kf : ∀ j, u5.frozen? ⟨w.heap.size, j, none⟩ = false := fun j => frozen_of_row u5 (w.heap.size) j _ 25 q5
  have O5 : Hid (Own .u8 5 U5.heap.size u5 a5 il c5 inp) := o5
  have D5 : Hid (Below U5.heap.size U5 u5) := d5
  have B5 : Hid (Below w.heap.size w u5) := HK5.out.2.trans (d5.mono (by have := zz5; omega))
  have S5 : Hid (U5.heap.size ≤ u5.heap.size) := d5.size
  clear o5 d5 ot5 re5 hU5 q5
  go_wp2_with fail
  clear ko kf
  refine calls_at fun U6 hU6 => ?_
  have ot6 : U6.heap[w.heap.size]? = some (.cells #[.slice a1 cl c1, .int .i64 pc, .slice a2 rl c2, .slice a3 dl c3, .slice a4 sl c4, .slice a5 il c5, .slice oa ol oc, .int .i64 steps, .int .i64 fin, .int .i64 val] 25) := by
    rw [hU6]
    exact row_put Q5.out 5 (.slice a5 il c5) rfl
  have re6 : U6.heap[w.heap.size + 1]? = some (.cells #[.slice none 0 0, .int .i64 0, .slice none 0 0, .slice none 0 0, .slice none 0 0, .slice none 0 0, .slice none 0 0, .int .i64 0, .int .i64 0, .int .i64 0] 25) := by
    rw [hU6]
    exact keep_oth X5.out (show w.heap.size + 1 ≠ w.heap.size by omega)
  have HK6 : Hid (U6.heap.size = u5.heap.size ∧ Below w.heap.size w U6) := by
    rw [hU6]
    exact ⟨by simp, B5.out.setCell (show w.heap.size ≤ w.heap.size by omega) _⟩
  have A5 : Hid (Above (w.heap.size + 1 + 1) u5 U6) := by
    rw [hU6]
    exact (Above.refl _ _).setCell (show w.heap.size < w.heap.size + 1 + 1 by omega) _
  refine (cloneBytes_any oa ol oc out U6 (R6.out.keep HK6.out.2) s6).mono ?_
  rintro e u6 ⟨a6, c6, rfl, o6, d6⟩
  have zz6 : w.heap.size + 1 < U6.heap.size := by have := HK6.out.1; have := zz5; have := S5.out; omega
  have q6 : u6.heap[w.heap.size]? = some (.cells #[.slice a1 cl c1, .int .i64 pc, .slice a2 rl c2, .slice a3 dl c3, .slice a4 sl c4, .slice a5 il c5, .slice oa ol oc, .int .i64 steps, .int .i64 fin, .int .i64 val] 25) := by rw [d6.block _ (by omega)]; exact ot6
  have X6 : Hid (u6.heap[w.heap.size + 1]? = some (.cells #[.slice none 0 0, .int .i64 0, .slice none 0 0, .slice none 0 0, .slice none 0 0, .slice none 0 0, .slice none 0 0, .int .i64 0, .int .i64 0, .int .i64 0] 25)) := by
    show u6.heap[w.heap.size + 1]? = _
    rw [d6.block _ (by omega)]; exact re6
  have Q6 : Hid _ := q6
  have ko : ∀ j, u6.cell? ⟨w.heap.size, j, none⟩ = (#[.slice a1 cl c1, .int .i64 pc, .slice a2 rl c2, .slice a3 dl c3, .slice a4 sl c4, .slice a5 il c5, .slice oa ol oc, .int .i64 steps, .int .i64 fin, .int .i64 val] : Array Value)[j]? := fun j => cell_of_row u6 (w.heap.size) j _ 25 (0, 0) q6
  have kf : ∀ j, u6.frozen? ⟨w.heap.size, j, none⟩ = false := fun j => frozen_of_row u6 (w.heap.size) j _ 25 q6
  have O6 : Hid (Own .u8 5 U6.heap.size u6 a6 ol c6 out) := o6
  have D6 : Hid (Below U6.heap.size U6 u6) := d6
  have B6 : Hid (Below w.heap.size w u6) := HK6.out.2.trans (d6.mono (by have := zz6; omega))
  have S6 : Hid (U6.heap.size ≤ u6.heap.size) := d6.size
  clear o6 d6 ot6 re6 hU6 q6
  have hrow : (u6.setCell ⟨w.heap.size, 6, none⟩ (.slice a6 ol c6)).heap[w.heap.size]? = some (.cells #[.slice a1 cl c1, .int .i64 pc, .slice a2 rl c2, .slice a3 dl c3, .slice a4 sl c4, .slice a5 il c5, .slice a6 ol c6, .int .i64 steps, .int .i64 fin, .int .i64 val] 25) := row_put Q6.out 6 (.slice a6 ol c6) rfl
  have hres : (u6.setCell ⟨w.heap.size, 6, none⟩ (.slice a6 ol c6)).heap[w.heap.size + 1]? = some (.cells #[.slice none 0 0, .int .i64 0, .slice none 0 0, .slice none 0 0, .slice none 0 0, .slice none 0 0, .slice none 0 0, .int .i64 0, .int .i64 0, .int .i64 0] 25) := keep_oth X6.out (show w.heap.size + 1 ≠ w.heap.size by omega)
  have HRES : Hid _ := hres
  have HROW : Hid _ := hrow
  clear hrow hres
  have HAB : Hid (Above (w.heap.size + 1 + 1) u6 (u6.setCell ⟨w.heap.size, 6, none⟩ (.slice a6 ol c6)) ∧ Below w.heap.size w (u6.setCell ⟨w.heap.size, 6, none⟩ (.slice a6 ol c6))) := ⟨(Above.refl _ _).setCell (show w.heap.size < w.heap.size + 1 + 1 by omega) _, B6.out.setCell (show w.heap.size ≤ w.heap.size by omega) _⟩
  go_wp2_with (first | (refine wpList_load_row rfl 25 _ rfl (w.heap.size) ?hx 25 #[.slice a1 cl c1, .int .i64 pc, .slice a2 rl c2, .slice a3 dl c3, .slice a4 sl c4, .slice a5 il c5, .slice a6 ol c6, .int .i64 steps, .int .i64 fin, .int .i64 val] (0, 0) _ ?hg Tryz.underlying25 ?hd ?hi ?_; (case hx => rfl); (case hg => exact HROW.out); (case hd => rfl); (case hi => kernel_rfl)) | (refine wpList_store_row rfl 25 _ _ rfl (w.heap.size + 1) #[.slice a1 cl c1, .int .i64 pc, .slice a2 rl c2, .slice a3 dl c3, .slice a4 sl c4, .slice a5 il c5, .slice a6 ol c6, .int .i64 steps, .int .i64 fin, .int .i64 val] ?hx ?hy 25 #[.slice none 0 0, .int .i64 0, .slice none 0 0, .slice none 0 0, .slice none 0 0, .slice none 0 0, .slice none 0 0, .int .i64 0, .int .i64 0, .int .i64 0] ?hg ?hi ?ho ?h1 ?_; (case hx => rfl); (case hy => rfl); (case hg => exact HRES.out); (case hi => kernel_rfl); (case ho => kernel_rfl); (case h1 => kernel_rfl); refine Hid.out ?_))
  unfold Hid
  clear ko kf
  go_wp2_with fail
  refine bodyPost_ret (v := .agg #[.slice a1 cl c1, .int .i64 pc, .slice a2 rl c2, .slice a3 dl c3, .slice a4 sl c4, .slice a5 il c5, .slice a6 ol c6, .int .i64 steps, .int .i64 fin, .int .i64 val]) ?hres rfl ⟨⟨⟨a1, cl, c1⟩, ⟨a2, rl, c2⟩, ⟨a3, dl, c3⟩, ⟨a4, sl, c4⟩, ⟨a5, il, c5⟩, ⟨a6, ol, c6⟩⟩, rfl, ⟨((O1.out.same ((A1.out.trans (Above.of_below D2.out)).trans ((A2.out.trans (Above.of_below D3.out)).trans ((A3.out.trans (Above.of_below D4.out)).trans ((A4.out.trans (Above.of_below D5.out)).trans ((A5.out.trans (Above.of_below D6.out)).trans (HAB.out.1.setRow (show w.heap.size + 1 < w.heap.size + 1 + 1 from by omega) _)))))) (by have := zz1; omega)).lower (by have := zz1; omega)), ((O2.out.same ((A2.out.trans (Above.of_below D3.out)).trans ((A3.out.trans (Above.of_below D4.out)).trans ((A4.out.trans (Above.of_below D5.out)).trans ((A5.out.trans (Above.of_below D6.out)).trans (HAB.out.1.setRow (show w.heap.size + 1 < w.heap.size + 1 + 1 from by omega) _))))) (by have := zz2; omega)).lower (by have := zz2; omega)), ((O3.out.same ((A3.out.trans (Above.of_below D4.out)).trans ((A4.out.trans (Above.of_below D5.out)).trans ((A5.out.trans (Above.of_below D6.out)).trans (HAB.out.1.setRow (show w.heap.size + 1 < w.heap.size + 1 + 1 from by omega) _)))) (by have := zz3; omega)).lower (by have := zz3; omega)), ((O4.out.same ((A4.out.trans (Above.of_below D5.out)).trans ((A5.out.trans (Above.of_below D6.out)).trans (HAB.out.1.setRow (show w.heap.size + 1 < w.heap.size + 1 + 1 from by omega) _))) (by have := zz4; omega)).lower (by have := zz4; omega)), ((O5.out.same ((A5.out.trans (Above.of_below D6.out)).trans (HAB.out.1.setRow (show w.heap.size + 1 < w.heap.size + 1 + 1 from by omega) _)) (by have := zz5; omega)).lower (by have := zz5; omega)), ((O6.out.same (HAB.out.1.setRow (show w.heap.size + 1 < w.heap.size + 1 + 1 from by omega) _) (by have := zz6; omega)).lower (by have := zz6; omega))⟩, ⟨U1.heap.size, U2.heap.size, U3.heap.size, U4.heap.size, U5.heap.size, U6.heap.size, u6.heap.size, O1.out.span (by have := HK2.out.1; omega), O2.out.span (by have := HK3.out.1; omega), O3.out.span (by have := HK4.out.1; omega), O4.out.span (by have := HK5.out.1; omega), O5.out.span (by have := HK6.out.1; omega), O6.out.span (by omega), (by have := S1.out; have := HK2.out.1; omega), (by have := S2.out; have := HK3.out.1; omega), (by have := S3.out; have := HK4.out.1; omega), (by have := S4.out; have := HK5.out.1; omega), (by have := S5.out; have := HK6.out.1; omega), (by have := S6.out; omega)⟩, below_setRow HAB.out.2 (show w.heap.size ≤ w.heap.size + 1 from by omega) _⟩
  case hres =>
    refine results_cell_row Tryz.results29 _ _ (w.heap.size + 1) 25 #[.slice a1 cl c1, .int .i64 pc, .slice a2 rl c2, .slice a3 dl c3, .slice a4 sl c4, .slice a5 il c5, .slice a6 ol c6, .int .i64 steps, .int .i64 fin, .int .i64 val] (0, 0) _ ?hp ?hg Tryz.underlying25 ?hd ?hi
    case hp => rfl
    case hg => exact setRow_heap _ _ _ _ _ _ HRES.out
    case hd => rfl
    case hi => kernel_rfl
end Go.Proofs.YtjdfffdeljgenaaGreatDoor.W
namespace Go.Proofs.YtjdfffdeljgenaaGreatDoor.W
open Go.RowKit
structure Touch (a : Option Addr) (w w' : World) : Prop where
  os : w'.os = w.os
  tape : w'.tape = w.tape
  output : w'.output = w.output
  size : w'.heap.size = w.heap.size
  block : ∀ k, (∀ ad, a = some ad → k ≠ ad.block) → w'.heap[k]? = w.heap[k]?
theorem Touch.refl (a : Option Addr) (w : World) : Touch a w w := ⟨rfl, rfl, rfl, rfl, fun _ _ => rfl⟩
theorem Touch.setCell {a : Option Addr} {w u : World} (h : Touch a w u) {g : Nat} (hp : a = some ⟨g, 0, none⟩) (x : Value) {i : Nat} : Touch a w (u.setCell ⟨g, i, none⟩ x) :=
  ⟨h.os, h.tape, h.output, by simpa using h.size, fun k hk => (Below.heap_setCell u ⟨g, i, none⟩ x k (show k ≠ g from hk ⟨g, 0, none⟩ hp)).trans (h.block k hk)⟩
theorem mkIntS_wf (k : Int) (len : Nat) (hk : 0 ≤ k ∧ k + len ≤ 4611686018427387904) : ∀ n ∈ (List.range len).map (fun (i : Nat) => k + (i : Int)), (Lit.int .i64 n).wf = true := by
  intro n hn
  obtain ⟨i, hi, rfl⟩ := List.mem_map.1 hn
  have := List.mem_range.1 hi
  have h1 : -9223372036854775808 ≤ k + (i : Int) := by omega
  have h2 : k + (i : Int) ≤ 9223372036854775807 := by omega
  generalize k + (i : Int) = y at h1 h2
  simp [Lit.wf, IntKind.min, IntKind.max, IntKind.signed, IntKind.bits]
  omega
theorem mkByteS_wf (k : Int) (len : Nat) (hk : 0 ≤ k ∧ k + len ≤ 4611686018427387904) : ∀ n ∈ (List.range len).map (fun (i : Nat) => (k + (i : Int)) % 256), (Lit.int .u8 n).wf = true := by
  intro n hn
  obtain ⟨i, hi, rfl⟩ := List.mem_map.1 hn
  have h1 : 0 ≤ (k + (i : Int)) % 256 := by omega
  have h2 : (k + (i : Int)) % 256 ≤ 255 := by omega
  generalize (k + (i : Int)) % 256 = y at h1 h2
  simp [Lit.wf, IntKind.min, IntKind.max, IntKind.signed, IntKind.bits]
  omega
def mkIntS (k : Int) (len : Nat) : List Int := (List.range len).map fun (i : Nat) => (k + (i : Int))
theorem mkIntS_length (k : Int) (len : Nat) : (mkIntS k len).length = len := by simp [mkIntS]
theorem mkIntS_get (k : Int) (len i : Nat) (h : i < len) : (mkIntS k len).getD i 0 = (k + (i : Int)) := by
  rw [List.getD_eq_getElem?_getD]
  simp [mkIntS, h]
def mtIntS (k : Int) (zs : List Int) (j : Nat) : List Int := (mkIntS k zs.length).take j ++ zs.drop j
theorem mtIntS_zero (k : Int) (zs : List Int) : mtIntS k zs 0 = zs := by simp [mtIntS]
theorem mtIntS_full (k : Int) (zs : List Int) {j : Nat} (h : zs.length ≤ j) : mtIntS k zs j = mkIntS k zs.length := by
  unfold mtIntS
  rw [List.take_of_length_le (by rw [mkIntS_length]; exact h), List.drop_of_length_le h, List.append_nil]
theorem mtIntS_length (k : Int) (zs : List Int) (j : Nat) : (mtIntS k zs j).length = zs.length := by
  unfold mtIntS
  rw [List.length_append, List.length_take, List.length_drop, mkIntS_length]; omega
theorem mtIntS_set (k : Int) (zs : List Int) {j : Nat} (h : j < zs.length) : (mtIntS k zs j).set j ((k + (j : Int))) = mtIntS k zs (j + 1) := by
  have hx : (mkIntS k zs.length)[j]? = some ((k + (j : Int))) := by simp [mkIntS, h]
  apply List.ext_getElem?
  intro i
  unfold mtIntS
  rw [List.getElem?_set, List.length_append, List.length_take, List.length_drop, mkIntS_length]
  by_cases h1 : j = i
  · subst h1
    rw [if_pos rfl, if_pos (by omega), List.getElem?_append_left (by rw [List.length_take, mkIntS_length]; omega), List.getElem?_take, if_pos (by omega), hx]
  · rw [if_neg h1]
    by_cases h2 : i < j
    · rw [List.getElem?_append_left (by rw [List.length_take, mkIntS_length]; omega), List.getElem?_append_left (by rw [List.length_take, mkIntS_length]; omega), List.getElem?_take, List.getElem?_take, if_pos h2, if_pos (by omega)]
    · rw [List.getElem?_append_right (by rw [List.length_take, mkIntS_length]; omega), List.getElem?_append_right (by rw [List.length_take, mkIntS_length]; omega), List.length_take, List.length_take, mkIntS_length, List.getElem?_drop, List.getElem?_drop]
      congr 1
      omega
set_option maxHeartbeats 1000000 in
theorem markIntS_any {lo : Nat} (a : Option Addr) (len cap : Nat) (zs : List Int) (k : Int) (w : World) (h : Own .i64 3 lo w a len cap zs) (hk : 0 ≤ k ∧ k + len ≤ 4611686018427387904) :
    Calls Tryz.prog 46 #[.slice a len cap, .int .i64 k] w fun e w' => e = .returned (.int .i64 (k + len)) ∧ Own .i64 3 lo w' a len cap (mkIntS k len) ∧ Touch a w w' := by
  have hsm := h.row.small
  have hl := h.row.1
  have HO : Hid (w.ownsRow lo 3 1 (.slice a len cap) len (zs.map (Value.int .i64))) := h.1
  have HL : Hid (zs.length = len) := hl
  have HF : Hid (len = 0 ∨ ∃ g, a = some ⟨g, 0, none⟩) := by
    rcases h.1.2 with ⟨h0, h1⟩ | ⟨g, _, _, h0, _⟩
    · exact .inl h1
    · simp only [Value.slice.injEq] at h0; exact .inr ⟨g, h0.1⟩
  clear h hl
  go_enter Tryz.func46, Tryz.ntmps46
  go_wp2
  go_loopw [1, 5] (fun x i wr => ∃ j : Nat, j ≤ len ∧ i = .int .i64 j ∧ x = .int .i64 (k + (j : Int)) ∧ wr.ownsRow lo 3 1 (.slice a len cap) len ((mtIntS k zs j).map (Value.int .i64)) ∧ Touch a w wr) (fun _ i _ => len - (intOf i).toNat)
  case atStart => exact ⟨0, Nat.zero_le _, rfl, by simp, by rw [mtIntS_zero]; exact HO.out, Touch.refl _ _⟩
  case round =>
    obtain ⟨j, hj, rfl, rfl, ho, ht⟩ := hrel
    clear HO
    have HO : Hid (wr.ownsRow lo 3 1 (.slice a len cap) len ((mtIntS k zs j).map (Value.int .i64))) := ho
    have HT : Hid (Touch a w wr) := ht
    clear ho ht
    by_cases hlt : j < len
    · obtain ⟨g, rfl⟩ := HF.out.resolve_left (by omega)
      have hfz : wr.frozen? ⟨g, j, none⟩ = false := HO.out.frozenAt j
      obtain ⟨y, hy⟩ : ∃ y, wr.cell? ⟨g, j, none⟩ = some (.int .i64 y) := by
        have := HO.out.cellAt j (by omega)
        rw [List.getElem?_map, List.getElem?_eq_getElem (by rw [mtIntS_length]; have := HL.out; omega)] at this
        exact ⟨_, this⟩
      go_wp2
      go_roundw
      case rel =>
        have st := HO.out.stored j (.int .i64 ((k + (j : Int))))
        refine ⟨j + 1, by omega, by go_num, congrArg (Value.int .i64) (by omega), ?_, HT.out.setCell rfl _⟩
        rw [← mtIntS_set k zs (by have := HL.out; omega), List.map_set]
        exact st.1
      case measure => simp [intOf]; omega
    · have hje : j = len := by omega
      subst hje
      go_wp2
      go_ret
      refine ⟨rfl, ⟨?_, mkIntS_wf k _ hk⟩, HT.out⟩
      have := HO.out
      rwa [mtIntS_full k zs (by have := HL.out; omega), HL.out] at this
set_option maxHeartbeats 1000000 in
theorem heldIntS_any {lo : Nat} (a : Option Addr) (len cap : Nat) (k : Int) (w : World) (h : Row .i64 lo w a len cap (mkIntS k len)) (hk : 0 ≤ k ∧ k + len ≤ 4611686018427387904) :
    Calls Tryz.prog 48 #[.slice a len cap, .int .i64 k] w fun e w' => e = .returned (.int .i64 (k + len)) ∧ Below w.heap.size w w' := by
  have hsm := h.small
  have HR : Hid (len = 0 ∨ ∃ b off, a = some ⟨b, off, none⟩ ∧ lo ≤ b ∧ b < w.heap.size ∧ ∀ i, i < len → w.cell? ⟨b, off + i, none⟩ = some (.int .i64 ((mkIntS k len).getD i 0))) := h.2.2.2.2
  clear h
  go_enter Tryz.func48, Tryz.ntmps48
  go_wp2
  go_loopw [1, 5] (fun x i wr => ∃ j : Nat, j ≤ len ∧ i = .int .i64 j ∧ x = .int .i64 (k + (j : Int)) ∧ Below w.heap.size w wr) (fun _ i _ => len - (intOf i).toNat)
  case atStart => exact ⟨0, Nat.zero_le _, rfl, by simp, Below.refl _ _⟩
  case round =>
    obtain ⟨j, hj, rfl, rfl, hb⟩ := hrel
    have HB : Hid (Below w.heap.size w wr) := hb
    clear hb
    by_cases hlt : j < len
    · obtain ⟨b, off, rfl, _, hbl, hc⟩ := HR.out.resolve_left (by omega)
      have hcell : wr.cell? ⟨b, off + j, none⟩ = some (.int .i64 ((k + (j : Int)))) := by rw [HB.out.cell (by exact hbl), hc j hlt, mkIntS_get k len j hlt]
      clear hc
      go_wp2
      go_roundw
      case rel => exact ⟨j + 1, by omega, by go_num, congrArg (Value.int .i64) (by omega), HB.out⟩
      case measure => simp [intOf]; omega
    · have hje : j = len := by omega
      subst hje
      go_wp2
      go_ret
      exact ⟨rfl, HB.out⟩
def mkByteS (k : Int) (len : Nat) : List Int := (List.range len).map fun (i : Nat) => (k + (i : Int)) % 256
theorem mkByteS_length (k : Int) (len : Nat) : (mkByteS k len).length = len := by simp [mkByteS]
theorem mkByteS_get (k : Int) (len i : Nat) (h : i < len) : (mkByteS k len).getD i 0 = (k + (i : Int)) % 256 := by
  rw [List.getD_eq_getElem?_getD]
  simp [mkByteS, h]
def mtByteS (k : Int) (zs : List Int) (j : Nat) : List Int := (mkByteS k zs.length).take j ++ zs.drop j
theorem mtByteS_zero (k : Int) (zs : List Int) : mtByteS k zs 0 = zs := by simp [mtByteS]
theorem mtByteS_full (k : Int) (zs : List Int) {j : Nat} (h : zs.length ≤ j) : mtByteS k zs j = mkByteS k zs.length := by
  unfold mtByteS
  rw [List.take_of_length_le (by rw [mkByteS_length]; exact h), List.drop_of_length_le h, List.append_nil]
theorem mtByteS_length (k : Int) (zs : List Int) (j : Nat) : (mtByteS k zs j).length = zs.length := by
  unfold mtByteS
  rw [List.length_append, List.length_take, List.length_drop, mkByteS_length]; omega
theorem mtByteS_set (k : Int) (zs : List Int) {j : Nat} (h : j < zs.length) : (mtByteS k zs j).set j ((k + (j : Int)) % 256) = mtByteS k zs (j + 1) := by
  have hx : (mkByteS k zs.length)[j]? = some ((k + (j : Int)) % 256) := by simp [mkByteS, h]
  apply List.ext_getElem?
  intro i
  unfold mtByteS
  rw [List.getElem?_set, List.length_append, List.length_take, List.length_drop, mkByteS_length]
  by_cases h1 : j = i
  · subst h1
    rw [if_pos rfl, if_pos (by omega), List.getElem?_append_left (by rw [List.length_take, mkByteS_length]; omega), List.getElem?_take, if_pos (by omega), hx]
  · rw [if_neg h1]
    by_cases h2 : i < j
    · rw [List.getElem?_append_left (by rw [List.length_take, mkByteS_length]; omega), List.getElem?_append_left (by rw [List.length_take, mkByteS_length]; omega), List.getElem?_take, List.getElem?_take, if_pos h2, if_pos (by omega)]
    · rw [List.getElem?_append_right (by rw [List.length_take, mkByteS_length]; omega), List.getElem?_append_right (by rw [List.length_take, mkByteS_length]; omega), List.length_take, List.length_take, mkByteS_length, List.getElem?_drop, List.getElem?_drop]
      congr 1
      omega
set_option maxHeartbeats 1000000 in
theorem markByteS_any {lo : Nat} (a : Option Addr) (len cap : Nat) (zs : List Int) (k : Int) (w : World) (h : Own .u8 5 lo w a len cap zs) (hk : 0 ≤ k ∧ k + len ≤ 4611686018427387904) :
    Calls Tryz.prog 47 #[.slice a len cap, .int .i64 k] w fun e w' => e = .returned (.int .i64 (k + len)) ∧ Own .u8 5 lo w' a len cap (mkByteS k len) ∧ Touch a w w' := by
  have hsm := h.row.small
  have hl := h.row.1
  have HO : Hid (w.ownsRow lo 5 1 (.slice a len cap) len (zs.map (Value.int .u8))) := h.1
  have HL : Hid (zs.length = len) := hl
  have HF : Hid (len = 0 ∨ ∃ g, a = some ⟨g, 0, none⟩) := by
    rcases h.1.2 with ⟨h0, h1⟩ | ⟨g, _, _, h0, _⟩
    · exact .inl h1
    · simp only [Value.slice.injEq] at h0; exact .inr ⟨g, h0.1⟩
  clear h hl
  go_enter Tryz.func47, Tryz.ntmps47
  go_wp2
  go_loopw [1, 5] (fun x i wr => ∃ j : Nat, j ≤ len ∧ i = .int .i64 j ∧ x = .int .i64 (k + (j : Int)) ∧ wr.ownsRow lo 5 1 (.slice a len cap) len ((mtByteS k zs j).map (Value.int .u8)) ∧ Touch a w wr) (fun _ i _ => len - (intOf i).toNat)
  case atStart => exact ⟨0, Nat.zero_le _, rfl, by simp, by rw [mtByteS_zero]; exact HO.out, Touch.refl _ _⟩
  case round =>
    obtain ⟨j, hj, rfl, rfl, ho, ht⟩ := hrel
    clear HO
    have HO : Hid (wr.ownsRow lo 5 1 (.slice a len cap) len ((mtByteS k zs j).map (Value.int .u8))) := ho
    have HT : Hid (Touch a w wr) := ht
    clear ho ht
    by_cases hlt : j < len
    · obtain ⟨g, rfl⟩ := HF.out.resolve_left (by omega)
      have hfz : wr.frozen? ⟨g, j, none⟩ = false := HO.out.frozenAt j
      obtain ⟨y, hy⟩ : ∃ y, wr.cell? ⟨g, j, none⟩ = some (.int .u8 y) := by
        have := HO.out.cellAt j (by omega)
        rw [List.getElem?_map, List.getElem?_eq_getElem (by rw [mtByteS_length]; have := HL.out; omega)] at this
        exact ⟨_, this⟩
      go_wp2
      go_roundw
      case rel =>
        have st := HO.out.stored j (.int .u8 ((k + (j : Int)) % 256))
        refine ⟨j + 1, by omega, by go_num, congrArg (Value.int .i64) (by omega), ?_, HT.out.setCell rfl _⟩
        rw [← mtByteS_set k zs (by have := HL.out; omega), List.map_set]
        exact st.1
      case measure => simp [intOf]; omega
    · have hje : j = len := by omega
      subst hje
      go_wp2
      go_ret
      refine ⟨rfl, ⟨?_, mkByteS_wf k _ hk⟩, HT.out⟩
      have := HO.out
      rwa [mtByteS_full k zs (by have := HL.out; omega), HL.out] at this
set_option maxHeartbeats 1000000 in
theorem heldByteS_any {lo : Nat} (a : Option Addr) (len cap : Nat) (k : Int) (w : World) (h : Row .u8 lo w a len cap (mkByteS k len)) (hk : 0 ≤ k ∧ k + len ≤ 4611686018427387904) :
    Calls Tryz.prog 49 #[.slice a len cap, .int .i64 k] w fun e w' => e = .returned (.int .i64 (k + len)) ∧ Below w.heap.size w w' := by
  have hsm := h.small
  have HR : Hid (len = 0 ∨ ∃ b off, a = some ⟨b, off, none⟩ ∧ lo ≤ b ∧ b < w.heap.size ∧ ∀ i, i < len → w.cell? ⟨b, off + i, none⟩ = some (.int .u8 ((mkByteS k len).getD i 0))) := h.2.2.2.2
  clear h
  go_enter Tryz.func49, Tryz.ntmps49
  go_wp2
  go_loopw [1, 5] (fun x i wr => ∃ j : Nat, j ≤ len ∧ i = .int .i64 j ∧ x = .int .i64 (k + (j : Int)) ∧ Below w.heap.size w wr) (fun _ i _ => len - (intOf i).toNat)
  case atStart => exact ⟨0, Nat.zero_le _, rfl, by simp, Below.refl _ _⟩
  case round =>
    obtain ⟨j, hj, rfl, rfl, hb⟩ := hrel
    have HB : Hid (Below w.heap.size w wr) := hb
    clear hb
    by_cases hlt : j < len
    · obtain ⟨b, off, rfl, _, hbl, hc⟩ := HR.out.resolve_left (by omega)
      have hcell : wr.cell? ⟨b, off + j, none⟩ = some (.int .u8 ((k + (j : Int)) % 256)) := by rw [HB.out.cell (by exact hbl), hc j hlt, mkByteS_get k len j hlt]
      clear hc
      go_wp2
      go_roundw
      case rel => exact ⟨j + 1, by omega, by go_num, congrArg (Value.int .i64) (by omega), HB.out⟩
      case measure => simp [intOf]; omega
    · have hje : j = len := by omega
      subst hje
      go_wp2
      go_ret
      exact ⟨rfl, HB.out⟩
end Go.Proofs.YtjdfffdeljgenaaGreatDoor.W
