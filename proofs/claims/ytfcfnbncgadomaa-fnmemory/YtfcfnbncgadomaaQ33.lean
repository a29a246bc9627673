import Derived.Test.YtfcfnbncgadomaaQ24
import Derived.Test.YtfcfnbncgadomaaQ32
set_option linter.unusedVariables false
set_option linter.unusedSimpArgs false
namespace Go.Proofs.Ytfcfnbncgadomaa.W
open Go.RowKit
theorem mis0 {lo : Nat} {w : World} {v : MV} {m : Pl.Mac} (h : MOwn lo w v m) : MIs 0 w v m := ⟨h.1.row.lower (Nat.zero_le _), h.2.1.row.lower (Nat.zero_le _), h.2.2.1.row.lower (Nat.zero_le _), h.2.2.2.1.row.lower (Nat.zero_le _), h.2.2.2.2.1.row.lower (Nat.zero_le _), h.2.2.2.2.2.row.lower (Nat.zero_le _)⟩
theorem mown0 {lo : Nat} {w : World} {v : MV} {m : Pl.Mac} (h : MOwn lo w v m) : MOwn 0 w v m := ⟨h.1.lower (Nat.zero_le _), h.2.1.lower (Nat.zero_le _), h.2.2.1.lower (Nat.zero_le _), h.2.2.2.1.lower (Nat.zero_le _), h.2.2.2.2.1.lower (Nat.zero_le _), h.2.2.2.2.2.lower (Nat.zero_le _)⟩
set_option maxRecDepth 8000 in
set_option maxHeartbeats 8000000 in
theorem fnMemory_walk (a : Option Addr) (len cap : Nat) (w : World) (h : IsBytes w a len cap) : Calls Try.prog 3 #[.slice a len cap] w fun e w' => e = .returned (.bool true) ∧ Below w.heap.size w w' := by
  have HI : Hid (IsBytes w a len cap) := h
  have hlm : (len : Int) ≤ 9223372036854775807 := by have h1 := h.1; have h2 := h.2.1; unfold maxLen at h2; omega
  clear h
  by_cases hbig : 1048576 < (len : Int)
  · go_enter Try.func3, Try.ntmps3
    go_wp2
    go_ret
    exact ⟨rfl, Below.refl _ _⟩
  go_enter Try.func3, Try.ntmps3
  go_wp2_with fail
  refine (drawStore_any w a len cap HI.out).mono ?_
  rintro e u1 ⟨v, m, kind, at_, x, rfl, hown, hsz, hat, hx, d1⟩
  obtain ⟨m2, c, hst, e1, e2, e3, e4, hsz2, HS, HT⟩ := stores_at m kind at_ x (by omega) (by omega) (by omega)
  obtain ⟨la, lb, hla, HLS, HLI⟩ := loads_at m kind at_ (by omega)
  obtain ⟨ka, kb, hka, HKS, HKI⟩ := loads_at m2 kind at_ (by omega)
  have hkeep : c ≠ 0 → m2 = m := fun hc => by have := Pl.stW_keeps m kind at_ x (by rw [hst]; exact hc); rw [hst] at this; exact this
  have hback : c = 0 → ka = Pl.nr kind x ∧ kb = 0 := fun hc => by
    have := Pl.ldW_stW m kind at_ x (by rw [hst]; exact hc)
    rw [hst] at this
    rw [show Pl.ldW (m2, c).1 kind at_ = Pl.ldW m2 kind at_ from rfl, hka] at this
    exact ⟨(Prod.mk.inj this).1, (Prod.mk.inj this).2⟩
  have TS : Hid (∀ (U : World), MOwn 0 U v m → Calls Try.prog 6 #[.agg #[.slice v.code.a v.code.len v.code.cap, .int .i64 m.pc, .slice v.regs.a v.regs.len v.regs.cap, .slice v.data.a v.data.len v.data.cap, .slice v.stk.a v.stk.len v.stk.cap, .slice v.inp.a v.inp.len v.inp.cap, .slice v.out.a v.out.len v.out.cap, .int .i64 m.steps, .int .i64 m.fin, .int .i64 m.val], .int .i64 kind, .int .i64 at_, .int .i64 x] U fun e w' => ∃ v1 : MV, e = .returned (.tuple #[.agg #[.slice v1.code.a v1.code.len v1.code.cap, .int .i64 m2.pc, .slice v1.regs.a v1.regs.len v1.regs.cap, .slice v1.data.a v1.data.len v1.data.cap, .slice v1.stk.a v1.stk.len v1.stk.cap, .slice v1.inp.a v1.inp.len v1.inp.cap, .slice v1.out.a v1.out.len v1.out.cap, .int .i64 m2.steps, .int .i64 m2.fin, .int .i64 m2.val], .int .i64 c]) ∧ MIs 0 w' v1 m2 ∧ Below U.heap.size U w') := fun U hU => (HS 0 v U hU).mono fun e w' ⟨v1, he, ho, _, hb⟩ => ⟨v1, by rw [e1, e2, e3, e4]; exact he, mis0 ho, hb⟩
  have TI : Hid (∀ (U : World), MOwn 0 U v m → Calls Try.prog 7 #[.agg #[.slice v.code.a v.code.len v.code.cap, .int .i64 m.pc, .slice v.regs.a v.regs.len v.regs.cap, .slice v.data.a v.data.len v.data.cap, .slice v.stk.a v.stk.len v.stk.cap, .slice v.inp.a v.inp.len v.inp.cap, .slice v.out.a v.out.len v.out.cap, .int .i64 m.steps, .int .i64 m.fin, .int .i64 m.val], .int .i64 kind, .int .i64 at_, .int .i64 x] U fun e w' => ∃ v1 : MV, e = .returned (.tuple #[.agg #[.slice v1.code.a v1.code.len v1.code.cap, .int .i64 m2.pc, .slice v1.regs.a v1.regs.len v1.regs.cap, .slice v1.data.a v1.data.len v1.data.cap, .slice v1.stk.a v1.stk.len v1.stk.cap, .slice v1.inp.a v1.inp.len v1.inp.cap, .slice v1.out.a v1.out.len v1.out.cap, .int .i64 m2.steps, .int .i64 m2.fin, .int .i64 m2.val], .int .i64 c]) ∧ MIs 0 w' v1 m2 ∧ Below U.heap.size U w') := fun U hU => (HT 0 v U hU).mono fun e w' ⟨v1, he, ho, _, hb⟩ => ⟨v1, by rw [e1, e2, e3, e4]; exact he, mis0 ho, hb⟩
  have LS : Hid (∀ (U : World), MOwn 0 U v m → Calls Try.prog 9 #[.agg #[.slice v.code.a v.code.len v.code.cap, .int .i64 m.pc, .slice v.regs.a v.regs.len v.regs.cap, .slice v.data.a v.data.len v.data.cap, .slice v.stk.a v.stk.len v.stk.cap, .slice v.inp.a v.inp.len v.inp.cap, .slice v.out.a v.out.len v.out.cap, .int .i64 m.steps, .int .i64 m.fin, .int .i64 m.val], .int .i64 kind, .int .i64 at_] U fun e w' => e = .returned (.tuple #[.int .i64 la, .int .i64 lb]) ∧ Below U.heap.size U w') := fun U hU => HLS 0 v U (mis0 hU)
  have LI : Hid (∀ (U : World), MOwn 0 U v m → Calls Try.prog 10 #[.agg #[.slice v.code.a v.code.len v.code.cap, .int .i64 m.pc, .slice v.regs.a v.regs.len v.regs.cap, .slice v.data.a v.data.len v.data.cap, .slice v.stk.a v.stk.len v.stk.cap, .slice v.inp.a v.inp.len v.inp.cap, .slice v.out.a v.out.len v.out.cap, .int .i64 m.steps, .int .i64 m.fin, .int .i64 m.val], .int .i64 kind, .int .i64 at_] U fun e w' => e = .returned (.tuple #[.int .i64 la, .int .i64 lb]) ∧ Below U.heap.size U w') := fun U hU => HLI 0 v U (mis0 hU)
  have KI : Hid (∀ (U : World) (v1 : MV), MIs 0 U v1 m2 → Calls Try.prog 10 #[.agg #[.slice v1.code.a v1.code.len v1.code.cap, .int .i64 m2.pc, .slice v1.regs.a v1.regs.len v1.regs.cap, .slice v1.data.a v1.data.len v1.data.cap, .slice v1.stk.a v1.stk.len v1.stk.cap, .slice v1.inp.a v1.inp.len v1.inp.cap, .slice v1.out.a v1.out.len v1.out.cap, .int .i64 m2.steps, .int .i64 m2.fin, .int .i64 m2.val], .int .i64 kind, .int .i64 at_] U fun e w' => e = .returned (.tuple #[.int .i64 ka, .int .i64 kb]) ∧ Below U.heap.size U w') := fun U v1 hU => HKI 0 v1 U hU
  have HK : Hid ((c ≠ 0 → m2 = m) ∧ (c = 0 → ka = Pl.nr kind x ∧ kb = 0)) := ⟨hkeep, hback⟩
  have O1 : Hid (MOwn 0 u1 v m ∧ Below w.heap.size w u1) := ⟨mown0 hown, d1⟩
  clear hkeep hback hown d1 hst e1 e2 e3 e4 hsz2 HS HT hla HLS HLI hka HKS HKI hsz HI
  go_wp2_with fail
  refine calls_at fun y1 hy1 => ?_
  have P1 : Hid (y1.heap[u1.heap.size]? = some (.cells #[.slice v.code.a v.code.len v.code.cap, .int .i64 m.pc, .slice v.regs.a v.regs.len v.regs.cap, .slice v.data.a v.data.len v.data.cap, .slice v.stk.a v.stk.len v.stk.cap, .slice v.inp.a v.inp.len v.inp.cap, .slice v.out.a v.out.len v.out.cap, .int .i64 m.steps, .int .i64 m.fin, .int .i64 m.val] 25)) := by rw [hy1]; exact heap_alloc_new u1 _
  have L1 : Hid (u1.heap.size < y1.heap.size) := by rw [hy1]; show u1.heap.size < _; simp
  have M1 : Hid (MOwn 0 y1 v m ∧ Below w.heap.size w y1) := by rw [hy1]; exact ⟨O1.out.1.keep (below_alloc _ _), O1.out.2.alloc O1.out.2.size _⟩
  obtain ⟨b0, hb0⟩ : ∃ b, b = u1.heap.size := ⟨_, rfl⟩
  rw [← hb0] at P1 L1 ⊢
  clear hy1 O1 hb0
  refine (TS.out y1 M1.out.1).mono ?_
  rintro e y2 ⟨v2, rfl, o2, d2⟩
  have P2 : Hid (y2.heap[b0]? = some (.cells #[.slice v.code.a v.code.len v.code.cap, .int .i64 m.pc, .slice v.regs.a v.regs.len v.regs.cap, .slice v.data.a v.data.len v.data.cap, .slice v.stk.a v.stk.len v.stk.cap, .slice v.inp.a v.inp.len v.inp.cap, .slice v.out.a v.out.len v.out.cap, .int .i64 m.steps, .int .i64 m.fin, .int .i64 m.val] 25)) := (d2.block _ L1.out).trans P1.out
  have M2 : Hid (MOwn 0 y2 v m ∧ Below w.heap.size w y2 ∧ MIs 0 y2 v2 m2) := ⟨M1.out.1.keep d2, M1.out.2.trans (d2.mono M1.out.2.size), o2⟩
  have p2 : ∀ o j, (y2.alloc o).cell? ⟨b0, j, none⟩ = (#[.slice v.code.a v.code.len v.code.cap, .int .i64 m.pc, .slice v.regs.a v.regs.len v.regs.cap, .slice v.data.a v.data.len v.data.cap, .slice v.stk.a v.stk.len v.stk.cap, .slice v.inp.a v.inp.len v.inp.cap, .slice v.out.a v.out.len v.out.cap, .int .i64 m.steps, .int .i64 m.fin, .int .i64 m.val] : Array Value)[j]? := fun o j => cell_of_row _ b0 j _ 25 (0, 0) ((Below.heap_alloc y2 o b0 (Array.getElem?_eq_some_iff.1 P2.out).1).trans P2.out)
  clear o2 d2 P1 L1 M1
  go_wp2_with fail
  clear p2
  refine calls_at fun y3 hy3 => ?_
  have P3 : Hid (y3.heap[b0]? = some (.cells #[.slice v.code.a v.code.len v.code.cap, .int .i64 m.pc, .slice v.regs.a v.regs.len v.regs.cap, .slice v.data.a v.data.len v.data.cap, .slice v.stk.a v.stk.len v.stk.cap, .slice v.inp.a v.inp.len v.inp.cap, .slice v.out.a v.out.len v.out.cap, .int .i64 m.steps, .int .i64 m.fin, .int .i64 m.val] 25)) := by rw [hy3]; exact (Below.heap_alloc y2 _ b0 (Array.getElem?_eq_some_iff.1 P2.out).1).trans P2.out
  have Q3 : Hid (y3.heap[y2.heap.size]? = some (.cells #[.slice v2.code.a v2.code.len v2.code.cap, .int .i64 m2.pc, .slice v2.regs.a v2.regs.len v2.regs.cap, .slice v2.data.a v2.data.len v2.data.cap, .slice v2.stk.a v2.stk.len v2.stk.cap, .slice v2.inp.a v2.inp.len v2.inp.cap, .slice v2.out.a v2.out.len v2.out.cap, .int .i64 m2.steps, .int .i64 m2.fin, .int .i64 m2.val] 25)) := by rw [hy3]; exact heap_alloc_new y2 _
  have M3 : Hid (MOwn 0 y3 v m ∧ Below w.heap.size w y3 ∧ MIs 0 y3 v2 m2) := by rw [hy3]; exact ⟨M2.out.1.keep (below_alloc _ _), M2.out.2.1.alloc M2.out.2.1.size _, M2.out.2.2.keep (below_alloc _ _)⟩
  obtain ⟨b1, hb1⟩ : ∃ b, b = y2.heap.size := ⟨_, rfl⟩
  rw [← hb1] at Q3 ⊢
  clear hy3 P2 M2 hb1
  refine (TI.out y3 M3.out.1).mono ?_
  rintro e y4 ⟨v4, rfl, o4, d4⟩
  have P4 : Hid (y4.heap[b0]? = some (.cells #[.slice v.code.a v.code.len v.code.cap, .int .i64 m.pc, .slice v.regs.a v.regs.len v.regs.cap, .slice v.data.a v.data.len v.data.cap, .slice v.stk.a v.stk.len v.stk.cap, .slice v.inp.a v.inp.len v.inp.cap, .slice v.out.a v.out.len v.out.cap, .int .i64 m.steps, .int .i64 m.fin, .int .i64 m.val] 25)) := (d4.block _ (Array.getElem?_eq_some_iff.1 P3.out).1).trans P3.out
  have Q4 : Hid (y4.heap[b1]? = some (.cells #[.slice v2.code.a v2.code.len v2.code.cap, .int .i64 m2.pc, .slice v2.regs.a v2.regs.len v2.regs.cap, .slice v2.data.a v2.data.len v2.data.cap, .slice v2.stk.a v2.stk.len v2.stk.cap, .slice v2.inp.a v2.inp.len v2.inp.cap, .slice v2.out.a v2.out.len v2.out.cap, .int .i64 m2.steps, .int .i64 m2.fin, .int .i64 m2.val] 25)) := (d4.block _ (Array.getElem?_eq_some_iff.1 Q3.out).1).trans Q3.out
  have M4 : Hid (MOwn 0 y4 v m ∧ Below w.heap.size w y4 ∧ MIs 0 y4 v2 m2 ∧ MIs 0 y4 v4 m2) := ⟨M3.out.1.keep d4, M3.out.2.1.trans (d4.mono M3.out.2.1.size), M3.out.2.2.keep d4, o4⟩
  have p4 : ∀ o j, (y4.alloc o).cell? ⟨b0, j, none⟩ = (#[.slice v.code.a v.code.len v.code.cap, .int .i64 m.pc, .slice v.regs.a v.regs.len v.regs.cap, .slice v.data.a v.data.len v.data.cap, .slice v.stk.a v.stk.len v.stk.cap, .slice v.inp.a v.inp.len v.inp.cap, .slice v.out.a v.out.len v.out.cap, .int .i64 m.steps, .int .i64 m.fin, .int .i64 m.val] : Array Value)[j]? := fun o j => cell_of_row _ b0 j _ 25 (0, 0) ((Below.heap_alloc y4 o b0 (Array.getElem?_eq_some_iff.1 P4.out).1).trans P4.out)
  have q4 : ∀ o j, (y4.alloc o).cell? ⟨b1, j, none⟩ = (#[.slice v2.code.a v2.code.len v2.code.cap, .int .i64 m2.pc, .slice v2.regs.a v2.regs.len v2.regs.cap, .slice v2.data.a v2.data.len v2.data.cap, .slice v2.stk.a v2.stk.len v2.stk.cap, .slice v2.inp.a v2.inp.len v2.inp.cap, .slice v2.out.a v2.out.len v2.out.cap, .int .i64 m2.steps, .int .i64 m2.fin, .int .i64 m2.val] : Array Value)[j]? := fun o j => cell_of_row _ b1 j _ 25 (0, 0) ((Below.heap_alloc y4 o b1 (Array.getElem?_eq_some_iff.1 Q4.out).1).trans Q4.out)
  clear o4 d4 P3 Q3 M3
  go_wp2_with fail
  clear p4 q4
  refine calls_at fun y5 hy5 => ?_
  have P5 : Hid (y5.heap[b0]? = some (.cells #[.slice v.code.a v.code.len v.code.cap, .int .i64 m.pc, .slice v.regs.a v.regs.len v.regs.cap, .slice v.data.a v.data.len v.data.cap, .slice v.stk.a v.stk.len v.stk.cap, .slice v.inp.a v.inp.len v.inp.cap, .slice v.out.a v.out.len v.out.cap, .int .i64 m.steps, .int .i64 m.fin, .int .i64 m.val] 25)) := by rw [hy5]; exact (Below.heap_alloc y4 _ b0 (Array.getElem?_eq_some_iff.1 P4.out).1).trans P4.out
  have R5 : Hid (y5.heap[y4.heap.size]? = some (.cells #[.slice v4.code.a v4.code.len v4.code.cap, .int .i64 m2.pc, .slice v4.regs.a v4.regs.len v4.regs.cap, .slice v4.data.a v4.data.len v4.data.cap, .slice v4.stk.a v4.stk.len v4.stk.cap, .slice v4.inp.a v4.inp.len v4.inp.cap, .slice v4.out.a v4.out.len v4.out.cap, .int .i64 m2.steps, .int .i64 m2.fin, .int .i64 m2.val] 25)) := by rw [hy5]; exact heap_alloc_new y4 _
  have M5 : Hid (MOwn 0 y5 v m ∧ Below w.heap.size w y5 ∧ MIs 0 y5 v2 m2 ∧ MIs 0 y5 v4 m2) := by rw [hy5]; exact ⟨M4.out.1.keep (below_alloc _ _), M4.out.2.1.alloc M4.out.2.1.size _, M4.out.2.2.1.keep (below_alloc _ _), M4.out.2.2.2.keep (below_alloc _ _)⟩
  obtain ⟨b2, hb2⟩ : ∃ b, b = y4.heap.size := ⟨_, rfl⟩
  rw [← hb2] at R5 ⊢
  clear hy5 P4 Q4 M4 hb2
  refine (sameMachine_same v4 v2 m2 y5 M5.out.2.2.2 M5.out.2.2.1).mono ?_
  rintro e y6 ⟨rfl, d6⟩
  have P6 : Hid (y6.heap[b0]? = some (.cells #[.slice v.code.a v.code.len v.code.cap, .int .i64 m.pc, .slice v.regs.a v.regs.len v.regs.cap, .slice v.data.a v.data.len v.data.cap, .slice v.stk.a v.stk.len v.stk.cap, .slice v.inp.a v.inp.len v.inp.cap, .slice v.out.a v.out.len v.out.cap, .int .i64 m.steps, .int .i64 m.fin, .int .i64 m.val] 25)) := (d6.block _ (Array.getElem?_eq_some_iff.1 P5.out).1).trans P5.out
  have R6 : Hid (y6.heap[b2]? = some (.cells #[.slice v4.code.a v4.code.len v4.code.cap, .int .i64 m2.pc, .slice v4.regs.a v4.regs.len v4.regs.cap, .slice v4.data.a v4.data.len v4.data.cap, .slice v4.stk.a v4.stk.len v4.stk.cap, .slice v4.inp.a v4.inp.len v4.inp.cap, .slice v4.out.a v4.out.len v4.out.cap, .int .i64 m2.steps, .int .i64 m2.fin, .int .i64 m2.val] 25)) := (d6.block _ (Array.getElem?_eq_some_iff.1 R5.out).1).trans R5.out
  have M6 : Hid (MOwn 0 y6 v m ∧ Below w.heap.size w y6 ∧ MIs 0 y6 v4 m2) := ⟨M5.out.1.keep d6, M5.out.2.1.trans (d6.mono M5.out.2.1.size), M5.out.2.2.2.keep d6⟩
  have p6 : ∀ j, y6.cell? ⟨b0, j, none⟩ = (#[.slice v.code.a v.code.len v.code.cap, .int .i64 m.pc, .slice v.regs.a v.regs.len v.regs.cap, .slice v.data.a v.data.len v.data.cap, .slice v.stk.a v.stk.len v.stk.cap, .slice v.inp.a v.inp.len v.inp.cap, .slice v.out.a v.out.len v.out.cap, .int .i64 m.steps, .int .i64 m.fin, .int .i64 m.val] : Array Value)[j]? := fun j => cell_of_row _ b0 j _ 25 (0, 0) P6.out
  clear d6 P5 R5 M5
  go_wp2_with fail
  clear p6
  refine (LS.out y6 M6.out.1).mono ?_
  rintro e y7 ⟨rfl, d7⟩
  have P7 : Hid (y7.heap[b0]? = some (.cells #[.slice v.code.a v.code.len v.code.cap, .int .i64 m.pc, .slice v.regs.a v.regs.len v.regs.cap, .slice v.data.a v.data.len v.data.cap, .slice v.stk.a v.stk.len v.stk.cap, .slice v.inp.a v.inp.len v.inp.cap, .slice v.out.a v.out.len v.out.cap, .int .i64 m.steps, .int .i64 m.fin, .int .i64 m.val] 25)) := (d7.block _ (Array.getElem?_eq_some_iff.1 P6.out).1).trans P6.out
  have R7 : Hid (y7.heap[b2]? = some (.cells #[.slice v4.code.a v4.code.len v4.code.cap, .int .i64 m2.pc, .slice v4.regs.a v4.regs.len v4.regs.cap, .slice v4.data.a v4.data.len v4.data.cap, .slice v4.stk.a v4.stk.len v4.stk.cap, .slice v4.inp.a v4.inp.len v4.inp.cap, .slice v4.out.a v4.out.len v4.out.cap, .int .i64 m2.steps, .int .i64 m2.fin, .int .i64 m2.val] 25)) := (d7.block _ (Array.getElem?_eq_some_iff.1 R6.out).1).trans R6.out
  have M7 : Hid (MOwn 0 y7 v m ∧ Below w.heap.size w y7 ∧ MIs 0 y7 v4 m2) := ⟨M6.out.1.keep d7, M6.out.2.1.trans (d7.mono M6.out.2.1.size), M6.out.2.2.keep d7⟩
  have p7 : ∀ j, y7.cell? ⟨b0, j, none⟩ = (#[.slice v.code.a v.code.len v.code.cap, .int .i64 m.pc, .slice v.regs.a v.regs.len v.regs.cap, .slice v.data.a v.data.len v.data.cap, .slice v.stk.a v.stk.len v.stk.cap, .slice v.inp.a v.inp.len v.inp.cap, .slice v.out.a v.out.len v.out.cap, .int .i64 m.steps, .int .i64 m.fin, .int .i64 m.val] : Array Value)[j]? := fun j => cell_of_row _ b0 j _ 25 (0, 0) P7.out
  clear d7 P6 R6 M6
  go_wp2_with fail
  clear p7
  refine (LI.out y7 M7.out.1).mono ?_
  rintro e y8 ⟨rfl, d8⟩
  have P8 : Hid (y8.heap[b0]? = some (.cells #[.slice v.code.a v.code.len v.code.cap, .int .i64 m.pc, .slice v.regs.a v.regs.len v.regs.cap, .slice v.data.a v.data.len v.data.cap, .slice v.stk.a v.stk.len v.stk.cap, .slice v.inp.a v.inp.len v.inp.cap, .slice v.out.a v.out.len v.out.cap, .int .i64 m.steps, .int .i64 m.fin, .int .i64 m.val] 25)) := (d8.block _ (Array.getElem?_eq_some_iff.1 P7.out).1).trans P7.out
  have R8 : Hid (y8.heap[b2]? = some (.cells #[.slice v4.code.a v4.code.len v4.code.cap, .int .i64 m2.pc, .slice v4.regs.a v4.regs.len v4.regs.cap, .slice v4.data.a v4.data.len v4.data.cap, .slice v4.stk.a v4.stk.len v4.stk.cap, .slice v4.inp.a v4.inp.len v4.inp.cap, .slice v4.out.a v4.out.len v4.out.cap, .int .i64 m2.steps, .int .i64 m2.fin, .int .i64 m2.val] 25)) := (d8.block _ (Array.getElem?_eq_some_iff.1 R7.out).1).trans R7.out
  have M8 : Hid (MOwn 0 y8 v m ∧ Below w.heap.size w y8 ∧ MIs 0 y8 v4 m2) := ⟨M7.out.1.keep d8, M7.out.2.1.trans (d8.mono M7.out.2.1.size), M7.out.2.2.keep d8⟩
  have p8 : ∀ j, y8.cell? ⟨b0, j, none⟩ = (#[.slice v.code.a v.code.len v.code.cap, .int .i64 m.pc, .slice v.regs.a v.regs.len v.regs.cap, .slice v.data.a v.data.len v.data.cap, .slice v.stk.a v.stk.len v.stk.cap, .slice v.inp.a v.inp.len v.inp.cap, .slice v.out.a v.out.len v.out.cap, .int .i64 m.steps, .int .i64 m.fin, .int .i64 m.val] : Array Value)[j]? := fun j => cell_of_row _ b0 j _ 25 (0, 0) P8.out
  have r8 : ∀ j, y8.cell? ⟨b2, j, none⟩ = (#[.slice v4.code.a v4.code.len v4.code.cap, .int .i64 m2.pc, .slice v4.regs.a v4.regs.len v4.regs.cap, .slice v4.data.a v4.data.len v4.data.cap, .slice v4.stk.a v4.stk.len v4.stk.cap, .slice v4.inp.a v4.inp.len v4.inp.cap, .slice v4.out.a v4.out.len v4.out.cap, .int .i64 m2.steps, .int .i64 m2.fin, .int .i64 m2.val] : Array Value)[j]? := fun j => cell_of_row _ b2 j _ 25 (0, 0) R8.out
  clear d8 P7 R7 M7 TS TI LS LI
  by_cases hc : c = 0
  · have hk := HK.out.2 hc
    have ec : (c != 0) = false := by simpa using hc
    have HKK : Hid (ka = Pl.nr kind x ∧ kb = 0) := hk
    clear hk HK hc
    go_wp2_with fail
    refine (specNarrow_any _ _ _).mono ?_
    rintro e y9 ⟨rfl, h9⟩
    rw [h9]
    clear h9 y9
    go_wp2_with fail
    refine (KI.out y8 v4 M8.out.2.2).mono ?_
    rintro e y9 ⟨rfl, d9⟩
    rw [HKK.out.1, HKK.out.2]
    have D9 : Hid (Below w.heap.size w y9) := M8.out.2.1.trans (d9.mono M8.out.2.1.size)
    generalize Pl.nr kind x = N at *
    clear d9 p8 r8
    go_wp2
    go_ret
    exact ⟨rfl, D9.out⟩
  · have ec : (c != 0) = true := by simpa using hc
    have hm2 := HK.out.1 hc
    clear HK hc KI
    subst hm2
    go_wp2_with fail
    refine (sameMachine_same v4 v m2 y8 M8.out.2.2 (mis0 M8.out.1)).mono ?_
    rintro e y9 ⟨rfl, d9⟩
    have D9 : Hid (Below w.heap.size w y9) := M8.out.2.1.trans (d9.mono M8.out.2.1.size)
    clear d9 p8 r8
    go_wp2
    go_ret
    exact ⟨rfl, D9.out⟩
end Go.Proofs.Ytfcfnbncgadomaa.W
