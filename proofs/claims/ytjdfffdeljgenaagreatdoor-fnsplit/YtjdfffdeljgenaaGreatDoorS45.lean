import Derived.Test.YtjdfffdeljgenaaGreatDoorS33
import Derived.Deep.QuietTactic
import Derived.BigQuiet
import Derived.Laws.BytesArg
set_option linter.unusedVariables false
set_option linter.unusedSimpArgs false
namespace Go.Proofs.YtjdfffdeljgenaaGreatDoor.W
open Go.RowKit
set_option maxHeartbeats 2000000 in
theorem sameInts_same {lo lo2 : Nat} (a a' : Option Addr) (len cap len' cap' : Nat) (zs : List Int) (w : World) (h : Row .i64 lo w a len cap zs) (h' : Row .i64 lo2 w a' len' cap' zs) :
    Calls Tryz.prog 16 #[.slice a len cap, .slice a' len' cap'] w fun e w' => e = .returned (.bool true) ∧ Below w.heap.size w w' := by
  have hl : len' = len := by rw [← h'.1, ← h.1]
  subst hl
  have hm : (len' : Int) ≤ 9223372036854775807 := by have := h.small; omega
  have HR : Hid (Row .i64 lo w a len' cap zs) := h
  have HR' : Hid (Row .i64 lo2 w a' len' cap' zs) := h'
  clear h h'
  go_enter Tryz.func16, Tryz.ntmps16
  go_wp2_with fail
  go_loopw [5] (fun i wr => ∃ k : Nat, k ≤ len' ∧ i = .int .i64 k ∧ Below w.heap.size w wr) (fun i _ => len' - (intOf i).toNat)
  case atStart => exact ⟨0, Nat.zero_le _, rfl, Below.refl _ _⟩
  case round =>
    obtain ⟨k, hk, rfl, hbel⟩ := hrel
    have HB : Hid (Below w.heap.size w wr) := hbel
    clear hbel
    by_cases hlt : k < len'
    · have hi : (k : Int) < (len' : Int) := by omega
      obtain ⟨b, off, rfl, hc⟩ : ∃ b off, a = some ⟨b, off, none⟩ ∧ wr.cell? ⟨b, off + k, none⟩ = some (.int .i64 (zs.getD k 0)) := by
        obtain ⟨_, _, _, _, h5⟩ := HR.out.keep HB.out
        rcases h5 with h5 | ⟨b, off, ha, _, _, hc⟩
        · omega
        · exact ⟨b, off, ha, hc k hlt⟩
      obtain ⟨b', off', rfl, hc'⟩ : ∃ b off, a' = some ⟨b, off, none⟩ ∧ wr.cell? ⟨b, off + k, none⟩ = some (.int .i64 (zs.getD k 0)) := by
        obtain ⟨_, _, _, _, h5⟩ := HR'.out.keep HB.out
        rcases h5 with h5 | ⟨b, off, ha, _, _, hc⟩
        · omega
        · exact ⟨b, off, ha, hc k hlt⟩
      generalize zs.getD k 0 = x at *
      go_wp2_with fail
      go_quiet (fail)
      go_wp2_with fail
      go_roundw
      case rel => exact ⟨k + 1, by omega, by go_num, by first | exact HB.out | exact below_drewN HB.out _⟩
      case measure => simp [intOf]; omega
    · have hi : ¬ (k : Int) < (len' : Int) := by omega
      go_wp2
      go_ret
      exact ⟨rfl, HB.out⟩
theorem conv_row {lo : Nat} (a : Option Addr) (len cap : Nat) (zs : List Int) (w : World) (h : Row .u8 lo w a len cap zs) : (convert 22 9 (.slice a len cap)).run Tryz.prog w = .ok (.string (strOfNums zs)) w := by
  obtain ⟨h1, _, _, _, h5⟩ := h
  rcases h5 with h5 | ⟨b, off, rfl, _, _, hc⟩
  · subst h5
    obtain rfl : zs = [] := List.eq_nil_of_length_eq_zero h1
    rw [run_convert_bytes_string w 22 9 5 _ 0 cap Tryz.underlying22 Tryz.underlying5 Tryz.underlying9]
    cases a <;> simp [Conv.bytesToString, loadCells]
    all_goals rfl
  · exact run_convert_bytes_arg w 22 5 Tryz.underlying22 Tryz.underlying5 b off len cap zs h1 hc 9 Tryz.underlying9
theorem sameBytes_same {lo lo2 : Nat} (a a' : Option Addr) (len cap len' cap' : Nat) (zs : List Int) (w : World) (h : Row .u8 lo w a len cap zs) (h' : Row .u8 lo2 w a' len' cap' zs) :
    Calls Tryz.prog 32 #[.slice a len cap, .slice a' len' cap'] w fun e w' => e = .returned (.bool true) ∧ Below w.heap.size w w' := by
  have k1 := conv_row a len cap zs w h
  have k2 := conv_row a' len' cap' zs w h'
  generalize strOfNums zs = S at *
  clear h h'
  go_enter Tryz.func32, Tryz.ntmps32
  go_wp2
  go_ret
  exact ⟨rfl, Below.refl _ _⟩
set_option maxRecDepth 8000 in
set_option maxHeartbeats 4000000 in
theorem sameMachine_same {lo lo2 : Nat} (v v2 : MV) (m : Pl.Mac) (w : World) (h : MIs lo w v m) (h2 : MIs lo2 w v2 m) :
    Calls Tryz.prog 10 #[.agg #[.slice v.code.a v.code.len v.code.cap, .int .i64 m.pc, .slice v.regs.a v.regs.len v.regs.cap, .slice v.data.a v.data.len v.data.cap, .slice v.stk.a v.stk.len v.stk.cap, .slice v.inp.a v.inp.len v.inp.cap, .slice v.out.a v.out.len v.out.cap, .int .i64 m.steps, .int .i64 m.fin, .int .i64 m.val], .agg #[.slice v2.code.a v2.code.len v2.code.cap, .int .i64 m.pc, .slice v2.regs.a v2.regs.len v2.regs.cap, .slice v2.data.a v2.data.len v2.data.cap, .slice v2.stk.a v2.stk.len v2.stk.cap, .slice v2.inp.a v2.inp.len v2.inp.cap, .slice v2.out.a v2.out.len v2.out.cap, .int .i64 m.steps, .int .i64 m.fin, .int .i64 m.val]] w fun e w' => e = .returned (.bool true) ∧ Below w.heap.size w w' := by
  have HI : Hid (MIs lo w v m) := h
  have HJ : Hid (MIs lo2 w v2 m) := h2
  clear h h2
  go_enter Tryz.func10, Tryz.ntmps10
  have QA : Hid (((w.alloc (.cells #[.slice v.code.a v.code.len v.code.cap, .int .i64 m.pc, .slice v.regs.a v.regs.len v.regs.cap, .slice v.data.a v.data.len v.data.cap, .slice v.stk.a v.stk.len v.stk.cap, .slice v.inp.a v.inp.len v.inp.cap, .slice v.out.a v.out.len v.out.cap, .int .i64 m.steps, .int .i64 m.fin, .int .i64 m.val] 25)).alloc (.cells #[.slice v2.code.a v2.code.len v2.code.cap, .int .i64 m.pc, .slice v2.regs.a v2.regs.len v2.regs.cap, .slice v2.data.a v2.data.len v2.data.cap, .slice v2.stk.a v2.stk.len v2.stk.cap, .slice v2.inp.a v2.inp.len v2.inp.cap, .slice v2.out.a v2.out.len v2.out.cap, .int .i64 m.steps, .int .i64 m.fin, .int .i64 m.val] 25)).heap[w.heap.size]? = some (.cells #[.slice v.code.a v.code.len v.code.cap, .int .i64 m.pc, .slice v.regs.a v.regs.len v.regs.cap, .slice v.data.a v.data.len v.data.cap, .slice v.stk.a v.stk.len v.stk.cap, .slice v.inp.a v.inp.len v.inp.cap, .slice v.out.a v.out.len v.out.cap, .int .i64 m.steps, .int .i64 m.fin, .int .i64 m.val] 25)) := (Below.heap_alloc _ _ _ (by simp)).trans (heap_alloc_new w _)
  go_wp2_with fail
  refine calls_at fun u0 hu0 => ?_
  have q0 : u0.heap[w.heap.size]? = some (.cells #[.slice v.code.a v.code.len v.code.cap, .int .i64 m.pc, .slice v.regs.a v.regs.len v.regs.cap, .slice v.data.a v.data.len v.data.cap, .slice v.stk.a v.stk.len v.stk.cap, .slice v.inp.a v.inp.len v.inp.cap, .slice v.out.a v.out.len v.out.cap, .int .i64 m.steps, .int .i64 m.fin, .int .i64 m.val] 25) := by rw [hu0]; exact QA.out
  have p0 : u0.heap[w.heap.size + 1]? = some (.cells #[.slice v2.code.a v2.code.len v2.code.cap, .int .i64 m.pc, .slice v2.regs.a v2.regs.len v2.regs.cap, .slice v2.data.a v2.data.len v2.data.cap, .slice v2.stk.a v2.stk.len v2.stk.cap, .slice v2.inp.a v2.inp.len v2.inp.cap, .slice v2.out.a v2.out.len v2.out.cap, .int .i64 m.steps, .int .i64 m.fin, .int .i64 m.val] 25) := by
    rw [hu0]
    have := heap_alloc_new (w.alloc (.cells #[.slice v.code.a v.code.len v.code.cap, .int .i64 m.pc, .slice v.regs.a v.regs.len v.regs.cap, .slice v.data.a v.data.len v.data.cap, .slice v.stk.a v.stk.len v.stk.cap, .slice v.inp.a v.inp.len v.inp.cap, .slice v.out.a v.out.len v.out.cap, .int .i64 m.steps, .int .i64 m.fin, .int .i64 m.val] 25)) (.cells #[.slice v2.code.a v2.code.len v2.code.cap, .int .i64 m.pc, .slice v2.regs.a v2.regs.len v2.regs.cap, .slice v2.data.a v2.data.len v2.data.cap, .slice v2.stk.a v2.stk.len v2.stk.cap, .slice v2.inp.a v2.inp.len v2.inp.cap, .slice v2.out.a v2.out.len v2.out.cap, .int .i64 m.steps, .int .i64 m.fin, .int .i64 m.val] 25)
    simpa using this
  have B0 : Hid (Below w.heap.size w u0 ∧ w.heap.size + 2 ≤ u0.heap.size) := by
    rw [hu0]; exact ⟨((Below.refl _ _).alloc (Nat.le_refl _) _).alloc (by simp) _, by simp⟩
  clear hu0 QA
  have Q0 : Hid (u0.heap[w.heap.size]? = some (.cells #[.slice v.code.a v.code.len v.code.cap, .int .i64 m.pc, .slice v.regs.a v.regs.len v.regs.cap, .slice v.data.a v.data.len v.data.cap, .slice v.stk.a v.stk.len v.stk.cap, .slice v.inp.a v.inp.len v.inp.cap, .slice v.out.a v.out.len v.out.cap, .int .i64 m.steps, .int .i64 m.fin, .int .i64 m.val] 25)) := q0
  have P0 : Hid (u0.heap[w.heap.size + 1]? = some (.cells #[.slice v2.code.a v2.code.len v2.code.cap, .int .i64 m.pc, .slice v2.regs.a v2.regs.len v2.regs.cap, .slice v2.data.a v2.data.len v2.data.cap, .slice v2.stk.a v2.stk.len v2.stk.cap, .slice v2.inp.a v2.inp.len v2.inp.cap, .slice v2.out.a v2.out.len v2.out.cap, .int .i64 m.steps, .int .i64 m.fin, .int .i64 m.val] 25)) := p0
  clear q0 p0
  refine (sameInts_same _ _ _ _ _ _ m.code u0 (HI.out.keep B0.out.1).1 (HJ.out.keep B0.out.1).1).mono ?_
  rintro e u1 ⟨rfl, d1⟩
  have Q1 : Hid (u1.heap[w.heap.size]? = some (.cells #[.slice v.code.a v.code.len v.code.cap, .int .i64 m.pc, .slice v.regs.a v.regs.len v.regs.cap, .slice v.data.a v.data.len v.data.cap, .slice v.stk.a v.stk.len v.stk.cap, .slice v.inp.a v.inp.len v.inp.cap, .slice v.out.a v.out.len v.out.cap, .int .i64 m.steps, .int .i64 m.fin, .int .i64 m.val] 25)) := (d1.block _ (by have := B0.out.2; omega)).trans Q0.out
  have P1 : Hid (u1.heap[w.heap.size + 1]? = some (.cells #[.slice v2.code.a v2.code.len v2.code.cap, .int .i64 m.pc, .slice v2.regs.a v2.regs.len v2.regs.cap, .slice v2.data.a v2.data.len v2.data.cap, .slice v2.stk.a v2.stk.len v2.stk.cap, .slice v2.inp.a v2.inp.len v2.inp.cap, .slice v2.out.a v2.out.len v2.out.cap, .int .i64 m.steps, .int .i64 m.fin, .int .i64 m.val] 25)) := (d1.block _ (by have := B0.out.2; omega)).trans P0.out
  have B1 : Hid (Below w.heap.size w u1 ∧ w.heap.size + 2 ≤ u1.heap.size) := ⟨B0.out.1.trans (d1.mono (by have := B0.out.2; omega)), Nat.le_trans B0.out.2 d1.size⟩
  clear d1 Q0 P0 B0
  have kq1 : ∀ j, u1.cell? ⟨w.heap.size, j, none⟩ = (#[.slice v.code.a v.code.len v.code.cap, .int .i64 m.pc, .slice v.regs.a v.regs.len v.regs.cap, .slice v.data.a v.data.len v.data.cap, .slice v.stk.a v.stk.len v.stk.cap, .slice v.inp.a v.inp.len v.inp.cap, .slice v.out.a v.out.len v.out.cap, .int .i64 m.steps, .int .i64 m.fin, .int .i64 m.val] : Array Value)[j]? := fun j => cell_of_row u1 w.heap.size j _ 25 (0, 0) Q1.out
  have kp1 : ∀ j, u1.cell? ⟨w.heap.size + 1, j, none⟩ = (#[.slice v2.code.a v2.code.len v2.code.cap, .int .i64 m.pc, .slice v2.regs.a v2.regs.len v2.regs.cap, .slice v2.data.a v2.data.len v2.data.cap, .slice v2.stk.a v2.stk.len v2.stk.cap, .slice v2.inp.a v2.inp.len v2.inp.cap, .slice v2.out.a v2.out.len v2.out.cap, .int .i64 m.steps, .int .i64 m.fin, .int .i64 m.val] : Array Value)[j]? := fun j => cell_of_row u1 (w.heap.size + 1) j _ 25 (0, 0) P1.out
  go_wp2_with fail
  clear kq1 kp1
  refine (sameInts_same _ _ _ _ _ _ m.regs u1 (HI.out.keep B1.out.1).2.1 (HJ.out.keep B1.out.1).2.1).mono ?_
  rintro e u2 ⟨rfl, d2⟩
  have Q2 : Hid (u2.heap[w.heap.size]? = some (.cells #[.slice v.code.a v.code.len v.code.cap, .int .i64 m.pc, .slice v.regs.a v.regs.len v.regs.cap, .slice v.data.a v.data.len v.data.cap, .slice v.stk.a v.stk.len v.stk.cap, .slice v.inp.a v.inp.len v.inp.cap, .slice v.out.a v.out.len v.out.cap, .int .i64 m.steps, .int .i64 m.fin, .int .i64 m.val] 25)) := (d2.block _ (by have := B1.out.2; omega)).trans Q1.out
  have P2 : Hid (u2.heap[w.heap.size + 1]? = some (.cells #[.slice v2.code.a v2.code.len v2.code.cap, .int .i64 m.pc, .slice v2.regs.a v2.regs.len v2.regs.cap, .slice v2.data.a v2.data.len v2.data.cap, .slice v2.stk.a v2.stk.len v2.stk.cap, .slice v2.inp.a v2.inp.len v2.inp.cap, .slice v2.out.a v2.out.len v2.out.cap, .int .i64 m.steps, .int .i64 m.fin, .int .i64 m.val] 25)) := (d2.block _ (by have := B1.out.2; omega)).trans P1.out
  have B2 : Hid (Below w.heap.size w u2 ∧ w.heap.size + 2 ≤ u2.heap.size) := ⟨B1.out.1.trans (d2.mono (by have := B1.out.2; omega)), Nat.le_trans B1.out.2 d2.size⟩
  clear d2 Q1 P1 B1
  have kq2 : ∀ j, u2.cell? ⟨w.heap.size, j, none⟩ = (#[.slice v.code.a v.code.len v.code.cap, .int .i64 m.pc, .slice v.regs.a v.regs.len v.regs.cap, .slice v.data.a v.data.len v.data.cap, .slice v.stk.a v.stk.len v.stk.cap, .slice v.inp.a v.inp.len v.inp.cap, .slice v.out.a v.out.len v.out.cap, .int .i64 m.steps, .int .i64 m.fin, .int .i64 m.val] : Array Value)[j]? := fun j => cell_of_row u2 w.heap.size j _ 25 (0, 0) Q2.out
  have kp2 : ∀ j, u2.cell? ⟨w.heap.size + 1, j, none⟩ = (#[.slice v2.code.a v2.code.len v2.code.cap, .int .i64 m.pc, .slice v2.regs.a v2.regs.len v2.regs.cap, .slice v2.data.a v2.data.len v2.data.cap, .slice v2.stk.a v2.stk.len v2.stk.cap, .slice v2.inp.a v2.inp.len v2.inp.cap, .slice v2.out.a v2.out.len v2.out.cap, .int .i64 m.steps, .int .i64 m.fin, .int .i64 m.val] : Array Value)[j]? := fun j => cell_of_row u2 (w.heap.size + 1) j _ 25 (0, 0) P2.out
  go_wp2_with fail
  clear kq2 kp2
  refine (sameBytes_same _ _ _ _ _ _ m.data u2 (HI.out.keep B2.out.1).2.2.1 (HJ.out.keep B2.out.1).2.2.1).mono ?_
  rintro e u3 ⟨rfl, d3⟩
  have Q3 : Hid (u3.heap[w.heap.size]? = some (.cells #[.slice v.code.a v.code.len v.code.cap, .int .i64 m.pc, .slice v.regs.a v.regs.len v.regs.cap, .slice v.data.a v.data.len v.data.cap, .slice v.stk.a v.stk.len v.stk.cap, .slice v.inp.a v.inp.len v.inp.cap, .slice v.out.a v.out.len v.out.cap, .int .i64 m.steps, .int .i64 m.fin, .int .i64 m.val] 25)) := (d3.block _ (by have := B2.out.2; omega)).trans Q2.out
  have P3 : Hid (u3.heap[w.heap.size + 1]? = some (.cells #[.slice v2.code.a v2.code.len v2.code.cap, .int .i64 m.pc, .slice v2.regs.a v2.regs.len v2.regs.cap, .slice v2.data.a v2.data.len v2.data.cap, .slice v2.stk.a v2.stk.len v2.stk.cap, .slice v2.inp.a v2.inp.len v2.inp.cap, .slice v2.out.a v2.out.len v2.out.cap, .int .i64 m.steps, .int .i64 m.fin, .int .i64 m.val] 25)) := (d3.block _ (by have := B2.out.2; omega)).trans P2.out
  have B3 : Hid (Below w.heap.size w u3 ∧ w.heap.size + 2 ≤ u3.heap.size) := ⟨B2.out.1.trans (d3.mono (by have := B2.out.2; omega)), Nat.le_trans B2.out.2 d3.size⟩
  clear d3 Q2 P2 B2
  have kq3 : ∀ j, u3.cell? ⟨w.heap.size, j, none⟩ = (#[.slice v.code.a v.code.len v.code.cap, .int .i64 m.pc, .slice v.regs.a v.regs.len v.regs.cap, .slice v.data.a v.data.len v.data.cap, .slice v.stk.a v.stk.len v.stk.cap, .slice v.inp.a v.inp.len v.inp.cap, .slice v.out.a v.out.len v.out.cap, .int .i64 m.steps, .int .i64 m.fin, .int .i64 m.val] : Array Value)[j]? := fun j => cell_of_row u3 w.heap.size j _ 25 (0, 0) Q3.out
  have kp3 : ∀ j, u3.cell? ⟨w.heap.size + 1, j, none⟩ = (#[.slice v2.code.a v2.code.len v2.code.cap, .int .i64 m.pc, .slice v2.regs.a v2.regs.len v2.regs.cap, .slice v2.data.a v2.data.len v2.data.cap, .slice v2.stk.a v2.stk.len v2.stk.cap, .slice v2.inp.a v2.inp.len v2.inp.cap, .slice v2.out.a v2.out.len v2.out.cap, .int .i64 m.steps, .int .i64 m.fin, .int .i64 m.val] : Array Value)[j]? := fun j => cell_of_row u3 (w.heap.size + 1) j _ 25 (0, 0) P3.out
  go_wp2_with fail
  clear kq3 kp3
  refine (sameBytes_same _ _ _ _ _ _ m.stk u3 (HI.out.keep B3.out.1).2.2.2.1 (HJ.out.keep B3.out.1).2.2.2.1).mono ?_
  rintro e u4 ⟨rfl, d4⟩
  have Q4 : Hid (u4.heap[w.heap.size]? = some (.cells #[.slice v.code.a v.code.len v.code.cap, .int .i64 m.pc, .slice v.regs.a v.regs.len v.regs.cap, .slice v.data.a v.data.len v.data.cap, .slice v.stk.a v.stk.len v.stk.cap, .slice v.inp.a v.inp.len v.inp.cap, .slice v.out.a v.out.len v.out.cap, .int .i64 m.steps, .int .i64 m.fin, .int .i64 m.val] 25)) := (d4.block _ (by have := B3.out.2; omega)).trans Q3.out
  have P4 : Hid (u4.heap[w.heap.size + 1]? = some (.cells #[.slice v2.code.a v2.code.len v2.code.cap, .int .i64 m.pc, .slice v2.regs.a v2.regs.len v2.regs.cap, .slice v2.data.a v2.data.len v2.data.cap, .slice v2.stk.a v2.stk.len v2.stk.cap, .slice v2.inp.a v2.inp.len v2.inp.cap, .slice v2.out.a v2.out.len v2.out.cap, .int .i64 m.steps, .int .i64 m.fin, .int .i64 m.val] 25)) := (d4.block _ (by have := B3.out.2; omega)).trans P3.out
  have B4 : Hid (Below w.heap.size w u4 ∧ w.heap.size + 2 ≤ u4.heap.size) := ⟨B3.out.1.trans (d4.mono (by have := B3.out.2; omega)), Nat.le_trans B3.out.2 d4.size⟩
  clear d4 Q3 P3 B3
  have kq4 : ∀ j, u4.cell? ⟨w.heap.size, j, none⟩ = (#[.slice v.code.a v.code.len v.code.cap, .int .i64 m.pc, .slice v.regs.a v.regs.len v.regs.cap, .slice v.data.a v.data.len v.data.cap, .slice v.stk.a v.stk.len v.stk.cap, .slice v.inp.a v.inp.len v.inp.cap, .slice v.out.a v.out.len v.out.cap, .int .i64 m.steps, .int .i64 m.fin, .int .i64 m.val] : Array Value)[j]? := fun j => cell_of_row u4 w.heap.size j _ 25 (0, 0) Q4.out
  have kp4 : ∀ j, u4.cell? ⟨w.heap.size + 1, j, none⟩ = (#[.slice v2.code.a v2.code.len v2.code.cap, .int .i64 m.pc, .slice v2.regs.a v2.regs.len v2.regs.cap, .slice v2.data.a v2.data.len v2.data.cap, .slice v2.stk.a v2.stk.len v2.stk.cap, .slice v2.inp.a v2.inp.len v2.inp.cap, .slice v2.out.a v2.out.len v2.out.cap, .int .i64 m.steps, .int .i64 m.fin, .int .i64 m.val] : Array Value)[j]? := fun j => cell_of_row u4 (w.heap.size + 1) j _ 25 (0, 0) P4.out
  go_wp2_with fail
  clear kq4 kp4
  refine (sameBytes_same _ _ _ _ _ _ m.inp u4 (HI.out.keep B4.out.1).2.2.2.2.1 (HJ.out.keep B4.out.1).2.2.2.2.1).mono ?_
  rintro e u5 ⟨rfl, d5⟩
  have Q5 : Hid (u5.heap[w.heap.size]? = some (.cells #[.slice v.code.a v.code.len v.code.cap, .int .i64 m.pc, .slice v.regs.a v.regs.len v.regs.cap, .slice v.data.a v.data.len v.data.cap, .slice v.stk.a v.stk.len v.stk.cap, .slice v.inp.a v.inp.len v.inp.cap, .slice v.out.a v.out.len v.out.cap, .int .i64 m.steps, .int .i64 m.fin, .int .i64 m.val] 25)) := (d5.block _ (by have := B4.out.2; omega)).trans Q4.out
  have P5 : Hid (u5.heap[w.heap.size + 1]? = some (.cells #[.slice v2.code.a v2.code.len v2.code.cap, .int .i64 m.pc, .slice v2.regs.a v2.regs.len v2.regs.cap, .slice v2.data.a v2.data.len v2.data.cap, .slice v2.stk.a v2.stk.len v2.stk.cap, .slice v2.inp.a v2.inp.len v2.inp.cap, .slice v2.out.a v2.out.len v2.out.cap, .int .i64 m.steps, .int .i64 m.fin, .int .i64 m.val] 25)) := (d5.block _ (by have := B4.out.2; omega)).trans P4.out
  have B5 : Hid (Below w.heap.size w u5 ∧ w.heap.size + 2 ≤ u5.heap.size) := ⟨B4.out.1.trans (d5.mono (by have := B4.out.2; omega)), Nat.le_trans B4.out.2 d5.size⟩
  clear d5 Q4 P4 B4
  have kq5 : ∀ j, u5.cell? ⟨w.heap.size, j, none⟩ = (#[.slice v.code.a v.code.len v.code.cap, .int .i64 m.pc, .slice v.regs.a v.regs.len v.regs.cap, .slice v.data.a v.data.len v.data.cap, .slice v.stk.a v.stk.len v.stk.cap, .slice v.inp.a v.inp.len v.inp.cap, .slice v.out.a v.out.len v.out.cap, .int .i64 m.steps, .int .i64 m.fin, .int .i64 m.val] : Array Value)[j]? := fun j => cell_of_row u5 w.heap.size j _ 25 (0, 0) Q5.out
  have kp5 : ∀ j, u5.cell? ⟨w.heap.size + 1, j, none⟩ = (#[.slice v2.code.a v2.code.len v2.code.cap, .int .i64 m.pc, .slice v2.regs.a v2.regs.len v2.regs.cap, .slice v2.data.a v2.data.len v2.data.cap, .slice v2.stk.a v2.stk.len v2.stk.cap, .slice v2.inp.a v2.inp.len v2.inp.cap, .slice v2.out.a v2.out.len v2.out.cap, .int .i64 m.steps, .int .i64 m.fin, .int .i64 m.val] : Array Value)[j]? := fun j => cell_of_row u5 (w.heap.size + 1) j _ 25 (0, 0) P5.out
  go_wp2_with fail
  clear kq5 kp5
  refine (sameBytes_same _ _ _ _ _ _ m.out u5 (HI.out.keep B5.out.1).2.2.2.2.2 (HJ.out.keep B5.out.1).2.2.2.2.2).mono ?_
  rintro e u6 ⟨rfl, d6⟩
  have Q6 : Hid (u6.heap[w.heap.size]? = some (.cells #[.slice v.code.a v.code.len v.code.cap, .int .i64 m.pc, .slice v.regs.a v.regs.len v.regs.cap, .slice v.data.a v.data.len v.data.cap, .slice v.stk.a v.stk.len v.stk.cap, .slice v.inp.a v.inp.len v.inp.cap, .slice v.out.a v.out.len v.out.cap, .int .i64 m.steps, .int .i64 m.fin, .int .i64 m.val] 25)) := (d6.block _ (by have := B5.out.2; omega)).trans Q5.out
  have P6 : Hid (u6.heap[w.heap.size + 1]? = some (.cells #[.slice v2.code.a v2.code.len v2.code.cap, .int .i64 m.pc, .slice v2.regs.a v2.regs.len v2.regs.cap, .slice v2.data.a v2.data.len v2.data.cap, .slice v2.stk.a v2.stk.len v2.stk.cap, .slice v2.inp.a v2.inp.len v2.inp.cap, .slice v2.out.a v2.out.len v2.out.cap, .int .i64 m.steps, .int .i64 m.fin, .int .i64 m.val] 25)) := (d6.block _ (by have := B5.out.2; omega)).trans P5.out
  have B6 : Hid (Below w.heap.size w u6 ∧ w.heap.size + 2 ≤ u6.heap.size) := ⟨B5.out.1.trans (d6.mono (by have := B5.out.2; omega)), Nat.le_trans B5.out.2 d6.size⟩
  clear d6 Q5 P5 B5
  have kq6 : ∀ j, u6.cell? ⟨w.heap.size, j, none⟩ = (#[.slice v.code.a v.code.len v.code.cap, .int .i64 m.pc, .slice v.regs.a v.regs.len v.regs.cap, .slice v.data.a v.data.len v.data.cap, .slice v.stk.a v.stk.len v.stk.cap, .slice v.inp.a v.inp.len v.inp.cap, .slice v.out.a v.out.len v.out.cap, .int .i64 m.steps, .int .i64 m.fin, .int .i64 m.val] : Array Value)[j]? := fun j => cell_of_row u6 w.heap.size j _ 25 (0, 0) Q6.out
  have kp6 : ∀ j, u6.cell? ⟨w.heap.size + 1, j, none⟩ = (#[.slice v2.code.a v2.code.len v2.code.cap, .int .i64 m.pc, .slice v2.regs.a v2.regs.len v2.regs.cap, .slice v2.data.a v2.data.len v2.data.cap, .slice v2.stk.a v2.stk.len v2.stk.cap, .slice v2.inp.a v2.inp.len v2.inp.cap, .slice v2.out.a v2.out.len v2.out.cap, .int .i64 m.steps, .int .i64 m.fin, .int .i64 m.val] : Array Value)[j]? := fun j => cell_of_row u6 (w.heap.size + 1) j _ 25 (0, 0) P6.out
  go_wp2
  go_ret
  exact ⟨rfl, B6.out.1⟩
end Go.Proofs.YtjdfffdeljgenaaGreatDoor.W
