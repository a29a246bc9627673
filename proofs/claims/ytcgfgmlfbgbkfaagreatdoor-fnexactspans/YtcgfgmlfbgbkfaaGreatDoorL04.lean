import Derived.Test.YtcgfgmlfbgbkfaaGreatDoorL03
import Derived.BigQuiet
set_option linter.unusedVariables false
set_option linter.unusedSimpArgs false
namespace Go.Proofs.YtcgfgmlfbgbkfaaGreatDoor.Pl
def insOk (slots : Nat) (regs : Int) (x : IrI) : Prop := (1 ≤ x.op ∧ x.op ≤ 16) ∧ regOk regs x.d (irTab.getD x.op.toNat 0 % 4) = true ∧ regOk regs x.a (irTab.getD x.op.toNat 0 / 4 % 4) = true ∧ regOk regs x.b (irTab.getD x.op.toNat 0 / 16 % 2) = true ∧ numOk slots x.op x.n = true ∧ x.args.length ≤ 8 ∧ (irTab.getD x.op.toNat 0 < 128 → x.args.length = 0) ∧ ∀ k, k < x.args.length → regOk regs (x.args.getD k 0) 1 = true
theorem irTab_bd : ∀ op : Nat, op ≤ 16 → 0 ≤ irTab.getD op 0 ∧ irTab.getD op 0 ≤ 255
  | 0, _ => by decide | 1, _ => by decide | 2, _ => by decide | 3, _ => by decide | 4, _ => by decide | 5, _ => by decide | 6, _ => by decide | 7, _ => by decide | 8, _ => by decide | 9, _ => by decide | 10, _ => by decide | 11, _ => by decide | 12, _ => by decide | 13, _ => by decide | 14, _ => by decide | 15, _ => by decide | 16, _ => by decide
  | n + 17, h => absurd h (by omega)
end Go.Proofs.YtcgfgmlfbgbkfaaGreatDoor.Pl
namespace Go.Proofs.YtcgfgmlfbgbkfaaGreatDoor.W
open Go.RowKit
def IsB (P : Prop) (e : Ending) : Prop := ∃ b : Bool, e = .returned (.bool b) ∧ (b = true ↔ P)
theorem isB_no {P : Prop} (h : ¬ P) : IsB P (.returned (.bool false)) := ⟨false, rfl, ⟨fun c => absurd c (by decide), fun c => absurd c h⟩⟩
theorem isB_yes {P : Prop} (h : P) : IsB P (.returned (.bool true)) := ⟨true, rfl, ⟨fun _ => h, fun _ => rfl⟩⟩
set_option maxHeartbeats 8000000 in
set_option maxRecDepth 4000 in
theorem l10InsOk_any {lo : Nat} (f : Pl.IrF) (v s : SV) (x : Pl.IrI) (q : SV) (hv : v.len ≤ 9223372036854775807) (w : World) (hq : Row .i64 lo w q.a q.len q.cap x.args) : Calls Tryz.prog 47 #[.agg #[.string f.name, .int .i64 f.params, .int .i64 f.regs, .slice v.a v.len v.cap, .slice s.a s.len s.cap], .agg #[.int .i64 x.op, .int .i64 x.d, .int .i64 x.a, .int .i64 x.b, .int .i64 x.n, .string x.sym, .slice q.a q.len q.cap]] w fun e w' => IsB (Pl.insOk v.len f.regs x) e ∧ Below w.heap.size w w' := by
  obtain ⟨o, d, a, b, n, sym, args⟩ := x
  obtain ⟨qa, ql, qc⟩ := q
  simp only at hq ⊢
  have hql : (ql : Int) ≤ 9223372036854775807 := by have := hq.small; omega
  have HQ : Hid (Row .i64 lo w qa ql qc args ∧ args.length = ql) := ⟨hq, hq.1⟩
  clear hq
  have B2 : ∀ o1 o2 : Obj, Below w.heap.size w ((w.alloc o1).alloc o2) := fun o1 o2 => (below_alloc w o1).trans ((below_alloc _ o2).mono (by simp))
  by_cases h1 : 1 ≤ o
  rotate_left
  · go_enter Tryz.func47, Tryz.ntmps47
    go_wp2_with fail
    go_ret
    exact ⟨isB_no (fun c => by have : 1 ≤ o := c.1.1; omega), B2 _ _⟩
  by_cases h2 : o ≤ 16
  rotate_left
  · go_enter Tryz.func47, Tryz.ntmps47
    go_wp2_with fail
    go_ret
    exact ⟨isB_no (fun c => by have : o ≤ 16 := c.1.2; omega), B2 _ _⟩
  obtain ⟨op, rfl⟩ : ∃ op : Nat, o = op := ⟨o.toNat, by omega⟩
  have h16 : op ≤ 16 := by omega
  obtain ⟨uu, huu⟩ : ∃ uu, uu = Pl.irTab.getD op 0 := ⟨_, rfl⟩
  have hub := Pl.irTab_bd op h16
  rw [← huu] at hub
  have HOK : Hid (Pl.insOk v.len f.regs ⟨(op : Int), d, a, b, n, sym, args⟩ ↔ (Pl.regOk f.regs d (uu % 4) = true ∧ Pl.regOk f.regs a (uu / 4 % 4) = true ∧ Pl.regOk f.regs b (uu / 16 % 2) = true ∧ Pl.numOk v.len (op : Int) n = true ∧ args.length ≤ 8 ∧ (uu < 128 → args.length = 0) ∧ ∀ k, k < args.length → Pl.regOk f.regs (args.getD k 0) 1 = true)) := by
    show Pl.insOk v.len f.regs ⟨(op : Int), d, a, b, n, sym, args⟩ ↔ _
    unfold Pl.insOk
    simp only [Int.toNat_natCast, ← huu]
    exact ⟨fun c => c.2, fun c => ⟨⟨h1, h2⟩, c⟩⟩
  have HUU : Hid (Pl.irTab.getD op 0 = uu) := huu.symm
  have hw1 : uu.tmod 4 = uu % 4 := Int.tmod_eq_emod_of_nonneg hub.1
  have hw2 : uu.tdiv 4 = uu / 4 := Int.tdiv_eq_ediv_of_nonneg hub.1
  have hw3 : (uu / 4).tmod 4 = uu / 4 % 4 := Int.tmod_eq_emod_of_nonneg (by omega)
  have hw4 : uu.tdiv 16 = uu / 16 := Int.tdiv_eq_ediv_of_nonneg hub.1
  have hw5 : (uu / 16).tmod 2 = uu / 16 % 2 := Int.tmod_eq_emod_of_nonneg (by omega)
  have hww2 : IntKind.i64.wrap (uu / 4) = uu / 4 := by rw [IntKind.wrap_i64]; omega
  have hww4 : IntKind.i64.wrap (uu / 16) = uu / 16 := by rw [IntKind.wrap_i64]; omega
  clear huu
  go_enter Tryz.func47, Tryz.ntmps47
  go_wp2_with fail
  refine ty_at fun u0 hu0 => ?_
  have H0 : Hid (Below w.heap.size w u0 ∧ u0.heap[w.heap.size]? = some (.cells #[.string f.name, .int .i64 f.params, .int .i64 f.regs, .slice v.a v.len v.cap, .slice s.a s.len s.cap] 31) ∧ u0.heap[w.heap.size + 1]? = some (.cells #[.int .i64 (op : Int), .int .i64 d, .int .i64 a, .int .i64 b, .int .i64 n, .string sym, .slice qa ql qc] 81)) := by
    refine ⟨by rw [hu0]; exact B2 _ _, ?_, ?_⟩
    · rw [hu0, Below.heap_alloc _ _ _ (by simp)]; exact heap_alloc_new w _
    · rw [hu0]; have := heap_alloc_new (w.alloc (.cells #[.string f.name, .int .i64 f.params, .int .i64 f.regs, .slice v.a v.len v.cap, .slice s.a s.len s.cap] 31)) (.cells #[.int .i64 (op : Int), .int .i64 d, .int .i64 a, .int .i64 b, .int .i64 n, .string sym, .slice qa ql qc] 81); simpa using this
  clear hu0 B2
  refine (l10Fields_any op h16 u0).mono ?_
  rintro e u1 ⟨rfl, d1⟩
  rw [HUU.out]
  have H1 : Hid (Below w.heap.size w u1 ∧ u1.heap[w.heap.size]? = some (.cells #[.string f.name, .int .i64 f.params, .int .i64 f.regs, .slice v.a v.len v.cap, .slice s.a s.len s.cap] 31) ∧ u1.heap[w.heap.size + 1]? = some (.cells #[.int .i64 (op : Int), .int .i64 d, .int .i64 a, .int .i64 b, .int .i64 n, .string sym, .slice qa ql qc] 81)) := ⟨H0.out.1.trans (d1.mono H0.out.1.size), (d1.block _ (by have := (Array.getElem?_eq_some_iff.1 H0.out.2.1).1; exact this)).trans H0.out.2.1, (d1.block _ (by have := (Array.getElem?_eq_some_iff.1 H0.out.2.2).1; exact this)).trans H0.out.2.2⟩
  have f0 : u1.cell? ⟨w.heap.size, 0, none⟩ = some (.string f.name) := by rw [cell_of_row u1 _ 0 _ _ (0, 0) H1.out.2.1]; rfl
  have f1 : u1.cell? ⟨w.heap.size, 1, none⟩ = some (.int .i64 f.params) := by rw [cell_of_row u1 _ 1 _ _ (0, 0) H1.out.2.1]; rfl
  have f2 : u1.cell? ⟨w.heap.size, 2, none⟩ = some (.int .i64 f.regs) := by rw [cell_of_row u1 _ 2 _ _ (0, 0) H1.out.2.1]; rfl
  have f3 : u1.cell? ⟨w.heap.size, 3, none⟩ = some (.slice v.a v.len v.cap) := by rw [cell_of_row u1 _ 3 _ _ (0, 0) H1.out.2.1]; rfl
  have f4 : u1.cell? ⟨w.heap.size, 4, none⟩ = some (.slice s.a s.len s.cap) := by rw [cell_of_row u1 _ 4 _ _ (0, 0) H1.out.2.1]; rfl
  have x0 : u1.cell? ⟨w.heap.size + 1, 0, none⟩ = some (.int .i64 (op : Int)) := by rw [cell_of_row u1 _ 0 _ _ (0, 0) H1.out.2.2]; rfl
  have x1 : u1.cell? ⟨w.heap.size + 1, 1, none⟩ = some (.int .i64 d) := by rw [cell_of_row u1 _ 1 _ _ (0, 0) H1.out.2.2]; rfl
  have x2 : u1.cell? ⟨w.heap.size + 1, 2, none⟩ = some (.int .i64 a) := by rw [cell_of_row u1 _ 2 _ _ (0, 0) H1.out.2.2]; rfl
  have x3 : u1.cell? ⟨w.heap.size + 1, 3, none⟩ = some (.int .i64 b) := by rw [cell_of_row u1 _ 3 _ _ (0, 0) H1.out.2.2]; rfl
  have x4 : u1.cell? ⟨w.heap.size + 1, 4, none⟩ = some (.int .i64 n) := by rw [cell_of_row u1 _ 4 _ _ (0, 0) H1.out.2.2]; rfl
  have x5 : u1.cell? ⟨w.heap.size + 1, 5, none⟩ = some (.string sym) := by rw [cell_of_row u1 _ 5 _ _ (0, 0) H1.out.2.2]; rfl
  have x6 : u1.cell? ⟨w.heap.size + 1, 6, none⟩ = some (.slice qa ql qc) := by rw [cell_of_row u1 _ 6 _ _ (0, 0) H1.out.2.2]; rfl
  clear d1 H0
  go_wp2_with fail
  refine (l10RegOk_any f v s d (uu % 4) u1).mono ?_
  rintro e u2 ⟨rfl, d2⟩
  have H2 : Hid (Below w.heap.size w u2 ∧ u2.heap[w.heap.size]? = some (.cells #[.string f.name, .int .i64 f.params, .int .i64 f.regs, .slice v.a v.len v.cap, .slice s.a s.len s.cap] 31) ∧ u2.heap[w.heap.size + 1]? = some (.cells #[.int .i64 (op : Int), .int .i64 d, .int .i64 a, .int .i64 b, .int .i64 n, .string sym, .slice qa ql qc] 81)) := ⟨H1.out.1.trans (d2.mono H1.out.1.size), (d2.block _ (by have := (Array.getElem?_eq_some_iff.1 H1.out.2.1).1; exact this)).trans H1.out.2.1, (d2.block _ (by have := (Array.getElem?_eq_some_iff.1 H1.out.2.2).1; exact this)).trans H1.out.2.2⟩
  clear f0 f1 f2 f3 f4 x0 x1 x2 x3 x4 x5 x6
  have f0 : u2.cell? ⟨w.heap.size, 0, none⟩ = some (.string f.name) := by rw [cell_of_row u2 _ 0 _ _ (0, 0) H2.out.2.1]; rfl
  have f1 : u2.cell? ⟨w.heap.size, 1, none⟩ = some (.int .i64 f.params) := by rw [cell_of_row u2 _ 1 _ _ (0, 0) H2.out.2.1]; rfl
  have f2 : u2.cell? ⟨w.heap.size, 2, none⟩ = some (.int .i64 f.regs) := by rw [cell_of_row u2 _ 2 _ _ (0, 0) H2.out.2.1]; rfl
  have f3 : u2.cell? ⟨w.heap.size, 3, none⟩ = some (.slice v.a v.len v.cap) := by rw [cell_of_row u2 _ 3 _ _ (0, 0) H2.out.2.1]; rfl
  have f4 : u2.cell? ⟨w.heap.size, 4, none⟩ = some (.slice s.a s.len s.cap) := by rw [cell_of_row u2 _ 4 _ _ (0, 0) H2.out.2.1]; rfl
  have x0 : u2.cell? ⟨w.heap.size + 1, 0, none⟩ = some (.int .i64 (op : Int)) := by rw [cell_of_row u2 _ 0 _ _ (0, 0) H2.out.2.2]; rfl
  have x1 : u2.cell? ⟨w.heap.size + 1, 1, none⟩ = some (.int .i64 d) := by rw [cell_of_row u2 _ 1 _ _ (0, 0) H2.out.2.2]; rfl
  have x2 : u2.cell? ⟨w.heap.size + 1, 2, none⟩ = some (.int .i64 a) := by rw [cell_of_row u2 _ 2 _ _ (0, 0) H2.out.2.2]; rfl
  have x3 : u2.cell? ⟨w.heap.size + 1, 3, none⟩ = some (.int .i64 b) := by rw [cell_of_row u2 _ 3 _ _ (0, 0) H2.out.2.2]; rfl
  have x4 : u2.cell? ⟨w.heap.size + 1, 4, none⟩ = some (.int .i64 n) := by rw [cell_of_row u2 _ 4 _ _ (0, 0) H2.out.2.2]; rfl
  have x5 : u2.cell? ⟨w.heap.size + 1, 5, none⟩ = some (.string sym) := by rw [cell_of_row u2 _ 5 _ _ (0, 0) H2.out.2.2]; rfl
  have x6 : u2.cell? ⟨w.heap.size + 1, 6, none⟩ = some (.slice qa ql qc) := by rw [cell_of_row u2 _ 6 _ _ (0, 0) H2.out.2.2]; rfl
  clear d2
  cases r1 : Pl.regOk f.regs d (uu % 4)
  · have HN : Hid (¬ Pl.insOk v.len f.regs ⟨(op : Int), d, a, b, n, sym, args⟩) := fun c => by have := HOK.out.1 c; rw [r1] at this; simp at this
    go_wp2_with fail
    go_ret
    exact ⟨isB_no (HN.out), H2.out.1⟩
  have R1 : Hid (Pl.regOk f.regs d (uu % 4) = true) := r1
  clear r1
  go_wp2_with fail
  refine (l10RegOk_any f v s a (uu / 4 % 4) u2).mono ?_
  rintro e u3 ⟨rfl, d3⟩
  have H3 : Hid (Below w.heap.size w u3 ∧ u3.heap[w.heap.size]? = some (.cells #[.string f.name, .int .i64 f.params, .int .i64 f.regs, .slice v.a v.len v.cap, .slice s.a s.len s.cap] 31) ∧ u3.heap[w.heap.size + 1]? = some (.cells #[.int .i64 (op : Int), .int .i64 d, .int .i64 a, .int .i64 b, .int .i64 n, .string sym, .slice qa ql qc] 81)) := ⟨H2.out.1.trans (d3.mono H2.out.1.size), (d3.block _ (by have := (Array.getElem?_eq_some_iff.1 H2.out.2.1).1; exact this)).trans H2.out.2.1, (d3.block _ (by have := (Array.getElem?_eq_some_iff.1 H2.out.2.2).1; exact this)).trans H2.out.2.2⟩
  clear f0 f1 f2 f3 f4 x0 x1 x2 x3 x4 x5 x6
  have f0 : u3.cell? ⟨w.heap.size, 0, none⟩ = some (.string f.name) := by rw [cell_of_row u3 _ 0 _ _ (0, 0) H3.out.2.1]; rfl
  have f1 : u3.cell? ⟨w.heap.size, 1, none⟩ = some (.int .i64 f.params) := by rw [cell_of_row u3 _ 1 _ _ (0, 0) H3.out.2.1]; rfl
  have f2 : u3.cell? ⟨w.heap.size, 2, none⟩ = some (.int .i64 f.regs) := by rw [cell_of_row u3 _ 2 _ _ (0, 0) H3.out.2.1]; rfl
  have f3 : u3.cell? ⟨w.heap.size, 3, none⟩ = some (.slice v.a v.len v.cap) := by rw [cell_of_row u3 _ 3 _ _ (0, 0) H3.out.2.1]; rfl
  have f4 : u3.cell? ⟨w.heap.size, 4, none⟩ = some (.slice s.a s.len s.cap) := by rw [cell_of_row u3 _ 4 _ _ (0, 0) H3.out.2.1]; rfl
  have x0 : u3.cell? ⟨w.heap.size + 1, 0, none⟩ = some (.int .i64 (op : Int)) := by rw [cell_of_row u3 _ 0 _ _ (0, 0) H3.out.2.2]; rfl
  have x1 : u3.cell? ⟨w.heap.size + 1, 1, none⟩ = some (.int .i64 d) := by rw [cell_of_row u3 _ 1 _ _ (0, 0) H3.out.2.2]; rfl
  have x2 : u3.cell? ⟨w.heap.size + 1, 2, none⟩ = some (.int .i64 a) := by rw [cell_of_row u3 _ 2 _ _ (0, 0) H3.out.2.2]; rfl
  have x3 : u3.cell? ⟨w.heap.size + 1, 3, none⟩ = some (.int .i64 b) := by rw [cell_of_row u3 _ 3 _ _ (0, 0) H3.out.2.2]; rfl
  have x4 : u3.cell? ⟨w.heap.size + 1, 4, none⟩ = some (.int .i64 n) := by rw [cell_of_row u3 _ 4 _ _ (0, 0) H3.out.2.2]; rfl
  have x5 : u3.cell? ⟨w.heap.size + 1, 5, none⟩ = some (.string sym) := by rw [cell_of_row u3 _ 5 _ _ (0, 0) H3.out.2.2]; rfl
  have x6 : u3.cell? ⟨w.heap.size + 1, 6, none⟩ = some (.slice qa ql qc) := by rw [cell_of_row u3 _ 6 _ _ (0, 0) H3.out.2.2]; rfl
  clear d3
  cases r2 : Pl.regOk f.regs a (uu / 4 % 4)
  · have HN : Hid (¬ Pl.insOk v.len f.regs ⟨(op : Int), d, a, b, n, sym, args⟩) := fun c => by have := HOK.out.1 c; rw [r2] at this; simp at this
    go_wp2_with fail
    go_ret
    exact ⟨isB_no (HN.out), H3.out.1⟩
  have R2 : Hid (Pl.regOk f.regs a (uu / 4 % 4) = true) := r2
  clear r2
  go_wp2_with fail
  refine (l10RegOk_any f v s b (uu / 16 % 2) u3).mono ?_
  rintro e u4 ⟨rfl, d4⟩
  have H4 : Hid (Below w.heap.size w u4 ∧ u4.heap[w.heap.size]? = some (.cells #[.string f.name, .int .i64 f.params, .int .i64 f.regs, .slice v.a v.len v.cap, .slice s.a s.len s.cap] 31) ∧ u4.heap[w.heap.size + 1]? = some (.cells #[.int .i64 (op : Int), .int .i64 d, .int .i64 a, .int .i64 b, .int .i64 n, .string sym, .slice qa ql qc] 81)) := ⟨H3.out.1.trans (d4.mono H3.out.1.size), (d4.block _ (by have := (Array.getElem?_eq_some_iff.1 H3.out.2.1).1; exact this)).trans H3.out.2.1, (d4.block _ (by have := (Array.getElem?_eq_some_iff.1 H3.out.2.2).1; exact this)).trans H3.out.2.2⟩
  clear f0 f1 f2 f3 f4 x0 x1 x2 x3 x4 x5 x6
  have f0 : u4.cell? ⟨w.heap.size, 0, none⟩ = some (.string f.name) := by rw [cell_of_row u4 _ 0 _ _ (0, 0) H4.out.2.1]; rfl
  have f1 : u4.cell? ⟨w.heap.size, 1, none⟩ = some (.int .i64 f.params) := by rw [cell_of_row u4 _ 1 _ _ (0, 0) H4.out.2.1]; rfl
  have f2 : u4.cell? ⟨w.heap.size, 2, none⟩ = some (.int .i64 f.regs) := by rw [cell_of_row u4 _ 2 _ _ (0, 0) H4.out.2.1]; rfl
  have f3 : u4.cell? ⟨w.heap.size, 3, none⟩ = some (.slice v.a v.len v.cap) := by rw [cell_of_row u4 _ 3 _ _ (0, 0) H4.out.2.1]; rfl
  have f4 : u4.cell? ⟨w.heap.size, 4, none⟩ = some (.slice s.a s.len s.cap) := by rw [cell_of_row u4 _ 4 _ _ (0, 0) H4.out.2.1]; rfl
  have x0 : u4.cell? ⟨w.heap.size + 1, 0, none⟩ = some (.int .i64 (op : Int)) := by rw [cell_of_row u4 _ 0 _ _ (0, 0) H4.out.2.2]; rfl
  have x1 : u4.cell? ⟨w.heap.size + 1, 1, none⟩ = some (.int .i64 d) := by rw [cell_of_row u4 _ 1 _ _ (0, 0) H4.out.2.2]; rfl
  have x2 : u4.cell? ⟨w.heap.size + 1, 2, none⟩ = some (.int .i64 a) := by rw [cell_of_row u4 _ 2 _ _ (0, 0) H4.out.2.2]; rfl
  have x3 : u4.cell? ⟨w.heap.size + 1, 3, none⟩ = some (.int .i64 b) := by rw [cell_of_row u4 _ 3 _ _ (0, 0) H4.out.2.2]; rfl
  have x4 : u4.cell? ⟨w.heap.size + 1, 4, none⟩ = some (.int .i64 n) := by rw [cell_of_row u4 _ 4 _ _ (0, 0) H4.out.2.2]; rfl
  have x5 : u4.cell? ⟨w.heap.size + 1, 5, none⟩ = some (.string sym) := by rw [cell_of_row u4 _ 5 _ _ (0, 0) H4.out.2.2]; rfl
  have x6 : u4.cell? ⟨w.heap.size + 1, 6, none⟩ = some (.slice qa ql qc) := by rw [cell_of_row u4 _ 6 _ _ (0, 0) H4.out.2.2]; rfl
  clear d4
  cases r3 : Pl.regOk f.regs b (uu / 16 % 2)
  · have HN : Hid (¬ Pl.insOk v.len f.regs ⟨(op : Int), d, a, b, n, sym, args⟩) := fun c => by have := HOK.out.1 c; rw [r3] at this; simp at this
    go_wp2_with fail
    go_ret
    exact ⟨isB_no (HN.out), H4.out.1⟩
  have R3 : Hid (Pl.regOk f.regs b (uu / 16 % 2) = true) := r3
  clear r3
  go_wp2_with fail
  refine (l10NumOk_any f v s ⟨(op : Int), d, a, b, n, sym, args⟩ ⟨qa, ql, qc⟩ hv op rfl h16 u4).mono ?_
  rintro e u5 ⟨rfl, d5⟩
  have H5 : Hid (Below w.heap.size w u5 ∧ u5.heap[w.heap.size]? = some (.cells #[.string f.name, .int .i64 f.params, .int .i64 f.regs, .slice v.a v.len v.cap, .slice s.a s.len s.cap] 31) ∧ u5.heap[w.heap.size + 1]? = some (.cells #[.int .i64 (op : Int), .int .i64 d, .int .i64 a, .int .i64 b, .int .i64 n, .string sym, .slice qa ql qc] 81)) := ⟨H4.out.1.trans (d5.mono H4.out.1.size), (d5.block _ (by have := (Array.getElem?_eq_some_iff.1 H4.out.2.1).1; exact this)).trans H4.out.2.1, (d5.block _ (by have := (Array.getElem?_eq_some_iff.1 H4.out.2.2).1; exact this)).trans H4.out.2.2⟩
  clear f0 f1 f2 f3 f4 x0 x1 x2 x3 x4 x5 x6
  have f0 : u5.cell? ⟨w.heap.size, 0, none⟩ = some (.string f.name) := by rw [cell_of_row u5 _ 0 _ _ (0, 0) H5.out.2.1]; rfl
  have f1 : u5.cell? ⟨w.heap.size, 1, none⟩ = some (.int .i64 f.params) := by rw [cell_of_row u5 _ 1 _ _ (0, 0) H5.out.2.1]; rfl
  have f2 : u5.cell? ⟨w.heap.size, 2, none⟩ = some (.int .i64 f.regs) := by rw [cell_of_row u5 _ 2 _ _ (0, 0) H5.out.2.1]; rfl
  have f3 : u5.cell? ⟨w.heap.size, 3, none⟩ = some (.slice v.a v.len v.cap) := by rw [cell_of_row u5 _ 3 _ _ (0, 0) H5.out.2.1]; rfl
  have f4 : u5.cell? ⟨w.heap.size, 4, none⟩ = some (.slice s.a s.len s.cap) := by rw [cell_of_row u5 _ 4 _ _ (0, 0) H5.out.2.1]; rfl
  have x0 : u5.cell? ⟨w.heap.size + 1, 0, none⟩ = some (.int .i64 (op : Int)) := by rw [cell_of_row u5 _ 0 _ _ (0, 0) H5.out.2.2]; rfl
  have x1 : u5.cell? ⟨w.heap.size + 1, 1, none⟩ = some (.int .i64 d) := by rw [cell_of_row u5 _ 1 _ _ (0, 0) H5.out.2.2]; rfl
  have x2 : u5.cell? ⟨w.heap.size + 1, 2, none⟩ = some (.int .i64 a) := by rw [cell_of_row u5 _ 2 _ _ (0, 0) H5.out.2.2]; rfl
  have x3 : u5.cell? ⟨w.heap.size + 1, 3, none⟩ = some (.int .i64 b) := by rw [cell_of_row u5 _ 3 _ _ (0, 0) H5.out.2.2]; rfl
  have x4 : u5.cell? ⟨w.heap.size + 1, 4, none⟩ = some (.int .i64 n) := by rw [cell_of_row u5 _ 4 _ _ (0, 0) H5.out.2.2]; rfl
  have x5 : u5.cell? ⟨w.heap.size + 1, 5, none⟩ = some (.string sym) := by rw [cell_of_row u5 _ 5 _ _ (0, 0) H5.out.2.2]; rfl
  have x6 : u5.cell? ⟨w.heap.size + 1, 6, none⟩ = some (.slice qa ql qc) := by rw [cell_of_row u5 _ 6 _ _ (0, 0) H5.out.2.2]; rfl
  clear d5
  cases r4 : Pl.numOk v.len (op : Int) n
  · have HN : Hid (¬ Pl.insOk v.len f.regs ⟨(op : Int), d, a, b, n, sym, args⟩) := fun c => by have := HOK.out.1 c; rw [r4] at this; simp at this
    go_wp2_with fail
    go_ret
    exact ⟨isB_no (HN.out), H5.out.1⟩
  have R4 : Hid (Pl.numOk v.len (op : Int) n = true) := r4
  clear r4
  by_cases h8 : (8 : Int) < (ql : Int)
  · have HN : Hid (¬ Pl.insOk v.len f.regs ⟨(op : Int), d, a, b, n, sym, args⟩) := fun c => by have := (HOK.out.1 c).2.2.2.2.1; have := HQ.out.2; omega
    go_wp2_with fail
    go_ret
    exact ⟨isB_no (HN.out), H5.out.1⟩
  by_cases h128 : uu < 128 ∧ (0 : Int) < (ql : Int)
  · obtain ⟨h3, h4⟩ := h128
    have HN : Hid (¬ Pl.insOk v.len f.regs ⟨(op : Int), d, a, b, n, sym, args⟩) := fun c => by have := (HOK.out.1 c).2.2.2.2.2.1 h3; have := HQ.out.2; omega
    go_wp2_with fail
    go_ret
    exact ⟨isB_no (HN.out), H5.out.1⟩
  have HA : Hid (Pl.insOk v.len f.regs ⟨(op : Int), d, a, b, n, sym, args⟩ ↔ ∀ k, k < args.length → Pl.regOk f.regs (args.getD k 0) 1 = true) := ⟨fun c => (HOK.out.1 c).2.2.2.2.2.2, fun c => HOK.out.2 ⟨R1.out, R2.out, R3.out, R4.out, by have := HQ.out.2; omega, fun h => by have := HQ.out.2; omega, c⟩⟩
  by_cases h3 : uu < 128
  · have h4 : ¬ ((0 : Int) < (ql : Int)) := fun c => h128 ⟨h3, c⟩
    clear h128
    go_wp2_with fail
    go_loopw [6] (fun t wr => ∃ k : Nat, k ≤ ql ∧ t = .int .i64 k ∧ Hid ((Below w.heap.size w wr ∧ wr.heap[w.heap.size]? = some (.cells #[.string f.name, .int .i64 f.params, .int .i64 f.regs, .slice v.a v.len v.cap, .slice s.a s.len s.cap] 31) ∧ wr.heap[w.heap.size + 1]? = some (.cells #[.int .i64 (op : Int), .int .i64 d, .int .i64 a, .int .i64 b, .int .i64 n, .string sym, .slice qa ql qc] 81)) ∧ ∀ i, i < k → Pl.regOk f.regs (args.getD i 0) 1 = true)) (fun t _ => ql - (intOf t).toNat)
    case atStart => exact ⟨0, Nat.zero_le _, rfl, H5.out, fun i hi => absurd hi (Nat.not_lt_zero _)⟩
    case round =>
      clear f0 f1 f2 f3 f4 x0 x1 x2 x3 x4 x5 x6
      obtain ⟨k, hk, rfl, S⟩ := hrel
      have SB : Hid (Below w.heap.size w wr ∧ wr.heap[w.heap.size]? = some (.cells #[.string f.name, .int .i64 f.params, .int .i64 f.regs, .slice v.a v.len v.cap, .slice s.a s.len s.cap] 31) ∧ wr.heap[w.heap.size + 1]? = some (.cells #[.int .i64 (op : Int), .int .i64 d, .int .i64 a, .int .i64 b, .int .i64 n, .string sym, .slice qa ql qc] 81)) := S.out.1
      have f0 : wr.cell? ⟨w.heap.size, 0, none⟩ = some (.string f.name) := by rw [cell_of_row wr _ 0 _ _ (0, 0) SB.out.2.1]; rfl
      have f1 : wr.cell? ⟨w.heap.size, 1, none⟩ = some (.int .i64 f.params) := by rw [cell_of_row wr _ 1 _ _ (0, 0) SB.out.2.1]; rfl
      have f2 : wr.cell? ⟨w.heap.size, 2, none⟩ = some (.int .i64 f.regs) := by rw [cell_of_row wr _ 2 _ _ (0, 0) SB.out.2.1]; rfl
      have f3 : wr.cell? ⟨w.heap.size, 3, none⟩ = some (.slice v.a v.len v.cap) := by rw [cell_of_row wr _ 3 _ _ (0, 0) SB.out.2.1]; rfl
      have f4 : wr.cell? ⟨w.heap.size, 4, none⟩ = some (.slice s.a s.len s.cap) := by rw [cell_of_row wr _ 4 _ _ (0, 0) SB.out.2.1]; rfl
      have x0 : wr.cell? ⟨w.heap.size + 1, 0, none⟩ = some (.int .i64 (op : Int)) := by rw [cell_of_row wr _ 0 _ _ (0, 0) SB.out.2.2]; rfl
      have x1 : wr.cell? ⟨w.heap.size + 1, 1, none⟩ = some (.int .i64 d) := by rw [cell_of_row wr _ 1 _ _ (0, 0) SB.out.2.2]; rfl
      have x2 : wr.cell? ⟨w.heap.size + 1, 2, none⟩ = some (.int .i64 a) := by rw [cell_of_row wr _ 2 _ _ (0, 0) SB.out.2.2]; rfl
      have x3 : wr.cell? ⟨w.heap.size + 1, 3, none⟩ = some (.int .i64 b) := by rw [cell_of_row wr _ 3 _ _ (0, 0) SB.out.2.2]; rfl
      have x4 : wr.cell? ⟨w.heap.size + 1, 4, none⟩ = some (.int .i64 n) := by rw [cell_of_row wr _ 4 _ _ (0, 0) SB.out.2.2]; rfl
      have x5 : wr.cell? ⟨w.heap.size + 1, 5, none⟩ = some (.string sym) := by rw [cell_of_row wr _ 5 _ _ (0, 0) SB.out.2.2]; rfl
      have x6 : wr.cell? ⟨w.heap.size + 1, 6, none⟩ = some (.slice qa ql qc) := by rw [cell_of_row wr _ 6 _ _ (0, 0) SB.out.2.2]; rfl
      by_cases hlt : k < ql
      · omega
      · have hkk : k = ql := by omega
        have hki : ¬ ((k : Int) < (ql : Int)) := by omega
        go_wp2_with fail
        go_ret
        exact ⟨isB_yes (HA.out.2 (fun i hi => S.out.2 i (by have := HQ.out.2; omega))), SB.out.1⟩
  · clear h128
    go_wp2_with fail
    go_loopw [6] (fun t wr => ∃ k : Nat, k ≤ ql ∧ t = .int .i64 k ∧ Hid ((Below w.heap.size w wr ∧ wr.heap[w.heap.size]? = some (.cells #[.string f.name, .int .i64 f.params, .int .i64 f.regs, .slice v.a v.len v.cap, .slice s.a s.len s.cap] 31) ∧ wr.heap[w.heap.size + 1]? = some (.cells #[.int .i64 (op : Int), .int .i64 d, .int .i64 a, .int .i64 b, .int .i64 n, .string sym, .slice qa ql qc] 81)) ∧ ∀ i, i < k → Pl.regOk f.regs (args.getD i 0) 1 = true)) (fun t _ => ql - (intOf t).toNat)
    case atStart => exact ⟨0, Nat.zero_le _, rfl, H5.out, fun i hi => absurd hi (Nat.not_lt_zero _)⟩
    case round =>
      clear f0 f1 f2 f3 f4 x0 x1 x2 x3 x4 x5 x6
      obtain ⟨k, hk, rfl, S⟩ := hrel
      have SB : Hid (Below w.heap.size w wr ∧ wr.heap[w.heap.size]? = some (.cells #[.string f.name, .int .i64 f.params, .int .i64 f.regs, .slice v.a v.len v.cap, .slice s.a s.len s.cap] 31) ∧ wr.heap[w.heap.size + 1]? = some (.cells #[.int .i64 (op : Int), .int .i64 d, .int .i64 a, .int .i64 b, .int .i64 n, .string sym, .slice qa ql qc] 81)) := S.out.1
      have f0 : wr.cell? ⟨w.heap.size, 0, none⟩ = some (.string f.name) := by rw [cell_of_row wr _ 0 _ _ (0, 0) SB.out.2.1]; rfl
      have f1 : wr.cell? ⟨w.heap.size, 1, none⟩ = some (.int .i64 f.params) := by rw [cell_of_row wr _ 1 _ _ (0, 0) SB.out.2.1]; rfl
      have f2 : wr.cell? ⟨w.heap.size, 2, none⟩ = some (.int .i64 f.regs) := by rw [cell_of_row wr _ 2 _ _ (0, 0) SB.out.2.1]; rfl
      have f3 : wr.cell? ⟨w.heap.size, 3, none⟩ = some (.slice v.a v.len v.cap) := by rw [cell_of_row wr _ 3 _ _ (0, 0) SB.out.2.1]; rfl
      have f4 : wr.cell? ⟨w.heap.size, 4, none⟩ = some (.slice s.a s.len s.cap) := by rw [cell_of_row wr _ 4 _ _ (0, 0) SB.out.2.1]; rfl
      have x0 : wr.cell? ⟨w.heap.size + 1, 0, none⟩ = some (.int .i64 (op : Int)) := by rw [cell_of_row wr _ 0 _ _ (0, 0) SB.out.2.2]; rfl
      have x1 : wr.cell? ⟨w.heap.size + 1, 1, none⟩ = some (.int .i64 d) := by rw [cell_of_row wr _ 1 _ _ (0, 0) SB.out.2.2]; rfl
      have x2 : wr.cell? ⟨w.heap.size + 1, 2, none⟩ = some (.int .i64 a) := by rw [cell_of_row wr _ 2 _ _ (0, 0) SB.out.2.2]; rfl
      have x3 : wr.cell? ⟨w.heap.size + 1, 3, none⟩ = some (.int .i64 b) := by rw [cell_of_row wr _ 3 _ _ (0, 0) SB.out.2.2]; rfl
      have x4 : wr.cell? ⟨w.heap.size + 1, 4, none⟩ = some (.int .i64 n) := by rw [cell_of_row wr _ 4 _ _ (0, 0) SB.out.2.2]; rfl
      have x5 : wr.cell? ⟨w.heap.size + 1, 5, none⟩ = some (.string sym) := by rw [cell_of_row wr _ 5 _ _ (0, 0) SB.out.2.2]; rfl
      have x6 : wr.cell? ⟨w.heap.size + 1, 6, none⟩ = some (.slice qa ql qc) := by rw [cell_of_row wr _ 6 _ _ (0, 0) SB.out.2.2]; rfl
      by_cases hlt : k < ql
      · have hki : (k : Int) < (ql : Int) := by omega
        obtain ⟨b9, o9, rfl, _, hb9, hc9⟩ := ((HQ.out.1.keep SB.out.1).2.2.2.2).resolve_left (by omega)
        have c9 := hc9 k hlt
        obtain ⟨z, hz⟩ : ∃ z, z = args.getD k 0 := ⟨_, rfl⟩
        rw [← hz] at c9
        have HZ : Hid (z = args.getD k 0) := hz
        clear hc9 hz
        cases r : Pl.regOk f.regs z 1
        · have R : Hid (Pl.regOk f.regs z 1 = false) := r
          have HN : Hid (¬ Pl.insOk v.len f.regs ⟨(op : Int), d, a, b, n, sym, args⟩) := fun c => by have := HA.out.1 c k (by have := HQ.out.2; omega); rw [← HZ.out, R.out] at this; cases this
          clear r
          go_wp2_with fail
          go_region_with (go_at_call 87; refine (l10RegOk_any f v s z 1 _).mono ?_; rintro e u6 ⟨rfl, d6⟩; rw [R.out])
          all_goals
            go_wp2_with fail
            go_ret
            exact ⟨isB_no HN.out, SB.out.1.trans (Below.mono (Below.trans (by repeat (first | with_reducible exact Below.refl _ _ | refine Below.drew ?_ | refine below_drewN ?_ _)) (Below.mono d6 (Nat.le_refl _))) SB.out.1.size)⟩
        · have R : Hid (Pl.regOk f.regs z 1 = true) := r
          clear r
          go_wp2_with fail
          go_region_with (go_at_call 87; refine (l10RegOk_any f v s z 1 _).mono ?_; rintro e u6 ⟨rfl, d6⟩; rw [R.out])
          all_goals
            have D6 : Hid (Below wr.heap.size wr u6) := Below.trans (by repeat (first | with_reducible exact Below.refl _ _ | refine Below.drew ?_ | refine below_drewN ?_ _)) (Below.mono d6 (Nat.le_refl _))
            clear d6
            clear f0 f1 f2 f3 f4 x0 x1 x2 x3 x4 x5 x6
            clear c9
            go_wp2_with fail
            go_roundw
            case rel => exact ⟨k + 1, by omega, by go_num, ⟨SB.out.1.trans (D6.out.mono SB.out.1.size), (D6.out.block _ (Array.getElem?_eq_some_iff.1 SB.out.2.1).1).trans SB.out.2.1, (D6.out.block _ (Array.getElem?_eq_some_iff.1 SB.out.2.2).1).trans SB.out.2.2⟩, fun i hi => by
              by_cases e : i = k
              · rw [e, ← HZ.out]; exact R.out
              · exact S.out.2 i (by omega)⟩
            case measure => simp [intOf]; omega
      · have hkk : k = ql := by omega
        have hki : ¬ ((k : Int) < (ql : Int)) := by omega
        go_wp2_with fail
        go_ret
        exact ⟨isB_yes (HA.out.2 (fun i hi => S.out.2 i (by have := HQ.out.2; omega))), SB.out.1⟩
end Go.Proofs.YtcgfgmlfbgbkfaaGreatDoor.W
