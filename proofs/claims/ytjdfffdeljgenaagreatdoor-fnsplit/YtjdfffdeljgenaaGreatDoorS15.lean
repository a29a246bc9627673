import Derived.Test.YtjdfffdeljgenaaGreatDoorS14
import Derived.Laws.BitsAllLaws
import Derived.Test.YtjdfffdeljgenaaGreatDoorS02
import Derived.Test.YtjdfffdeljgenaaGreatDoorS03
import Derived.Test.YtjdfffdeljgenaaGreatDoorS04
set_option linter.unusedVariables false
set_option linter.unusedSimpArgs false
namespace Go.Proofs.YtjdfffdeljgenaaGreatDoor.Pl
theorem and_even (n : Nat) (h : n < 18446744073709551616) : n &&& 18446744073709551614 = n - n % 2 := by
  have h1 : (n &&& 18446744073709551614) / 2 = n / 2 := by
    rw [Nat.and_div_two, show (18446744073709551614 : Nat) / 2 = 2 ^ 63 - 1 by decide, Nat.and_two_pow_sub_one_eq_mod]
    exact Nat.mod_eq_of_lt (by omega)
  have h2 : (n &&& 18446744073709551614) % 2 = 0 := by
    have := Nat.and_mod_two_pow (a := n) (b := 18446744073709551614) (n := 1)
    simpa using this
  omega
theorem andNot_one (x : Int) (h : -9223372036854775808 ≤ x ∧ x ≤ 9223372036854775807) : bits .andNot .i64 x 1 = x - x % 2 := by
  show IntKind.i64.wrap ((BitVec.ofInt 64 x &&& ~~~BitVec.ofInt 64 1).toNat : Int) = _
  have hn : ((BitVec.ofInt 64 x).toNat : Int) = x % 18446744073709551616 := by
    rw [BitVec.toNat_ofInt]; omega
  have hl : (BitVec.ofInt 64 x).toNat < 18446744073709551616 := (BitVec.ofInt 64 x).isLt
  have h1 : (~~~BitVec.ofInt 64 1).toNat = 18446744073709551614 := by decide
  rw [BitVec.toNat_and, h1, and_even _ hl, IntKind.wrap_i64]
  generalize (BitVec.ofInt 64 x).toNat = n at hn hl
  omega
end Go.Proofs.YtjdfffdeljgenaaGreatDoor.Pl
namespace Go.Proofs.YtjdfffdeljgenaaGreatDoor.W
open Go.RowKit
set_option maxRecDepth 8000 in
set_option maxHeartbeats 4000000 in
theorem rdo_jalr {D : Nat → Prop} {p g : Nat} {u : World} {v : MV} {m : Pl.Mac} (h : Rr D p g u v m) (hv : Pl.Vd m) (hfin : m.fin = 0) (i : Pl.Ins) (hi : Pl.InsOk i) (h1 : i.op = 33) : Calls Tryz.prog 62 #[.pointer (some ⟨p, 0, none⟩), .agg #[.int .i64 i.op, .int .i64 i.rd, .int .i64 i.r1, .int .i64 i.r2, .int .i64 i.im]] u fun e u' => e = .returned (.tuple #[]) ∧ (∃ v', MemS v v' ∧ Run D g u' v' ({ Pl.setR m i.rd (m.pc + 4) with pc := Pl.wd (Pl.rv m i.r1 + i.im) - Pl.wd (Pl.rv m i.r1 + i.im) % 2 })) ∧ St D u u' := by
  obtain ⟨r, c, hr, hc, hf⟩ := h.run.regsAt hv.regs
  have cm := fl_alloc h.ptr
  have cp := fl_alloc (h.run.cell 1 : u.cell? ⟨g, 1, none⟩ = some (.int .i64 m.pc))
  have c8 := fl_alloc (show u.cell? ⟨g, 8, none⟩ = some (.int .i64 0) by rw [h.run.cell 8, ← hfin]; rfl)
  have f1 : ∀ o, (u.alloc o).frozen? ⟨g, 1, none⟩ = false := fun o => (h.run.keep (below_alloc u o)).unfrozen 1
  have cr := fl_alloc (show u.cell? ⟨g, 2, none⟩ = some (.slice (some ⟨r, 0, none⟩) 32 c) by rw [h.run.cell 2, hr]; rfl)
  have ca := fl_alloc (hc i.r1 (by have := hi.r1; omega) : u.cell? ⟨r, i.r1, none⟩ = some (.int .i64 (Pl.rv m i.r1)))
  have cb := fl_alloc (hc i.r2 (by have := hi.r2; omega) : u.cell? ⟨r, i.r2, none⟩ = some (.int .i64 (Pl.rv m i.r2)))
  have l1 : (i.r1 : Int) < 32 := by have := hi.r1; omega
  have l2 : (i.r2 : Int) < 32 := by have := hi.r2; omega
  have hw4 : IntKind.i64.wrap (m.pc + 4) = m.pc + 4 := by have := hv.pc; rw [IntKind.wrap_i64]; omega
  have hwi : IntKind.i64.wrap (m.pc + i.im) = m.pc + i.im := by have := hv.pc; have := hi.im; rw [IntKind.wrap_i64]; omega
  have hwm : IntKind.i64.wrap (i.im * 4096) = i.im * 4096 := by have := hi.im; rw [IntKind.wrap_i64]; omega
  have hwp : IntKind.i64.wrap (m.pc + i.im * 4096) = m.pc + i.im * 4096 := by have := hv.pc; have := hi.im; rw [IntKind.wrap_i64]; omega
  have o18 : decide (i.op ≤ 18) = false := by rw [h1]; decide
  have o27 : decide (i.op ≤ 27) = false := by rw [h1]; decide
  have o32 : decide (i.op ≤ 32) = false := by rw [h1]; decide
  have o33 : (i.op == 33) = true := by rw [h1]; decide
  have HI : Hid (i.op = 33) := h1
  clear h1
  obtain ⟨Y, hY, hYe⟩ : ∃ Y, bits .andNot .i64 (Pl.rv m i.r1 + i.im) 1 = Y ∧ Pl.wd (Pl.rv m i.r1 + i.im) - Pl.wd (Pl.rv m i.r1 + i.im) % 2 = Pl.wd Y := ⟨_, rfl, by rw [Pl.andNot_one _ (by have := hv.word i.r1 (by have := hi.r1; omega); have := hi.im; unfold Pl.rv; omega)]; unfold Pl.wd; omega⟩
  have hwa : IntKind.i64.wrap (Pl.rv m i.r1 + i.im) = Pl.rv m i.r1 + i.im := by have := hv.word i.r1 (by have := hi.r1; omega); have := hi.im; rw [IntKind.wrap_i64]; unfold Pl.rv; omega
  rw [hYe]
  clear hYe
  replace ca : ∀ o, (u.alloc o).cell? ⟨r, i.r1, none⟩ = some (.int .i64 (Pl.rv m i.r1)) := ca
  have hwb : wrap64 (Pl.rv m i.r1 + i.im) = Pl.rv m i.r1 + i.im := by have := hv.word i.r1 (by have := hi.r1; omega); have := hi.im; unfold wrap64; unfold Pl.rv; omega
  have HS : Hid (∀ U : World, Below u.heap.size u U → U.heap[u.heap.size]? = some (.cells #[.int .i64 i.op, .int .i64 i.rd, .int .i64 i.r1, .int .i64 i.r2, .int .i64 i.im] 74) → Calls Tryz.prog 80 #[.pointer (some ⟨p, 0, none⟩), .int .i64 i.rd, .int .i64 (m.pc + 4)] U fun e u2 => e = .returned (.tuple #[]) ∧ (Run D g u2 v (Pl.setR m i.rd (m.pc + 4)) ∧ St D u u2) ∧ u2.cell? ⟨g, 1, none⟩ = some (.int .i64 m.pc) ∧ u2.cell? ⟨g, 8, none⟩ = some (.int .i64 0) ∧ u2.frozen? ⟨g, 1, none⟩ = false ∧ u2.cell? ⟨u.heap.size, 4, none⟩ = some (.int .i64 i.im)) := fun U hU hq => h.set hv hfin hi hU hq _
  generalize Pl.setR m i.rd (m.pc + 4) = m2 at *
  clear h hc hf hr hfin hv
  generalize Pl.rv m i.r1 = a at *
  go_enter Tryz.func62, Tryz.ntmps62
  go_wp2_with fail
  go_region
  go_wp2_with (first | (go_at_call 80;  refine (HS.out _ (by repeat (first | exact below_alloc _ _ | refine Below.drew ?_ | refine below_drewN ?_ _)) (by exact heap_alloc_new u _)).mono ?_; rintro e u2 ⟨rfl, hr2, z1, z8, zf, z4⟩; have H2 : Hid (Run D g u2 v m2 ∧ St D u u2) := hr2; clear hr2) | (go_at_call 64; refine (implWord_any _ _).mono ?_; rintro e u3 ⟨rfl, rfl⟩))
  all_goals
    go_end0
    first | exact ⟨rfl, ⟨v, MemS.refl v, H2.out.1.setPc _⟩, H2.out.2.trans (St.set (H2.out.1.ne 0 rfl))⟩ | exact ⟨rfl, ⟨v, MemS.refl v, (H2.out.1.keep (below_drewN (Below.refl _ _) 1)).setPc _⟩, (H2.out.2.trans (H2.out.1.st (below_drewN (Below.refl _ _) 1))).trans (St.set (H2.out.1.ne 0 rfl))⟩
set_option maxRecDepth 8000 in
set_option maxHeartbeats 4000000 in
theorem rdo_call_bad {D : Nat → Prop} {p g : Nat} {u : World} {v : MV} {m : Pl.Mac} (h : Rr D p g u v m) (hv : Pl.Vd m) (hfin : m.fin = 0) (i : Pl.Ins) (hi : Pl.InsOk i) (h1 : i.op = 46) (he : (Pl.ecall m).2 ≠ 0) : Calls Tryz.prog 62 #[.pointer (some ⟨p, 0, none⟩), .agg #[.int .i64 i.op, .int .i64 i.rd, .int .i64 i.r1, .int .i64 i.r2, .int .i64 i.im]] u fun e u' => e = ends (Pl.ecall m).2 ∧ (∃ v', MemS v v' ∧ Run D g u' v' (Pl.ecall m).1) ∧ St D u u' := by
  obtain ⟨r, c, hr, hc, hf⟩ := h.run.regsAt hv.regs
  have cm := fl_alloc h.ptr
  have cp := fl_alloc (h.run.cell 1 : u.cell? ⟨g, 1, none⟩ = some (.int .i64 m.pc))
  have c8 := fl_alloc (show u.cell? ⟨g, 8, none⟩ = some (.int .i64 0) by rw [h.run.cell 8, ← hfin]; rfl)
  have f1 : ∀ o, (u.alloc o).frozen? ⟨g, 1, none⟩ = false := fun o => (h.run.keep (below_alloc u o)).unfrozen 1
  have cr := fl_alloc (show u.cell? ⟨g, 2, none⟩ = some (.slice (some ⟨r, 0, none⟩) 32 c) by rw [h.run.cell 2, hr]; rfl)
  have ca := fl_alloc (hc i.r1 (by have := hi.r1; omega) : u.cell? ⟨r, i.r1, none⟩ = some (.int .i64 (Pl.rv m i.r1)))
  have cb := fl_alloc (hc i.r2 (by have := hi.r2; omega) : u.cell? ⟨r, i.r2, none⟩ = some (.int .i64 (Pl.rv m i.r2)))
  have l1 : (i.r1 : Int) < 32 := by have := hi.r1; omega
  have l2 : (i.r2 : Int) < 32 := by have := hi.r2; omega
  have hw4 : IntKind.i64.wrap (m.pc + 4) = m.pc + 4 := by have := hv.pc; rw [IntKind.wrap_i64]; omega
  have hwi : IntKind.i64.wrap (m.pc + i.im) = m.pc + i.im := by have := hv.pc; have := hi.im; rw [IntKind.wrap_i64]; omega
  have hwm : IntKind.i64.wrap (i.im * 4096) = i.im * 4096 := by have := hi.im; rw [IntKind.wrap_i64]; omega
  have hwp : IntKind.i64.wrap (m.pc + i.im * 4096) = m.pc + i.im * 4096 := by have := hv.pc; have := hi.im; rw [IntKind.wrap_i64]; omega
  have o18 : decide (i.op ≤ 18) = false := by rw [h1]; decide
  have o27 : decide (i.op ≤ 27) = false := by rw [h1]; decide
  have o32 : decide (i.op ≤ 32) = false := by rw [h1]; decide
  have o33 : (i.op == 33) = false := by rw [h1]; decide
  have o36 : decide (i.op ≤ 36) = false := by rw [h1]; decide
  have o42 : decide (i.op ≤ 42) = false := by rw [h1]; decide
  have o43 : (i.op == 43) = false := by rw [h1]; decide
  have o44 : (i.op == 44) = false := by rw [h1]; decide
  have o45 : (i.op == 45) = false := by rw [h1]; decide
  have o46 : (i.op == 46) = true := by rw [h1]; decide
  have HI : Hid (i.op = 46) := h1
  clear h1
  have HC : Hid (∀ U : World, Below u.heap.size u U → Calls Tryz.prog 84 #[.pointer (some ⟨p, 0, none⟩)] U fun e u2 => e = ends (Pl.ecall m).2 ∧ ((∃ v', MemS v v' ∧ Run D g u2 v' (Pl.ecall m).1) ∧ St D u u2) ∧ u2.cell? ⟨g, 1, none⟩ = some (.int .i64 (Pl.ecall m).1.pc) ∧ u2.cell? ⟨g, 8, none⟩ = some (.int .i64 (Pl.ecall m).1.fin) ∧ u2.frozen? ⟨g, 1, none⟩ = false) := fun U hU => by
    refine (rcall_run (h.keep hU).run hv p h.pd (h.keep hU).ptr).mono fun e u2 ⟨he, ⟨v', hM, hR⟩, hS⟩ => ⟨he, ⟨⟨v', hM, hR⟩, (h.run.st hU).trans hS⟩, hR.cell 1, hR.cell 8, hR.unfrozen 1⟩
  have e0 : ends (Pl.ecall m).2 = .panicked [{ v := .iface 97 (.int .i64 (Pl.ecall m).2), recovered := false }] := by unfold ends; rw [if_neg he]
  rw [e0] at HC ⊢
  clear e0
  generalize (Pl.ecall m).2 = n at *
  generalize (Pl.ecall m).1 = m2 at *
  clear h hc hf hr hfin hv
  go_enter Tryz.func62, Tryz.ntmps62
  go_wp2_with fail
  go_region
  go_wp2_with (go_at_call 84; refine (HC.out _ (by repeat (first | exact below_alloc _ _ | refine Below.drew ?_ | refine below_drewN ?_ _))).mono ?_; rintro e u2 ⟨rfl, hr2, z1, z8, zf⟩; have H2 : Hid ((∃ v', MemS v v' ∧ Run D g u2 v' m2) ∧ St D u u2) := hr2; clear hr2)
  exact ⟨rfl, rfl, H2.out⟩
set_option maxRecDepth 8000 in
set_option maxHeartbeats 4000000 in
theorem rdo_call_end {D : Nat → Prop} {p g : Nat} {u : World} {v : MV} {m : Pl.Mac} (h : Rr D p g u v m) (hv : Pl.Vd m) (hfin : m.fin = 0) (i : Pl.Ins) (hi : Pl.InsOk i) (h1 : i.op = 46) (he : (Pl.ecall m).2 = 0) (hz : (Pl.ecall m).1.fin ≠ 0) : Calls Tryz.prog 62 #[.pointer (some ⟨p, 0, none⟩), .agg #[.int .i64 i.op, .int .i64 i.rd, .int .i64 i.r1, .int .i64 i.r2, .int .i64 i.im]] u fun e u' => e = .returned (.tuple #[]) ∧ (∃ v', MemS v v' ∧ Run D g u' v' (Pl.ecall m).1) ∧ St D u u' := by
  obtain ⟨r, c, hr, hc, hf⟩ := h.run.regsAt hv.regs
  have cm := fl_alloc h.ptr
  have cp := fl_alloc (h.run.cell 1 : u.cell? ⟨g, 1, none⟩ = some (.int .i64 m.pc))
  have c8 := fl_alloc (show u.cell? ⟨g, 8, none⟩ = some (.int .i64 0) by rw [h.run.cell 8, ← hfin]; rfl)
  have f1 : ∀ o, (u.alloc o).frozen? ⟨g, 1, none⟩ = false := fun o => (h.run.keep (below_alloc u o)).unfrozen 1
  have cr := fl_alloc (show u.cell? ⟨g, 2, none⟩ = some (.slice (some ⟨r, 0, none⟩) 32 c) by rw [h.run.cell 2, hr]; rfl)
  have ca := fl_alloc (hc i.r1 (by have := hi.r1; omega) : u.cell? ⟨r, i.r1, none⟩ = some (.int .i64 (Pl.rv m i.r1)))
  have cb := fl_alloc (hc i.r2 (by have := hi.r2; omega) : u.cell? ⟨r, i.r2, none⟩ = some (.int .i64 (Pl.rv m i.r2)))
  have l1 : (i.r1 : Int) < 32 := by have := hi.r1; omega
  have l2 : (i.r2 : Int) < 32 := by have := hi.r2; omega
  have hw4 : IntKind.i64.wrap (m.pc + 4) = m.pc + 4 := by have := hv.pc; rw [IntKind.wrap_i64]; omega
  have hwi : IntKind.i64.wrap (m.pc + i.im) = m.pc + i.im := by have := hv.pc; have := hi.im; rw [IntKind.wrap_i64]; omega
  have hwm : IntKind.i64.wrap (i.im * 4096) = i.im * 4096 := by have := hi.im; rw [IntKind.wrap_i64]; omega
  have hwp : IntKind.i64.wrap (m.pc + i.im * 4096) = m.pc + i.im * 4096 := by have := hv.pc; have := hi.im; rw [IntKind.wrap_i64]; omega
  have o18 : decide (i.op ≤ 18) = false := by rw [h1]; decide
  have o27 : decide (i.op ≤ 27) = false := by rw [h1]; decide
  have o32 : decide (i.op ≤ 32) = false := by rw [h1]; decide
  have o33 : (i.op == 33) = false := by rw [h1]; decide
  have o36 : decide (i.op ≤ 36) = false := by rw [h1]; decide
  have o42 : decide (i.op ≤ 42) = false := by rw [h1]; decide
  have o43 : (i.op == 43) = false := by rw [h1]; decide
  have o44 : (i.op == 44) = false := by rw [h1]; decide
  have o45 : (i.op == 45) = false := by rw [h1]; decide
  have o46 : (i.op == 46) = true := by rw [h1]; decide
  have HI : Hid (i.op = 46) := h1
  clear h1
  have HC : Hid (∀ U : World, Below u.heap.size u U → Calls Tryz.prog 84 #[.pointer (some ⟨p, 0, none⟩)] U fun e u2 => e = ends (Pl.ecall m).2 ∧ ((∃ v', MemS v v' ∧ Run D g u2 v' (Pl.ecall m).1) ∧ St D u u2) ∧ u2.cell? ⟨g, 1, none⟩ = some (.int .i64 (Pl.ecall m).1.pc) ∧ u2.cell? ⟨g, 8, none⟩ = some (.int .i64 (Pl.ecall m).1.fin) ∧ u2.frozen? ⟨g, 1, none⟩ = false) := fun U hU => by
    refine (rcall_run (h.keep hU).run hv p h.pd (h.keep hU).ptr).mono fun e u2 ⟨he, ⟨v', hM, hR⟩, hS⟩ => ⟨he, ⟨⟨v', hM, hR⟩, (h.run.st hU).trans hS⟩, hR.cell 1, hR.cell 8, hR.unfrozen 1⟩
  rw [show ends (Pl.ecall m).2 = .returned (.tuple #[]) by rw [he]; rfl] at HC
  have z0 : ((Pl.ecall m).1.fin == 0) = false := by simpa using hz
  clear hz
  generalize (Pl.ecall m).1 = m2 at *
  clear h hc hf hr hfin hv
  go_enter Tryz.func62, Tryz.ntmps62
  go_wp2_with fail
  go_region
  go_wp2_with (go_at_call 84; refine (HC.out _ (by repeat (first | exact below_alloc _ _ | refine Below.drew ?_ | refine below_drewN ?_ _))).mono ?_; rintro e u2 ⟨rfl, hr2, z1, z8, zf⟩; have H2 : Hid ((∃ v', MemS v v' ∧ Run D g u2 v' m2) ∧ St D u u2) := hr2; clear hr2)
  go_end0
  exact ⟨rfl, H2.out⟩
set_option maxRecDepth 8000 in
set_option maxHeartbeats 4000000 in
theorem rdo_call_on {D : Nat → Prop} {p g : Nat} {u : World} {v : MV} {m : Pl.Mac} (h : Rr D p g u v m) (hv : Pl.Vd m) (hfin : m.fin = 0) (i : Pl.Ins) (hi : Pl.InsOk i) (h1 : i.op = 46) (he : (Pl.ecall m).2 = 0) (hz : (Pl.ecall m).1.fin = 0) : Calls Tryz.prog 62 #[.pointer (some ⟨p, 0, none⟩), .agg #[.int .i64 i.op, .int .i64 i.rd, .int .i64 i.r1, .int .i64 i.r2, .int .i64 i.im]] u fun e u' => e = .returned (.tuple #[]) ∧ (∃ v', MemS v v' ∧ Run D g u' v' ({ (Pl.ecall m).1 with pc := Pl.wd (m.pc + 4) })) ∧ St D u u' := by
  obtain ⟨r, c, hr, hc, hf⟩ := h.run.regsAt hv.regs
  have cm := fl_alloc h.ptr
  have cp := fl_alloc (h.run.cell 1 : u.cell? ⟨g, 1, none⟩ = some (.int .i64 m.pc))
  have c8 := fl_alloc (show u.cell? ⟨g, 8, none⟩ = some (.int .i64 0) by rw [h.run.cell 8, ← hfin]; rfl)
  have f1 : ∀ o, (u.alloc o).frozen? ⟨g, 1, none⟩ = false := fun o => (h.run.keep (below_alloc u o)).unfrozen 1
  have cr := fl_alloc (show u.cell? ⟨g, 2, none⟩ = some (.slice (some ⟨r, 0, none⟩) 32 c) by rw [h.run.cell 2, hr]; rfl)
  have ca := fl_alloc (hc i.r1 (by have := hi.r1; omega) : u.cell? ⟨r, i.r1, none⟩ = some (.int .i64 (Pl.rv m i.r1)))
  have cb := fl_alloc (hc i.r2 (by have := hi.r2; omega) : u.cell? ⟨r, i.r2, none⟩ = some (.int .i64 (Pl.rv m i.r2)))
  have l1 : (i.r1 : Int) < 32 := by have := hi.r1; omega
  have l2 : (i.r2 : Int) < 32 := by have := hi.r2; omega
  have hw4 : IntKind.i64.wrap (m.pc + 4) = m.pc + 4 := by have := hv.pc; rw [IntKind.wrap_i64]; omega
  have hwi : IntKind.i64.wrap (m.pc + i.im) = m.pc + i.im := by have := hv.pc; have := hi.im; rw [IntKind.wrap_i64]; omega
  have hwm : IntKind.i64.wrap (i.im * 4096) = i.im * 4096 := by have := hi.im; rw [IntKind.wrap_i64]; omega
  have hwp : IntKind.i64.wrap (m.pc + i.im * 4096) = m.pc + i.im * 4096 := by have := hv.pc; have := hi.im; rw [IntKind.wrap_i64]; omega
  have o18 : decide (i.op ≤ 18) = false := by rw [h1]; decide
  have o27 : decide (i.op ≤ 27) = false := by rw [h1]; decide
  have o32 : decide (i.op ≤ 32) = false := by rw [h1]; decide
  have o33 : (i.op == 33) = false := by rw [h1]; decide
  have o36 : decide (i.op ≤ 36) = false := by rw [h1]; decide
  have o42 : decide (i.op ≤ 42) = false := by rw [h1]; decide
  have o43 : (i.op == 43) = false := by rw [h1]; decide
  have o44 : (i.op == 44) = false := by rw [h1]; decide
  have o45 : (i.op == 45) = false := by rw [h1]; decide
  have o46 : (i.op == 46) = true := by rw [h1]; decide
  have HI : Hid (i.op = 46) := h1
  clear h1
  have HC : Hid (∀ U : World, Below u.heap.size u U → Calls Tryz.prog 84 #[.pointer (some ⟨p, 0, none⟩)] U fun e u2 => e = ends (Pl.ecall m).2 ∧ ((∃ v', MemS v v' ∧ Run D g u2 v' (Pl.ecall m).1) ∧ St D u u2) ∧ u2.cell? ⟨g, 1, none⟩ = some (.int .i64 (Pl.ecall m).1.pc) ∧ u2.cell? ⟨g, 8, none⟩ = some (.int .i64 (Pl.ecall m).1.fin) ∧ u2.frozen? ⟨g, 1, none⟩ = false) := fun U hU => by
    refine (rcall_run (h.keep hU).run hv p h.pd (h.keep hU).ptr).mono fun e u2 ⟨he, ⟨v', hM, hR⟩, hS⟩ => ⟨he, ⟨⟨v', hM, hR⟩, (h.run.st hU).trans hS⟩, hR.cell 1, hR.cell 8, hR.unfrozen 1⟩
  rw [show ends (Pl.ecall m).2 = .returned (.tuple #[]) by rw [he]; rfl] at HC
  rw [hz] at HC
  clear hz
  generalize (Pl.ecall m).1 = m2 at *
  clear h hc hf hr hfin hv
  go_enter Tryz.func62, Tryz.ntmps62
  go_wp2_with fail
  go_region
  go_wp2_with (first | (go_at_call 84; refine (HC.out _ (by repeat (first | exact below_alloc _ _ | refine Below.drew ?_ | refine below_drewN ?_ _))).mono ?_; rintro e u2 ⟨rfl, hr2, z1, z8, zf⟩; have H2 : Hid ((∃ v', MemS v v' ∧ Run D g u2 v' m2) ∧ St D u u2) := hr2; clear hr2) | (go_at_call 64; refine (implWord_any _ _).mono ?_; rintro e u3 ⟨rfl, rfl⟩))
  go_end0
  exact ⟨rfl, H2.out.1.elim fun v2 hR => ⟨v2, hR.1, hR.2.setPc _⟩, H2.out.1.elim fun v2 hR => H2.out.2.trans (St.set (hR.2.ne 0 rfl))⟩
end Go.Proofs.YtjdfffdeljgenaaGreatDoor.W
namespace Go.Proofs.YtjdfffdeljgenaaGreatDoor.W
open Go.RowKit
set_option maxRecDepth 8000 in
set_option maxHeartbeats 4000000 in
theorem rdo_ali {D : Nat → Prop} {p g : Nat} {u : World} {v : MV} {m : Pl.Mac} (h : Rr D p g u v m) (hv : Pl.Vd m) (hfin : m.fin = 0) (i : Pl.Ins) (hi : Pl.InsOk i) (k : Nat) (hk : k < 9) (h1 : i.op = 19 + k) (ht : u.cell? ⟨0, k, none⟩ = some (.int .i64 (Pl.ali i.op))) : Calls Tryz.prog 62 #[.pointer (some ⟨p, 0, none⟩), .agg #[.int .i64 i.op, .int .i64 i.rd, .int .i64 i.r1, .int .i64 i.r2, .int .i64 i.im]] u fun e u' => e = .returned (.tuple #[]) ∧ (∃ v', MemS v v' ∧ Run D g u' v' ({ Pl.setR m i.rd (Pl.al (Pl.ali i.op).toNat (Pl.wd (Pl.rv m i.r1)) (Pl.wd i.im)) with pc := Pl.wd (m.pc + 4) })) ∧ St D u u' := by
  obtain ⟨r, c, hr, hc, hf⟩ := h.run.regsAt hv.regs
  have cm := fl_alloc h.ptr
  have cp := fl_alloc (h.run.cell 1 : u.cell? ⟨g, 1, none⟩ = some (.int .i64 m.pc))
  have c8 := fl_alloc (show u.cell? ⟨g, 8, none⟩ = some (.int .i64 0) by rw [h.run.cell 8, ← hfin]; rfl)
  have f1 : ∀ o, (u.alloc o).frozen? ⟨g, 1, none⟩ = false := fun o => (h.run.keep (below_alloc u o)).unfrozen 1
  have cr := fl_alloc (show u.cell? ⟨g, 2, none⟩ = some (.slice (some ⟨r, 0, none⟩) 32 c) by rw [h.run.cell 2, hr]; rfl)
  have ca := fl_alloc (hc i.r1 (by have := hi.r1; omega) : u.cell? ⟨r, i.r1, none⟩ = some (.int .i64 (Pl.rv m i.r1)))
  have cb := fl_alloc (hc i.r2 (by have := hi.r2; omega) : u.cell? ⟨r, i.r2, none⟩ = some (.int .i64 (Pl.rv m i.r2)))
  have l1 : (i.r1 : Int) < 32 := by have := hi.r1; omega
  have l2 : (i.r2 : Int) < 32 := by have := hi.r2; omega
  have hw4 : IntKind.i64.wrap (m.pc + 4) = m.pc + 4 := by have := hv.pc; rw [IntKind.wrap_i64]; omega
  have hwi : IntKind.i64.wrap (m.pc + i.im) = m.pc + i.im := by have := hv.pc; have := hi.im; rw [IntKind.wrap_i64]; omega
  have hwm : IntKind.i64.wrap (i.im * 4096) = i.im * 4096 := by have := hi.im; rw [IntKind.wrap_i64]; omega
  have hwp : IntKind.i64.wrap (m.pc + i.im * 4096) = m.pc + i.im * 4096 := by have := hv.pc; have := hi.im; rw [IntKind.wrap_i64]; omega
  have o18 : decide (i.op ≤ 18) = false := by simp; omega
  have o27 : decide (i.op ≤ 27) = true := by simp; omega
  have ct := fl_alloc ht
  have hwk : IntKind.i64.wrap (i.op - 19) = (k : Int) := by rw [IntKind.wrap_i64]; omega
  have hwl : wrap64 (i.op - 19) = (k : Int) := by unfold wrap64; omega
  have hk9 : (k : Int) < 9 := by omega
  have hal : 1 ≤ Pl.ali i.op ∧ Pl.ali i.op ≤ 18 := by unfold Pl.ali; omega
  replace ca : ∀ o, (u.alloc o).cell? ⟨r, i.r1, none⟩ = some (.int .i64 (Pl.rv m i.r1)) := ca
  have HO : Hid (∀ U : World, Below u.heap.size u U → Calls Tryz.prog 79 #[.pointer (some ⟨p, 0, none⟩), .int .i64 i.rd, .int .i64 (Pl.ali i.op), .int .i64 (Pl.rv m i.r1), .int .i64 i.im] U fun e u2 => e = .returned (.tuple #[]) ∧ (Run D g u2 v (Pl.setR m i.rd (Pl.al (Pl.ali i.op).toNat (Pl.wd (Pl.rv m i.r1)) (Pl.wd i.im))) ∧ St D u u2) ∧ u2.cell? ⟨g, 1, none⟩ = some (.int .i64 m.pc) ∧ u2.cell? ⟨g, 8, none⟩ = some (.int .i64 0) ∧ u2.frozen? ⟨g, 1, none⟩ = false) := fun U hU => by
    refine (roper_run (h.keep hU).run hv.regs p h.pd (h.keep hU).ptr i.rd hi.rd _ _ _ hal.1 hal.2).mono fun e u2 ⟨he, hR, hS⟩ => ⟨he, ⟨hR, (h.run.st hU).trans hS⟩, ?_, ?_, hR.unfrozen 1⟩
    · rw [hR.cell 1, Pl.setR_pc]; rfl
    · rw [hR.cell 8, setR_fin, hfin]; rfl
  generalize Pl.setR m i.rd (Pl.al (Pl.ali i.op).toNat (Pl.wd (Pl.rv m i.r1)) (Pl.wd i.im)) = m2 at *
  generalize Pl.ali i.op = z at *
  generalize Pl.rv m i.r1 = a at *
  clear h hc hf hr hfin hv h1 hk hal ht
  go_enter Tryz.func62, Tryz.ntmps62
  go_wp2_with fail
  go_region
  go_wp2_with fail
  go_region_with (go_at_call 79; refine (HO.out _ (by repeat (first | exact below_alloc _ _ | refine Below.drew ?_ | refine below_drewN ?_ _))).mono ?_; rintro e u2 ⟨rfl, hr2, z1, z8, zf⟩; have H2 : Hid (Run D g u2 v m2 ∧ St D u u2) := hr2; clear hr2)
  all_goals
    go_wp2_with (go_at_call 64; refine (implWord_any _ _).mono ?_; rintro e u3 ⟨rfl, rfl⟩)
  all_goals
    go_end0
    first | exact ⟨rfl, ⟨v, MemS.refl v, H2.out.1.setPc _⟩, H2.out.2.trans (St.set (H2.out.1.ne 0 rfl))⟩ | exact ⟨rfl, ⟨v, MemS.refl v, (H2.out.1.keep (below_drewN (Below.refl _ _) 1)).setPc _⟩, (H2.out.2.trans (H2.out.1.st (below_drewN (Below.refl _ _) 1))).trans (St.set (H2.out.1.ne 0 rfl))⟩
end Go.Proofs.YtjdfffdeljgenaaGreatDoor.W
namespace Go.Proofs.YtjdfffdeljgenaaGreatDoor.Pl
theorem wd_in {x : Int} (h : 0 ≤ x ∧ x ≤ 4294967295) : wd x = x := by unfold wd; omega
theorem tmod_wd {x : Int} {s : Nat} (hs : s = 1 ∨ s = 2 ∨ s = 4) : ((wd x).tmod (s : Int) != 0) = (x.tmod (s : Int) != 0) := by
  have e : ∀ y : Int, (y.tmod (s : Int) != 0) = (y % (s : Int) != 0) := fun y => by
    have h1 : y.tmod (s : Int) = 0 ↔ y % (s : Int) = 0 := by rw [← Int.dvd_iff_tmod_eq_zero, ← Int.dvd_iff_emod_eq_zero]
    by_cases h : y % (s : Int) = 0
    · rw [h, h1.2 h]
    · have h2 : y.tmod (s : Int) ≠ 0 := fun h3 => h (h1.1 h3)
      rw [bne_iff_ne.2 h2, bne_iff_ne.2 h]
  rw [e, e]
  have : wd x % (s : Int) = x % (s : Int) := by
    unfold wd
    rcases hs with rfl | rfl | rfl <;> omega
  rw [this]
theorem ldv_wd (m : Mac) (hd : m.data.length ≤ 65536) (hs : m.stk.length ≤ 65536) (k x : Int) (h1 : 1 ≤ k) (h2 : k ≤ 5) (hx : -2048 ≤ x ∧ x ≤ 4294969343) : ldv m k (wd x) = ldv m k x := by
  by_cases hr : 0 ≤ x ∧ x ≤ 4294967295
  · rw [wd_in hr]
  obtain ⟨s, es, cs⟩ := ks_cases h1 h2
  have hw : wd x = x + 4294967296 ∨ wd x = x - 4294967296 := by unfold wd; omega
  have a1 : ¬ inD m (wd x) (ks k).toNat := by unfold inD; omega
  have a2 : ¬ inS m (wd x) (ks k).toNat := by unfold inS; omega
  have a3 : ¬ inD m x (ks k).toNat := by unfold inD; omega
  have a4 : ¬ inS m x (ks k).toNat := by unfold inS; omega
  have a5 : ((wd x).tmod (ks k) != 0) = (x.tmod (ks k) != 0) := by rw [es]; exact tmod_wd cs
  unfold ldv
  rw [a5, if_neg a1, if_neg a2, if_neg a3, if_neg a4]
theorem stv_wd (m : Mac) (hd : m.data.length ≤ 65536) (hs : m.stk.length ≤ 65536) (k x y : Int) (h1 : 1 ≤ k) (h2 : k ≤ 5) (hx : -2048 ≤ x ∧ x ≤ 4294969343) : stv m k (wd x) y = stv m k x y := by
  by_cases hr : 0 ≤ x ∧ x ≤ 4294967295
  · rw [wd_in hr]
  obtain ⟨s, es, cs⟩ := ks_cases h1 h2
  have hw : wd x = x + 4294967296 ∨ wd x = x - 4294967296 := by unfold wd; omega
  have a1 : ¬ inD m (wd x) (ks k).toNat := by unfold inD; omega
  have a2 : ¬ inS m (wd x) (ks k).toNat := by unfold inS; omega
  have a3 : ¬ inD m x (ks k).toNat := by unfold inD; omega
  have a4 : ¬ inS m x (ks k).toNat := by unfold inS; omega
  have a5 : ((wd x).tmod (ks k) != 0) = (x.tmod (ks k) != 0) := by rw [es]; exact tmod_wd cs
  unfold stv
  rw [a5, if_neg a1, if_neg a2, if_neg a3, if_neg a4]
end Go.Proofs.YtjdfffdeljgenaaGreatDoor.Pl
namespace Go.Proofs.YtjdfffdeljgenaaGreatDoor.W
open Go.RowKit
def loadEnd (r : Int × Int) : Ending := if r.2 = 0 then .returned (.int .i64 r.1) else .panicked [{ v := .iface 97 (.int .i64 r.2), recovered := false }]
theorem rload_run {D : Nat → Prop} {g : Nat} {u : World} {v : MV} {m : Pl.Mac} (h : Run D g u v m) (hv : Pl.Vd m) (k at_ : Int) (k1 : 1 ≤ k) (k2 : k ≤ 5) (ha : -9223372036854775808 ≤ at_ ∧ at_ ≤ 9223372036854775807) :
    Calls Tryz.prog 81 #[.agg #[.iface 78 (.slice v.data.a v.data.len v.data.cap), .iface 79 (.slice v.stk.a v.stk.len v.stk.cap)], .int .i64 k, .int .i64 at_] u fun e u' => e = loadEnd (Pl.ldv m k at_) ∧ Below u.heap.size u u' := by
  obtain ⟨s, hk, hs4⟩ := Pl.ks_cases k1 k2
  have hs : 1 ≤ s ∧ s ≤ 4 := by omega
  obtain ⟨hld, hlc, hlm, _, _⟩ := h.data.row
  obtain ⟨hls, hsc, hsm, _, _⟩ := h.stk.row
  have b1 := hv.data
  have b2 := hv.stk
  unfold maxLen at hlm hsm
  unfold Pl.ldv
  rw [hk, Int.toNat_natCast]
  by_cases hal : (at_.tmod (s : Int) != 0) = true
  · rw [if_pos hal]
    exact load_bad _ _ _ _ _ _ k at_ 3 u (fun W => find_align _ _ _ _ _ _ k at_ s hs hk hal ha W)
  rw [if_neg hal]
  have hal' : at_.tmod (s : Int) = 0 := by simpa using hal
  by_cases hd : Pl.inD m at_ s
  · rw [if_pos hd]
    unfold Pl.inD at hd
    obtain ⟨b, hb, hc, hl⟩ := own_at h.data (by omega)
    have hbl : b < u.heap.size := block_lt_of_cell (hc 0 (by omega))
    rw [hb]
    exact load_good _ _ _ _ _ _ k at_ b 0 (at_ - 1048576).toNat s (v.data.cap - (at_ - 1048576).toNat) 0 0 m.data hs u hbl (fun n hn => Pl.u8_bd (h.data.2 n hn)) (fun i hi => by rw [Nat.zero_add]; exact hc _ (by omega)) (fun W => find_data b 0 _ _ _ _ _ k at_ (at_ - 1048576).toNat s hs hk hal' (by omega) hlc (by omega) (by omega) (by omega) W)
  rw [if_neg hd]
  unfold Pl.inD at hd
  by_cases hst : Pl.inS m at_ s
  · rw [if_pos hst]
    unfold Pl.inS at hst
    obtain ⟨b, hb, hc, hl⟩ := own_at h.stk (by omega)
    have hbl : b < u.heap.size := block_lt_of_cell (hc 0 (by omega))
    rw [hb]
    refine load_good _ _ _ _ _ _ k at_ b 0 (at_ - (2097152 - (m.stk.length : Int))).toNat s (v.stk.cap - (at_ - (2097152 - (m.stk.length : Int))).toNat) 0 0 m.stk hs u hbl (fun n hn => Pl.u8_bd (h.stk.2 n hn)) (fun i hi => by rw [Nat.zero_add]; exact hc _ (by omega)) (fun W => ?_)
    apply find_stack <;> first | assumption | omega | (show _ ∨ _; omega) | (show at_ = _; omega)
  rw [if_neg hst]
  unfold Pl.inS at hst
  refine load_bad _ _ _ _ _ _ k at_ 4 u (fun W => ?_)
  apply find_none (size := s) <;> first | assumption | omega | (show _ ∨ _; omega) | (show at_ = _; omega)
end Go.Proofs.YtjdfffdeljgenaaGreatDoor.W
namespace Go.Proofs.YtjdfffdeljgenaaGreatDoor.W
open Go.RowKit
theorem rstore_run {D : Nat → Prop} {g : Nat} {u : World} {v : MV} {m : Pl.Mac} (h : Run D g u v m) (hv : Pl.Vd m) (k at_ x : Int) (k1 : 1 ≤ k) (k2 : k ≤ 5) (ha : -9223372036854775808 ≤ at_ ∧ at_ ≤ 9223372036854775807) (hx : -9223372036854775808 ≤ x ∧ x ≤ 9223372036854775807) :
    Calls Tryz.prog 82 #[.agg #[.iface 78 (.slice v.data.a v.data.len v.data.cap), .iface 79 (.slice v.stk.a v.stk.len v.stk.cap)], .int .i64 k, .int .i64 at_, .int .i64 x] u fun e u' => e = (if (Pl.stv m k at_ x).2 = 0 then Ending.returned (.tuple #[]) else .panicked [{ v := .iface 97 (.int .i64 (Pl.stv m k at_ x).2), recovered := false }]) ∧ Run D g u' v (Pl.stv m k at_ x).1 ∧ St D u u' := by
  obtain ⟨s, hk, hs4⟩ := Pl.ks_cases k1 k2
  have hs : 1 ≤ s ∧ s ≤ 4 := by omega
  obtain ⟨hld, hlc, hlm, _, _⟩ := h.data.row
  obtain ⟨hls, hsc, hsm, _, _⟩ := h.stk.row
  have b1 := hv.data
  have b2 := hv.stk
  unfold maxLen at hlm hsm
  unfold Pl.stv
  rw [hk, Int.toNat_natCast]
  by_cases hal : (at_.tmod (s : Int) != 0) = true
  · rw [if_pos hal]
    exact (store_bad _ _ _ _ _ _ k at_ x 3 u (fun W => find_align _ _ _ _ _ _ k at_ s hs hk hal ha W)).mono fun e u' ⟨he, hb⟩ => ⟨he, h.keep hb, h.st hb⟩
  rw [if_neg hal]
  have hal' : at_.tmod (s : Int) = 0 := by simpa using hal
  by_cases hd : Pl.inD m at_ s
  · rw [if_pos hd]
    unfold Pl.inD at hd
    obtain ⟨b, hb, hc, hl⟩ := own_at h.data (by omega)
    have ho := h.data
    rw [hb] at ho ⊢
    refine (store_good _ _ _ _ _ _ k at_ x b (at_ - 1048576).toNat s v.data.cap (v.data.cap - (at_ - 1048576).toNat) v.data.len m.data hs hx (by omega) (by omega) u (fun n hn => Pl.u8_bd (h.data.2 n hn)) ho (fun W => find_data b 0 _ _ _ _ _ k at_ (at_ - 1048576).toNat s hs hk hal' (by omega) hlc (by omega) (by omega) (by omega) W)).mono fun e u' ⟨he, u1, hB, ht, ho2⟩ => ?_
    have key := (h.keep hB).setData hb (by rw [hb]; exact ho2) (by rw [hb]; exact ht)
    exact ⟨he, key.1, (h.st hB).trans key.2⟩
  rw [if_neg hd]
  unfold Pl.inD at hd
  by_cases hst : Pl.inS m at_ s
  · rw [if_pos hst]
    unfold Pl.inS at hst
    obtain ⟨b, hb, hc, hl⟩ := own_at h.stk (by omega)
    have ho := h.stk
    rw [hb] at ho ⊢
    refine (store_good _ _ _ _ _ _ k at_ x b (at_ - (2097152 - (m.stk.length : Int))).toNat s v.stk.cap (v.stk.cap - (at_ - (2097152 - (m.stk.length : Int))).toNat) v.stk.len m.stk hs hx (by omega) (by omega) u (fun n hn => Pl.u8_bd (h.stk.2 n hn)) ho (fun W => ?_)).mono fun e u' ⟨he, u1, hB, ht, ho2⟩ => ?_
    · apply find_stack <;> first | assumption | omega | (show _ ∨ _; omega) | (show at_ = _; omega)
    · have key := (h.keep hB).setStk hb (by rw [hb]; exact ho2) (by rw [hb]; exact ht)
      exact ⟨he, key.1, (h.st hB).trans key.2⟩
  rw [if_neg hst]
  unfold Pl.inS at hst
  refine (store_bad _ _ _ _ _ _ k at_ x 4 u (fun W => ?_)).mono fun e u' ⟨he, hb⟩ => ⟨he, h.keep hb, h.st hb⟩
  apply find_none (size := s) <;> first | assumption | omega | (show _ ∨ _; omega) | (show at_ = _; omega)
end Go.Proofs.YtjdfffdeljgenaaGreatDoor.W
