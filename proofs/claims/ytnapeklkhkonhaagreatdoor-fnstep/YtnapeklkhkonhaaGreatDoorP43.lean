import Derived.Test.YtnapeklkhkonhaaGreatDoorP42
import Derived.Laws.BitsAllLaws
set_option linter.unusedVariables false
set_option linter.unusedSimpArgs false
namespace Go.Proofs.YtnapeklkhkonhaaGreatDoor.Pl
theorem and_even (n : Nat) (h : n < 18446744073709551616) : n &&& 18446744073709551614 = n - n % 2 := by
  have h1 : (n &&& 18446744073709551614) / 2 = n / 2 := by
    rw [Nat.and_div_two, show (18446744073709551614 : Nat) / 2 = 2 ^ 63 - 1 by decide, Nat.and_two_pow_sub_one_eq_mod]
    exact Nat.mod_eq_of_lt (by omega)
  have h2 : (n &&& 18446744073709551614) % 2 = 0 := by
    have := Nat.and_mod_two_pow (a := n) (b := 18446744073709551614) (n := 1)
    simpa using this
  omega
theorem andNot_one (x : Int) (h : -9223372036854775808 ≤ x ∧ x ≤ 9223372036854775807) : bits .andNot .i64 x 1 = x - x % 2 := by
  show IntKind.i64.wrap ((BitVec.ofInt 64 x &&& ~~~BitVec.ofInt 64 1).toNat : Int) = _
  have hn : ((BitVec.ofInt 64 x).toNat : Int) = x % 18446744073709551616 := by
    rw [BitVec.toNat_ofInt]; omega
  have hl : (BitVec.ofInt 64 x).toNat < 18446744073709551616 := (BitVec.ofInt 64 x).isLt
  have h1 : (~~~BitVec.ofInt 64 1).toNat = 18446744073709551614 := by decide
  rw [BitVec.toNat_and, h1, and_even _ hl, IntKind.wrap_i64]
  generalize (BitVec.ofInt 64 x).toNat = n at hn hl
  omega
end Go.Proofs.YtnapeklkhkonhaaGreatDoor.Pl
namespace Go.Proofs.YtnapeklkhkonhaaGreatDoor.W
open Go.RowKit
set_option maxRecDepth 8000 in
set_option maxHeartbeats 4000000 in
theorem rdo_jalr {D : Nat → Prop} {p g : Nat} {u : World} {v : MV} {m : Pl.Mac} (h : Rr D p g u v m) (hv : Pl.Vd m) (hfin : m.fin = 0) (i : Pl.Ins) (hi : Pl.InsOk i) (h1 : i.op = 33) : Calls Tryz.prog 46 #[.pointer (some ⟨p, 0, none⟩), .agg #[.int .i64 i.op, .int .i64 i.rd, .int .i64 i.r1, .int .i64 i.r2, .int .i64 i.im]] u fun e u' => e = .returned (.tuple #[]) ∧ (∃ v', MemS v v' ∧ Run D g u' v' ({ Pl.setR m i.rd (m.pc + 4) with pc := Pl.wd (Pl.rv m i.r1 + i.im) - Pl.wd (Pl.rv m i.r1 + i.im) % 2 })) ∧ St D u u' := by
  obtain ⟨r, c, hr, hc, hf⟩ := h.run.regsAt hv.regs
  have cm := fl_alloc h.ptr
  have cp := fl_alloc (h.run.cell 1 : u.cell? ⟨g, 1, none⟩ = some (.int .i64 m.pc))
  have c8 := fl_alloc (show u.cell? ⟨g, 8, none⟩ = some (.int .i64 0) by rw [h.run.cell 8, ← hfin]; rfl)
  have f1 : ∀ o, (u.alloc o).frozen? ⟨g, 1, none⟩ = false := fun o => (h.run.keep (below_alloc u o)).unfrozen 1
  have cr := fl_alloc (show u.cell? ⟨g, 2, none⟩ = some (.slice (some ⟨r, 0, none⟩) 32 c) by rw [h.run.cell 2, hr]; rfl)
  have ca := fl_alloc (hc i.r1 (by have := hi.r1; omega) : u.cell? ⟨r, i.r1, none⟩ = some (.int .i64 (Pl.rv m i.r1)))
  have cb := fl_alloc (hc i.r2 (by have := hi.r2; omega) : u.cell? ⟨r, i.r2, none⟩ = some (.int .i64 (Pl.rv m i.r2)))
  have l1 : (i.r1 : Int) < 32 := by have := hi.r1; omega
  have l2 : (i.r2 : Int) < 32 := by have := hi.r2; omega
  have hw4 : IntKind.i64.wrap (m.pc + 4) = m.pc + 4 := by have := hv.pc; rw [IntKind.wrap_i64]; omega
  have hwi : IntKind.i64.wrap (m.pc + i.im) = m.pc + i.im := by have := hv.pc; have := hi.im; rw [IntKind.wrap_i64]; omega
  have hwm : IntKind.i64.wrap (i.im * 4096) = i.im * 4096 := by have := hi.im; rw [IntKind.wrap_i64]; omega
  have hwp : IntKind.i64.wrap (m.pc + i.im * 4096) = m.pc + i.im * 4096 := by have := hv.pc; have := hi.im; rw [IntKind.wrap_i64]; omega
  have o18 : decide (i.op ≤ 18) = false := by rw [h1]; decide
  have o27 : decide (i.op ≤ 27) = false := by rw [h1]; decide
  have o32 : decide (i.op ≤ 32) = false := by rw [h1]; decide
  have o33 : (i.op == 33) = true := by rw [h1]; decide
  have HI : Hid (i.op = 33) := h1
  clear h1
  obtain ⟨Y, hY, hYe⟩ : ∃ Y, bits .andNot .i64 (Pl.rv m i.r1 + i.im) 1 = Y ∧ Pl.wd (Pl.rv m i.r1 + i.im) - Pl.wd (Pl.rv m i.r1 + i.im) % 2 = Pl.wd Y := ⟨_, rfl, by rw [Pl.andNot_one _ (by have := hv.word i.r1 (by have := hi.r1; omega); have := hi.im; unfold Pl.rv; omega)]; unfold Pl.wd; omega⟩
  have hwa : IntKind.i64.wrap (Pl.rv m i.r1 + i.im) = Pl.rv m i.r1 + i.im := by have := hv.word i.r1 (by have := hi.r1; omega); have := hi.im; rw [IntKind.wrap_i64]; unfold Pl.rv; omega
  rw [hYe]
  clear hYe
  replace ca : ∀ o, (u.alloc o).cell? ⟨r, i.r1, none⟩ = some (.int .i64 (Pl.rv m i.r1)) := ca
  have hwb : wrap64 (Pl.rv m i.r1 + i.im) = Pl.rv m i.r1 + i.im := by have := hv.word i.r1 (by have := hi.r1; omega); have := hi.im; unfold wrap64; unfold Pl.rv; omega
  have HS : Hid (∀ U : World, Below u.heap.size u U → U.heap[u.heap.size]? = some (.cells #[.int .i64 i.op, .int .i64 i.rd, .int .i64 i.r1, .int .i64 i.r2, .int .i64 i.im] 67) → Calls Tryz.prog 64 #[.pointer (some ⟨p, 0, none⟩), .int .i64 i.rd, .int .i64 (m.pc + 4)] U fun e u2 => e = .returned (.tuple #[]) ∧ (Run D g u2 v (Pl.setR m i.rd (m.pc + 4)) ∧ St D u u2) ∧ u2.cell? ⟨g, 1, none⟩ = some (.int .i64 m.pc) ∧ u2.cell? ⟨g, 8, none⟩ = some (.int .i64 0) ∧ u2.frozen? ⟨g, 1, none⟩ = false ∧ u2.cell? ⟨u.heap.size, 4, none⟩ = some (.int .i64 i.im)) := fun U hU hq => h.set hv hfin hi hU hq _
  generalize Pl.setR m i.rd (m.pc + 4) = m2 at *
  clear h hc hf hr hfin hv
  generalize Pl.rv m i.r1 = a at *
  go_enter Tryz.func46, Tryz.ntmps46
  go_wp2_with fail
  go_region
  go_wp2_with (first | (go_at_call 64;  refine (HS.out _ (by repeat (first | exact below_alloc _ _ | refine Below.drew ?_ | refine below_drewN ?_ _)) (by exact heap_alloc_new u _)).mono ?_; rintro e u2 ⟨rfl, hr2, z1, z8, zf, z4⟩; have H2 : Hid (Run D g u2 v m2 ∧ St D u u2) := hr2; clear hr2) | (go_at_call 34; refine (implWord_any _ _).mono ?_; rintro e u3 ⟨rfl, rfl⟩))
  all_goals
    go_end0
    first | exact ⟨rfl, ⟨v, MemS.refl v, H2.out.1.setPc _⟩, H2.out.2.trans (St.set (H2.out.1.ne 0 rfl))⟩ | exact ⟨rfl, ⟨v, MemS.refl v, (H2.out.1.keep (below_drewN (Below.refl _ _) 1)).setPc _⟩, (H2.out.2.trans (H2.out.1.st (below_drewN (Below.refl _ _) 1))).trans (St.set (H2.out.1.ne 0 rfl))⟩
set_option maxRecDepth 8000 in
set_option maxHeartbeats 4000000 in
theorem rdo_call_bad {D : Nat → Prop} {p g : Nat} {u : World} {v : MV} {m : Pl.Mac} (h : Rr D p g u v m) (hv : Pl.Vd m) (hfin : m.fin = 0) (i : Pl.Ins) (hi : Pl.InsOk i) (h1 : i.op = 46) (he : (Pl.ecall m).2 ≠ 0) : Calls Tryz.prog 46 #[.pointer (some ⟨p, 0, none⟩), .agg #[.int .i64 i.op, .int .i64 i.rd, .int .i64 i.r1, .int .i64 i.r2, .int .i64 i.im]] u fun e u' => e = ends (Pl.ecall m).2 ∧ (∃ v', MemS v v' ∧ Run D g u' v' (Pl.ecall m).1) ∧ St D u u' := by
  obtain ⟨r, c, hr, hc, hf⟩ := h.run.regsAt hv.regs
  have cm := fl_alloc h.ptr
  have cp := fl_alloc (h.run.cell 1 : u.cell? ⟨g, 1, none⟩ = some (.int .i64 m.pc))
  have c8 := fl_alloc (show u.cell? ⟨g, 8, none⟩ = some (.int .i64 0) by rw [h.run.cell 8, ← hfin]; rfl)
  have f1 : ∀ o, (u.alloc o).frozen? ⟨g, 1, none⟩ = false := fun o => (h.run.keep (below_alloc u o)).unfrozen 1
  have cr := fl_alloc (show u.cell? ⟨g, 2, none⟩ = some (.slice (some ⟨r, 0, none⟩) 32 c) by rw [h.run.cell 2, hr]; rfl)
  have ca := fl_alloc (hc i.r1 (by have := hi.r1; omega) : u.cell? ⟨r, i.r1, none⟩ = some (.int .i64 (Pl.rv m i.r1)))
  have cb := fl_alloc (hc i.r2 (by have := hi.r2; omega) : u.cell? ⟨r, i.r2, none⟩ = some (.int .i64 (Pl.rv m i.r2)))
  have l1 : (i.r1 : Int) < 32 := by have := hi.r1; omega
  have l2 : (i.r2 : Int) < 32 := by have := hi.r2; omega
  have hw4 : IntKind.i64.wrap (m.pc + 4) = m.pc + 4 := by have := hv.pc; rw [IntKind.wrap_i64]; omega
  have hwi : IntKind.i64.wrap (m.pc + i.im) = m.pc + i.im := by have := hv.pc; have := hi.im; rw [IntKind.wrap_i64]; omega
  have hwm : IntKind.i64.wrap (i.im * 4096) = i.im * 4096 := by have := hi.im; rw [IntKind.wrap_i64]; omega
  have hwp : IntKind.i64.wrap (m.pc + i.im * 4096) = m.pc + i.im * 4096 := by have := hv.pc; have := hi.im; rw [IntKind.wrap_i64]; omega
  have o18 : decide (i.op ≤ 18) = false := by rw [h1]; decide
  have o27 : decide (i.op ≤ 27) = false := by rw [h1]; decide
  have o32 : decide (i.op ≤ 32) = false := by rw [h1]; decide
  have o33 : (i.op == 33) = false := by rw [h1]; decide
  have o36 : decide (i.op ≤ 36) = false := by rw [h1]; decide
  have o42 : decide (i.op ≤ 42) = false := by rw [h1]; decide
  have o43 : (i.op == 43) = false := by rw [h1]; decide
  have o44 : (i.op == 44) = false := by rw [h1]; decide
  have o45 : (i.op == 45) = false := by rw [h1]; decide
  have o46 : (i.op == 46) = true := by rw [h1]; decide
  have HI : Hid (i.op = 46) := h1
  clear h1
  have HC : Hid (∀ U : World, Below u.heap.size u U → Calls Tryz.prog 68 #[.pointer (some ⟨p, 0, none⟩)] U fun e u2 => e = ends (Pl.ecall m).2 ∧ ((∃ v', MemS v v' ∧ Run D g u2 v' (Pl.ecall m).1) ∧ St D u u2) ∧ u2.cell? ⟨g, 1, none⟩ = some (.int .i64 (Pl.ecall m).1.pc) ∧ u2.cell? ⟨g, 8, none⟩ = some (.int .i64 (Pl.ecall m).1.fin) ∧ u2.frozen? ⟨g, 1, none⟩ = false) := fun U hU => by
    refine (rcall_run (h.keep hU).run hv p h.pd (h.keep hU).ptr).mono fun e u2 ⟨he, ⟨v', hM, hR⟩, hS⟩ => ⟨he, ⟨⟨v', hM, hR⟩, (h.run.st hU).trans hS⟩, hR.cell 1, hR.cell 8, hR.unfrozen 1⟩
  have e0 : ends (Pl.ecall m).2 = .panicked [{ v := .iface 90 (.int .i64 (Pl.ecall m).2), recovered := false }] := by unfold ends; rw [if_neg he]
  rw [e0] at HC ⊢
  clear e0
  generalize (Pl.ecall m).2 = n at *
  generalize (Pl.ecall m).1 = m2 at *
  clear h hc hf hr hfin hv
  go_enter Tryz.func46, Tryz.ntmps46
  go_wp2_with fail
  go_region
  go_wp2_with (go_at_call 68; refine (HC.out _ (by repeat (first | exact below_alloc _ _ | refine Below.drew ?_ | refine below_drewN ?_ _))).mono ?_; rintro e u2 ⟨rfl, hr2, z1, z8, zf⟩; have H2 : Hid ((∃ v', MemS v v' ∧ Run D g u2 v' m2) ∧ St D u u2) := hr2; clear hr2)
  exact ⟨rfl, rfl, H2.out⟩
set_option maxRecDepth 8000 in
set_option maxHeartbeats 4000000 in
theorem rdo_call_end {D : Nat → Prop} {p g : Nat} {u : World} {v : MV} {m : Pl.Mac} (h : Rr D p g u v m) (hv : Pl.Vd m) (hfin : m.fin = 0) (i : Pl.Ins) (hi : Pl.InsOk i) (h1 : i.op = 46) (he : (Pl.ecall m).2 = 0) (hz : (Pl.ecall m).1.fin ≠ 0) : Calls Tryz.prog 46 #[.pointer (some ⟨p, 0, none⟩), .agg #[.int .i64 i.op, .int .i64 i.rd, .int .i64 i.r1, .int .i64 i.r2, .int .i64 i.im]] u fun e u' => e = .returned (.tuple #[]) ∧ (∃ v', MemS v v' ∧ Run D g u' v' (Pl.ecall m).1) ∧ St D u u' := by
  obtain ⟨r, c, hr, hc, hf⟩ := h.run.regsAt hv.regs
  have cm := fl_alloc h.ptr
  have cp := fl_alloc (h.run.cell 1 : u.cell? ⟨g, 1, none⟩ = some (.int .i64 m.pc))
  have c8 := fl_alloc (show u.cell? ⟨g, 8, none⟩ = some (.int .i64 0) by rw [h.run.cell 8, ← hfin]; rfl)
  have f1 : ∀ o, (u.alloc o).frozen? ⟨g, 1, none⟩ = false := fun o => (h.run.keep (below_alloc u o)).unfrozen 1
  have cr := fl_alloc (show u.cell? ⟨g, 2, none⟩ = some (.slice (some ⟨r, 0, none⟩) 32 c) by rw [h.run.cell 2, hr]; rfl)
  have ca := fl_alloc (hc i.r1 (by have := hi.r1; omega) : u.cell? ⟨r, i.r1, none⟩ = some (.int .i64 (Pl.rv m i.r1)))
  have cb := fl_alloc (hc i.r2 (by have := hi.r2; omega) : u.cell? ⟨r, i.r2, none⟩ = some (.int .i64 (Pl.rv m i.r2)))
  have l1 : (i.r1 : Int) < 32 := by have := hi.r1; omega
  have l2 : (i.r2 : Int) < 32 := by have := hi.r2; omega
  have hw4 : IntKind.i64.wrap (m.pc + 4) = m.pc + 4 := by have := hv.pc; rw [IntKind.wrap_i64]; omega
  have hwi : IntKind.i64.wrap (m.pc + i.im) = m.pc + i.im := by have := hv.pc; have := hi.im; rw [IntKind.wrap_i64]; omega
  have hwm : IntKind.i64.wrap (i.im * 4096) = i.im * 4096 := by have := hi.im; rw [IntKind.wrap_i64]; omega
  have hwp : IntKind.i64.wrap (m.pc + i.im * 4096) = m.pc + i.im * 4096 := by have := hv.pc; have := hi.im; rw [IntKind.wrap_i64]; omega
  have o18 : decide (i.op ≤ 18) = false := by rw [h1]; decide
  have o27 : decide (i.op ≤ 27) = false := by rw [h1]; decide
  have o32 : decide (i.op ≤ 32) = false := by rw [h1]; decide
  have o33 : (i.op == 33) = false := by rw [h1]; decide
  have o36 : decide (i.op ≤ 36) = false := by rw [h1]; decide
  have o42 : decide (i.op ≤ 42) = false := by rw [h1]; decide
  have o43 : (i.op == 43) = false := by rw [h1]; decide
  have o44 : (i.op == 44) = false := by rw [h1]; decide
  have o45 : (i.op == 45) = false := by rw [h1]; decide
  have o46 : (i.op == 46) = true := by rw [h1]; decide
  have HI : Hid (i.op = 46) := h1
  clear h1
  have HC : Hid (∀ U : World, Below u.heap.size u U → Calls Tryz.prog 68 #[.pointer (some ⟨p, 0, none⟩)] U fun e u2 => e = ends (Pl.ecall m).2 ∧ ((∃ v', MemS v v' ∧ Run D g u2 v' (Pl.ecall m).1) ∧ St D u u2) ∧ u2.cell? ⟨g, 1, none⟩ = some (.int .i64 (Pl.ecall m).1.pc) ∧ u2.cell? ⟨g, 8, none⟩ = some (.int .i64 (Pl.ecall m).1.fin) ∧ u2.frozen? ⟨g, 1, none⟩ = false) := fun U hU => by
    refine (rcall_run (h.keep hU).run hv p h.pd (h.keep hU).ptr).mono fun e u2 ⟨he, ⟨v', hM, hR⟩, hS⟩ => ⟨he, ⟨⟨v', hM, hR⟩, (h.run.st hU).trans hS⟩, hR.cell 1, hR.cell 8, hR.unfrozen 1⟩
  rw [show ends (Pl.ecall m).2 = .returned (.tuple #[]) by rw [he]; rfl] at HC
  have z0 : ((Pl.ecall m).1.fin == 0) = false := by simpa using hz
  clear hz
  generalize (Pl.ecall m).1 = m2 at *
  clear h hc hf hr hfin hv
  go_enter Tryz.func46, Tryz.ntmps46
  go_wp2_with fail
  go_region
  go_wp2_with (go_at_call 68; refine (HC.out _ (by repeat (first | exact below_alloc _ _ | refine Below.drew ?_ | refine below_drewN ?_ _))).mono ?_; rintro e u2 ⟨rfl, hr2, z1, z8, zf⟩; have H2 : Hid ((∃ v', MemS v v' ∧ Run D g u2 v' m2) ∧ St D u u2) := hr2; clear hr2)
  go_end0
  exact ⟨rfl, H2.out⟩
set_option maxRecDepth 8000 in
set_option maxHeartbeats 4000000 in
theorem rdo_call_on {D : Nat → Prop} {p g : Nat} {u : World} {v : MV} {m : Pl.Mac} (h : Rr D p g u v m) (hv : Pl.Vd m) (hfin : m.fin = 0) (i : Pl.Ins) (hi : Pl.InsOk i) (h1 : i.op = 46) (he : (Pl.ecall m).2 = 0) (hz : (Pl.ecall m).1.fin = 0) : Calls Tryz.prog 46 #[.pointer (some ⟨p, 0, none⟩), .agg #[.int .i64 i.op, .int .i64 i.rd, .int .i64 i.r1, .int .i64 i.r2, .int .i64 i.im]] u fun e u' => e = .returned (.tuple #[]) ∧ (∃ v', MemS v v' ∧ Run D g u' v' ({ (Pl.ecall m).1 with pc := Pl.wd (m.pc + 4) })) ∧ St D u u' := by
  obtain ⟨r, c, hr, hc, hf⟩ := h.run.regsAt hv.regs
  have cm := fl_alloc h.ptr
  have cp := fl_alloc (h.run.cell 1 : u.cell? ⟨g, 1, none⟩ = some (.int .i64 m.pc))
  have c8 := fl_alloc (show u.cell? ⟨g, 8, none⟩ = some (.int .i64 0) by rw [h.run.cell 8, ← hfin]; rfl)
  have f1 : ∀ o, (u.alloc o).frozen? ⟨g, 1, none⟩ = false := fun o => (h.run.keep (below_alloc u o)).unfrozen 1
  have cr := fl_alloc (show u.cell? ⟨g, 2, none⟩ = some (.slice (some ⟨r, 0, none⟩) 32 c) by rw [h.run.cell 2, hr]; rfl)
  have ca := fl_alloc (hc i.r1 (by have := hi.r1; omega) : u.cell? ⟨r, i.r1, none⟩ = some (.int .i64 (Pl.rv m i.r1)))
  have cb := fl_alloc (hc i.r2 (by have := hi.r2; omega) : u.cell? ⟨r, i.r2, none⟩ = some (.int .i64 (Pl.rv m i.r2)))
  have l1 : (i.r1 : Int) < 32 := by have := hi.r1; omega
  have l2 : (i.r2 : Int) < 32 := by have := hi.r2; omega
  have hw4 : IntKind.i64.wrap (m.pc + 4) = m.pc + 4 := by have := hv.pc; rw [IntKind.wrap_i64]; omega
  have hwi : IntKind.i64.wrap (m.pc + i.im) = m.pc + i.im := by have := hv.pc; have := hi.im; rw [IntKind.wrap_i64]; omega
  have hwm : IntKind.i64.wrap (i.im * 4096) = i.im * 4096 := by have := hi.im; rw [IntKind.wrap_i64]; omega
  have hwp : IntKind.i64.wrap (m.pc + i.im * 4096) = m.pc + i.im * 4096 := by have := hv.pc; have := hi.im; rw [IntKind.wrap_i64]; omega
  have o18 : decide (i.op ≤ 18) = false := by rw [h1]; decide
  have o27 : decide (i.op ≤ 27) = false := by rw [h1]; decide
  have o32 : decide (i.op ≤ 32) = false := by rw [h1]; decide
  have o33 : (i.op == 33) = false := by rw [h1]; decide
  have o36 : decide (i.op ≤ 36) = false := by rw [h1]; decide
  have o42 : decide (i.op ≤ 42) = false := by rw [h1]; decide
  have o43 : (i.op == 43) = false := by rw [h1]; decide
  have o44 : (i.op == 44) = false := by rw [h1]; decide
  have o45 : (i.op == 45) = false := by rw [h1]; decide
  have o46 : (i.op == 46) = true := by rw [h1]; decide
  have HI : Hid (i.op = 46) := h1
  clear h1
  have HC : Hid (∀ U : World, Below u.heap.size u U → Calls Tryz.prog 68 #[.pointer (some ⟨p, 0, none⟩)] U fun e u2 => e = ends (Pl.ecall m).2 ∧ ((∃ v', MemS v v' ∧ Run D g u2 v' (Pl.ecall m).1) ∧ St D u u2) ∧ u2.cell? ⟨g, 1, none⟩ = some (.int .i64 (Pl.ecall m).1.pc) ∧ u2.cell? ⟨g, 8, none⟩ = some (.int .i64 (Pl.ecall m).1.fin) ∧ u2.frozen? ⟨g, 1, none⟩ = false) := fun U hU => by
    refine (rcall_run (h.keep hU).run hv p h.pd (h.keep hU).ptr).mono fun e u2 ⟨he, ⟨v', hM, hR⟩, hS⟩ => ⟨he, ⟨⟨v', hM, hR⟩, (h.run.st hU).trans hS⟩, hR.cell 1, hR.cell 8, hR.unfrozen 1⟩
  rw [show ends (Pl.ecall m).2 = .returned (.tuple #[]) by rw [he]; rfl] at HC
  rw [hz] at HC
  clear hz
  generalize (Pl.ecall m).1 = m2 at *
  clear h hc hf hr hfin hv
  go_enter Tryz.func46, Tryz.ntmps46
  go_wp2_with fail
  go_region
  go_wp2_with (first | (go_at_call 68; refine (HC.out _ (by repeat (first | exact below_alloc _ _ | refine Below.drew ?_ | refine below_drewN ?_ _))).mono ?_; rintro e u2 ⟨rfl, hr2, z1, z8, zf⟩; have H2 : Hid ((∃ v', MemS v v' ∧ Run D g u2 v' m2) ∧ St D u u2) := hr2; clear hr2) | (go_at_call 34; refine (implWord_any _ _).mono ?_; rintro e u3 ⟨rfl, rfl⟩))
  go_end0
  exact ⟨rfl, H2.out.1.elim fun v2 hR => ⟨v2, hR.1, hR.2.setPc _⟩, H2.out.1.elim fun v2 hR => H2.out.2.trans (St.set (hR.2.ne 0 rfl))⟩
end Go.Proofs.YtnapeklkhkonhaaGreatDoor.W
