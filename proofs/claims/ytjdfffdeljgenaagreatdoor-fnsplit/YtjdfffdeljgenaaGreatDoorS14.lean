import Derived.Test.YtjdfffdeljgenaaGreatDoorS05
set_option linter.unusedVariables false
set_option linter.unusedSimpArgs false
namespace Go.Proofs.YtjdfffdeljgenaaGreatDoor.W
open Go.RowKit
theorem Run.over {D : Nat → Prop} {g : Nat} {u U : World} {v : MV} {m : Pl.Mac} (h : Run D g u v m) (hU : Below u.heap.size u U) (hq : u.heap.size < U.heap.size) : Run (fun x => D x ∨ x = u.heap.size) g U v m := by
  have k := h.keep hU
  refine ⟨fun x hx => ?_, k.box, k.code, k.regs, k.data, k.stk, k.inp, k.out, k.ap, k.lt, k.fz⟩
  rcases hx with hx | rfl
  · exact k.av x hx
  · exact ⟨hq, fun i e => Nat.lt_irrefl _ (h.lt i _ e)⟩
theorem Rr.set {D : Nat → Prop} {p g : Nat} {u U : World} {v : MV} {m : Pl.Mac} {i : Pl.Ins} (h : Rr D p g u v m) (hv : Pl.Vd m) (hfin : m.fin = 0) (hi : Pl.InsOk i) (hU : Below u.heap.size u U) (hq : U.heap[u.heap.size]? = some (.cells #[.int .i64 i.op, .int .i64 i.rd, .int .i64 i.r1, .int .i64 i.r2, .int .i64 i.im] 74)) (X : Int) :
    Calls Tryz.prog 80 #[.pointer (some ⟨p, 0, none⟩), .int .i64 i.rd, .int .i64 X] U fun e u2 => e = .returned (.tuple #[]) ∧ (Run D g u2 v (Pl.setR m i.rd X) ∧ St D u u2) ∧ u2.cell? ⟨g, 1, none⟩ = some (.int .i64 m.pc) ∧ u2.cell? ⟨g, 8, none⟩ = some (.int .i64 0) ∧ u2.frozen? ⟨g, 1, none⟩ = false ∧ u2.cell? ⟨u.heap.size, 4, none⟩ = some (.int .i64 i.im) := by
  have hR := h.run.over hU (Array.getElem?_eq_some_iff.1 hq).1
  refine (rset_run hR hv.regs p (h.keep hU).ptr i.rd hi.rd X).mono fun e u2 ⟨he, r2, s2, _⟩ => ⟨he, ⟨r2.mono fun x hx => .inl hx, (h.run.st hU).trans (s2.mono fun x hx => .inl hx)⟩, ?_, ?_, r2.unfrozen 1, ?_⟩
  · rw [r2.cell 1, Pl.setR_pc]; rfl
  · rw [r2.cell 8, setR_fin, hfin]; rfl
  · exact (ins_cells ((s2.keep _ (.inr rfl)).trans hq)).2.2.2.2
set_option maxRecDepth 8000 in
set_option maxHeartbeats 4000000 in
theorem rdo_lui {D : Nat → Prop} {p g : Nat} {u : World} {v : MV} {m : Pl.Mac} (h : Rr D p g u v m) (hv : Pl.Vd m) (hfin : m.fin = 0) (i : Pl.Ins) (hi : Pl.InsOk i) (h1 : i.op = 43) : Calls Tryz.prog 62 #[.pointer (some ⟨p, 0, none⟩), .agg #[.int .i64 i.op, .int .i64 i.rd, .int .i64 i.r1, .int .i64 i.r2, .int .i64 i.im]] u fun e u' => e = .returned (.tuple #[]) ∧ (∃ v', MemS v v' ∧ Run D g u' v' ({ Pl.setR m i.rd (i.im * 4096) with pc := Pl.wd (m.pc + 4) })) ∧ St D u u' := by
  obtain ⟨r, c, hr, hc, hf⟩ := h.run.regsAt hv.regs
  have cm := fl_alloc h.ptr
  have cp := fl_alloc (h.run.cell 1 : u.cell? ⟨g, 1, none⟩ = some (.int .i64 m.pc))
  have c8 := fl_alloc (show u.cell? ⟨g, 8, none⟩ = some (.int .i64 0) by rw [h.run.cell 8, ← hfin]; rfl)
  have f1 : ∀ o, (u.alloc o).frozen? ⟨g, 1, none⟩ = false := fun o => (h.run.keep (below_alloc u o)).unfrozen 1
  have cr := fl_alloc (show u.cell? ⟨g, 2, none⟩ = some (.slice (some ⟨r, 0, none⟩) 32 c) by rw [h.run.cell 2, hr]; rfl)
  have ca := fl_alloc (hc i.r1 (by have := hi.r1; omega) : u.cell? ⟨r, i.r1, none⟩ = some (.int .i64 (Pl.rv m i.r1)))
  have cb := fl_alloc (hc i.r2 (by have := hi.r2; omega) : u.cell? ⟨r, i.r2, none⟩ = some (.int .i64 (Pl.rv m i.r2)))
  have l1 : (i.r1 : Int) < 32 := by have := hi.r1; omega
  have l2 : (i.r2 : Int) < 32 := by have := hi.r2; omega
  have hw4 : IntKind.i64.wrap (m.pc + 4) = m.pc + 4 := by have := hv.pc; rw [IntKind.wrap_i64]; omega
  have hwi : IntKind.i64.wrap (m.pc + i.im) = m.pc + i.im := by have := hv.pc; have := hi.im; rw [IntKind.wrap_i64]; omega
  have hwm : IntKind.i64.wrap (i.im * 4096) = i.im * 4096 := by have := hi.im; rw [IntKind.wrap_i64]; omega
  have hwp : IntKind.i64.wrap (m.pc + i.im * 4096) = m.pc + i.im * 4096 := by have := hv.pc; have := hi.im; rw [IntKind.wrap_i64]; omega
  have o18 : decide (i.op ≤ 18) = false := by rw [h1]; decide
  have o27 : decide (i.op ≤ 27) = false := by rw [h1]; decide
  have o32 : decide (i.op ≤ 32) = false := by rw [h1]; decide
  have o33 : (i.op == 33) = false := by rw [h1]; decide
  have o36 : decide (i.op ≤ 36) = false := by rw [h1]; decide
  have o42 : decide (i.op ≤ 42) = false := by rw [h1]; decide
  have o43 : (i.op == 43) = true := by rw [h1]; decide
  have HI : Hid (i.op = 43) := h1
  clear h1
  have HS : Hid (∀ U : World, Below u.heap.size u U → U.heap[u.heap.size]? = some (.cells #[.int .i64 i.op, .int .i64 i.rd, .int .i64 i.r1, .int .i64 i.r2, .int .i64 i.im] 74) → Calls Tryz.prog 80 #[.pointer (some ⟨p, 0, none⟩), .int .i64 i.rd, .int .i64 (i.im * 4096)] U fun e u2 => e = .returned (.tuple #[]) ∧ (Run D g u2 v (Pl.setR m i.rd (i.im * 4096)) ∧ St D u u2) ∧ u2.cell? ⟨g, 1, none⟩ = some (.int .i64 m.pc) ∧ u2.cell? ⟨g, 8, none⟩ = some (.int .i64 0) ∧ u2.frozen? ⟨g, 1, none⟩ = false ∧ u2.cell? ⟨u.heap.size, 4, none⟩ = some (.int .i64 i.im)) := fun U hU hq => h.set hv hfin hi hU hq _
  generalize Pl.setR m i.rd (i.im * 4096) = m2 at *
  clear h hc hf hr hfin hv
  go_enter Tryz.func62, Tryz.ntmps62
  go_wp2_with fail
  go_region
  go_wp2_with (first | (go_at_call 80;  refine (HS.out _ (by repeat (first | exact below_alloc _ _ | refine Below.drew ?_ | refine below_drewN ?_ _)) (by exact heap_alloc_new u _)).mono ?_; rintro e u2 ⟨rfl, hr2, z1, z8, zf, z4⟩; have H2 : Hid (Run D g u2 v m2 ∧ St D u u2) := hr2; clear hr2) | (go_at_call 64; refine (implWord_any _ _).mono ?_; rintro e u3 ⟨rfl, rfl⟩))
  all_goals
    go_end0
    first | exact ⟨rfl, ⟨v, MemS.refl v, H2.out.1.setPc _⟩, H2.out.2.trans (St.set (H2.out.1.ne 0 rfl))⟩ | exact ⟨rfl, ⟨v, MemS.refl v, (H2.out.1.keep (below_drewN (Below.refl _ _) 1)).setPc _⟩, (H2.out.2.trans (H2.out.1.st (below_drewN (Below.refl _ _) 1))).trans (St.set (H2.out.1.ne 0 rfl))⟩
set_option maxRecDepth 8000 in
set_option maxHeartbeats 4000000 in
theorem rdo_auipc {D : Nat → Prop} {p g : Nat} {u : World} {v : MV} {m : Pl.Mac} (h : Rr D p g u v m) (hv : Pl.Vd m) (hfin : m.fin = 0) (i : Pl.Ins) (hi : Pl.InsOk i) (h1 : i.op = 44) : Calls Tryz.prog 62 #[.pointer (some ⟨p, 0, none⟩), .agg #[.int .i64 i.op, .int .i64 i.rd, .int .i64 i.r1, .int .i64 i.r2, .int .i64 i.im]] u fun e u' => e = .returned (.tuple #[]) ∧ (∃ v', MemS v v' ∧ Run D g u' v' ({ Pl.setR m i.rd (m.pc + i.im * 4096) with pc := Pl.wd (m.pc + 4) })) ∧ St D u u' := by
  obtain ⟨r, c, hr, hc, hf⟩ := h.run.regsAt hv.regs
  have cm := fl_alloc h.ptr
  have cp := fl_alloc (h.run.cell 1 : u.cell? ⟨g, 1, none⟩ = some (.int .i64 m.pc))
  have c8 := fl_alloc (show u.cell? ⟨g, 8, none⟩ = some (.int .i64 0) by rw [h.run.cell 8, ← hfin]; rfl)
  have f1 : ∀ o, (u.alloc o).frozen? ⟨g, 1, none⟩ = false := fun o => (h.run.keep (below_alloc u o)).unfrozen 1
  have cr := fl_alloc (show u.cell? ⟨g, 2, none⟩ = some (.slice (some ⟨r, 0, none⟩) 32 c) by rw [h.run.cell 2, hr]; rfl)
  have ca := fl_alloc (hc i.r1 (by have := hi.r1; omega) : u.cell? ⟨r, i.r1, none⟩ = some (.int .i64 (Pl.rv m i.r1)))
  have cb := fl_alloc (hc i.r2 (by have := hi.r2; omega) : u.cell? ⟨r, i.r2, none⟩ = some (.int .i64 (Pl.rv m i.r2)))
  have l1 : (i.r1 : Int) < 32 := by have := hi.r1; omega
  have l2 : (i.r2 : Int) < 32 := by have := hi.r2; omega
  have hw4 : IntKind.i64.wrap (m.pc + 4) = m.pc + 4 := by have := hv.pc; rw [IntKind.wrap_i64]; omega
  have hwi : IntKind.i64.wrap (m.pc + i.im) = m.pc + i.im := by have := hv.pc; have := hi.im; rw [IntKind.wrap_i64]; omega
  have hwm : IntKind.i64.wrap (i.im * 4096) = i.im * 4096 := by have := hi.im; rw [IntKind.wrap_i64]; omega
  have hwp : IntKind.i64.wrap (m.pc + i.im * 4096) = m.pc + i.im * 4096 := by have := hv.pc; have := hi.im; rw [IntKind.wrap_i64]; omega
  have o18 : decide (i.op ≤ 18) = false := by rw [h1]; decide
  have o27 : decide (i.op ≤ 27) = false := by rw [h1]; decide
  have o32 : decide (i.op ≤ 32) = false := by rw [h1]; decide
  have o33 : (i.op == 33) = false := by rw [h1]; decide
  have o36 : decide (i.op ≤ 36) = false := by rw [h1]; decide
  have o42 : decide (i.op ≤ 42) = false := by rw [h1]; decide
  have o43 : (i.op == 43) = false := by rw [h1]; decide
  have o44 : (i.op == 44) = true := by rw [h1]; decide
  have HI : Hid (i.op = 44) := h1
  clear h1
  have HS : Hid (∀ U : World, Below u.heap.size u U → U.heap[u.heap.size]? = some (.cells #[.int .i64 i.op, .int .i64 i.rd, .int .i64 i.r1, .int .i64 i.r2, .int .i64 i.im] 74) → Calls Tryz.prog 80 #[.pointer (some ⟨p, 0, none⟩), .int .i64 i.rd, .int .i64 (m.pc + i.im * 4096)] U fun e u2 => e = .returned (.tuple #[]) ∧ (Run D g u2 v (Pl.setR m i.rd (m.pc + i.im * 4096)) ∧ St D u u2) ∧ u2.cell? ⟨g, 1, none⟩ = some (.int .i64 m.pc) ∧ u2.cell? ⟨g, 8, none⟩ = some (.int .i64 0) ∧ u2.frozen? ⟨g, 1, none⟩ = false ∧ u2.cell? ⟨u.heap.size, 4, none⟩ = some (.int .i64 i.im)) := fun U hU hq => h.set hv hfin hi hU hq _
  generalize Pl.setR m i.rd (m.pc + i.im * 4096) = m2 at *
  clear h hc hf hr hfin hv
  go_enter Tryz.func62, Tryz.ntmps62
  go_wp2_with fail
  go_region
  go_wp2_with fail
  go_region_with (go_at_call 80;  refine (HS.out _ (by repeat (first | exact below_alloc _ _ | refine Below.drew ?_ | refine below_drewN ?_ _)) (by exact heap_alloc_new u _)).mono ?_; rintro e u2 ⟨rfl, hr2, z1, z8, zf, z4⟩; have H2 : Hid (Run D g u2 v m2 ∧ St D u u2) := hr2; clear hr2)
  all_goals
    go_wp2_with (go_at_call 64; refine (implWord_any _ _).mono ?_; rintro e u3 ⟨rfl, rfl⟩)
  all_goals
    go_end0
    first | exact ⟨rfl, ⟨v, MemS.refl v, H2.out.1.setPc _⟩, H2.out.2.trans (St.set (H2.out.1.ne 0 rfl))⟩ | exact ⟨rfl, ⟨v, MemS.refl v, (H2.out.1.keep (below_drewN (Below.refl _ _) 1)).setPc _⟩, (H2.out.2.trans (H2.out.1.st (below_drewN (Below.refl _ _) 1))).trans (St.set (H2.out.1.ne 0 rfl))⟩
set_option maxRecDepth 8000 in
set_option maxHeartbeats 4000000 in
theorem rdo_jal {D : Nat → Prop} {p g : Nat} {u : World} {v : MV} {m : Pl.Mac} (h : Rr D p g u v m) (hv : Pl.Vd m) (hfin : m.fin = 0) (i : Pl.Ins) (hi : Pl.InsOk i) (h1 : i.op = 45) : Calls Tryz.prog 62 #[.pointer (some ⟨p, 0, none⟩), .agg #[.int .i64 i.op, .int .i64 i.rd, .int .i64 i.r1, .int .i64 i.r2, .int .i64 i.im]] u fun e u' => e = .returned (.tuple #[]) ∧ (∃ v', MemS v v' ∧ Run D g u' v' ({ Pl.setR m i.rd (m.pc + 4) with pc := Pl.wd (m.pc + i.im) })) ∧ St D u u' := by
  obtain ⟨r, c, hr, hc, hf⟩ := h.run.regsAt hv.regs
  have cm := fl_alloc h.ptr
  have cp := fl_alloc (h.run.cell 1 : u.cell? ⟨g, 1, none⟩ = some (.int .i64 m.pc))
  have c8 := fl_alloc (show u.cell? ⟨g, 8, none⟩ = some (.int .i64 0) by rw [h.run.cell 8, ← hfin]; rfl)
  have f1 : ∀ o, (u.alloc o).frozen? ⟨g, 1, none⟩ = false := fun o => (h.run.keep (below_alloc u o)).unfrozen 1
  have cr := fl_alloc (show u.cell? ⟨g, 2, none⟩ = some (.slice (some ⟨r, 0, none⟩) 32 c) by rw [h.run.cell 2, hr]; rfl)
  have ca := fl_alloc (hc i.r1 (by have := hi.r1; omega) : u.cell? ⟨r, i.r1, none⟩ = some (.int .i64 (Pl.rv m i.r1)))
  have cb := fl_alloc (hc i.r2 (by have := hi.r2; omega) : u.cell? ⟨r, i.r2, none⟩ = some (.int .i64 (Pl.rv m i.r2)))
  have l1 : (i.r1 : Int) < 32 := by have := hi.r1; omega
  have l2 : (i.r2 : Int) < 32 := by have := hi.r2; omega
  have hw4 : IntKind.i64.wrap (m.pc + 4) = m.pc + 4 := by have := hv.pc; rw [IntKind.wrap_i64]; omega
  have hwi : IntKind.i64.wrap (m.pc + i.im) = m.pc + i.im := by have := hv.pc; have := hi.im; rw [IntKind.wrap_i64]; omega
  have hwm : IntKind.i64.wrap (i.im * 4096) = i.im * 4096 := by have := hi.im; rw [IntKind.wrap_i64]; omega
  have hwp : IntKind.i64.wrap (m.pc + i.im * 4096) = m.pc + i.im * 4096 := by have := hv.pc; have := hi.im; rw [IntKind.wrap_i64]; omega
  have o18 : decide (i.op ≤ 18) = false := by rw [h1]; decide
  have o27 : decide (i.op ≤ 27) = false := by rw [h1]; decide
  have o32 : decide (i.op ≤ 32) = false := by rw [h1]; decide
  have o33 : (i.op == 33) = false := by rw [h1]; decide
  have o36 : decide (i.op ≤ 36) = false := by rw [h1]; decide
  have o42 : decide (i.op ≤ 42) = false := by rw [h1]; decide
  have o43 : (i.op == 43) = false := by rw [h1]; decide
  have o44 : (i.op == 44) = false := by rw [h1]; decide
  have o45 : (i.op == 45) = true := by rw [h1]; decide
  have HI : Hid (i.op = 45) := h1
  clear h1
  have HS : Hid (∀ U : World, Below u.heap.size u U → U.heap[u.heap.size]? = some (.cells #[.int .i64 i.op, .int .i64 i.rd, .int .i64 i.r1, .int .i64 i.r2, .int .i64 i.im] 74) → Calls Tryz.prog 80 #[.pointer (some ⟨p, 0, none⟩), .int .i64 i.rd, .int .i64 (m.pc + 4)] U fun e u2 => e = .returned (.tuple #[]) ∧ (Run D g u2 v (Pl.setR m i.rd (m.pc + 4)) ∧ St D u u2) ∧ u2.cell? ⟨g, 1, none⟩ = some (.int .i64 m.pc) ∧ u2.cell? ⟨g, 8, none⟩ = some (.int .i64 0) ∧ u2.frozen? ⟨g, 1, none⟩ = false ∧ u2.cell? ⟨u.heap.size, 4, none⟩ = some (.int .i64 i.im)) := fun U hU hq => h.set hv hfin hi hU hq _
  generalize Pl.setR m i.rd (m.pc + 4) = m2 at *
  clear h hc hf hr hfin hv
  go_enter Tryz.func62, Tryz.ntmps62
  go_wp2_with fail
  go_region
  go_wp2_with (go_at_call 80;  refine (HS.out _ (by repeat (first | exact below_alloc _ _ | refine Below.drew ?_ | refine below_drewN ?_ _)) (by exact heap_alloc_new u _)).mono ?_; rintro e u2 ⟨rfl, hr2, z1, z8, zf, z4⟩; have H2 : Hid (Run D g u2 v m2 ∧ St D u u2) := hr2; clear hr2)
  go_region
  go_wp2_with (go_at_call 64; refine (implWord_any _ _).mono ?_; rintro e u3 ⟨rfl, rfl⟩)
  all_goals
    go_end0
    first | exact ⟨rfl, ⟨v, MemS.refl v, H2.out.1.setPc _⟩, H2.out.2.trans (St.set (H2.out.1.ne 0 rfl))⟩ | exact ⟨rfl, ⟨v, MemS.refl v, (H2.out.1.keep (below_drewN (Below.refl _ _) 1)).setPc _⟩, (H2.out.2.trans (H2.out.1.st (below_drewN (Below.refl _ _) 1))).trans (St.set (H2.out.1.ne 0 rfl))⟩
set_option maxRecDepth 8000 in
set_option maxHeartbeats 4000000 in
theorem rdo_br_yes {D : Nat → Prop} {p g : Nat} {u : World} {v : MV} {m : Pl.Mac} (h : Rr D p g u v m) (hv : Pl.Vd m) (hfin : m.fin = 0) (i : Pl.Ins) (hi : Pl.InsOk i) (h1 : 37 ≤ i.op ∧ i.op ≤ 42) (hb : Pl.brt i.op (Pl.rv m i.r1) (Pl.rv m i.r2) = true) : Calls Tryz.prog 62 #[.pointer (some ⟨p, 0, none⟩), .agg #[.int .i64 i.op, .int .i64 i.rd, .int .i64 i.r1, .int .i64 i.r2, .int .i64 i.im]] u fun e u' => e = .returned (.tuple #[]) ∧ (∃ v', MemS v v' ∧ Run D g u' v' ({ m with pc := Pl.wd (m.pc + i.im) })) ∧ St D u u' := by
  obtain ⟨r, c, hr, hc, hf⟩ := h.run.regsAt hv.regs
  have cm := fl_alloc h.ptr
  have cp := fl_alloc (h.run.cell 1 : u.cell? ⟨g, 1, none⟩ = some (.int .i64 m.pc))
  have c8 := fl_alloc (show u.cell? ⟨g, 8, none⟩ = some (.int .i64 0) by rw [h.run.cell 8, ← hfin]; rfl)
  have f1 : ∀ o, (u.alloc o).frozen? ⟨g, 1, none⟩ = false := fun o => (h.run.keep (below_alloc u o)).unfrozen 1
  have cr := fl_alloc (show u.cell? ⟨g, 2, none⟩ = some (.slice (some ⟨r, 0, none⟩) 32 c) by rw [h.run.cell 2, hr]; rfl)
  have ca := fl_alloc (hc i.r1 (by have := hi.r1; omega) : u.cell? ⟨r, i.r1, none⟩ = some (.int .i64 (Pl.rv m i.r1)))
  have cb := fl_alloc (hc i.r2 (by have := hi.r2; omega) : u.cell? ⟨r, i.r2, none⟩ = some (.int .i64 (Pl.rv m i.r2)))
  have l1 : (i.r1 : Int) < 32 := by have := hi.r1; omega
  have l2 : (i.r2 : Int) < 32 := by have := hi.r2; omega
  have hw4 : IntKind.i64.wrap (m.pc + 4) = m.pc + 4 := by have := hv.pc; rw [IntKind.wrap_i64]; omega
  have hwi : IntKind.i64.wrap (m.pc + i.im) = m.pc + i.im := by have := hv.pc; have := hi.im; rw [IntKind.wrap_i64]; omega
  have hwm : IntKind.i64.wrap (i.im * 4096) = i.im * 4096 := by have := hi.im; rw [IntKind.wrap_i64]; omega
  have hwp : IntKind.i64.wrap (m.pc + i.im * 4096) = m.pc + i.im * 4096 := by have := hv.pc; have := hi.im; rw [IntKind.wrap_i64]; omega
  have HB : Hid (∀ w, Calls Tryz.prog 83 #[.int .i64 i.op, .int .i64 (Pl.rv m i.r1), .int .i64 (Pl.rv m i.r2)] w fun e w' => e = .returned (.bool (Pl.brt i.op (Pl.rv m i.r1) (Pl.rv m i.r2))) ∧ w' = w) := fun w => branches_any _ _ _ h1.1 h1.2 w
  have o18 : decide (i.op ≤ 18) = false := by simp; omega
  have o27 : decide (i.op ≤ 27) = false := by simp; omega
  have o32 : decide (i.op ≤ 32) = false := by simp; omega
  have o36 : decide (i.op ≤ 36) = false := by simp; omega
  have o33 : (i.op == 33) = false := by simp; omega
  have o42 : decide (i.op ≤ 42) = true := by simp; omega
  have HU : Hid (∀ U x k, Below u.heap.size u U → (∃ v', MemS v v' ∧ Run D g ((U.setCell ⟨g, 1, none⟩ (.int .i64 x)).drewN k) v' { m with pc := x }) ∧ St D u ((U.setCell ⟨g, 1, none⟩ (.int .i64 x)).drewN k)) := fun U x k hU => ⟨⟨v, MemS.refl v, ((h.run.keep hU).setPc x).keep (below_drewN (Below.refl _ _) k)⟩, ((h.run.st hU).trans (St.set ((h.run.keep hU).ne 0 rfl))).trans (((h.run.keep hU).setPc x).st (below_drewN (Below.refl _ _) k))⟩
  rw [hb] at HB
  clear h hc hf hr hfin hv h1 hb
  go_enter Tryz.func62, Tryz.ntmps62
  go_wp2_with fail
  go_region
  go_wp2_with (go_at_call 83; refine (HB.out _).mono ?_; rintro e u3 ⟨rfl, rfl⟩)
  go_region
  go_wp2_with (first | (go_at_call 83; refine (HB.out _).mono ?_; rintro e u3 ⟨rfl, rfl⟩) | (go_at_call 64; refine (implWord_any _ _).mono ?_; rintro e u3 ⟨rfl, rfl⟩))
  go_end0
  first | exact ⟨rfl, HU.out (u.alloc _) _ 2 (below_alloc _ _)⟩ | exact ⟨rfl, HU.out (u.alloc _) _ 1 (below_alloc _ _)⟩
set_option maxRecDepth 8000 in
set_option maxHeartbeats 4000000 in
theorem rdo_br_no {D : Nat → Prop} {p g : Nat} {u : World} {v : MV} {m : Pl.Mac} (h : Rr D p g u v m) (hv : Pl.Vd m) (hfin : m.fin = 0) (i : Pl.Ins) (hi : Pl.InsOk i) (h1 : 37 ≤ i.op ∧ i.op ≤ 42) (hb : Pl.brt i.op (Pl.rv m i.r1) (Pl.rv m i.r2) = false) : Calls Tryz.prog 62 #[.pointer (some ⟨p, 0, none⟩), .agg #[.int .i64 i.op, .int .i64 i.rd, .int .i64 i.r1, .int .i64 i.r2, .int .i64 i.im]] u fun e u' => e = .returned (.tuple #[]) ∧ (∃ v', MemS v v' ∧ Run D g u' v' ({ m with pc := Pl.wd (m.pc + 4) })) ∧ St D u u' := by
  obtain ⟨r, c, hr, hc, hf⟩ := h.run.regsAt hv.regs
  have cm := fl_alloc h.ptr
  have cp := fl_alloc (h.run.cell 1 : u.cell? ⟨g, 1, none⟩ = some (.int .i64 m.pc))
  have c8 := fl_alloc (show u.cell? ⟨g, 8, none⟩ = some (.int .i64 0) by rw [h.run.cell 8, ← hfin]; rfl)
  have f1 : ∀ o, (u.alloc o).frozen? ⟨g, 1, none⟩ = false := fun o => (h.run.keep (below_alloc u o)).unfrozen 1
  have cr := fl_alloc (show u.cell? ⟨g, 2, none⟩ = some (.slice (some ⟨r, 0, none⟩) 32 c) by rw [h.run.cell 2, hr]; rfl)
  have ca := fl_alloc (hc i.r1 (by have := hi.r1; omega) : u.cell? ⟨r, i.r1, none⟩ = some (.int .i64 (Pl.rv m i.r1)))
  have cb := fl_alloc (hc i.r2 (by have := hi.r2; omega) : u.cell? ⟨r, i.r2, none⟩ = some (.int .i64 (Pl.rv m i.r2)))
  have l1 : (i.r1 : Int) < 32 := by have := hi.r1; omega
  have l2 : (i.r2 : Int) < 32 := by have := hi.r2; omega
  have hw4 : IntKind.i64.wrap (m.pc + 4) = m.pc + 4 := by have := hv.pc; rw [IntKind.wrap_i64]; omega
  have hwi : IntKind.i64.wrap (m.pc + i.im) = m.pc + i.im := by have := hv.pc; have := hi.im; rw [IntKind.wrap_i64]; omega
  have hwm : IntKind.i64.wrap (i.im * 4096) = i.im * 4096 := by have := hi.im; rw [IntKind.wrap_i64]; omega
  have hwp : IntKind.i64.wrap (m.pc + i.im * 4096) = m.pc + i.im * 4096 := by have := hv.pc; have := hi.im; rw [IntKind.wrap_i64]; omega
  have HB : Hid (∀ w, Calls Tryz.prog 83 #[.int .i64 i.op, .int .i64 (Pl.rv m i.r1), .int .i64 (Pl.rv m i.r2)] w fun e w' => e = .returned (.bool (Pl.brt i.op (Pl.rv m i.r1) (Pl.rv m i.r2))) ∧ w' = w) := fun w => branches_any _ _ _ h1.1 h1.2 w
  have o18 : decide (i.op ≤ 18) = false := by simp; omega
  have o27 : decide (i.op ≤ 27) = false := by simp; omega
  have o32 : decide (i.op ≤ 32) = false := by simp; omega
  have o36 : decide (i.op ≤ 36) = false := by simp; omega
  have o33 : (i.op == 33) = false := by simp; omega
  have o42 : decide (i.op ≤ 42) = true := by simp; omega
  have HU : Hid (∀ U x k, Below u.heap.size u U → (∃ v', MemS v v' ∧ Run D g ((U.setCell ⟨g, 1, none⟩ (.int .i64 x)).drewN k) v' { m with pc := x }) ∧ St D u ((U.setCell ⟨g, 1, none⟩ (.int .i64 x)).drewN k)) := fun U x k hU => ⟨⟨v, MemS.refl v, ((h.run.keep hU).setPc x).keep (below_drewN (Below.refl _ _) k)⟩, ((h.run.st hU).trans (St.set ((h.run.keep hU).ne 0 rfl))).trans (((h.run.keep hU).setPc x).st (below_drewN (Below.refl _ _) k))⟩
  rw [hb] at HB
  clear h hc hf hr hfin hv h1 hb
  go_enter Tryz.func62, Tryz.ntmps62
  go_wp2_with fail
  go_region
  go_wp2_with (first | (go_at_call 83; refine (HB.out _).mono ?_; rintro e u3 ⟨rfl, rfl⟩) | (go_at_call 64; refine (implWord_any _ _).mono ?_; rintro e u3 ⟨rfl, rfl⟩))
  go_end0
  first | exact ⟨rfl, HU.out (u.alloc _) _ 2 (below_alloc _ _)⟩ | exact ⟨rfl, HU.out (u.alloc _) _ 1 (below_alloc _ _)⟩
set_option maxRecDepth 8000 in
set_option maxHeartbeats 4000000 in
theorem rdo_break {D : Nat → Prop} {p g : Nat} {u : World} {v : MV} {m : Pl.Mac} (h : Rr D p g u v m) (hv : Pl.Vd m) (hfin : m.fin = 0) (i : Pl.Ins) (hi : Pl.InsOk i) (h1 : i.op = 47) : Calls Tryz.prog 62 #[.pointer (some ⟨p, 0, none⟩), .agg #[.int .i64 i.op, .int .i64 i.rd, .int .i64 i.r1, .int .i64 i.r2, .int .i64 i.im]] u fun e u' => e = ends 5 ∧ (∃ v', MemS v v' ∧ Run D g u' v' m) ∧ St D u u' := by
  obtain ⟨r, c, hr, hc, hf⟩ := h.run.regsAt hv.regs
  have cm := fl_alloc h.ptr
  have cp := fl_alloc (h.run.cell 1 : u.cell? ⟨g, 1, none⟩ = some (.int .i64 m.pc))
  have c8 := fl_alloc (show u.cell? ⟨g, 8, none⟩ = some (.int .i64 0) by rw [h.run.cell 8, ← hfin]; rfl)
  have f1 : ∀ o, (u.alloc o).frozen? ⟨g, 1, none⟩ = false := fun o => (h.run.keep (below_alloc u o)).unfrozen 1
  have cr := fl_alloc (show u.cell? ⟨g, 2, none⟩ = some (.slice (some ⟨r, 0, none⟩) 32 c) by rw [h.run.cell 2, hr]; rfl)
  have ca := fl_alloc (hc i.r1 (by have := hi.r1; omega) : u.cell? ⟨r, i.r1, none⟩ = some (.int .i64 (Pl.rv m i.r1)))
  have cb := fl_alloc (hc i.r2 (by have := hi.r2; omega) : u.cell? ⟨r, i.r2, none⟩ = some (.int .i64 (Pl.rv m i.r2)))
  have l1 : (i.r1 : Int) < 32 := by have := hi.r1; omega
  have l2 : (i.r2 : Int) < 32 := by have := hi.r2; omega
  have hw4 : IntKind.i64.wrap (m.pc + 4) = m.pc + 4 := by have := hv.pc; rw [IntKind.wrap_i64]; omega
  have hwi : IntKind.i64.wrap (m.pc + i.im) = m.pc + i.im := by have := hv.pc; have := hi.im; rw [IntKind.wrap_i64]; omega
  have hwm : IntKind.i64.wrap (i.im * 4096) = i.im * 4096 := by have := hi.im; rw [IntKind.wrap_i64]; omega
  have hwp : IntKind.i64.wrap (m.pc + i.im * 4096) = m.pc + i.im * 4096 := by have := hv.pc; have := hi.im; rw [IntKind.wrap_i64]; omega
  have o18 : decide (i.op ≤ 18) = false := by rw [h1]; decide
  have o27 : decide (i.op ≤ 27) = false := by rw [h1]; decide
  have o32 : decide (i.op ≤ 32) = false := by rw [h1]; decide
  have o33 : (i.op == 33) = false := by rw [h1]; decide
  have o36 : decide (i.op ≤ 36) = false := by rw [h1]; decide
  have o42 : decide (i.op ≤ 42) = false := by rw [h1]; decide
  have o43 : (i.op == 43) = false := by rw [h1]; decide
  have o44 : (i.op == 44) = false := by rw [h1]; decide
  have o45 : (i.op == 45) = false := by rw [h1]; decide
  have o46 : (i.op == 46) = false := by rw [h1]; decide
  have HI : Hid (i.op = 47) := h1
  clear h1
  have HU : Hid (∀ U, Below u.heap.size u U → (∃ v', MemS v v' ∧ Run D g U v' m) ∧ St D u U) := fun U hU => ⟨⟨v, MemS.refl v, h.run.keep hU⟩, h.run.st hU⟩
  clear h hc hf hr hfin hv
  go_enter Tryz.func62, Tryz.ntmps62
  go_wp2_with fail
  go_region
  go_wp2
  exact ⟨rfl, rfl, HU.out _ (by repeat (first | exact below_alloc _ _ | refine Below.drew ?_ | refine below_drewN ?_ _))⟩
end Go.Proofs.YtjdfffdeljgenaaGreatDoor.W
