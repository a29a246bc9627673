import Derived.Test.YtfcfnbncgadomaaQ17
set_option linter.unusedVariables false
set_option linter.unusedSimpArgs false
namespace Go.Proofs.Ytfcfnbncgadomaa.W
open Go.RowKit
/-- what stands behind spec.l3Flow where it does not jump -/
structure Rdy (D : Nat → Prop) (g q r c : Nat) (u u1 : World) (v : MV) (m : Pl.Mac) (i : Pl.Ins) : Prop where
  run : Run (fun x => D x ∨ x = q) g u1 v m
  st : St D u u1
  ins : u1.heap[q]? = some (.cells #[.int .i64 i.op, .int .i64 i.rd, .int .i64 i.r1, .int .i64 i.r2, .int .i64 i.im] 105)
  reg : v.regs = ⟨some ⟨r, 0, none⟩, 32, c⟩
  cells : ∀ n, n < 32 → u1.cell? ⟨r, n, none⟩ = some (.int .i64 (Pl.rv m n))
theorem flow_rdy {D : Nat → Prop} {g : Nat} {u : World} {v : MV} {m : Pl.Mac} (h : Run D g u v m) (hv : Pl.Vd m) (i : Pl.Ins) (hi : Pl.InsOk i) (hf : (i.op < 37 ∨ 42 < i.op) ∧ i.op ≠ 45 ∧ i.op ≠ 33) : ∃ r c, v.regs = ⟨some ⟨r, 0, none⟩, 32, c⟩ ∧
    Calls Try.prog 96 #[.pointer (some ⟨g, 0, none⟩), .agg #[.int .i64 i.op, .int .i64 i.rd, .int .i64 i.r1, .int .i64 i.r2, .int .i64 i.im]] (u.alloc (.cells #[.int .i64 i.op, .int .i64 i.rd, .int .i64 i.r1, .int .i64 i.r2, .int .i64 i.im] 105)) fun e u1 => e = .returned (.tuple #[.int .i64 (Pl.wd (m.pc + 4)), .bool false]) ∧ Rdy D g u.heap.size r c u u1 v m i := by
  obtain ⟨r, c, hr, hc, hfz⟩ := h.regsAt hv.regs
  refine ⟨r, c, hr, ?_⟩
  have hB := h.beside (.cells #[.int .i64 i.op, .int .i64 i.rd, .int .i64 i.r1, .int .i64 i.r2, .int .i64 i.im] 105)
  have e1 : Pl.flow m i = (Pl.wd (m.pc + 4), false, m) := by unfold Pl.flow; rw [if_neg (by omega), if_neg hf.2.1, if_neg hf.2.2]
  have key := l3Flow_run hB hv i hi
  rw [e1] at key
  refine key.mono fun e u1 ⟨he, hR, hS⟩ => ⟨he, hR, (h.st (below_alloc u _)).trans (hS.mono fun x hx => .inl hx), ?_, hr, fun n hn => ?_⟩
  · rw [hS.keep _ (.inr rfl)]; exact heap_alloc_new u _
  · obtain ⟨r', c', hr', hc', _⟩ := hR.regsAt hv.regs
    rw [hr] at hr'
    cases hr'
    exact hc' n hn
theorem Rdy.ic {D : Nat → Prop} {g q r c : Nat} {u u1 : World} {v : MV} {m : Pl.Mac} {i : Pl.Ins} (h : Rdy D g q r c u u1 v m i) : u1.cell? ⟨q, 0, none⟩ = some (.int .i64 i.op) ∧ u1.cell? ⟨q, 1, none⟩ = some (.int .i64 i.rd) ∧ u1.cell? ⟨q, 2, none⟩ = some (.int .i64 i.r1) ∧ u1.cell? ⟨q, 3, none⟩ = some (.int .i64 i.r2) ∧ u1.cell? ⟨q, 4, none⟩ = some (.int .i64 i.im) := ins_cells h.ins
theorem Rdy.rs {D : Nat → Prop} {g q r c : Nat} {u u1 : World} {v : MV} {m : Pl.Mac} {i : Pl.Ins} (h : Rdy D g q r c u u1 v m i) : u1.cell? ⟨g, 2, none⟩ = some (.slice (some ⟨r, 0, none⟩) 32 c) := by rw [h.run.cell 2, h.reg]; rfl
/-- the call of spec.l3Set behind it -/
theorem Rdy.set {D : Nat → Prop} {g q r c : Nat} {u u1 : World} {v : MV} {m : Pl.Mac} {i : Pl.Ins} (h : Rdy D g q r c u u1 v m i) (hv : Pl.Vd m) (hi : Pl.InsOk i) (U : World) (hU : Below u1.heap.size u1 U) (x : Int) :
    Calls Try.prog 98 #[.pointer (some ⟨g, 0, none⟩), .int .i64 i.rd, .int .i64 x] U fun e u2 => e = .returned (.tuple #[]) ∧ Run D g u2 v (Pl.setR m i.rd x) ∧ St D u u2 ∧ u2.cell? ⟨g, 1, none⟩ = some (.int .i64 m.pc) ∧ u2.frozen? ⟨g, 1, none⟩ = false ∧ u2.heap[q]? = some (.cells #[.int .i64 i.op, .int .i64 i.rd, .int .i64 i.r1, .int .i64 i.r2, .int .i64 i.im] 105) := by
  have hR := h.run.keep hU
  refine (l3Set_run hR hv.regs i.rd hi.rd x).mono fun e u2 ⟨he, r2, s2, _⟩ => ⟨he, r2.mono fun x hx => .inl hx, (h.st.trans ((h.run.st hU).mono fun x hx => .inl hx)).trans (s2.mono fun x hx => .inl hx), ?_, r2.unfrozen 1, ?_⟩
  · rw [r2.cell 1, Pl.setR_pc]
    rfl
  · rw [s2.keep q (.inr rfl), hU.block q (Array.getElem?_eq_some_iff.1 h.ins).1]; exact h.ins
set_option maxRecDepth 8000 in
set_option maxHeartbeats 4000000 in
theorem do_alu {D : Nat → Prop} {g : Nat} {u : World} {v : MV} {m : Pl.Mac} (h : Run D g u v m) (hv : Pl.Vd m) (i : Pl.Ins) (hi : Pl.InsOk i) (h1 : i.op ≤ 18) : Calls Try.prog 87 #[.pointer (some ⟨g, 0, none⟩), .agg #[.int .i64 i.op, .int .i64 i.rd, .int .i64 i.r1, .int .i64 i.r2, .int .i64 i.im]] u fun e u' => e = .returned (.int .i64 0) ∧ (∃ v', Run D g u' v' ({ Pl.setR m i.rd (Pl.al i.op.toNat (Pl.wd (Pl.rv m i.r1)) (Pl.wd (Pl.rv m i.r2))) with pc := Pl.wd (m.pc + 4) })) ∧ St D u u' := by
  have h0 := hi.op1
  have e1 : decide (i.op ≤ 18) = true := by simpa using h1
  obtain ⟨r, c, hr, hF⟩ := flow_rdy h hv i hi (by omega)
  have HF : Hid _ := hF
  clear hF
  have l1 : (i.r1 : Int) < 32 := by have := hi.r1; omega
  have l2 : (i.r2 : Int) < 32 := by have := hi.r2; omega
  have n1 : i.r1 < 32 := by have := hi.r1; omega
  have n2 : i.r2 < 32 := by have := hi.r2; omega
  have HA : Hid (∀ w, Calls Try.prog 97 #[.int .i64 i.op, .int .i64 (Pl.rv m i.r1), .int .i64 (Pl.rv m i.r2)] w fun e w' => e = .returned (.tuple #[.int .i64 (Pl.al i.op.toNat (Pl.wd (Pl.rv m i.r1)) (Pl.wd (Pl.rv m i.r2))), .bool true]) ∧ ∃ k, w' = w.drewN k) := fun w => specAlu_yes i.op _ _ h0 h1 w
  generalize hX : Pl.al i.op.toNat (Pl.wd (Pl.rv m i.r1)) (Pl.wd (Pl.rv m i.r2)) = X at *
  clear hX
  go_enter Try.func87, Try.ntmps87
  go_wp2_with (go_at_call 96; refine Calls.mono HF.out ?_; rintro e u1 ⟨rfl, hy⟩; obtain ⟨z0, z1, z2, z3, z4⟩ := hy.ic; have zr := hy.rs; have za := hy.cells i.r1 n1; have zb := hy.cells i.r2 n2; have zp : u1.cell? ⟨g, 1, none⟩ = some (.int .i64 m.pc) := hy.run.cell 1; have Y : Hid (Rdy D g u.heap.size r c u u1 v m i) := hy; clear hy)
  go_quiet ((go_at_call 97; exact Calls.quiet_of (HA.out _)))
  go_wp2_with (go_at_call 98; refine (Y.out.set hv hi _ (below_drewN (Below.refl _ _) _) _).mono ?_; rintro e u2 ⟨rfl, hR2, hS2, p1, p2, p3⟩; have R2 : Hid (Run D g u2 v (Pl.setR m i.rd (X))) := hR2; have S2 : Hid (St D u u2) := hS2; clear hR2 hS2)
  go_ret
  exact ⟨rfl, ⟨v, R2.out.setPc _⟩, S2.out.trans (St.set (R2.out.ne 0 rfl))⟩
set_option maxRecDepth 8000 in
set_option maxHeartbeats 4000000 in
theorem do_ali_19 {D : Nat → Prop} {g : Nat} {u : World} {v : MV} {m : Pl.Mac} (h : Run D g u v m) (hv : Pl.Vd m) (i : Pl.Ins) (hi : Pl.InsOk i) (h1 : i.op = 19) : Calls Try.prog 87 #[.pointer (some ⟨g, 0, none⟩), .agg #[.int .i64 i.op, .int .i64 i.rd, .int .i64 i.r1, .int .i64 i.r2, .int .i64 i.im]] u fun e u' => e = .returned (.int .i64 0) ∧ (∃ v', Run D g u' v' ({ Pl.setR m i.rd (Pl.al (Pl.ali i.op).toNat (Pl.wd (Pl.rv m i.r1)) (Pl.wd i.im)) with pc := Pl.wd (m.pc + 4) })) ∧ St D u u' := by
  have hal : Pl.ali i.op = 1 := by rw [h1]; rfl
  rw [hal]
  have e1 : decide (i.op ≤ 18) = false := by simp; omega
  have e2 : decide (i.op ≤ 27) = true := by simp; omega
  have e3 : i.op - 19 = 0 := by omega
  obtain ⟨r, c, hr, hF⟩ := flow_rdy h hv i hi (by omega)
  have HF : Hid _ := hF
  clear hF
  have l1 : (i.r1 : Int) < 32 := by have := hi.r1; omega
  have l2 : (i.r2 : Int) < 32 := by have := hi.r2; omega
  have n1 : i.r1 < 32 := by have := hi.r1; omega
  have n2 : i.r2 < 32 := by have := hi.r2; omega
  have HA : Hid (∀ w, Calls Try.prog 97 #[.int .i64 1, .int .i64 (Pl.rv m i.r1), .int .i64 i.im] w fun e w' => e = .returned (.tuple #[.int .i64 (Pl.al (1 : Int).toNat (Pl.wd (Pl.rv m i.r1)) (Pl.wd i.im)), .bool true]) ∧ ∃ k, w' = w.drewN k) := fun w => specAlu_yes 1 _ _ (by decide) (by decide) w
  generalize hX : Pl.al (1 : Int).toNat (Pl.wd (Pl.rv m i.r1)) (Pl.wd i.im) = X at *
  clear hX h1 hal
  go_enter Try.func87, Try.ntmps87
  go_wp2_with (go_at_call 96; refine Calls.mono HF.out ?_; rintro e u1 ⟨rfl, hy⟩; obtain ⟨z0, z1, z2, z3, z4⟩ := hy.ic; have zr := hy.rs; have za := hy.cells i.r1 n1; have zb := hy.cells i.r2 n2; have zp : u1.cell? ⟨g, 1, none⟩ = some (.int .i64 m.pc) := hy.run.cell 1; have Y : Hid (Rdy D g u.heap.size r c u u1 v m i) := hy; clear hy; have y0 := fl_alloc z0; have y2 := fl_alloc z2; have y4 := fl_alloc z4; have y1 := fl_alloc z1; have yr := fl_alloc zr; have ya := fl_alloc za)
  go_quiet ((go_at_call 97; exact Calls.quiet_of (HA.out _)))
  go_wp2_with (go_at_call 98; refine (Y.out.set hv hi _ (below_drewN (below_alloc _ _) _) _).mono ?_; rintro e u2 ⟨rfl, hR2, hS2, p1, p2, p3⟩; have R2 : Hid (Run D g u2 v (Pl.setR m i.rd (X))) := hR2; have S2 : Hid (St D u u2) := hS2; clear hR2 hS2)
  go_ret
  exact ⟨rfl, ⟨v, R2.out.setPc _⟩, S2.out.trans (St.set (R2.out.ne 0 rfl))⟩
set_option maxRecDepth 8000 in
set_option maxHeartbeats 4000000 in
theorem do_ali_20 {D : Nat → Prop} {g : Nat} {u : World} {v : MV} {m : Pl.Mac} (h : Run D g u v m) (hv : Pl.Vd m) (i : Pl.Ins) (hi : Pl.InsOk i) (h1 : i.op = 20) : Calls Try.prog 87 #[.pointer (some ⟨g, 0, none⟩), .agg #[.int .i64 i.op, .int .i64 i.rd, .int .i64 i.r1, .int .i64 i.r2, .int .i64 i.im]] u fun e u' => e = .returned (.int .i64 0) ∧ (∃ v', Run D g u' v' ({ Pl.setR m i.rd (Pl.al (Pl.ali i.op).toNat (Pl.wd (Pl.rv m i.r1)) (Pl.wd i.im)) with pc := Pl.wd (m.pc + 4) })) ∧ St D u u' := by
  have hal : Pl.ali i.op = 4 := by rw [h1]; rfl
  rw [hal]
  have e1 : decide (i.op ≤ 18) = false := by simp; omega
  have e2 : decide (i.op ≤ 27) = true := by simp; omega
  have e3 : i.op - 19 = 1 := by omega
  obtain ⟨r, c, hr, hF⟩ := flow_rdy h hv i hi (by omega)
  have HF : Hid _ := hF
  clear hF
  have l1 : (i.r1 : Int) < 32 := by have := hi.r1; omega
  have l2 : (i.r2 : Int) < 32 := by have := hi.r2; omega
  have n1 : i.r1 < 32 := by have := hi.r1; omega
  have n2 : i.r2 < 32 := by have := hi.r2; omega
  have HA : Hid (∀ w, Calls Try.prog 97 #[.int .i64 4, .int .i64 (Pl.rv m i.r1), .int .i64 i.im] w fun e w' => e = .returned (.tuple #[.int .i64 (Pl.al (4 : Int).toNat (Pl.wd (Pl.rv m i.r1)) (Pl.wd i.im)), .bool true]) ∧ ∃ k, w' = w.drewN k) := fun w => specAlu_yes 4 _ _ (by decide) (by decide) w
  generalize hX : Pl.al (4 : Int).toNat (Pl.wd (Pl.rv m i.r1)) (Pl.wd i.im) = X at *
  clear hX h1 hal
  go_enter Try.func87, Try.ntmps87
  go_wp2_with (go_at_call 96; refine Calls.mono HF.out ?_; rintro e u1 ⟨rfl, hy⟩; obtain ⟨z0, z1, z2, z3, z4⟩ := hy.ic; have zr := hy.rs; have za := hy.cells i.r1 n1; have zb := hy.cells i.r2 n2; have zp : u1.cell? ⟨g, 1, none⟩ = some (.int .i64 m.pc) := hy.run.cell 1; have Y : Hid (Rdy D g u.heap.size r c u u1 v m i) := hy; clear hy; have y0 := fl_alloc z0; have y2 := fl_alloc z2; have y4 := fl_alloc z4; have y1 := fl_alloc z1; have yr := fl_alloc zr; have ya := fl_alloc za)
  go_quiet ((go_at_call 97; exact Calls.quiet_of (HA.out _)))
  go_wp2_with (go_at_call 98; refine (Y.out.set hv hi _ (below_drewN (below_alloc _ _) _) _).mono ?_; rintro e u2 ⟨rfl, hR2, hS2, p1, p2, p3⟩; have R2 : Hid (Run D g u2 v (Pl.setR m i.rd (X))) := hR2; have S2 : Hid (St D u u2) := hS2; clear hR2 hS2)
  go_ret
  exact ⟨rfl, ⟨v, R2.out.setPc _⟩, S2.out.trans (St.set (R2.out.ne 0 rfl))⟩
set_option maxRecDepth 8000 in
set_option maxHeartbeats 4000000 in
theorem do_ali_21 {D : Nat → Prop} {g : Nat} {u : World} {v : MV} {m : Pl.Mac} (h : Run D g u v m) (hv : Pl.Vd m) (i : Pl.Ins) (hi : Pl.InsOk i) (h1 : i.op = 21) : Calls Try.prog 87 #[.pointer (some ⟨g, 0, none⟩), .agg #[.int .i64 i.op, .int .i64 i.rd, .int .i64 i.r1, .int .i64 i.r2, .int .i64 i.im]] u fun e u' => e = .returned (.int .i64 0) ∧ (∃ v', Run D g u' v' ({ Pl.setR m i.rd (Pl.al (Pl.ali i.op).toNat (Pl.wd (Pl.rv m i.r1)) (Pl.wd i.im)) with pc := Pl.wd (m.pc + 4) })) ∧ St D u u' := by
  have hal : Pl.ali i.op = 5 := by rw [h1]; rfl
  rw [hal]
  have e1 : decide (i.op ≤ 18) = false := by simp; omega
  have e2 : decide (i.op ≤ 27) = true := by simp; omega
  have e3 : i.op - 19 = 2 := by omega
  obtain ⟨r, c, hr, hF⟩ := flow_rdy h hv i hi (by omega)
  have HF : Hid _ := hF
  clear hF
  have l1 : (i.r1 : Int) < 32 := by have := hi.r1; omega
  have l2 : (i.r2 : Int) < 32 := by have := hi.r2; omega
  have n1 : i.r1 < 32 := by have := hi.r1; omega
  have n2 : i.r2 < 32 := by have := hi.r2; omega
  have HA : Hid (∀ w, Calls Try.prog 97 #[.int .i64 5, .int .i64 (Pl.rv m i.r1), .int .i64 i.im] w fun e w' => e = .returned (.tuple #[.int .i64 (Pl.al (5 : Int).toNat (Pl.wd (Pl.rv m i.r1)) (Pl.wd i.im)), .bool true]) ∧ ∃ k, w' = w.drewN k) := fun w => specAlu_yes 5 _ _ (by decide) (by decide) w
  generalize hX : Pl.al (5 : Int).toNat (Pl.wd (Pl.rv m i.r1)) (Pl.wd i.im) = X at *
  clear hX h1 hal
  go_enter Try.func87, Try.ntmps87
  go_wp2_with (go_at_call 96; refine Calls.mono HF.out ?_; rintro e u1 ⟨rfl, hy⟩; obtain ⟨z0, z1, z2, z3, z4⟩ := hy.ic; have zr := hy.rs; have za := hy.cells i.r1 n1; have zb := hy.cells i.r2 n2; have zp : u1.cell? ⟨g, 1, none⟩ = some (.int .i64 m.pc) := hy.run.cell 1; have Y : Hid (Rdy D g u.heap.size r c u u1 v m i) := hy; clear hy; have y0 := fl_alloc z0; have y2 := fl_alloc z2; have y4 := fl_alloc z4; have y1 := fl_alloc z1; have yr := fl_alloc zr; have ya := fl_alloc za)
  go_quiet ((go_at_call 97; exact Calls.quiet_of (HA.out _)))
  go_wp2_with (go_at_call 98; refine (Y.out.set hv hi _ (below_drewN (below_alloc _ _) _) _).mono ?_; rintro e u2 ⟨rfl, hR2, hS2, p1, p2, p3⟩; have R2 : Hid (Run D g u2 v (Pl.setR m i.rd (X))) := hR2; have S2 : Hid (St D u u2) := hS2; clear hR2 hS2)
  go_ret
  exact ⟨rfl, ⟨v, R2.out.setPc _⟩, S2.out.trans (St.set (R2.out.ne 0 rfl))⟩
set_option maxRecDepth 8000 in
set_option maxHeartbeats 4000000 in
theorem do_ali_22 {D : Nat → Prop} {g : Nat} {u : World} {v : MV} {m : Pl.Mac} (h : Run D g u v m) (hv : Pl.Vd m) (i : Pl.Ins) (hi : Pl.InsOk i) (h1 : i.op = 22) : Calls Try.prog 87 #[.pointer (some ⟨g, 0, none⟩), .agg #[.int .i64 i.op, .int .i64 i.rd, .int .i64 i.r1, .int .i64 i.r2, .int .i64 i.im]] u fun e u' => e = .returned (.int .i64 0) ∧ (∃ v', Run D g u' v' ({ Pl.setR m i.rd (Pl.al (Pl.ali i.op).toNat (Pl.wd (Pl.rv m i.r1)) (Pl.wd i.im)) with pc := Pl.wd (m.pc + 4) })) ∧ St D u u' := by
  have hal : Pl.ali i.op = 6 := by rw [h1]; rfl
  rw [hal]
  have e1 : decide (i.op ≤ 18) = false := by simp; omega
  have e2 : decide (i.op ≤ 27) = true := by simp; omega
  have e3 : i.op - 19 = 3 := by omega
  obtain ⟨r, c, hr, hF⟩ := flow_rdy h hv i hi (by omega)
  have HF : Hid _ := hF
  clear hF
  have l1 : (i.r1 : Int) < 32 := by have := hi.r1; omega
  have l2 : (i.r2 : Int) < 32 := by have := hi.r2; omega
  have n1 : i.r1 < 32 := by have := hi.r1; omega
  have n2 : i.r2 < 32 := by have := hi.r2; omega
  have HA : Hid (∀ w, Calls Try.prog 97 #[.int .i64 6, .int .i64 (Pl.rv m i.r1), .int .i64 i.im] w fun e w' => e = .returned (.tuple #[.int .i64 (Pl.al (6 : Int).toNat (Pl.wd (Pl.rv m i.r1)) (Pl.wd i.im)), .bool true]) ∧ ∃ k, w' = w.drewN k) := fun w => specAlu_yes 6 _ _ (by decide) (by decide) w
  generalize hX : Pl.al (6 : Int).toNat (Pl.wd (Pl.rv m i.r1)) (Pl.wd i.im) = X at *
  clear hX h1 hal
  go_enter Try.func87, Try.ntmps87
  go_wp2_with (go_at_call 96; refine Calls.mono HF.out ?_; rintro e u1 ⟨rfl, hy⟩; obtain ⟨z0, z1, z2, z3, z4⟩ := hy.ic; have zr := hy.rs; have za := hy.cells i.r1 n1; have zb := hy.cells i.r2 n2; have zp : u1.cell? ⟨g, 1, none⟩ = some (.int .i64 m.pc) := hy.run.cell 1; have Y : Hid (Rdy D g u.heap.size r c u u1 v m i) := hy; clear hy; have y0 := fl_alloc z0; have y2 := fl_alloc z2; have y4 := fl_alloc z4; have y1 := fl_alloc z1; have yr := fl_alloc zr; have ya := fl_alloc za)
  go_quiet ((go_at_call 97; exact Calls.quiet_of (HA.out _)))
  go_wp2_with (go_at_call 98; refine (Y.out.set hv hi _ (below_drewN (below_alloc _ _) _) _).mono ?_; rintro e u2 ⟨rfl, hR2, hS2, p1, p2, p3⟩; have R2 : Hid (Run D g u2 v (Pl.setR m i.rd (X))) := hR2; have S2 : Hid (St D u u2) := hS2; clear hR2 hS2)
  go_ret
  exact ⟨rfl, ⟨v, R2.out.setPc _⟩, S2.out.trans (St.set (R2.out.ne 0 rfl))⟩
set_option maxRecDepth 8000 in
set_option maxHeartbeats 4000000 in
theorem do_ali_23 {D : Nat → Prop} {g : Nat} {u : World} {v : MV} {m : Pl.Mac} (h : Run D g u v m) (hv : Pl.Vd m) (i : Pl.Ins) (hi : Pl.InsOk i) (h1 : i.op = 23) : Calls Try.prog 87 #[.pointer (some ⟨g, 0, none⟩), .agg #[.int .i64 i.op, .int .i64 i.rd, .int .i64 i.r1, .int .i64 i.r2, .int .i64 i.im]] u fun e u' => e = .returned (.int .i64 0) ∧ (∃ v', Run D g u' v' ({ Pl.setR m i.rd (Pl.al (Pl.ali i.op).toNat (Pl.wd (Pl.rv m i.r1)) (Pl.wd i.im)) with pc := Pl.wd (m.pc + 4) })) ∧ St D u u' := by
  have hal : Pl.ali i.op = 9 := by rw [h1]; rfl
  rw [hal]
  have e1 : decide (i.op ≤ 18) = false := by simp; omega
  have e2 : decide (i.op ≤ 27) = true := by simp; omega
  have e3 : i.op - 19 = 4 := by omega
  obtain ⟨r, c, hr, hF⟩ := flow_rdy h hv i hi (by omega)
  have HF : Hid _ := hF
  clear hF
  have l1 : (i.r1 : Int) < 32 := by have := hi.r1; omega
  have l2 : (i.r2 : Int) < 32 := by have := hi.r2; omega
  have n1 : i.r1 < 32 := by have := hi.r1; omega
  have n2 : i.r2 < 32 := by have := hi.r2; omega
  have HA : Hid (∀ w, Calls Try.prog 97 #[.int .i64 9, .int .i64 (Pl.rv m i.r1), .int .i64 i.im] w fun e w' => e = .returned (.tuple #[.int .i64 (Pl.al (9 : Int).toNat (Pl.wd (Pl.rv m i.r1)) (Pl.wd i.im)), .bool true]) ∧ ∃ k, w' = w.drewN k) := fun w => specAlu_yes 9 _ _ (by decide) (by decide) w
  generalize hX : Pl.al (9 : Int).toNat (Pl.wd (Pl.rv m i.r1)) (Pl.wd i.im) = X at *
  clear hX h1 hal
  go_enter Try.func87, Try.ntmps87
  go_wp2_with (go_at_call 96; refine Calls.mono HF.out ?_; rintro e u1 ⟨rfl, hy⟩; obtain ⟨z0, z1, z2, z3, z4⟩ := hy.ic; have zr := hy.rs; have za := hy.cells i.r1 n1; have zb := hy.cells i.r2 n2; have zp : u1.cell? ⟨g, 1, none⟩ = some (.int .i64 m.pc) := hy.run.cell 1; have Y : Hid (Rdy D g u.heap.size r c u u1 v m i) := hy; clear hy; have y0 := fl_alloc z0; have y2 := fl_alloc z2; have y4 := fl_alloc z4; have y1 := fl_alloc z1; have yr := fl_alloc zr; have ya := fl_alloc za)
  go_quiet ((go_at_call 97; exact Calls.quiet_of (HA.out _)))
  go_wp2_with (go_at_call 98; refine (Y.out.set hv hi _ (below_drewN (below_alloc _ _) _) _).mono ?_; rintro e u2 ⟨rfl, hR2, hS2, p1, p2, p3⟩; have R2 : Hid (Run D g u2 v (Pl.setR m i.rd (X))) := hR2; have S2 : Hid (St D u u2) := hS2; clear hR2 hS2)
  go_ret
  exact ⟨rfl, ⟨v, R2.out.setPc _⟩, S2.out.trans (St.set (R2.out.ne 0 rfl))⟩
set_option maxRecDepth 8000 in
set_option maxHeartbeats 4000000 in
theorem do_ali_24 {D : Nat → Prop} {g : Nat} {u : World} {v : MV} {m : Pl.Mac} (h : Run D g u v m) (hv : Pl.Vd m) (i : Pl.Ins) (hi : Pl.InsOk i) (h1 : i.op = 24) : Calls Try.prog 87 #[.pointer (some ⟨g, 0, none⟩), .agg #[.int .i64 i.op, .int .i64 i.rd, .int .i64 i.r1, .int .i64 i.r2, .int .i64 i.im]] u fun e u' => e = .returned (.int .i64 0) ∧ (∃ v', Run D g u' v' ({ Pl.setR m i.rd (Pl.al (Pl.ali i.op).toNat (Pl.wd (Pl.rv m i.r1)) (Pl.wd i.im)) with pc := Pl.wd (m.pc + 4) })) ∧ St D u u' := by
  have hal : Pl.ali i.op = 10 := by rw [h1]; rfl
  rw [hal]
  have e1 : decide (i.op ≤ 18) = false := by simp; omega
  have e2 : decide (i.op ≤ 27) = true := by simp; omega
  have e3 : i.op - 19 = 5 := by omega
  obtain ⟨r, c, hr, hF⟩ := flow_rdy h hv i hi (by omega)
  have HF : Hid _ := hF
  clear hF
  have l1 : (i.r1 : Int) < 32 := by have := hi.r1; omega
  have l2 : (i.r2 : Int) < 32 := by have := hi.r2; omega
  have n1 : i.r1 < 32 := by have := hi.r1; omega
  have n2 : i.r2 < 32 := by have := hi.r2; omega
  have HA : Hid (∀ w, Calls Try.prog 97 #[.int .i64 10, .int .i64 (Pl.rv m i.r1), .int .i64 i.im] w fun e w' => e = .returned (.tuple #[.int .i64 (Pl.al (10 : Int).toNat (Pl.wd (Pl.rv m i.r1)) (Pl.wd i.im)), .bool true]) ∧ ∃ k, w' = w.drewN k) := fun w => specAlu_yes 10 _ _ (by decide) (by decide) w
  generalize hX : Pl.al (10 : Int).toNat (Pl.wd (Pl.rv m i.r1)) (Pl.wd i.im) = X at *
  clear hX h1 hal
  go_enter Try.func87, Try.ntmps87
  go_wp2_with (go_at_call 96; refine Calls.mono HF.out ?_; rintro e u1 ⟨rfl, hy⟩; obtain ⟨z0, z1, z2, z3, z4⟩ := hy.ic; have zr := hy.rs; have za := hy.cells i.r1 n1; have zb := hy.cells i.r2 n2; have zp : u1.cell? ⟨g, 1, none⟩ = some (.int .i64 m.pc) := hy.run.cell 1; have Y : Hid (Rdy D g u.heap.size r c u u1 v m i) := hy; clear hy; have y0 := fl_alloc z0; have y2 := fl_alloc z2; have y4 := fl_alloc z4; have y1 := fl_alloc z1; have yr := fl_alloc zr; have ya := fl_alloc za)
  go_quiet ((go_at_call 97; exact Calls.quiet_of (HA.out _)))
  go_wp2_with (go_at_call 98; refine (Y.out.set hv hi _ (below_drewN (below_alloc _ _) _) _).mono ?_; rintro e u2 ⟨rfl, hR2, hS2, p1, p2, p3⟩; have R2 : Hid (Run D g u2 v (Pl.setR m i.rd (X))) := hR2; have S2 : Hid (St D u u2) := hS2; clear hR2 hS2)
  go_ret
  exact ⟨rfl, ⟨v, R2.out.setPc _⟩, S2.out.trans (St.set (R2.out.ne 0 rfl))⟩
set_option maxRecDepth 8000 in
set_option maxHeartbeats 4000000 in
theorem do_ali_25 {D : Nat → Prop} {g : Nat} {u : World} {v : MV} {m : Pl.Mac} (h : Run D g u v m) (hv : Pl.Vd m) (i : Pl.Ins) (hi : Pl.InsOk i) (h1 : i.op = 25) : Calls Try.prog 87 #[.pointer (some ⟨g, 0, none⟩), .agg #[.int .i64 i.op, .int .i64 i.rd, .int .i64 i.r1, .int .i64 i.r2, .int .i64 i.im]] u fun e u' => e = .returned (.int .i64 0) ∧ (∃ v', Run D g u' v' ({ Pl.setR m i.rd (Pl.al (Pl.ali i.op).toNat (Pl.wd (Pl.rv m i.r1)) (Pl.wd i.im)) with pc := Pl.wd (m.pc + 4) })) ∧ St D u u' := by
  have hal : Pl.ali i.op = 3 := by rw [h1]; rfl
  rw [hal]
  have e1 : decide (i.op ≤ 18) = false := by simp; omega
  have e2 : decide (i.op ≤ 27) = true := by simp; omega
  have e3 : i.op - 19 = 6 := by omega
  obtain ⟨r, c, hr, hF⟩ := flow_rdy h hv i hi (by omega)
  have HF : Hid _ := hF
  clear hF
  have l1 : (i.r1 : Int) < 32 := by have := hi.r1; omega
  have l2 : (i.r2 : Int) < 32 := by have := hi.r2; omega
  have n1 : i.r1 < 32 := by have := hi.r1; omega
  have n2 : i.r2 < 32 := by have := hi.r2; omega
  have HA : Hid (∀ w, Calls Try.prog 97 #[.int .i64 3, .int .i64 (Pl.rv m i.r1), .int .i64 i.im] w fun e w' => e = .returned (.tuple #[.int .i64 (Pl.al (3 : Int).toNat (Pl.wd (Pl.rv m i.r1)) (Pl.wd i.im)), .bool true]) ∧ ∃ k, w' = w.drewN k) := fun w => specAlu_yes 3 _ _ (by decide) (by decide) w
  generalize hX : Pl.al (3 : Int).toNat (Pl.wd (Pl.rv m i.r1)) (Pl.wd i.im) = X at *
  clear hX h1 hal
  go_enter Try.func87, Try.ntmps87
  go_wp2_with (go_at_call 96; refine Calls.mono HF.out ?_; rintro e u1 ⟨rfl, hy⟩; obtain ⟨z0, z1, z2, z3, z4⟩ := hy.ic; have zr := hy.rs; have za := hy.cells i.r1 n1; have zb := hy.cells i.r2 n2; have zp : u1.cell? ⟨g, 1, none⟩ = some (.int .i64 m.pc) := hy.run.cell 1; have Y : Hid (Rdy D g u.heap.size r c u u1 v m i) := hy; clear hy; have y0 := fl_alloc z0; have y2 := fl_alloc z2; have y4 := fl_alloc z4; have y1 := fl_alloc z1; have yr := fl_alloc zr; have ya := fl_alloc za)
  go_quiet ((go_at_call 97; exact Calls.quiet_of (HA.out _)))
  go_wp2_with (go_at_call 98; refine (Y.out.set hv hi _ (below_drewN (below_alloc _ _) _) _).mono ?_; rintro e u2 ⟨rfl, hR2, hS2, p1, p2, p3⟩; have R2 : Hid (Run D g u2 v (Pl.setR m i.rd (X))) := hR2; have S2 : Hid (St D u u2) := hS2; clear hR2 hS2)
  go_ret
  exact ⟨rfl, ⟨v, R2.out.setPc _⟩, S2.out.trans (St.set (R2.out.ne 0 rfl))⟩
set_option maxRecDepth 8000 in
set_option maxHeartbeats 4000000 in
theorem do_ali_26 {D : Nat → Prop} {g : Nat} {u : World} {v : MV} {m : Pl.Mac} (h : Run D g u v m) (hv : Pl.Vd m) (i : Pl.Ins) (hi : Pl.InsOk i) (h1 : i.op = 26) : Calls Try.prog 87 #[.pointer (some ⟨g, 0, none⟩), .agg #[.int .i64 i.op, .int .i64 i.rd, .int .i64 i.r1, .int .i64 i.r2, .int .i64 i.im]] u fun e u' => e = .returned (.int .i64 0) ∧ (∃ v', Run D g u' v' ({ Pl.setR m i.rd (Pl.al (Pl.ali i.op).toNat (Pl.wd (Pl.rv m i.r1)) (Pl.wd i.im)) with pc := Pl.wd (m.pc + 4) })) ∧ St D u u' := by
  have hal : Pl.ali i.op = 7 := by rw [h1]; rfl
  rw [hal]
  have e1 : decide (i.op ≤ 18) = false := by simp; omega
  have e2 : decide (i.op ≤ 27) = true := by simp; omega
  have e3 : i.op - 19 = 7 := by omega
  obtain ⟨r, c, hr, hF⟩ := flow_rdy h hv i hi (by omega)
  have HF : Hid _ := hF
  clear hF
  have l1 : (i.r1 : Int) < 32 := by have := hi.r1; omega
  have l2 : (i.r2 : Int) < 32 := by have := hi.r2; omega
  have n1 : i.r1 < 32 := by have := hi.r1; omega
  have n2 : i.r2 < 32 := by have := hi.r2; omega
  have HA : Hid (∀ w, Calls Try.prog 97 #[.int .i64 7, .int .i64 (Pl.rv m i.r1), .int .i64 i.im] w fun e w' => e = .returned (.tuple #[.int .i64 (Pl.al (7 : Int).toNat (Pl.wd (Pl.rv m i.r1)) (Pl.wd i.im)), .bool true]) ∧ ∃ k, w' = w.drewN k) := fun w => specAlu_yes 7 _ _ (by decide) (by decide) w
  generalize hX : Pl.al (7 : Int).toNat (Pl.wd (Pl.rv m i.r1)) (Pl.wd i.im) = X at *
  clear hX h1 hal
  go_enter Try.func87, Try.ntmps87
  go_wp2_with (go_at_call 96; refine Calls.mono HF.out ?_; rintro e u1 ⟨rfl, hy⟩; obtain ⟨z0, z1, z2, z3, z4⟩ := hy.ic; have zr := hy.rs; have za := hy.cells i.r1 n1; have zb := hy.cells i.r2 n2; have zp : u1.cell? ⟨g, 1, none⟩ = some (.int .i64 m.pc) := hy.run.cell 1; have Y : Hid (Rdy D g u.heap.size r c u u1 v m i) := hy; clear hy; have y0 := fl_alloc z0; have y2 := fl_alloc z2; have y4 := fl_alloc z4; have y1 := fl_alloc z1; have yr := fl_alloc zr; have ya := fl_alloc za)
  go_quiet ((go_at_call 97; exact Calls.quiet_of (HA.out _)))
  go_wp2_with (go_at_call 98; refine (Y.out.set hv hi _ (below_drewN (below_alloc _ _) _) _).mono ?_; rintro e u2 ⟨rfl, hR2, hS2, p1, p2, p3⟩; have R2 : Hid (Run D g u2 v (Pl.setR m i.rd (X))) := hR2; have S2 : Hid (St D u u2) := hS2; clear hR2 hS2)
  go_ret
  exact ⟨rfl, ⟨v, R2.out.setPc _⟩, S2.out.trans (St.set (R2.out.ne 0 rfl))⟩
set_option maxRecDepth 8000 in
set_option maxHeartbeats 4000000 in
theorem do_ali_27 {D : Nat → Prop} {g : Nat} {u : World} {v : MV} {m : Pl.Mac} (h : Run D g u v m) (hv : Pl.Vd m) (i : Pl.Ins) (hi : Pl.InsOk i) (h1 : i.op = 27) : Calls Try.prog 87 #[.pointer (some ⟨g, 0, none⟩), .agg #[.int .i64 i.op, .int .i64 i.rd, .int .i64 i.r1, .int .i64 i.r2, .int .i64 i.im]] u fun e u' => e = .returned (.int .i64 0) ∧ (∃ v', Run D g u' v' ({ Pl.setR m i.rd (Pl.al (Pl.ali i.op).toNat (Pl.wd (Pl.rv m i.r1)) (Pl.wd i.im)) with pc := Pl.wd (m.pc + 4) })) ∧ St D u u' := by
  have hal : Pl.ali i.op = 8 := by rw [h1]; rfl
  rw [hal]
  have e1 : decide (i.op ≤ 18) = false := by simp; omega
  have e2 : decide (i.op ≤ 27) = true := by simp; omega
  have e3 : i.op - 19 = 8 := by omega
  obtain ⟨r, c, hr, hF⟩ := flow_rdy h hv i hi (by omega)
  have HF : Hid _ := hF
  clear hF
  have l1 : (i.r1 : Int) < 32 := by have := hi.r1; omega
  have l2 : (i.r2 : Int) < 32 := by have := hi.r2; omega
  have n1 : i.r1 < 32 := by have := hi.r1; omega
  have n2 : i.r2 < 32 := by have := hi.r2; omega
  have HA : Hid (∀ w, Calls Try.prog 97 #[.int .i64 8, .int .i64 (Pl.rv m i.r1), .int .i64 i.im] w fun e w' => e = .returned (.tuple #[.int .i64 (Pl.al (8 : Int).toNat (Pl.wd (Pl.rv m i.r1)) (Pl.wd i.im)), .bool true]) ∧ ∃ k, w' = w.drewN k) := fun w => specAlu_yes 8 _ _ (by decide) (by decide) w
  generalize hX : Pl.al (8 : Int).toNat (Pl.wd (Pl.rv m i.r1)) (Pl.wd i.im) = X at *
  clear hX h1 hal
  go_enter Try.func87, Try.ntmps87
  go_wp2_with (go_at_call 96; refine Calls.mono HF.out ?_; rintro e u1 ⟨rfl, hy⟩; obtain ⟨z0, z1, z2, z3, z4⟩ := hy.ic; have zr := hy.rs; have za := hy.cells i.r1 n1; have zb := hy.cells i.r2 n2; have zp : u1.cell? ⟨g, 1, none⟩ = some (.int .i64 m.pc) := hy.run.cell 1; have Y : Hid (Rdy D g u.heap.size r c u u1 v m i) := hy; clear hy; have y0 := fl_alloc z0; have y2 := fl_alloc z2; have y4 := fl_alloc z4; have y1 := fl_alloc z1; have yr := fl_alloc zr; have ya := fl_alloc za)
  go_quiet ((go_at_call 97; exact Calls.quiet_of (HA.out _)))
  go_wp2_with (go_at_call 98; refine (Y.out.set hv hi _ (below_drewN (below_alloc _ _) _) _).mono ?_; rintro e u2 ⟨rfl, hR2, hS2, p1, p2, p3⟩; have R2 : Hid (Run D g u2 v (Pl.setR m i.rd (X))) := hR2; have S2 : Hid (St D u u2) := hS2; clear hR2 hS2)
  go_ret
  exact ⟨rfl, ⟨v, R2.out.setPc _⟩, S2.out.trans (St.set (R2.out.ne 0 rfl))⟩
theorem do_ali {D : Nat → Prop} {g : Nat} {u : World} {v : MV} {m : Pl.Mac} (h : Run D g u v m) (hv : Pl.Vd m) (i : Pl.Ins) (hi : Pl.InsOk i) (h1 : 19 ≤ i.op) (h2 : i.op ≤ 27) : Calls Try.prog 87 #[.pointer (some ⟨g, 0, none⟩), .agg #[.int .i64 i.op, .int .i64 i.rd, .int .i64 i.r1, .int .i64 i.r2, .int .i64 i.im]] u fun e u' => e = .returned (.int .i64 0) ∧ (∃ v', Run D g u' v' ({ Pl.setR m i.rd (Pl.al (Pl.ali i.op).toNat (Pl.wd (Pl.rv m i.r1)) (Pl.wd i.im)) with pc := Pl.wd (m.pc + 4) })) ∧ St D u u' := by
  have hop : i.op = 19 ∨ i.op = 20 ∨ i.op = 21 ∨ i.op = 22 ∨ i.op = 23 ∨ i.op = 24 ∨ i.op = 25 ∨ i.op = 26 ∨ i.op = 27 := by omega
  rcases hop with e | e | e | e | e | e | e | e | e
  · exact do_ali_19 h hv i hi e
  · exact do_ali_20 h hv i hi e
  · exact do_ali_21 h hv i hi e
  · exact do_ali_22 h hv i hi e
  · exact do_ali_23 h hv i hi e
  · exact do_ali_24 h hv i hi e
  · exact do_ali_25 h hv i hi e
  · exact do_ali_26 h hv i hi e
  · exact do_ali_27 h hv i hi e
set_option maxRecDepth 8000 in
set_option maxHeartbeats 4000000 in
theorem do_lui {D : Nat → Prop} {g : Nat} {u : World} {v : MV} {m : Pl.Mac} (h : Run D g u v m) (hv : Pl.Vd m) (i : Pl.Ins) (hi : Pl.InsOk i) (h1 : i.op = 43) : Calls Try.prog 87 #[.pointer (some ⟨g, 0, none⟩), .agg #[.int .i64 i.op, .int .i64 i.rd, .int .i64 i.r1, .int .i64 i.r2, .int .i64 i.im]] u fun e u' => e = .returned (.int .i64 0) ∧ (∃ v', Run D g u' v' ({ Pl.setR m i.rd (i.im * 4096) with pc := Pl.wd (m.pc + 4) })) ∧ St D u u' := by
  have f0 : decide (i.op ≤ 18) = false := by simp; omega
  have f1 : decide (i.op ≤ 27) = false := by simp; omega
  have f2 : decide (i.op ≤ 32) = false := by simp; omega
  have f3 : decide (34 ≤ i.op) = true := by simp; omega
  have f4 : decide (i.op ≤ 36) = false := by simp; omega
  have f5 : (i.op == 43) = true := by simp; omega
  have him := hi.im
  have hw : IntKind.i64.wrap (i.im * 4096) = i.im * 4096 := by rw [IntKind.wrap_i64]; omega
  obtain ⟨r, c, hr, hF⟩ := flow_rdy h hv i hi (by omega)
  have HF : Hid _ := hF
  clear hF
  have l1 : (i.r1 : Int) < 32 := by have := hi.r1; omega
  have l2 : (i.r2 : Int) < 32 := by have := hi.r2; omega
  have n1 : i.r1 < 32 := by have := hi.r1; omega
  have n2 : i.r2 < 32 := by have := hi.r2; omega
  clear h1
  go_enter Try.func87, Try.ntmps87
  go_wp2_with (first | (go_at_call 96; refine Calls.mono HF.out ?_; rintro e u1 ⟨rfl, hy⟩; obtain ⟨z0, z1, z2, z3, z4⟩ := hy.ic; have zr := hy.rs; have za := hy.cells i.r1 n1; have zb := hy.cells i.r2 n2; have zp : u1.cell? ⟨g, 1, none⟩ = some (.int .i64 m.pc) := hy.run.cell 1; have Y : Hid (Rdy D g u.heap.size r c u u1 v m i) := hy; clear hy) | (go_at_call 98; refine (Y.out.set hv hi _ (Below.refl _ _) _).mono ?_; rintro e u2 ⟨rfl, hR2, hS2, p1, p2, p3⟩; have R2 : Hid (Run D g u2 v (Pl.setR m i.rd (i.im * 4096))) := hR2; have S2 : Hid (St D u u2) := hS2; clear hR2 hS2))
  go_ret
  exact ⟨rfl, ⟨v, R2.out.setPc _⟩, S2.out.trans (St.set (R2.out.ne 0 rfl))⟩
set_option maxRecDepth 8000 in
set_option maxHeartbeats 4000000 in
theorem do_break {D : Nat → Prop} {g : Nat} {u : World} {v : MV} {m : Pl.Mac} (h : Run D g u v m) (hv : Pl.Vd m) (i : Pl.Ins) (hi : Pl.InsOk i) (h1 : i.op = 47) : Calls Try.prog 87 #[.pointer (some ⟨g, 0, none⟩), .agg #[.int .i64 i.op, .int .i64 i.rd, .int .i64 i.r1, .int .i64 i.r2, .int .i64 i.im]] u fun e u' => e = .returned (.int .i64 5) ∧ (∃ v', Run D g u' v' (m)) ∧ St D u u' := by
  have f0 : decide (i.op ≤ 18) = false := by simp; omega
  have f1 : decide (i.op ≤ 27) = false := by simp; omega
  have f2 : decide (i.op ≤ 32) = false := by simp; omega
  have f3 : decide (34 ≤ i.op) = true := by simp; omega
  have f4 : decide (i.op ≤ 36) = false := by simp; omega
  have f5 : (i.op == 43) = false := by simp; omega
  have f6 : (i.op == 44) = false := by simp; omega
  have f7 : (i.op == 47) = true := by simp; omega
  obtain ⟨r, c, hr, hF⟩ := flow_rdy h hv i hi (by omega)
  have HF : Hid _ := hF
  clear hF
  have l1 : (i.r1 : Int) < 32 := by have := hi.r1; omega
  have l2 : (i.r2 : Int) < 32 := by have := hi.r2; omega
  have n1 : i.r1 < 32 := by have := hi.r1; omega
  have n2 : i.r2 < 32 := by have := hi.r2; omega
  clear h1
  go_enter Try.func87, Try.ntmps87
  go_wp2_with (go_at_call 96; refine Calls.mono HF.out ?_; rintro e u1 ⟨rfl, hy⟩; obtain ⟨z0, z1, z2, z3, z4⟩ := hy.ic; have zr := hy.rs; have za := hy.cells i.r1 n1; have zb := hy.cells i.r2 n2; have zp : u1.cell? ⟨g, 1, none⟩ = some (.int .i64 m.pc) := hy.run.cell 1; have Y : Hid (Rdy D g u.heap.size r c u u1 v m i) := hy; clear hy)
  go_ret
  exact ⟨rfl, ⟨v, Y.out.run.mono fun x hx => .inl hx⟩, Y.out.st⟩
set_option maxRecDepth 8000 in
set_option maxHeartbeats 4000000 in
theorem do_ecall {D : Nat → Prop} {g : Nat} {u : World} {v : MV} {m : Pl.Mac} (h : Run D g u v m) (hv : Pl.Vd m) (i : Pl.Ins) (hi : Pl.InsOk i) (h1 : i.op = 46) : Calls Try.prog 87 #[.pointer (some ⟨g, 0, none⟩), .agg #[.int .i64 i.op, .int .i64 i.rd, .int .i64 i.r1, .int .i64 i.r2, .int .i64 i.im]] u fun e u' => e = .returned (.int .i64 ((if (Pl.ecall m).2 = 0 ∧ (Pl.ecall m).1.fin = 0 then ({ (Pl.ecall m).1 with pc := Pl.wd (m.pc + 4) }, (0 : Int)) else Pl.ecall m).2)) ∧ (∃ v', Run D g u' v' ((if (Pl.ecall m).2 = 0 ∧ (Pl.ecall m).1.fin = 0 then ({ (Pl.ecall m).1 with pc := Pl.wd (m.pc + 4) }, (0 : Int)) else Pl.ecall m).1)) ∧ St D u u' := by
  have f0 : decide (i.op ≤ 18) = false := by simp; omega
  have f1 : decide (i.op ≤ 27) = false := by simp; omega
  have f2 : decide (i.op ≤ 32) = false := by simp; omega
  have f3 : decide (34 ≤ i.op) = true := by simp; omega
  have f4 : decide (i.op ≤ 36) = false := by simp; omega
  have f5 : (i.op == 43) = false := by simp; omega
  have f6 : (i.op == 44) = false := by simp; omega
  have f7 : (i.op == 47) = false := by simp; omega
  obtain ⟨r, c, hr, hF⟩ := flow_rdy h hv i hi (by omega)
  have HF : Hid _ := hF
  clear hF
  have l1 : (i.r1 : Int) < 32 := by have := hi.r1; omega
  have l2 : (i.r2 : Int) < 32 := by have := hi.r2; omega
  have n1 : i.r1 < 32 := by have := hi.r1; omega
  have n2 : i.r2 < 32 := by have := hi.r2; omega
  clear h1
  have HE : Hid (∀ (U : World) (v : MV), Run D g U v m → Calls Try.prog 100 #[.pointer (some ⟨g, 0, none⟩)] U fun e u' => e = .returned (.int .i64 (Pl.ecall m).2) ∧ (∃ v', Run D g u' v' (Pl.ecall m).1) ∧ St D U u') := fun U v hR => l3Ecall_run hR hv
  generalize hE : Pl.ecall m = E at *
  obtain ⟨m2, f⟩ := E
  clear hE
  dsimp only at HE ⊢
  have ARM : True := trivial
  by_cases hf : f = 0
  · subst hf
    by_cases hn : m2.fin = 0
    · rw [if_pos ⟨rfl, hn⟩]
      have en : (m2.fin != 0) = false := by simpa using hn
      clear hn
      go_enter Try.func87, Try.ntmps87
      go_wp2_with (first | (go_at_call 96; refine Calls.mono HF.out ?_; rintro e u1 ⟨rfl, hy⟩; obtain ⟨z0, z1, z2, z3, z4⟩ := hy.ic; have zr := hy.rs; have za := hy.cells i.r1 n1; have zb := hy.cells i.r2 n2; have zp : u1.cell? ⟨g, 1, none⟩ = some (.int .i64 m.pc) := hy.run.cell 1; have Y : Hid (Rdy D g u.heap.size r c u u1 v m i) := hy; clear hy) | (go_at_call 100; refine Calls.mono (HE.out _ v (Y.out.run.mono fun x hx => .inl hx)) ?_; rintro e u2 ⟨rfl, ⟨v2, hR2⟩, hS2⟩; have p8 : u2.cell? ⟨g, 8, none⟩ = some (.int .i64 m2.fin) := hR2.cell 8; have p1 : u2.cell? ⟨g, 1, none⟩ = some (.int .i64 m2.pc) := hR2.cell 1; have p2 := hR2.unfrozen 1; have R2 : Hid (Run D g u2 v2 m2) := hR2; have S2 : Hid (St D u u2) := Y.out.st.trans hS2; clear hR2 hS2))
      go_ret
      exact ⟨rfl, ⟨v2, R2.out.setPc _⟩, S2.out.trans (St.set (R2.out.ne 0 rfl))⟩
    · rw [if_neg (fun q => hn q.2)]
      have en : (m2.fin != 0) = true := by simpa using hn
      clear hn
      go_enter Try.func87, Try.ntmps87
      go_wp2_with (first | (go_at_call 96; refine Calls.mono HF.out ?_; rintro e u1 ⟨rfl, hy⟩; obtain ⟨z0, z1, z2, z3, z4⟩ := hy.ic; have zr := hy.rs; have za := hy.cells i.r1 n1; have zb := hy.cells i.r2 n2; have zp : u1.cell? ⟨g, 1, none⟩ = some (.int .i64 m.pc) := hy.run.cell 1; have Y : Hid (Rdy D g u.heap.size r c u u1 v m i) := hy; clear hy) | (go_at_call 100; refine Calls.mono (HE.out _ v (Y.out.run.mono fun x hx => .inl hx)) ?_; rintro e u2 ⟨rfl, ⟨v2, hR2⟩, hS2⟩; have p8 : u2.cell? ⟨g, 8, none⟩ = some (.int .i64 m2.fin) := hR2.cell 8; have R2 : Hid (Run D g u2 v2 m2) := hR2; have S2 : Hid (St D u u2) := Y.out.st.trans hS2; clear hR2 hS2))
      go_ret
      exact ⟨rfl, ⟨v2, R2.out⟩, S2.out⟩
  · rw [if_neg (fun q => hf q.1)]
    have ef : (f != 0) = true := by simpa using hf
    clear hf
    go_enter Try.func87, Try.ntmps87
    go_wp2_with (first | (go_at_call 96; refine Calls.mono HF.out ?_; rintro e u1 ⟨rfl, hy⟩; obtain ⟨z0, z1, z2, z3, z4⟩ := hy.ic; have zr := hy.rs; have za := hy.cells i.r1 n1; have zb := hy.cells i.r2 n2; have zp : u1.cell? ⟨g, 1, none⟩ = some (.int .i64 m.pc) := hy.run.cell 1; have Y : Hid (Rdy D g u.heap.size r c u u1 v m i) := hy; clear hy) | (go_at_call 100; refine Calls.mono (HE.out _ v (Y.out.run.mono fun x hx => .inl hx)) ?_; rintro e u2 ⟨rfl, ⟨v2, hR2⟩, hS2⟩; have R2 : Hid (Run D g u2 v2 m2) := hR2; have S2 : Hid (St D u u2) := Y.out.st.trans hS2; clear hR2 hS2))
    go_ret
    exact ⟨rfl, ⟨v2, R2.out⟩, S2.out⟩
set_option maxRecDepth 8000 in
set_option maxHeartbeats 4000000 in
theorem do_auipc {D : Nat → Prop} {g : Nat} {u : World} {v : MV} {m : Pl.Mac} (h : Run D g u v m) (hv : Pl.Vd m) (i : Pl.Ins) (hi : Pl.InsOk i) (h1 : i.op = 44) : Calls Try.prog 87 #[.pointer (some ⟨g, 0, none⟩), .agg #[.int .i64 i.op, .int .i64 i.rd, .int .i64 i.r1, .int .i64 i.r2, .int .i64 i.im]] u fun e u' => e = .returned (.int .i64 0) ∧ (∃ v', Run D g u' v' ({ Pl.setR m i.rd (m.pc + i.im * 4096) with pc := Pl.wd (m.pc + 4) })) ∧ St D u u' := by
  have f0 : decide (i.op ≤ 18) = false := by simp; omega
  have f1 : decide (i.op ≤ 27) = false := by simp; omega
  have f2 : decide (i.op ≤ 32) = false := by simp; omega
  have f3 : decide (34 ≤ i.op) = true := by simp; omega
  have f4 : decide (i.op ≤ 36) = false := by simp; omega
  have f5 : (i.op == 43) = false := by simp; omega
  have f6 : (i.op == 44) = true := by simp; omega
  have him := hi.im
  have hpc := hv.pc
  have hw : IntKind.i64.wrap (i.im * 4096) = i.im * 4096 := by rw [IntKind.wrap_i64]; omega
  have hw2 : IntKind.i64.wrap (m.pc + i.im * 4096) = m.pc + i.im * 4096 := by rw [IntKind.wrap_i64]; omega
  obtain ⟨r, c, hr, hF⟩ := flow_rdy h hv i hi (by omega)
  have HF : Hid _ := hF
  clear hF
  have l1 : (i.r1 : Int) < 32 := by have := hi.r1; omega
  have l2 : (i.r2 : Int) < 32 := by have := hi.r2; omega
  have n1 : i.r1 < 32 := by have := hi.r1; omega
  have n2 : i.r2 < 32 := by have := hi.r2; omega
  clear h1
  go_enter Try.func87, Try.ntmps87
  go_wp2_with (go_at_call 96; refine Calls.mono HF.out ?_; rintro e u1 ⟨rfl, hy⟩; obtain ⟨z0, z1, z2, z3, z4⟩ := hy.ic; have zr := hy.rs; have za := hy.cells i.r1 n1; have zb := hy.cells i.r2 n2; have zp : u1.cell? ⟨g, 1, none⟩ = some (.int .i64 m.pc) := hy.run.cell 1; have Y : Hid (Rdy D g u.heap.size r c u u1 v m i) := hy; clear hy)
  go_region_held3 (fun w2 => w2.cell? ⟨u.heap.size, 1, none⟩ = some (.int .i64 i.rd) ∧ w2.cell? ⟨u.heap.size, 4, none⟩ = some (.int .i64 i.im) ∧ w2.cell? ⟨g, 1, none⟩ = some (.int .i64 m.pc)) (go_keep) ((go_at_call 98; refine (Y.out.set hv hi _ (by repeat (first | exact Below.refl _ _ | refine Below.drew ?_ | refine below_drewN ?_ _)) _).mono ?_; rintro e u2 ⟨rfl, hR2, hS2, p1, p2, p3⟩; have R2 : Hid (Run D g u2 v (Pl.setR m i.rd (m.pc + i.im * 4096))) := hR2; have S2 : Hid (St D u u2) := hS2; clear hR2 hS2; obtain ⟨k0, k1, k2, k3, k4⟩ := ins_cells p3))
  all_goals
    go_wp2
    go_ret
    exact ⟨rfl, ⟨v, by first | exact R2.out.setPc _ | exact (R2.out.keep (below_drewN (Below.refl _ _) _)).setPc _ | exact (R2.out.keep (Below.drew (Below.refl _ _))).setPc _⟩, S2.out.trans (by first | exact St.set (R2.out.ne 0 rfl) | exact (R2.out.st (below_drewN (Below.refl _ _) _)).trans (St.set (R2.out.ne 0 rfl)) | exact (R2.out.st (Below.drew (Below.refl _ _))).trans (St.set (R2.out.ne 0 rfl)))⟩
end Go.Proofs.Ytfcfnbncgadomaa.W
