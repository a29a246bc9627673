import Derived.Test.YtnapeklkhkonhaaGreatDoorP12
set_option linter.unusedVariables false
set_option linter.unusedSimpArgs false
namespace Go.Proofs.YtnapeklkhkonhaaGreatDoor.Pl
theorem stv_regs (m : Mac) (k a x : Int) : (stv m k a x).1.regs = m.regs := by
  by_cases h1 : (a.tmod (ks k) != 0) = true
  · unfold stv; rw [if_pos h1]
  · by_cases h2 : inD m a (ks k).toNat
    · unfold stv; rw [if_neg h1, if_pos h2]
    · by_cases h3 : inS m a (ks k).toNat
      · unfold stv; rw [if_neg h1, if_neg h2, if_pos h3]
      · unfold stv; rw [if_neg h1, if_neg h2, if_neg h3]
end Go.Proofs.YtnapeklkhkonhaaGreatDoor.Pl
namespace Go.Proofs.YtnapeklkhkonhaaGreatDoor.W
open Go.RowKit
theorem Rdy.keep {D : Nat → Prop} {g q r c : Nat} {u u1 U : World} {v : MV} {m : Pl.Mac} {i : Pl.Ins} (h : Rdy D g q r c u u1 v m i) (hU : Below u1.heap.size u1 U) : Rdy D g q r c u U v m i := by
  refine ⟨h.run.keep hU, h.st.trans ((h.run.st hU).mono fun x hx => .inl hx), ?_, h.reg, fun n hn => ?_⟩
  · rw [hU.block q (Array.getElem?_eq_some_iff.1 h.ins).1]; exact h.ins
  · have := h.cells n hn
    rw [World.cell?_of_block (a := ⟨r, n, none⟩) (hU.block r (block_lt_of_cell this))]
    exact this
theorem run_regs {D : Nat → Prop} {g r c : Nat} {u : World} {v : MV} {m m' : Pl.Mac} (h : Run D g u v m') (hl : m.regs.length = 32) (hr : v.regs = ⟨some ⟨r, 0, none⟩, 32, c⟩) (e : m'.regs = m.regs) : u.cell? ⟨g, 2, none⟩ = some (.slice (some ⟨r, 0, none⟩) 32 c) ∧ ∀ n, n < 32 → u.cell? ⟨r, n, none⟩ = some (.int .i64 (Pl.rv m n)) := by
  refine ⟨by rw [h.cell 2, hr]; rfl, fun n hn => ?_⟩
  obtain ⟨r', c', hr', hc', _⟩ := h.regsAt (e ▸ hl)
  rw [hr] at hr'
  cases hr'
  rw [hc' n hn, e]
  rfl
set_option maxRecDepth 8000 in
set_option maxHeartbeats 4000000 in
theorem do_load {D : Nat → Prop} {g : Nat} {u : World} {v : MV} {m : Pl.Mac} (h : Run D g u v m) (hv : Pl.Vd m) (i : Pl.Ins) (hi : Pl.InsOk i) (h1 : 28 ≤ i.op) (h2 : i.op ≤ 32) : Calls Tryz.prog 41 #[.pointer (some ⟨g, 0, none⟩), .agg #[.int .i64 i.op, .int .i64 i.rd, .int .i64 i.r1, .int .i64 i.r2, .int .i64 i.im]] u fun e u' => e = .returned (.int .i64 ((if (Pl.ldv m (Pl.lsk i.op) (Pl.wd (Pl.rv m i.r1 + i.im))).2 = 0 then ({ Pl.setR m i.rd (Pl.ldv m (Pl.lsk i.op) (Pl.wd (Pl.rv m i.r1 + i.im))).1 with pc := Pl.wd (m.pc + 4) }, (0 : Int)) else (m, (Pl.ldv m (Pl.lsk i.op) (Pl.wd (Pl.rv m i.r1 + i.im))).2)).2)) ∧ (∃ v', Run D g u' v' ((if (Pl.ldv m (Pl.lsk i.op) (Pl.wd (Pl.rv m i.r1 + i.im))).2 = 0 then ({ Pl.setR m i.rd (Pl.ldv m (Pl.lsk i.op) (Pl.wd (Pl.rv m i.r1 + i.im))).1 with pc := Pl.wd (m.pc + 4) }, (0 : Int)) else (m, (Pl.ldv m (Pl.lsk i.op) (Pl.wd (Pl.rv m i.r1 + i.im))).2)).1)) ∧ St D u u' := by
  have f0 : decide (i.op ≤ 18) = false := by simp; omega
  have f1 : decide (i.op ≤ 27) = false := by simp; omega
  have f2 : decide (i.op ≤ 32) = true := by simp; omega
  have him := hi.im
  obtain ⟨r, c, hr, hF⟩ := flow_rdy h hv i hi (by omega)
  have HF : Hid _ := hF
  clear hF
  have l1 : (i.r1 : Int) < 32 := by have := hi.r1; omega
  have l2 : (i.r2 : Int) < 32 := by have := hi.r2; omega
  have n1 : i.r1 < 32 := by have := hi.r1; omega
  have n2 : i.r2 < 32 := by have := hi.r2; omega
  have hrv := hv.word i.r1 n1
  have hw : IntKind.i64.wrap (Pl.rv m i.r1 + i.im) = Pl.rv m i.r1 + i.im := by rw [IntKind.wrap_i64]; unfold Pl.rv; omega
  have HK : Hid (∀ w, Calls Tryz.prog 58 #[.int .i64 i.op] w fun e w' => e = .returned (.int .i64 (Pl.lsk i.op)) ∧ Below w.heap.size w w') := fun w => l3Kinds_any i.op (by omega) w
  have hk : 1 ≤ Pl.lsk i.op ∧ Pl.lsk i.op ≤ 5 := by unfold Pl.lsk; repeat' split <;> omega
  have hwd := Pl.wd_bdd (Pl.rv m i.r1 + i.im)
  have HL : Hid (∀ U, Rdy D g u.heap.size r c u U v m i → Calls Tryz.prog 57 #[.pointer (some ⟨g, 0, none⟩), .int .i64 (Pl.lsk i.op), .int .i64 (Pl.wd (Pl.rv m i.r1 + i.im))] U fun e u' => e = .returned (.tuple #[.int .i64 (Pl.ldv m (Pl.lsk i.op) (Pl.wd (Pl.rv m i.r1 + i.im))).1, .int .i64 (Pl.ldv m (Pl.lsk i.op) (Pl.wd (Pl.rv m i.r1 + i.im))).2]) ∧ u' = U) := fun U hU => l3Load_run hU.run hv _ _ hk.1 hk.2 (by omega)
  generalize hX : Pl.ldv m (Pl.lsk i.op) (Pl.wd (Pl.rv m i.r1 + i.im)) = X at *
  obtain ⟨x, f⟩ := X
  clear hX
  dsimp only at HL ⊢
  generalize Pl.lsk i.op = K at *
  clear hrv hwd hk h1 h2
  by_cases hf : f = 0
  · subst hf
    rw [if_pos rfl]
    go_enter Tryz.func41, Tryz.ntmps41
    go_wp2_with (go_at_call 54; refine Calls.mono HF.out ?_; rintro e u1 ⟨rfl, hy⟩; obtain ⟨z0, z1, z2, z3, z4⟩ := hy.ic; have zr := hy.rs; have za := hy.cells i.r1 n1; have zb := hy.cells i.r2 n2; have zp : u1.cell? ⟨g, 1, none⟩ = some (.int .i64 m.pc) := hy.run.cell 1; have Y : Hid (Rdy D g u.heap.size r c u u1 v m i) := hy; clear hy)
    go_region_held3 (fun w2 => w2.cell? ⟨u.heap.size, 0, none⟩ = some (.int .i64 i.op) ∧ w2.cell? ⟨u.heap.size, 2, none⟩ = some (.int .i64 i.r1) ∧ w2.cell? ⟨u.heap.size, 4, none⟩ = some (.int .i64 i.im) ∧ w2.cell? ⟨g, 2, none⟩ = some (.slice (some ⟨r, 0, none⟩) 32 c) ∧ w2.cell? ⟨r, i.r1, none⟩ = some (.int .i64 (Pl.rv m i.r1))) (go_keep) (first | (go_at_call 58; refine (HK.out _).mono ?_; rintro e v1 ⟨rfl, d1⟩; have Y1 : Hid (Rdy D g u.heap.size r c u v1 v m i) := Y.out.keep ((show Below u1.heap.size u1 _ from (by repeat (first | exact Below.refl _ _ | refine Below.drew ?_ | refine below_drewN ?_ _))).trans (d1.mono (Nat.le_refl _))); clear d1; obtain ⟨k0, k1, k2, k3, k4⟩ := Y1.out.ic; have kr := Y1.out.rs; have ka := Y1.out.cells i.r1 n1; have kb := Y1.out.cells i.r2 n2; have kp : _ := Y1.out.run.cell 1) | (go_at_call 59; refine (specWord_any _ _).mono ?_; rintro e v2 ⟨rfl, rfl⟩) | (go_at_call 57; refine (HL.out _ (Y1.out.keep (by repeat (first | exact Below.refl _ _ | refine Below.drew ?_ | refine below_drewN ?_ _)))).mono ?_; rintro e v3 ⟨rfl, rfl⟩))
    all_goals
      go_wp2_with (go_at_call 56; refine (Y1.out.set hv hi _ (by repeat (first | exact Below.refl _ _ | refine Below.drew ?_ | refine below_drewN ?_ _)) _).mono ?_; rintro e u2 ⟨rfl, hR2, hS2, p1, p2, p3⟩; have R2 : Hid (Run D g u2 v (Pl.setR m i.rd (x))) := hR2; have S2 : Hid (St D u u2) := hS2; clear hR2 hS2)
      go_ret
      exact ⟨rfl, ⟨v, R2.out.setPc _⟩, S2.out.trans (St.set (R2.out.ne 0 rfl))⟩
  · rw [if_neg hf]
    have ef : (f != 0) = true := by simpa using hf
    clear hf
    go_enter Tryz.func41, Tryz.ntmps41
    go_wp2_with (go_at_call 54; refine Calls.mono HF.out ?_; rintro e u1 ⟨rfl, hy⟩; obtain ⟨z0, z1, z2, z3, z4⟩ := hy.ic; have zr := hy.rs; have za := hy.cells i.r1 n1; have zb := hy.cells i.r2 n2; have zp : u1.cell? ⟨g, 1, none⟩ = some (.int .i64 m.pc) := hy.run.cell 1; have Y : Hid (Rdy D g u.heap.size r c u u1 v m i) := hy; clear hy)
    go_region_held3 (fun w2 => w2.cell? ⟨u.heap.size, 0, none⟩ = some (.int .i64 i.op) ∧ w2.cell? ⟨u.heap.size, 2, none⟩ = some (.int .i64 i.r1) ∧ w2.cell? ⟨u.heap.size, 4, none⟩ = some (.int .i64 i.im) ∧ w2.cell? ⟨g, 2, none⟩ = some (.slice (some ⟨r, 0, none⟩) 32 c) ∧ w2.cell? ⟨r, i.r1, none⟩ = some (.int .i64 (Pl.rv m i.r1))) (go_keep) (first | (go_at_call 58; refine (HK.out _).mono ?_; rintro e v1 ⟨rfl, d1⟩; have Y1 : Hid (Rdy D g u.heap.size r c u v1 v m i) := Y.out.keep ((show Below u1.heap.size u1 _ from (by repeat (first | exact Below.refl _ _ | refine Below.drew ?_ | refine below_drewN ?_ _))).trans (d1.mono (Nat.le_refl _))); clear d1; obtain ⟨k0, k1, k2, k3, k4⟩ := Y1.out.ic; have kr := Y1.out.rs; have ka := Y1.out.cells i.r1 n1; have kb := Y1.out.cells i.r2 n2; have kp : _ := Y1.out.run.cell 1) | (go_at_call 59; refine (specWord_any _ _).mono ?_; rintro e v2 ⟨rfl, rfl⟩) | (go_at_call 57; refine (HL.out _ (Y1.out.keep (by repeat (first | exact Below.refl _ _ | refine Below.drew ?_ | refine below_drewN ?_ _)))).mono ?_; rintro e v3 ⟨rfl, rfl⟩))
    all_goals
      go_wp2
      go_ret
      exact ⟨rfl, ⟨v, (Y1.out.keep (by repeat (first | exact Below.refl _ _ | refine Below.drew ?_ | refine below_drewN ?_ _))).run.mono fun x hx => .inl hx⟩, (Y1.out.keep (by repeat (first | exact Below.refl _ _ | refine Below.drew ?_ | refine below_drewN ?_ _))).st⟩
set_option maxRecDepth 8000 in
set_option maxHeartbeats 4000000 in
theorem do_store {D : Nat → Prop} {g : Nat} {u : World} {v : MV} {m : Pl.Mac} (h : Run D g u v m) (hv : Pl.Vd m) (i : Pl.Ins) (hi : Pl.InsOk i) (h1 : 34 ≤ i.op) (h2 : i.op ≤ 36) : Calls Tryz.prog 41 #[.pointer (some ⟨g, 0, none⟩), .agg #[.int .i64 i.op, .int .i64 i.rd, .int .i64 i.r1, .int .i64 i.r2, .int .i64 i.im]] u fun e u' => e = .returned (.int .i64 ((if (Pl.stv m (Pl.lsk i.op) (Pl.wd (Pl.rv m i.r1 + i.im)) (Pl.rv m i.r2)).2 = 0 then ({ (Pl.stv m (Pl.lsk i.op) (Pl.wd (Pl.rv m i.r1 + i.im)) (Pl.rv m i.r2)).1 with pc := Pl.wd (m.pc + 4) }, (0 : Int)) else ((Pl.stv m (Pl.lsk i.op) (Pl.wd (Pl.rv m i.r1 + i.im)) (Pl.rv m i.r2)).1, (Pl.stv m (Pl.lsk i.op) (Pl.wd (Pl.rv m i.r1 + i.im)) (Pl.rv m i.r2)).2)).2)) ∧ (∃ v', Run D g u' v' ((if (Pl.stv m (Pl.lsk i.op) (Pl.wd (Pl.rv m i.r1 + i.im)) (Pl.rv m i.r2)).2 = 0 then ({ (Pl.stv m (Pl.lsk i.op) (Pl.wd (Pl.rv m i.r1 + i.im)) (Pl.rv m i.r2)).1 with pc := Pl.wd (m.pc + 4) }, (0 : Int)) else ((Pl.stv m (Pl.lsk i.op) (Pl.wd (Pl.rv m i.r1 + i.im)) (Pl.rv m i.r2)).1, (Pl.stv m (Pl.lsk i.op) (Pl.wd (Pl.rv m i.r1 + i.im)) (Pl.rv m i.r2)).2)).1)) ∧ St D u u' := by
  have f0 : decide (i.op ≤ 18) = false := by simp; omega
  have f1 : decide (i.op ≤ 27) = false := by simp; omega
  have f2 : decide (i.op ≤ 32) = false := by simp; omega
  have f3 : decide (34 ≤ i.op) = true := by simp; omega
  have f4 : decide (i.op ≤ 36) = true := by simp; omega
  have him := hi.im
  obtain ⟨r, c, hr, hF⟩ := flow_rdy h hv i hi (by omega)
  have HF : Hid _ := hF
  clear hF
  have l1 : (i.r1 : Int) < 32 := by have := hi.r1; omega
  have l2 : (i.r2 : Int) < 32 := by have := hi.r2; omega
  have n1 : i.r1 < 32 := by have := hi.r1; omega
  have n2 : i.r2 < 32 := by have := hi.r2; omega
  have hrv := hv.word i.r1 n1
  have hw : IntKind.i64.wrap (Pl.rv m i.r1 + i.im) = Pl.rv m i.r1 + i.im := by rw [IntKind.wrap_i64]; unfold Pl.rv; omega
  have HK : Hid (∀ w, Calls Tryz.prog 58 #[.int .i64 i.op] w fun e w' => e = .returned (.int .i64 (Pl.lsk i.op)) ∧ Below w.heap.size w w') := fun w => l3Kinds_any i.op (by omega) w
  have hk : 1 ≤ Pl.lsk i.op ∧ Pl.lsk i.op ≤ 5 := by unfold Pl.lsk; repeat' split <;> omega
  have hwd := Pl.wd_bdd (Pl.rv m i.r1 + i.im)
  have HL : Hid (∀ U, Rdy D g u.heap.size r c u U v m i → Calls Tryz.prog 60 #[.pointer (some ⟨g, 0, none⟩), .int .i64 (Pl.lsk i.op), .int .i64 (Pl.wd (Pl.rv m i.r1 + i.im)), .int .i64 (Pl.rv m i.r2)] U fun e u' => e = .returned (.int .i64 (Pl.stv m (Pl.lsk i.op) (Pl.wd (Pl.rv m i.r1 + i.im)) (Pl.rv m i.r2)).2) ∧ Run D g u' v (Pl.stv m (Pl.lsk i.op) (Pl.wd (Pl.rv m i.r1 + i.im)) (Pl.rv m i.r2)).1 ∧ St D u u' ∧ u'.heap[u.heap.size]? = some (.cells #[.int .i64 i.op, .int .i64 i.rd, .int .i64 i.r1, .int .i64 i.r2, .int .i64 i.im] 67) ∧ u'.cell? ⟨g, 2, none⟩ = some (.slice (some ⟨r, 0, none⟩) 32 c) ∧ ∀ n, n < 32 → u'.cell? ⟨r, n, none⟩ = some (.int .i64 (Pl.rv m n))) := fun U hU => (l3Store_run hU.run hv _ _ _ hk.1 hk.2 (by omega)).mono fun e u' ⟨a, b, c⟩ => ⟨a, b.mono fun x hx => .inl hx, hU.st.trans (c.mono fun x hx => .inl hx), (c.keep _ (.inr rfl)).trans hU.ins, run_regs b hv.regs hU.reg (Pl.stv_regs m _ _ _)⟩
  generalize hX : Pl.stv m (Pl.lsk i.op) (Pl.wd (Pl.rv m i.r1 + i.im)) (Pl.rv m i.r2) = X at *
  obtain ⟨m2, f⟩ := X
  clear hX
  dsimp only at HL ⊢
  generalize Pl.lsk i.op = K at *
  clear hrv hwd hk h1 h2
  by_cases hf : f = 0
  · subst hf
    rw [if_pos rfl]
    go_enter Tryz.func41, Tryz.ntmps41
    go_wp2_with (go_at_call 54; refine Calls.mono HF.out ?_; rintro e u1 ⟨rfl, hy⟩; obtain ⟨z0, z1, z2, z3, z4⟩ := hy.ic; have zr := hy.rs; have za := hy.cells i.r1 n1; have zb := hy.cells i.r2 n2; have zp : u1.cell? ⟨g, 1, none⟩ = some (.int .i64 m.pc) := hy.run.cell 1; have Y : Hid (Rdy D g u.heap.size r c u u1 v m i) := hy; clear hy)
    go_region_held3 (fun w2 => w2.cell? ⟨u.heap.size, 0, none⟩ = some (.int .i64 i.op) ∧ w2.cell? ⟨u.heap.size, 2, none⟩ = some (.int .i64 i.r1) ∧ w2.cell? ⟨u.heap.size, 3, none⟩ = some (.int .i64 i.r2) ∧ w2.cell? ⟨u.heap.size, 4, none⟩ = some (.int .i64 i.im) ∧ w2.cell? ⟨g, 2, none⟩ = some (.slice (some ⟨r, 0, none⟩) 32 c) ∧ w2.cell? ⟨r, i.r1, none⟩ = some (.int .i64 (Pl.rv m i.r1)) ∧ w2.cell? ⟨r, i.r2, none⟩ = some (.int .i64 (Pl.rv m i.r2))) (go_keep) (first | (go_at_call 58; refine (HK.out _).mono ?_; rintro e v1 ⟨rfl, d1⟩; have Y1 : Hid (Rdy D g u.heap.size r c u v1 v m i) := Y.out.keep ((show Below u1.heap.size u1 _ from (by repeat (first | exact Below.refl _ _ | refine Below.drew ?_ | refine below_drewN ?_ _))).trans (d1.mono (Nat.le_refl _))); clear d1; obtain ⟨k0, k1, k2, k3, k4⟩ := Y1.out.ic; have kr := Y1.out.rs; have ka := Y1.out.cells i.r1 n1; have kb := Y1.out.cells i.r2 n2; have kp : _ := Y1.out.run.cell 1) | (go_at_call 59; refine (specWord_any _ _).mono ?_; rintro e v2 ⟨rfl, rfl⟩) | (go_at_call 60; refine (HL.out _ (Y1.out.keep (by repeat (first | exact Below.refl _ _ | refine Below.drew ?_ | refine below_drewN ?_ _)))).mono ?_; rintro e v3 ⟨rfl, hR2, hS2, hI, qr, hI2⟩; obtain ⟨q0, q1, q2, q3, q4⟩ := ins_cells hI; have qa := hI2 i.r1 n1; have qb := hI2 i.r2 n2; have p1 : v3.cell? ⟨g, 1, none⟩ = some (.int .i64 m2.pc) := hR2.cell 1; have p2 := hR2.unfrozen 1; have R2 : Hid (Run D g v3 v m2) := hR2; have S2 : Hid (St D u v3) := hS2; clear hR2 hS2 hI hI2))
    all_goals
      go_wp2
      go_ret
      exact ⟨rfl, ⟨v, by first | exact R2.out.setPc _ | exact (R2.out.keep (by repeat (first | exact Below.refl _ _ | refine Below.drew ?_ | refine below_drewN ?_ _))).setPc _⟩, S2.out.trans (by first | exact St.set (R2.out.ne 0 rfl) | exact (R2.out.st (by repeat (first | exact Below.refl _ _ | refine Below.drew ?_ | refine below_drewN ?_ _))).trans (St.set (R2.out.ne 0 rfl)))⟩
  · rw [if_neg hf]
    have ef : (f != 0) = true := by simpa using hf
    clear hf
    go_enter Tryz.func41, Tryz.ntmps41
    go_wp2_with (go_at_call 54; refine Calls.mono HF.out ?_; rintro e u1 ⟨rfl, hy⟩; obtain ⟨z0, z1, z2, z3, z4⟩ := hy.ic; have zr := hy.rs; have za := hy.cells i.r1 n1; have zb := hy.cells i.r2 n2; have zp : u1.cell? ⟨g, 1, none⟩ = some (.int .i64 m.pc) := hy.run.cell 1; have Y : Hid (Rdy D g u.heap.size r c u u1 v m i) := hy; clear hy)
    go_region_held3 (fun w2 => w2.cell? ⟨u.heap.size, 0, none⟩ = some (.int .i64 i.op) ∧ w2.cell? ⟨u.heap.size, 2, none⟩ = some (.int .i64 i.r1) ∧ w2.cell? ⟨u.heap.size, 3, none⟩ = some (.int .i64 i.r2) ∧ w2.cell? ⟨u.heap.size, 4, none⟩ = some (.int .i64 i.im) ∧ w2.cell? ⟨g, 2, none⟩ = some (.slice (some ⟨r, 0, none⟩) 32 c) ∧ w2.cell? ⟨r, i.r1, none⟩ = some (.int .i64 (Pl.rv m i.r1)) ∧ w2.cell? ⟨r, i.r2, none⟩ = some (.int .i64 (Pl.rv m i.r2))) (go_keep) (first | (go_at_call 58; refine (HK.out _).mono ?_; rintro e v1 ⟨rfl, d1⟩; have Y1 : Hid (Rdy D g u.heap.size r c u v1 v m i) := Y.out.keep ((show Below u1.heap.size u1 _ from (by repeat (first | exact Below.refl _ _ | refine Below.drew ?_ | refine below_drewN ?_ _))).trans (d1.mono (Nat.le_refl _))); clear d1; obtain ⟨k0, k1, k2, k3, k4⟩ := Y1.out.ic; have kr := Y1.out.rs; have ka := Y1.out.cells i.r1 n1; have kb := Y1.out.cells i.r2 n2; have kp : _ := Y1.out.run.cell 1) | (go_at_call 59; refine (specWord_any _ _).mono ?_; rintro e v2 ⟨rfl, rfl⟩) | (go_at_call 60; refine (HL.out _ (Y1.out.keep (by repeat (first | exact Below.refl _ _ | refine Below.drew ?_ | refine below_drewN ?_ _)))).mono ?_; rintro e v3 ⟨rfl, hR2, hS2, hI, qr, hI2⟩; obtain ⟨q0, q1, q2, q3, q4⟩ := ins_cells hI; have qa := hI2 i.r1 n1; have qb := hI2 i.r2 n2; have p1 : v3.cell? ⟨g, 1, none⟩ = some (.int .i64 m2.pc) := hR2.cell 1; have p2 := hR2.unfrozen 1; have R2 : Hid (Run D g v3 v m2) := hR2; have S2 : Hid (St D u v3) := hS2; clear hR2 hS2 hI hI2))
    all_goals
      go_wp2
      go_ret
      exact ⟨rfl, ⟨v, R2.out.keep (by repeat (first | exact Below.refl _ _ | refine Below.drew ?_ | refine below_drewN ?_ _))⟩, S2.out.trans (R2.out.st (by repeat (first | exact Below.refl _ _ | refine Below.drew ?_ | refine below_drewN ?_ _)))⟩
end Go.Proofs.YtnapeklkhkonhaaGreatDoor.W
