import Derived.Test.YtfcfnbncgadomaaQ18
import Derived.Test.YtfcfnbncgadomaaQ09
set_option linter.unusedVariables false
set_option linter.unusedSimpArgs false
namespace Go.Proofs.Ytfcfnbncgadomaa.Pl
theorem stv_regs (m : Mac) (k a x : Int) : (stv m k a x).1.regs = m.regs := by
  by_cases h1 : (a.tmod (ks k) != 0) = true
  · unfold stv; rw [if_pos h1]
  · by_cases h2 : inD m a (ks k).toNat
    · unfold stv; rw [if_neg h1, if_pos h2]
    · by_cases h3 : inS m a (ks k).toNat
      · unfold stv; rw [if_neg h1, if_neg h2, if_pos h3]
      · unfold stv; rw [if_neg h1, if_neg h2, if_neg h3]
end Go.Proofs.Ytfcfnbncgadomaa.Pl
namespace Go.Proofs.Ytfcfnbncgadomaa.W
open Go.RowKit
theorem Rdy.keep {D : Nat → Prop} {g q r c : Nat} {u u1 U : World} {v : MV} {m : Pl.Mac} {i : Pl.Ins} (h : Rdy D g q r c u u1 v m i) (hU : Below u1.heap.size u1 U) : Rdy D g q r c u U v m i := by
  refine ⟨h.run.keep hU, h.st.trans ((h.run.st hU).mono fun x hx => .inl hx), ?_, h.reg, fun n hn => ?_⟩
  · rw [hU.block q (Array.getElem?_eq_some_iff.1 h.ins).1]; exact h.ins
  · have := h.cells n hn
    rw [World.cell?_of_block (a := ⟨r, n, none⟩) (hU.block r (block_lt_of_cell this))]
    exact this
theorem run_regs {D : Nat → Prop} {g r c : Nat} {u : World} {v : MV} {m m' : Pl.Mac} (h : Run D g u v m') (hl : m.regs.length = 32) (hr : v.regs = ⟨some ⟨r, 0, none⟩, 32, c⟩) (e : m'.regs = m.regs) : u.cell? ⟨g, 2, none⟩ = some (.slice (some ⟨r, 0, none⟩) 32 c) ∧ ∀ n, n < 32 → u.cell? ⟨r, n, none⟩ = some (.int .i64 (Pl.rv m n)) := by
  refine ⟨by rw [h.cell 2, hr]; rfl, fun n hn => ?_⟩
  obtain ⟨r', c', hr', hc', _⟩ := h.regsAt (e ▸ hl)
  rw [hr] at hr'
  cases hr'
  rw [hc' n hn, e]
  rfl
set_option maxRecDepth 8000 in
set_option maxHeartbeats 4000000 in
theorem do_load {D : Nat → Prop} {g : Nat} {u : World} {v : MV} {m : Pl.Mac} (h : Run D g u v m) (hv : Pl.Vd m) (i : Pl.Ins) (hi : Pl.InsOk i) (h1 : 28 ≤ i.op) (h2 : i.op ≤ 32) : Calls Try.prog 87 #[.pointer (some ⟨g, 0, none⟩), .agg #[.int .i64 i.op, .int .i64 i.rd, .int .i64 i.r1, .int .i64 i.r2, .int .i64 i.im]] u fun e u' => e = .returned (.int .i64 ((if (Pl.ldv m (Pl.lsk i.op) (Pl.wd (Pl.rv m i.r1 + i.im))).2 = 0 then ({ Pl.setR m i.rd (Pl.ldv m (Pl.lsk i.op) (Pl.wd (Pl.rv m i.r1 + i.im))).1 with pc := Pl.wd (m.pc + 4) }, (0 : Int)) else (m, (Pl.ldv m (Pl.lsk i.op) (Pl.wd (Pl.rv m i.r1 + i.im))).2)).2)) ∧ (∃ v', Run D g u' v' ((if (Pl.ldv m (Pl.lsk i.op) (Pl.wd (Pl.rv m i.r1 + i.im))).2 = 0 then ({ Pl.setR m i.rd (Pl.ldv m (Pl.lsk i.op) (Pl.wd (Pl.rv m i.r1 + i.im))).1 with pc := Pl.wd (m.pc + 4) }, (0 : Int)) else (m, (Pl.ldv m (Pl.lsk i.op) (Pl.wd (Pl.rv m i.r1 + i.im))).2)).1)) ∧ St D u u' := by
  have f0 : decide (i.op ≤ 18) = false := by simp; omega
  have f1 : decide (i.op ≤ 27) = false := by simp; omega
  have f2 : decide (i.op ≤ 32) = true := by simp; omega
  have him := hi.im
  obtain ⟨r, c, hr, hF⟩ := flow_rdy h hv i hi (by omega)
  have HF : Hid _ := hF
  clear hF
  have l1 : (i.r1 : Int) < 32 := by have := hi.r1; omega
  have l2 : (i.r2 : Int) < 32 := by have := hi.r2; omega
  have n1 : i.r1 < 32 := by have := hi.r1; omega
  have n2 : i.r2 < 32 := by have := hi.r2; omega
  have hrv := hv.word i.r1 n1
  have hw : IntKind.i64.wrap (Pl.rv m i.r1 + i.im) = Pl.rv m i.r1 + i.im := by rw [IntKind.wrap_i64]; unfold Pl.rv; omega
  have HK : Hid (∀ w, Calls Try.prog 99 #[.int .i64 i.op] w fun e w' => e = .returned (.int .i64 (Pl.lsk i.op)) ∧ Below w.heap.size w w') := fun w => l3Kinds_any i.op (by omega) w
  have hk : 1 ≤ Pl.lsk i.op ∧ Pl.lsk i.op ≤ 5 := by unfold Pl.lsk; repeat' split <;> omega
  have hwd := Pl.wd_bdd (Pl.rv m i.r1 + i.im)
  have HL : Hid (∀ U, Rdy D g u.heap.size r c u U v m i → Calls Try.prog 34 #[.pointer (some ⟨g, 0, none⟩), .int .i64 (Pl.lsk i.op), .int .i64 (Pl.wd (Pl.rv m i.r1 + i.im))] U fun e u' => e = .returned (.tuple #[.int .i64 (Pl.ldv m (Pl.lsk i.op) (Pl.wd (Pl.rv m i.r1 + i.im))).1, .int .i64 (Pl.ldv m (Pl.lsk i.op) (Pl.wd (Pl.rv m i.r1 + i.im))).2]) ∧ u' = U) := fun U hU => l3Load_run hU.run hv _ _ hk.1 hk.2 (by omega)
  generalize hX : Pl.ldv m (Pl.lsk i.op) (Pl.wd (Pl.rv m i.r1 + i.im)) = X at *
  obtain ⟨x, f⟩ := X
  clear hX
  dsimp only at HL ⊢
  generalize Pl.lsk i.op = K at *
  clear hrv hwd hk h1 h2
  by_cases hf : f = 0
  · subst hf
    rw [if_pos rfl]
    go_enter Try.func87, Try.ntmps87
    go_wp2_with (go_at_call 96; refine Calls.mono HF.out ?_; rintro e u1 ⟨rfl, hy⟩; obtain ⟨z0, z1, z2, z3, z4⟩ := hy.ic; have zr := hy.rs; have za := hy.cells i.r1 n1; have zb := hy.cells i.r2 n2; have zp : u1.cell? ⟨g, 1, none⟩ = some (.int .i64 m.pc) := hy.run.cell 1; have Y : Hid (Rdy D g u.heap.size r c u u1 v m i) := hy; clear hy)
    go_region_held3 (fun w2 => w2.cell? ⟨u.heap.size, 0, none⟩ = some (.int .i64 i.op) ∧ w2.cell? ⟨u.heap.size, 2, none⟩ = some (.int .i64 i.r1) ∧ w2.cell? ⟨u.heap.size, 4, none⟩ = some (.int .i64 i.im) ∧ w2.cell? ⟨g, 2, none⟩ = some (.slice (some ⟨r, 0, none⟩) 32 c) ∧ w2.cell? ⟨r, i.r1, none⟩ = some (.int .i64 (Pl.rv m i.r1))) (go_keep) (first | (go_at_call 99; refine (HK.out _).mono ?_; rintro e v1 ⟨rfl, d1⟩; have Y1 : Hid (Rdy D g u.heap.size r c u v1 v m i) := Y.out.keep ((show Below u1.heap.size u1 _ from (by repeat (first | exact Below.refl _ _ | refine Below.drew ?_ | refine below_drewN ?_ _))).trans (d1.mono (Nat.le_refl _))); clear d1; obtain ⟨k0, k1, k2, k3, k4⟩ := Y1.out.ic; have kr := Y1.out.rs; have ka := Y1.out.cells i.r1 n1; have kb := Y1.out.cells i.r2 n2; have kp : _ := Y1.out.run.cell 1) | (go_at_call 38; refine (specWord_any _ _).mono ?_; rintro e v2 ⟨rfl, rfl⟩) | (go_at_call 34; refine (HL.out _ (Y1.out.keep (by repeat (first | exact Below.refl _ _ | refine Below.drew ?_ | refine below_drewN ?_ _)))).mono ?_; rintro e v3 ⟨rfl, rfl⟩))
    all_goals
      go_wp2_with (go_at_call 98; refine (Y1.out.set hv hi _ (by repeat (first | exact Below.refl _ _ | refine Below.drew ?_ | refine below_drewN ?_ _)) _).mono ?_; rintro e u2 ⟨rfl, hR2, hS2, p1, p2, p3⟩; have R2 : Hid (Run D g u2 v (Pl.setR m i.rd (x))) := hR2; have S2 : Hid (St D u u2) := hS2; clear hR2 hS2)
      go_ret
      exact ⟨rfl, ⟨v, R2.out.setPc _⟩, S2.out.trans (St.set (R2.out.ne 0 rfl))⟩
  · rw [if_neg hf]
    have ef : (f != 0) = true := by simpa using hf
    clear hf
    go_enter Try.func87, Try.ntmps87
    go_wp2_with (go_at_call 96; refine Calls.mono HF.out ?_; rintro e u1 ⟨rfl, hy⟩; obtain ⟨z0, z1, z2, z3, z4⟩ := hy.ic; have zr := hy.rs; have za := hy.cells i.r1 n1; have zb := hy.cells i.r2 n2; have zp : u1.cell? ⟨g, 1, none⟩ = some (.int .i64 m.pc) := hy.run.cell 1; have Y : Hid (Rdy D g u.heap.size r c u u1 v m i) := hy; clear hy)
    go_region_held3 (fun w2 => w2.cell? ⟨u.heap.size, 0, none⟩ = some (.int .i64 i.op) ∧ w2.cell? ⟨u.heap.size, 2, none⟩ = some (.int .i64 i.r1) ∧ w2.cell? ⟨u.heap.size, 4, none⟩ = some (.int .i64 i.im) ∧ w2.cell? ⟨g, 2, none⟩ = some (.slice (some ⟨r, 0, none⟩) 32 c) ∧ w2.cell? ⟨r, i.r1, none⟩ = some (.int .i64 (Pl.rv m i.r1))) (go_keep) (first | (go_at_call 99; refine (HK.out _).mono ?_; rintro e v1 ⟨rfl, d1⟩; have Y1 : Hid (Rdy D g u.heap.size r c u v1 v m i) := Y.out.keep ((show Below u1.heap.size u1 _ from (by repeat (first | exact Below.refl _ _ | refine Below.drew ?_ | refine below_drewN ?_ _))).trans (d1.mono (Nat.le_refl _))); clear d1; obtain ⟨k0, k1, k2, k3, k4⟩ := Y1.out.ic; have kr := Y1.out.rs; have ka := Y1.out.cells i.r1 n1; have kb := Y1.out.cells i.r2 n2; have kp : _ := Y1.out.run.cell 1) | (go_at_call 38; refine (specWord_any _ _).mono ?_; rintro e v2 ⟨rfl, rfl⟩) | (go_at_call 34; refine (HL.out _ (Y1.out.keep (by repeat (first | exact Below.refl _ _ | refine Below.drew ?_ | refine below_drewN ?_ _)))).mono ?_; rintro e v3 ⟨rfl, rfl⟩))
    all_goals
      go_wp2
      go_ret
      exact ⟨rfl, ⟨v, (Y1.out.keep (by repeat (first | exact Below.refl _ _ | refine Below.drew ?_ | refine below_drewN ?_ _))).run.mono fun x hx => .inl hx⟩, (Y1.out.keep (by repeat (first | exact Below.refl _ _ | refine Below.drew ?_ | refine below_drewN ?_ _))).st⟩
set_option maxRecDepth 8000 in
set_option maxHeartbeats 4000000 in
theorem do_store {D : Nat → Prop} {g : Nat} {u : World} {v : MV} {m : Pl.Mac} (h : Run D g u v m) (hv : Pl.Vd m) (i : Pl.Ins) (hi : Pl.InsOk i) (h1 : 34 ≤ i.op) (h2 : i.op ≤ 36) : Calls Try.prog 87 #[.pointer (some ⟨g, 0, none⟩), .agg #[.int .i64 i.op, .int .i64 i.rd, .int .i64 i.r1, .int .i64 i.r2, .int .i64 i.im]] u fun e u' => e = .returned (.int .i64 ((if (Pl.stv m (Pl.lsk i.op) (Pl.wd (Pl.rv m i.r1 + i.im)) (Pl.rv m i.r2)).2 = 0 then ({ (Pl.stv m (Pl.lsk i.op) (Pl.wd (Pl.rv m i.r1 + i.im)) (Pl.rv m i.r2)).1 with pc := Pl.wd (m.pc + 4) }, (0 : Int)) else ((Pl.stv m (Pl.lsk i.op) (Pl.wd (Pl.rv m i.r1 + i.im)) (Pl.rv m i.r2)).1, (Pl.stv m (Pl.lsk i.op) (Pl.wd (Pl.rv m i.r1 + i.im)) (Pl.rv m i.r2)).2)).2)) ∧ (∃ v', Run D g u' v' ((if (Pl.stv m (Pl.lsk i.op) (Pl.wd (Pl.rv m i.r1 + i.im)) (Pl.rv m i.r2)).2 = 0 then ({ (Pl.stv m (Pl.lsk i.op) (Pl.wd (Pl.rv m i.r1 + i.im)) (Pl.rv m i.r2)).1 with pc := Pl.wd (m.pc + 4) }, (0 : Int)) else ((Pl.stv m (Pl.lsk i.op) (Pl.wd (Pl.rv m i.r1 + i.im)) (Pl.rv m i.r2)).1, (Pl.stv m (Pl.lsk i.op) (Pl.wd (Pl.rv m i.r1 + i.im)) (Pl.rv m i.r2)).2)).1)) ∧ St D u u' := by
  have f0 : decide (i.op ≤ 18) = false := by simp; omega
  have f1 : decide (i.op ≤ 27) = false := by simp; omega
  have f2 : decide (i.op ≤ 32) = false := by simp; omega
  have f3 : decide (34 ≤ i.op) = true := by simp; omega
  have f4 : decide (i.op ≤ 36) = true := by simp; omega
  have him := hi.im
  obtain ⟨r, c, hr, hF⟩ := flow_rdy h hv i hi (by omega)
  have HF : Hid _ := hF
  clear hF
  have l1 : (i.r1 : Int) < 32 := by have := hi.r1; omega
  have l2 : (i.r2 : Int) < 32 := by have := hi.r2; omega
  have n1 : i.r1 < 32 := by have := hi.r1; omega
  have n2 : i.r2 < 32 := by have := hi.r2; omega
  have hrv := hv.word i.r1 n1
  have hw : IntKind.i64.wrap (Pl.rv m i.r1 + i.im) = Pl.rv m i.r1 + i.im := by rw [IntKind.wrap_i64]; unfold Pl.rv; omega
  have HK : Hid (∀ w, Calls Try.prog 99 #[.int .i64 i.op] w fun e w' => e = .returned (.int .i64 (Pl.lsk i.op)) ∧ Below w.heap.size w w') := fun w => l3Kinds_any i.op (by omega) w
  have hk : 1 ≤ Pl.lsk i.op ∧ Pl.lsk i.op ≤ 5 := by unfold Pl.lsk; repeat' split <;> omega
  have hwd := Pl.wd_bdd (Pl.rv m i.r1 + i.im)
  have HL : Hid (∀ U, Rdy D g u.heap.size r c u U v m i → Calls Try.prog 25 #[.pointer (some ⟨g, 0, none⟩), .int .i64 (Pl.lsk i.op), .int .i64 (Pl.wd (Pl.rv m i.r1 + i.im)), .int .i64 (Pl.rv m i.r2)] U fun e u' => e = .returned (.int .i64 (Pl.stv m (Pl.lsk i.op) (Pl.wd (Pl.rv m i.r1 + i.im)) (Pl.rv m i.r2)).2) ∧ Run D g u' v (Pl.stv m (Pl.lsk i.op) (Pl.wd (Pl.rv m i.r1 + i.im)) (Pl.rv m i.r2)).1 ∧ St D u u' ∧ u'.heap[u.heap.size]? = some (.cells #[.int .i64 i.op, .int .i64 i.rd, .int .i64 i.r1, .int .i64 i.r2, .int .i64 i.im] 105) ∧ u'.cell? ⟨g, 2, none⟩ = some (.slice (some ⟨r, 0, none⟩) 32 c) ∧ ∀ n, n < 32 → u'.cell? ⟨r, n, none⟩ = some (.int .i64 (Pl.rv m n))) := fun U hU => (l3Store_run hU.run hv _ _ _ hk.1 hk.2 (by omega)).mono fun e u' ⟨a, b, c⟩ => ⟨a, b.mono fun x hx => .inl hx, hU.st.trans (c.mono fun x hx => .inl hx), (c.keep _ (.inr rfl)).trans hU.ins, run_regs b hv.regs hU.reg (Pl.stv_regs m _ _ _)⟩
  generalize hX : Pl.stv m (Pl.lsk i.op) (Pl.wd (Pl.rv m i.r1 + i.im)) (Pl.rv m i.r2) = X at *
  obtain ⟨m2, f⟩ := X
  clear hX
  dsimp only at HL ⊢
  generalize Pl.lsk i.op = K at *
  clear hrv hwd hk h1 h2
  by_cases hf : f = 0
  · subst hf
    rw [if_pos rfl]
    go_enter Try.func87, Try.ntmps87
    go_wp2_with (go_at_call 96; refine Calls.mono HF.out ?_; rintro e u1 ⟨rfl, hy⟩; obtain ⟨z0, z1, z2, z3, z4⟩ := hy.ic; have zr := hy.rs; have za := hy.cells i.r1 n1; have zb := hy.cells i.r2 n2; have zp : u1.cell? ⟨g, 1, none⟩ = some (.int .i64 m.pc) := hy.run.cell 1; have Y : Hid (Rdy D g u.heap.size r c u u1 v m i) := hy; clear hy)
    go_region_held3 (fun w2 => w2.cell? ⟨u.heap.size, 0, none⟩ = some (.int .i64 i.op) ∧ w2.cell? ⟨u.heap.size, 2, none⟩ = some (.int .i64 i.r1) ∧ w2.cell? ⟨u.heap.size, 3, none⟩ = some (.int .i64 i.r2) ∧ w2.cell? ⟨u.heap.size, 4, none⟩ = some (.int .i64 i.im) ∧ w2.cell? ⟨g, 2, none⟩ = some (.slice (some ⟨r, 0, none⟩) 32 c) ∧ w2.cell? ⟨r, i.r1, none⟩ = some (.int .i64 (Pl.rv m i.r1)) ∧ w2.cell? ⟨r, i.r2, none⟩ = some (.int .i64 (Pl.rv m i.r2))) (go_keep) (first | (go_at_call 99; refine (HK.out _).mono ?_; rintro e v1 ⟨rfl, d1⟩; have Y1 : Hid (Rdy D g u.heap.size r c u v1 v m i) := Y.out.keep ((show Below u1.heap.size u1 _ from (by repeat (first | exact Below.refl _ _ | refine Below.drew ?_ | refine below_drewN ?_ _))).trans (d1.mono (Nat.le_refl _))); clear d1; obtain ⟨k0, k1, k2, k3, k4⟩ := Y1.out.ic; have kr := Y1.out.rs; have ka := Y1.out.cells i.r1 n1; have kb := Y1.out.cells i.r2 n2; have kp : _ := Y1.out.run.cell 1) | (go_at_call 38; refine (specWord_any _ _).mono ?_; rintro e v2 ⟨rfl, rfl⟩) | (go_at_call 25; refine (HL.out _ (Y1.out.keep (by repeat (first | exact Below.refl _ _ | refine Below.drew ?_ | refine below_drewN ?_ _)))).mono ?_; rintro e v3 ⟨rfl, hR2, hS2, hI, qr, hI2⟩; obtain ⟨q0, q1, q2, q3, q4⟩ := ins_cells hI; have qa := hI2 i.r1 n1; have qb := hI2 i.r2 n2; have p1 : v3.cell? ⟨g, 1, none⟩ = some (.int .i64 m2.pc) := hR2.cell 1; have p2 := hR2.unfrozen 1; have R2 : Hid (Run D g v3 v m2) := hR2; have S2 : Hid (St D u v3) := hS2; clear hR2 hS2 hI hI2))
    all_goals
      go_wp2
      go_ret
      exact ⟨rfl, ⟨v, by first | exact R2.out.setPc _ | exact (R2.out.keep (by repeat (first | exact Below.refl _ _ | refine Below.drew ?_ | refine below_drewN ?_ _))).setPc _⟩, S2.out.trans (by first | exact St.set (R2.out.ne 0 rfl) | exact (R2.out.st (by repeat (first | exact Below.refl _ _ | refine Below.drew ?_ | refine below_drewN ?_ _))).trans (St.set (R2.out.ne 0 rfl)))⟩
  · rw [if_neg hf]
    have ef : (f != 0) = true := by simpa using hf
    clear hf
    go_enter Try.func87, Try.ntmps87
    go_wp2_with (go_at_call 96; refine Calls.mono HF.out ?_; rintro e u1 ⟨rfl, hy⟩; obtain ⟨z0, z1, z2, z3, z4⟩ := hy.ic; have zr := hy.rs; have za := hy.cells i.r1 n1; have zb := hy.cells i.r2 n2; have zp : u1.cell? ⟨g, 1, none⟩ = some (.int .i64 m.pc) := hy.run.cell 1; have Y : Hid (Rdy D g u.heap.size r c u u1 v m i) := hy; clear hy)
    go_region_held3 (fun w2 => w2.cell? ⟨u.heap.size, 0, none⟩ = some (.int .i64 i.op) ∧ w2.cell? ⟨u.heap.size, 2, none⟩ = some (.int .i64 i.r1) ∧ w2.cell? ⟨u.heap.size, 3, none⟩ = some (.int .i64 i.r2) ∧ w2.cell? ⟨u.heap.size, 4, none⟩ = some (.int .i64 i.im) ∧ w2.cell? ⟨g, 2, none⟩ = some (.slice (some ⟨r, 0, none⟩) 32 c) ∧ w2.cell? ⟨r, i.r1, none⟩ = some (.int .i64 (Pl.rv m i.r1)) ∧ w2.cell? ⟨r, i.r2, none⟩ = some (.int .i64 (Pl.rv m i.r2))) (go_keep) (first | (go_at_call 99; refine (HK.out _).mono ?_; rintro e v1 ⟨rfl, d1⟩; have Y1 : Hid (Rdy D g u.heap.size r c u v1 v m i) := Y.out.keep ((show Below u1.heap.size u1 _ from (by repeat (first | exact Below.refl _ _ | refine Below.drew ?_ | refine below_drewN ?_ _))).trans (d1.mono (Nat.le_refl _))); clear d1; obtain ⟨k0, k1, k2, k3, k4⟩ := Y1.out.ic; have kr := Y1.out.rs; have ka := Y1.out.cells i.r1 n1; have kb := Y1.out.cells i.r2 n2; have kp : _ := Y1.out.run.cell 1) | (go_at_call 38; refine (specWord_any _ _).mono ?_; rintro e v2 ⟨rfl, rfl⟩) | (go_at_call 25; refine (HL.out _ (Y1.out.keep (by repeat (first | exact Below.refl _ _ | refine Below.drew ?_ | refine below_drewN ?_ _)))).mono ?_; rintro e v3 ⟨rfl, hR2, hS2, hI, qr, hI2⟩; obtain ⟨q0, q1, q2, q3, q4⟩ := ins_cells hI; have qa := hI2 i.r1 n1; have qb := hI2 i.r2 n2; have p1 : v3.cell? ⟨g, 1, none⟩ = some (.int .i64 m2.pc) := hR2.cell 1; have p2 := hR2.unfrozen 1; have R2 : Hid (Run D g v3 v m2) := hR2; have S2 : Hid (St D u v3) := hS2; clear hR2 hS2 hI hI2))
    all_goals
      go_wp2
      go_ret
      exact ⟨rfl, ⟨v, R2.out.keep (by repeat (first | exact Below.refl _ _ | refine Below.drew ?_ | refine below_drewN ?_ _))⟩, S2.out.trans (R2.out.st (by repeat (first | exact Below.refl _ _ | refine Below.drew ?_ | refine below_drewN ?_ _)))⟩
end Go.Proofs.Ytfcfnbncgadomaa.W
namespace Go.Proofs.Ytfcfnbncgadomaa.Pl
theorem flow_no {m : Mac} {i : Ins} (h : ¬ (flow m i).2.1 = true) : (i.op < 37 ∨ 42 < i.op) ∧ i.op ≠ 45 ∧ i.op ≠ 33 := by
  unfold flow at h
  by_cases h1 : 37 ≤ i.op ∧ i.op ≤ 42
  · rw [if_pos h1] at h; exact (h rfl).elim
  · rw [if_neg h1] at h
    by_cases h2 : i.op = 45
    · rw [if_pos h2] at h; exact (h rfl).elim
    · rw [if_neg h2] at h
      by_cases h3 : i.op = 33
      · rw [if_pos h3] at h; exact (h rfl).elim
      · exact ⟨by omega, h2, h3⟩
end Go.Proofs.Ytfcfnbncgadomaa.Pl
namespace Go.Proofs.Ytfcfnbncgadomaa.W
open Go.RowKit
theorem l3Do_run {D : Nat → Prop} {g : Nat} {u : World} {v : MV} {m : Pl.Mac} (h : Run D g u v m) (hv : Pl.Vd m) (i : Pl.Ins) (hi : Pl.InsOk i) : Calls Try.prog 87 #[.pointer (some ⟨g, 0, none⟩), .agg #[.int .i64 i.op, .int .i64 i.rd, .int .i64 i.r1, .int .i64 i.r2, .int .i64 i.im]] u fun e u' => e = .returned (.int .i64 (Pl.act m i).2) ∧ (∃ v', Run D g u' v' ((Pl.act m i).1)) ∧ St D u u' := by
  unfold Pl.act
  by_cases hf : (Pl.flow m i).2.1 = true
  · rw [if_pos hf]; exact do_flow h hv i hi hf
  rw [if_neg hf]
  have hn := Pl.flow_no hf
  by_cases h1 : i.op ≤ 18
  · rw [if_pos h1]; exact do_alu h hv i hi h1
  rw [if_neg h1]
  by_cases h2 : i.op ≤ 27
  · rw [if_pos h2]; exact do_ali h hv i hi (by omega) h2
  rw [if_neg h2]
  by_cases h3 : i.op ≤ 32
  · rw [if_pos h3]; exact do_load h hv i hi (by omega) h3
  rw [if_neg h3]
  by_cases h4 : i.op ≤ 36
  · rw [if_pos h4]; exact do_store h hv i hi (by omega) h4
  rw [if_neg h4]
  by_cases h5 : i.op = 43
  · rw [if_pos h5]; exact do_lui h hv i hi h5
  rw [if_neg h5]
  by_cases h6 : i.op = 44
  · rw [if_pos h6]; exact do_auipc h hv i hi h6
  rw [if_neg h6]
  by_cases h7 : i.op = 47
  · rw [if_pos h7]; exact do_break h hv i hi h7
  rw [if_neg h7]
  have h8 : i.op = 46 := by have := hi.op2; omega
  exact do_ecall h hv i hi h8
end Go.Proofs.Ytfcfnbncgadomaa.W
namespace Go.Proofs.Ytfcfnbncgadomaa.Pl
theorem form_lim : ∀ f : Nat, f < 9 → -1048576 ≤ lo f ∧ hi f ≤ 1048576 := by decide +kernel
theorem dec_ok {n : Int} (h : dec n ≠ 0) : 1 ≤ dec n ∧ dec n ≤ 47 ∧ okF (fmN (dec n)) (dRd n) (dR1 n) (dR2 n) (dIm n) = true := by
  cases hf : (List.range 48).find? fun k => decide (1 ≤ k) && hit k n with
  | none => exact absurd (by unfold dec; rw [hf]; rfl) h
  | some j =>
    have hp := List.find?_some hf
    have hm := List.mem_range.1 (List.mem_of_find?_eq_some hf)
    simp only [Bool.and_eq_true, decide_eq_true_eq] at hp
    have hd : dec n = j := dec_hit hp.1 (by omega) hp.2
    obtain ⟨g1, g2⟩ := (hit_iff j n).1 hp.2
    unfold dRd dR1 dR2 dIm
    rw [hd, if_neg (by omega), if_neg (by omega), if_neg (by omega), if_neg (by omega)]
    exact ⟨hp.1, by omega, g1⟩
/-- the instruction of a word -/
def insOf (n : Int) : Ins := ⟨dec n, (dRd n).toNat, (dR1 n).toNat, (dR2 n).toNat, dIm n⟩
theorem dec_bds {n : Int} (h : dec n ≠ 0) : (1 ≤ dec n ∧ dec n ≤ 47) ∧ (0 ≤ dRd n ∧ dRd n ≤ 31) ∧ (0 ≤ dR1 n ∧ dR1 n ≤ 31) ∧ (0 ≤ dR2 n ∧ dR2 n ≤ 31) ∧ (-1048576 ≤ dIm n ∧ dIm n ≤ 1048576) := by
  obtain ⟨h1, h2, hk⟩ := dec_ok h
  have hf := fm_cases (dec n) (by omega) h1
  have hl := form_lim (fmN (dec n)) (by omega)
  generalize fmN (dec n) = f at *
  unfold okF rg imo at hk
  simp only [Bool.and_eq_true, decide_eq_true_eq] at hk
  obtain ⟨⟨⟨⟨a1, a2, _⟩, ⟨b1, b2, _⟩⟩, ⟨c1, c2, _⟩⟩, ⟨d1, d2⟩, _⟩ := hk
  exact ⟨⟨h1, h2⟩, ⟨a1, a2⟩, ⟨b1, b2⟩, ⟨c1, c2⟩, by omega, by omega⟩
theorem insOf_ok {n : Int} (h : dec n ≠ 0) : InsOk (insOf n) := by
  obtain ⟨a, b, c, d, e⟩ := dec_bds h
  refine ⟨?_, ?_, ?_, ?_, ?_, ?_⟩
  · show (1 : Int) ≤ (dec n : Int); omega
  · show (dec n : Int) ≤ 47; omega
  · show (dRd n).toNat ≤ 31; omega
  · show (dR1 n).toNat ≤ 31; omega
  · show (dR2 n).toNat ≤ 31; omega
  · show -2147483648 ≤ dIm n ∧ dIm n ≤ 2147483648; omega
theorem insOf_cells {n : Int} (h : dec n ≠ 0) : decV n = #[.int .i64 (insOf n).op, .int .i64 (insOf n).rd, .int .i64 (insOf n).r1, .int .i64 (insOf n).r2, .int .i64 (insOf n).im] := by
  obtain ⟨a, b, c, d, e⟩ := dec_bds h
  have e1 : ((insOf n).rd : Int) = dRd n := by show ((dRd n).toNat : Int) = _; omega
  have e2 : ((insOf n).r1 : Int) = dR1 n := by show ((dR1 n).toNat : Int) = _; omega
  have e3 : ((insOf n).r2 : Int) = dR2 n := by show ((dR2 n).toNat : Int) = _; omega
  rw [e1, e2, e3]
  rfl
/-- the word at pc -/
def word (m : Mac) : Int := m.code.getD (place m.code.length m.pc).toNat 0
/-- a machine behind a step -/
def step (m : Mac) : Mac :=
  if place m.code.length m.pc = -1 then { m with steps := m.steps + 1, fin := 2, val := 1 }
  else if dec (word m) = 0 then { m with steps := m.steps + 1, fin := 2, val := 2 }
  else if (act { m with steps := m.steps + 1 } (insOf (word m))).2 = 0 then (act { m with steps := m.steps + 1 } (insOf (word m))).1
  else { (act { m with steps := m.steps + 1 } (insOf (word m))).1 with fin := 2, val := (act { m with steps := m.steps + 1 } (insOf (word m))).2 }
theorem place_cases (len : Nat) (a : Int) : place len a = -1 ∨ ∃ k : Nat, place len a = k ∧ k < len := by
  unfold place
  split
  · exact .inr ⟨((a - 65536) / 4).toNat, by omega, by omega⟩
  · exact .inl rfl
end Go.Proofs.Ytfcfnbncgadomaa.Pl
namespace Go.Proofs.Ytfcfnbncgadomaa.W
open Go.RowKit
/-- the instructions of words, as spec.l3Decoded lays them -/
def CRow (u : World) (b : Nat) (ns : List Int) : Prop := ∀ i, i < ns.length → ∀ j, j < 5 → u.cell? ⟨b, i * 5 + j, none⟩ = (Pl.decV (ns.getD i 0))[j]?
theorem CRow.keep {u u' : World} {b : Nat} {ns : List Int} (h : CRow u b ns) (hb : u'.heap[b]? = u.heap[b]?) : CRow u' b ns := fun i hi j hj => by
  rw [World.cell?_of_block (a := ⟨b, i * 5 + j, none⟩) hb]
  exact h i hi j hj
set_option maxRecDepth 8000 in
set_option maxHeartbeats 4000000 in
theorem l3Step_run {D : Nat → Prop} {g b cap : Nat} {u : World} {v : MV} {m : Pl.Mac} (h : Run D g u v m) (hv : Pl.Vd m) (hs : m.steps < 1000000) (hb : D b) (hC0 : CRow u b m.code) (hcap : m.code.length ≤ cap) :
    Calls Try.prog 71 #[.pointer (some ⟨g, 0, none⟩), .slice (some ⟨b, 0, none⟩) m.code.length cap] u fun e u' => e = .returned (.tuple #[]) ∧ (∃ v', Run D g u' v' (Pl.step m)) ∧ St D u u' := by
  have hC : Hid (CRow u b m.code) := hC0
  clear hC0
  have hst := hv.steps
  have hw : IntKind.i64.wrap (m.steps + 1) = m.steps + 1 := by rw [IntKind.wrap_i64]; omega
  have c7 : u.cell? ⟨g, 7, none⟩ = some (.int .i64 m.steps) := h.cell 7
  have z7 := h.unfrozen 7
  have hcl : m.code.length = v.code.len := h.code.1
  have hl := hv.code
  have hp := hv.pc
  have HP : Hid (∀ w, Calls Try.prog 82 #[.slice v.code.a v.code.len v.code.cap, .int .i64 m.pc] w fun e w' => e = .returned (.int .i64 (Pl.place m.code.length m.pc)) ∧ w' = w) := fun w => by rw [hcl]; exact specPlace_any _ _ _ _ (by omega) (by omega) w
  unfold Pl.step
  rcases Pl.place_cases m.code.length m.pc with hq | ⟨k, hq, hk⟩
  · rw [if_pos hq]
    rw [hq] at HP
    clear hq
    go_enter Try.func71, Try.ntmps71
    go_wp2_with fail
    obtain ⟨U, hU⟩ : ∃ U, U = u.setCell ⟨g, 7, none⟩ (.int .i64 (m.steps + 1)) := ⟨_, rfl⟩
    rw [← hU]
    have hR1 : Run D g U v { m with steps := m.steps + 1 } := by rw [hU]; exact h.setSteps _
    have S1 : Hid (St D u U) := by rw [hU]; exact St.set (h.ne 0 rfl)
    clear hU
    have c0 : U.cell? ⟨g, 0, none⟩ = some (.slice v.code.a v.code.len v.code.cap) := hR1.cell 0
    have c1 : U.cell? ⟨g, 1, none⟩ = some (.int .i64 m.pc) := hR1.cell 1
    have c8 : U.cell? ⟨g, 8, none⟩ = some (.int .i64 m.fin) := hR1.cell 8
    have c9 : U.cell? ⟨g, 9, none⟩ = some (.int .i64 m.val) := hR1.cell 9
    have z8 := hR1.unfrozen 8
    have z9 := hR1.unfrozen 9
    have R1 : Hid (Run D g U v { m with steps := m.steps + 1 }) := hR1
    have CU : Hid (CRow U b m.code) := hC.out.keep (S1.out.keep b hb)
    clear hR1
    go_quiet ((go_at_call 82; exact Calls.quiet_of_same (HP.out _)))
    go_wp2
    go_end0
    exact ⟨rfl, ⟨v, ((R1.out.keep (below_drewN (Below.refl _ _) _)).setFin 2).setVal 1⟩, S1.out.trans (((R1.out.st (below_drewN (Below.refl _ _) _)).trans (St.set (R1.out.ne 0 rfl))).trans (St.set (R1.out.ne 0 rfl)))⟩
  have hw2 : Pl.word m = m.code.getD k 0 := by unfold Pl.word; rw [hq]; rfl
  rw [if_neg (by omega), hw2]
  rw [hq] at HP
  have ik : (k : Int) < (m.code.length : Int) := by omega
  have ig : ¬ (k : Int) < 0 := by omega
  have hcc := fun (U : World) (hU : CRow U b m.code) => hU k hk
  have HCC : Hid (∀ U, CRow U b m.code → ∀ j, j < 5 → U.cell? ⟨b, k * 5 + j, none⟩ = (Pl.decV (m.code.getD k 0))[j]?) := hcc
  clear hcc hw2 hq
  generalize m.code.getD k 0 = n at *
  by_cases hd : Pl.dec n = 0
  · rw [if_pos hd]
    go_enter Try.func71, Try.ntmps71
    go_wp2_with fail
    obtain ⟨U, hU⟩ : ∃ U, U = u.setCell ⟨g, 7, none⟩ (.int .i64 (m.steps + 1)) := ⟨_, rfl⟩
    rw [← hU]
    have hR1 : Run D g U v { m with steps := m.steps + 1 } := by rw [hU]; exact h.setSteps _
    have S1 : Hid (St D u U) := by rw [hU]; exact St.set (h.ne 0 rfl)
    clear hU
    have c0 : U.cell? ⟨g, 0, none⟩ = some (.slice v.code.a v.code.len v.code.cap) := hR1.cell 0
    have c1 : U.cell? ⟨g, 1, none⟩ = some (.int .i64 m.pc) := hR1.cell 1
    have c8 : U.cell? ⟨g, 8, none⟩ = some (.int .i64 m.fin) := hR1.cell 8
    have c9 : U.cell? ⟨g, 9, none⟩ = some (.int .i64 m.val) := hR1.cell 9
    have z8 := hR1.unfrozen 8
    have z9 := hR1.unfrozen 9
    have R1 : Hid (Run D g U v { m with steps := m.steps + 1 }) := hR1
    have CU : Hid (CRow U b m.code) := hC.out.keep (S1.out.keep b hb)
    clear hR1
    have x0 : U.cell? ⟨b, k * 5, none⟩ = some (.int .i64 0) := by
      have := HCC.out U CU.out 0 (by decide)
      rw [Pl.decV_none hd] at this
      exact this
    go_quiet ((go_at_call 82; exact Calls.quiet_of_same (HP.out _)))
    go_wp2
    go_end0
    exact ⟨rfl, ⟨v, ((R1.out.keep (below_drewN (Below.refl _ _) _)).setFin 2).setVal 2⟩, S1.out.trans (((R1.out.st (below_drewN (Below.refl _ _) _)).trans (St.set (R1.out.ne 0 rfl))).trans (St.set (R1.out.ne 0 rfl)))⟩
  rw [if_neg hd]
  have hi := Pl.insOf_ok hd
  have hV := Pl.insOf_cells hd
  rw [hV] at HCC
  clear hV hd
  generalize Pl.insOf n = i at *
  have hop := hi.op1
  have hv1 : Pl.Vd { m with steps := m.steps + 1 } := ⟨hv.code, hv.data, hv.stk, hv.pc, hv.regs, hv.word, hv.inp, hv.out, show 0 ≤ m.steps + 1 ∧ m.steps + 1 ≤ 1000000 by omega⟩
  have HD : Hid (∀ U, Run D g U v { m with steps := m.steps + 1 } → Calls Try.prog 87 #[.pointer (some ⟨g, 0, none⟩), .agg #[.int .i64 i.op, .int .i64 i.rd, .int .i64 i.r1, .int .i64 i.r2, .int .i64 i.im]] U fun e u' => e = .returned (.int .i64 (Pl.act { m with steps := m.steps + 1 } i).2) ∧ (∃ v', Run D g u' v' (Pl.act { m with steps := m.steps + 1 } i).1) ∧ St D U u') := fun U hU => l3Do_run hU hv1 i hi
  generalize Pl.act { m with steps := m.steps + 1 } i = E at *
  obtain ⟨m2, f⟩ := E
  dsimp only at HD ⊢
  clear hi hv1
  by_cases hf : f = 0
  · subst hf
    rw [if_pos rfl]
    go_enter Try.func71, Try.ntmps71
    go_wp2_with fail
    obtain ⟨U, hU⟩ : ∃ U, U = u.setCell ⟨g, 7, none⟩ (.int .i64 (m.steps + 1)) := ⟨_, rfl⟩
    rw [← hU]
    have hR1 : Run D g U v { m with steps := m.steps + 1 } := by rw [hU]; exact h.setSteps _
    have S1 : Hid (St D u U) := by rw [hU]; exact St.set (h.ne 0 rfl)
    clear hU
    have c0 : U.cell? ⟨g, 0, none⟩ = some (.slice v.code.a v.code.len v.code.cap) := hR1.cell 0
    have c1 : U.cell? ⟨g, 1, none⟩ = some (.int .i64 m.pc) := hR1.cell 1
    have c8 : U.cell? ⟨g, 8, none⟩ = some (.int .i64 m.fin) := hR1.cell 8
    have c9 : U.cell? ⟨g, 9, none⟩ = some (.int .i64 m.val) := hR1.cell 9
    have z8 := hR1.unfrozen 8
    have z9 := hR1.unfrozen 9
    have R1 : Hid (Run D g U v { m with steps := m.steps + 1 }) := hR1
    have CU : Hid (CRow U b m.code) := hC.out.keep (S1.out.keep b hb)
    clear hR1
    have x0 : U.cell? ⟨b, k * 5, none⟩ = some (.int .i64 i.op) := HCC.out U CU.out 0 (by decide)
    have x1 : U.cell? ⟨b, k * 5 + 1, none⟩ = some (.int .i64 i.rd) := HCC.out U CU.out 1 (by decide)
    have x2 : U.cell? ⟨b, k * 5 + 2, none⟩ = some (.int .i64 i.r1) := HCC.out U CU.out 2 (by decide)
    have x3 : U.cell? ⟨b, k * 5 + 3, none⟩ = some (.int .i64 i.r2) := HCC.out U CU.out 3 (by decide)
    have x4 : U.cell? ⟨b, k * 5 + 4, none⟩ = some (.int .i64 i.im) := HCC.out U CU.out 4 (by decide)
    go_quiet ((go_at_call 82; exact Calls.quiet_of_same (HP.out _)))
    go_wp2_with (go_at_call 87; refine Calls.mono (HD.out _ (R1.out.keep (by repeat (first | exact Below.refl _ _ | refine Below.drew ?_ | refine below_drewN ?_ _)))) ?_; rintro e u2 ⟨rfl, ⟨v2, hR2⟩, hS2⟩; have p8 : u2.cell? ⟨g, 8, none⟩ = some (.int .i64 m2.fin) := hR2.cell 8; have p9 : u2.cell? ⟨g, 9, none⟩ = some (.int .i64 m2.val) := hR2.cell 9; have y8 := hR2.unfrozen 8; have y9 := hR2.unfrozen 9; have R2 : Hid (Run D g u2 v2 m2) := hR2; have S2 : Hid (St D u u2) := (S1.out.trans (R1.out.st (by repeat (first | exact Below.refl _ _ | refine Below.drew ?_ | refine below_drewN ?_ _)))).trans hS2; clear hR2 hS2)
    go_end0
    exact ⟨rfl, ⟨v2, R2.out⟩, S2.out⟩
  · rw [if_neg hf]
    have ef : (f != 0) = true := by simpa using hf
    clear hf
    go_enter Try.func71, Try.ntmps71
    go_wp2_with fail
    obtain ⟨U, hU⟩ : ∃ U, U = u.setCell ⟨g, 7, none⟩ (.int .i64 (m.steps + 1)) := ⟨_, rfl⟩
    rw [← hU]
    have hR1 : Run D g U v { m with steps := m.steps + 1 } := by rw [hU]; exact h.setSteps _
    have S1 : Hid (St D u U) := by rw [hU]; exact St.set (h.ne 0 rfl)
    clear hU
    have c0 : U.cell? ⟨g, 0, none⟩ = some (.slice v.code.a v.code.len v.code.cap) := hR1.cell 0
    have c1 : U.cell? ⟨g, 1, none⟩ = some (.int .i64 m.pc) := hR1.cell 1
    have c8 : U.cell? ⟨g, 8, none⟩ = some (.int .i64 m.fin) := hR1.cell 8
    have c9 : U.cell? ⟨g, 9, none⟩ = some (.int .i64 m.val) := hR1.cell 9
    have z8 := hR1.unfrozen 8
    have z9 := hR1.unfrozen 9
    have R1 : Hid (Run D g U v { m with steps := m.steps + 1 }) := hR1
    have CU : Hid (CRow U b m.code) := hC.out.keep (S1.out.keep b hb)
    clear hR1
    have x0 : U.cell? ⟨b, k * 5, none⟩ = some (.int .i64 i.op) := HCC.out U CU.out 0 (by decide)
    have x1 : U.cell? ⟨b, k * 5 + 1, none⟩ = some (.int .i64 i.rd) := HCC.out U CU.out 1 (by decide)
    have x2 : U.cell? ⟨b, k * 5 + 2, none⟩ = some (.int .i64 i.r1) := HCC.out U CU.out 2 (by decide)
    have x3 : U.cell? ⟨b, k * 5 + 3, none⟩ = some (.int .i64 i.r2) := HCC.out U CU.out 3 (by decide)
    have x4 : U.cell? ⟨b, k * 5 + 4, none⟩ = some (.int .i64 i.im) := HCC.out U CU.out 4 (by decide)
    go_quiet ((go_at_call 82; exact Calls.quiet_of_same (HP.out _)))
    go_wp2_with (go_at_call 87; refine Calls.mono (HD.out _ (R1.out.keep (by repeat (first | exact Below.refl _ _ | refine Below.drew ?_ | refine below_drewN ?_ _)))) ?_; rintro e u2 ⟨rfl, ⟨v2, hR2⟩, hS2⟩; have p8 : u2.cell? ⟨g, 8, none⟩ = some (.int .i64 m2.fin) := hR2.cell 8; have p9 : u2.cell? ⟨g, 9, none⟩ = some (.int .i64 m2.val) := hR2.cell 9; have y8 := hR2.unfrozen 8; have y9 := hR2.unfrozen 9; have R2 : Hid (Run D g u2 v2 m2) := hR2; have S2 : Hid (St D u u2) := (S1.out.trans (R1.out.st (by repeat (first | exact Below.refl _ _ | refine Below.drew ?_ | refine below_drewN ?_ _)))).trans hS2; clear hR2 hS2)
    go_end0
    exact ⟨rfl, ⟨v2, (R2.out.setFin 2).setVal f⟩, (S2.out.trans (St.set (R2.out.ne 0 rfl))).trans (St.set (R2.out.ne 0 rfl))⟩
end Go.Proofs.Ytfcfnbncgadomaa.W
