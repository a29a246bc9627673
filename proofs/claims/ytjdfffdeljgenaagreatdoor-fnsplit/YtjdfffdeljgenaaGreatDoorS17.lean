import Derived.Test.YtjdfffdeljgenaaGreatDoorS13
import Derived.Test.YtjdfffdeljgenaaGreatDoorS30
import Derived.Deep.AppendLies
import Derived.OwnWalk
set_option linter.unusedVariables false
set_option linter.unusedSimpArgs false
namespace Go.Proofs.YtjdfffdeljgenaaGreatDoor.Pl
theorem stv_regs (m : Mac) (k a x : Int) : (stv m k a x).1.regs = m.regs := by
  by_cases h1 : (a.tmod (ks k) != 0) = true
  · unfold stv; rw [if_pos h1]
  · by_cases h2 : inD m a (ks k).toNat
    · unfold stv; rw [if_neg h1, if_pos h2]
    · by_cases h3 : inS m a (ks k).toNat
      · unfold stv; rw [if_neg h1, if_neg h2, if_pos h3]
      · unfold stv; rw [if_neg h1, if_neg h2, if_neg h3]
end Go.Proofs.YtjdfffdeljgenaaGreatDoor.Pl
namespace Go.Proofs.YtjdfffdeljgenaaGreatDoor.W
open Go.RowKit
theorem Rdy.keep {D : Nat → Prop} {g q r c : Nat} {u u1 U : World} {v : MV} {m : Pl.Mac} {i : Pl.Ins} (h : Rdy D g q r c u u1 v m i) (hU : Below u1.heap.size u1 U) : Rdy D g q r c u U v m i := by
  refine ⟨h.run.keep hU, h.st.trans ((h.run.st hU).mono fun x hx => .inl hx), ?_, h.reg, fun n hn => ?_⟩
  · rw [hU.block q (Array.getElem?_eq_some_iff.1 h.ins).1]; exact h.ins
  · have := h.cells n hn
    rw [World.cell?_of_block (a := ⟨r, n, none⟩) (hU.block r (block_lt_of_cell this))]
    exact this
theorem run_regs {D : Nat → Prop} {g r c : Nat} {u : World} {v : MV} {m m' : Pl.Mac} (h : Run D g u v m') (hl : m.regs.length = 32) (hr : v.regs = ⟨some ⟨r, 0, none⟩, 32, c⟩) (e : m'.regs = m.regs) : u.cell? ⟨g, 2, none⟩ = some (.slice (some ⟨r, 0, none⟩) 32 c) ∧ ∀ n, n < 32 → u.cell? ⟨r, n, none⟩ = some (.int .i64 (Pl.rv m n)) := by
  refine ⟨by rw [h.cell 2, hr]; rfl, fun n hn => ?_⟩
  obtain ⟨r', c', hr', hc', _⟩ := h.regsAt (e ▸ hl)
  rw [hr] at hr'
  cases hr'
  rw [hc' n hn, e]
  rfl
set_option maxRecDepth 8000 in
set_option maxHeartbeats 4000000 in
theorem do_load {D : Nat → Prop} {g : Nat} {u : World} {v : MV} {m : Pl.Mac} (h : Run D g u v m) (hv : Pl.Vd m) (i : Pl.Ins) (hi : Pl.InsOk i) (h1 : 28 ≤ i.op) (h2 : i.op ≤ 32) : Calls Tryz.prog 57 #[.pointer (some ⟨g, 0, none⟩), .agg #[.int .i64 i.op, .int .i64 i.rd, .int .i64 i.r1, .int .i64 i.r2, .int .i64 i.im]] u fun e u' => e = .returned (.int .i64 ((if (Pl.ldv m (Pl.lsk i.op) (Pl.wd (Pl.rv m i.r1 + i.im))).2 = 0 then ({ Pl.setR m i.rd (Pl.ldv m (Pl.lsk i.op) (Pl.wd (Pl.rv m i.r1 + i.im))).1 with pc := Pl.wd (m.pc + 4) }, (0 : Int)) else (m, (Pl.ldv m (Pl.lsk i.op) (Pl.wd (Pl.rv m i.r1 + i.im))).2)).2)) ∧ (∃ v', Run D g u' v' ((if (Pl.ldv m (Pl.lsk i.op) (Pl.wd (Pl.rv m i.r1 + i.im))).2 = 0 then ({ Pl.setR m i.rd (Pl.ldv m (Pl.lsk i.op) (Pl.wd (Pl.rv m i.r1 + i.im))).1 with pc := Pl.wd (m.pc + 4) }, (0 : Int)) else (m, (Pl.ldv m (Pl.lsk i.op) (Pl.wd (Pl.rv m i.r1 + i.im))).2)).1)) ∧ St D u u' := by
  have f0 : decide (i.op ≤ 18) = false := by simp; omega
  have f1 : decide (i.op ≤ 27) = false := by simp; omega
  have f2 : decide (i.op ≤ 32) = true := by simp; omega
  have him := hi.im
  obtain ⟨r, c, hr, hF⟩ := flow_rdy h hv i hi (by omega)
  have HF : Hid _ := hF
  clear hF
  have l1 : (i.r1 : Int) < 32 := by have := hi.r1; omega
  have l2 : (i.r2 : Int) < 32 := by have := hi.r2; omega
  have n1 : i.r1 < 32 := by have := hi.r1; omega
  have n2 : i.r2 < 32 := by have := hi.r2; omega
  have hrv := hv.word i.r1 n1
  have hw : IntKind.i64.wrap (Pl.rv m i.r1 + i.im) = Pl.rv m i.r1 + i.im := by rw [IntKind.wrap_i64]; unfold Pl.rv; omega
  have HK : Hid (∀ w, Calls Tryz.prog 74 #[.int .i64 i.op] w fun e w' => e = .returned (.int .i64 (Pl.lsk i.op)) ∧ Below w.heap.size w w') := fun w => l3Kinds_any i.op (by omega) w
  have hk : 1 ≤ Pl.lsk i.op ∧ Pl.lsk i.op ≤ 5 := by unfold Pl.lsk; repeat' split <;> omega
  have hwd := Pl.wd_bdd (Pl.rv m i.r1 + i.im)
  have HL : Hid (∀ U, Rdy D g u.heap.size r c u U v m i → Calls Tryz.prog 73 #[.pointer (some ⟨g, 0, none⟩), .int .i64 (Pl.lsk i.op), .int .i64 (Pl.wd (Pl.rv m i.r1 + i.im))] U fun e u' => e = .returned (.tuple #[.int .i64 (Pl.ldv m (Pl.lsk i.op) (Pl.wd (Pl.rv m i.r1 + i.im))).1, .int .i64 (Pl.ldv m (Pl.lsk i.op) (Pl.wd (Pl.rv m i.r1 + i.im))).2]) ∧ u' = U) := fun U hU => l3Load_run hU.run hv _ _ hk.1 hk.2 (by omega)
  generalize hX : Pl.ldv m (Pl.lsk i.op) (Pl.wd (Pl.rv m i.r1 + i.im)) = X at *
  obtain ⟨x, f⟩ := X
  clear hX
  dsimp only at HL ⊢
  generalize Pl.lsk i.op = K at *
  clear hrv hwd hk h1 h2
  by_cases hf : f = 0
  · subst hf
    rw [if_pos rfl]
    go_enter Tryz.func57, Tryz.ntmps57
    go_wp2_with (go_at_call 70; refine Calls.mono HF.out ?_; rintro e u1 ⟨rfl, hy⟩; obtain ⟨z0, z1, z2, z3, z4⟩ := hy.ic; have zr := hy.rs; have za := hy.cells i.r1 n1; have zb := hy.cells i.r2 n2; have zp : u1.cell? ⟨g, 1, none⟩ = some (.int .i64 m.pc) := hy.run.cell 1; have Y : Hid (Rdy D g u.heap.size r c u u1 v m i) := hy; clear hy)
    go_region_held3 (fun w2 => w2.cell? ⟨u.heap.size, 0, none⟩ = some (.int .i64 i.op) ∧ w2.cell? ⟨u.heap.size, 2, none⟩ = some (.int .i64 i.r1) ∧ w2.cell? ⟨u.heap.size, 4, none⟩ = some (.int .i64 i.im) ∧ w2.cell? ⟨g, 2, none⟩ = some (.slice (some ⟨r, 0, none⟩) 32 c) ∧ w2.cell? ⟨r, i.r1, none⟩ = some (.int .i64 (Pl.rv m i.r1))) (go_keep) (first | (go_at_call 74; refine (HK.out _).mono ?_; rintro e v1 ⟨rfl, d1⟩; have Y1 : Hid (Rdy D g u.heap.size r c u v1 v m i) := Y.out.keep ((show Below u1.heap.size u1 _ from (by repeat (first | exact Below.refl _ _ | refine Below.drew ?_ | refine below_drewN ?_ _))).trans (d1.mono (Nat.le_refl _))); clear d1; obtain ⟨k0, k1, k2, k3, k4⟩ := Y1.out.ic; have kr := Y1.out.rs; have ka := Y1.out.cells i.r1 n1; have kb := Y1.out.cells i.r2 n2; have kp : _ := Y1.out.run.cell 1) | (go_at_call 75; refine (specWord_any _ _).mono ?_; rintro e v2 ⟨rfl, rfl⟩) | (go_at_call 73; refine (HL.out _ (Y1.out.keep (by repeat (first | exact Below.refl _ _ | refine Below.drew ?_ | refine below_drewN ?_ _)))).mono ?_; rintro e v3 ⟨rfl, rfl⟩))
    all_goals
      go_wp2_with (go_at_call 72; refine (Y1.out.set hv hi _ (by repeat (first | exact Below.refl _ _ | refine Below.drew ?_ | refine below_drewN ?_ _)) _).mono ?_; rintro e u2 ⟨rfl, hR2, hS2, p1, p2, p3⟩; have R2 : Hid (Run D g u2 v (Pl.setR m i.rd (x))) := hR2; have S2 : Hid (St D u u2) := hS2; clear hR2 hS2)
      go_ret
      exact ⟨rfl, ⟨v, R2.out.setPc _⟩, S2.out.trans (St.set (R2.out.ne 0 rfl))⟩
  · rw [if_neg hf]
    have ef : (f != 0) = true := by simpa using hf
    clear hf
    go_enter Tryz.func57, Tryz.ntmps57
    go_wp2_with (go_at_call 70; refine Calls.mono HF.out ?_; rintro e u1 ⟨rfl, hy⟩; obtain ⟨z0, z1, z2, z3, z4⟩ := hy.ic; have zr := hy.rs; have za := hy.cells i.r1 n1; have zb := hy.cells i.r2 n2; have zp : u1.cell? ⟨g, 1, none⟩ = some (.int .i64 m.pc) := hy.run.cell 1; have Y : Hid (Rdy D g u.heap.size r c u u1 v m i) := hy; clear hy)
    go_region_held3 (fun w2 => w2.cell? ⟨u.heap.size, 0, none⟩ = some (.int .i64 i.op) ∧ w2.cell? ⟨u.heap.size, 2, none⟩ = some (.int .i64 i.r1) ∧ w2.cell? ⟨u.heap.size, 4, none⟩ = some (.int .i64 i.im) ∧ w2.cell? ⟨g, 2, none⟩ = some (.slice (some ⟨r, 0, none⟩) 32 c) ∧ w2.cell? ⟨r, i.r1, none⟩ = some (.int .i64 (Pl.rv m i.r1))) (go_keep) (first | (go_at_call 74; refine (HK.out _).mono ?_; rintro e v1 ⟨rfl, d1⟩; have Y1 : Hid (Rdy D g u.heap.size r c u v1 v m i) := Y.out.keep ((show Below u1.heap.size u1 _ from (by repeat (first | exact Below.refl _ _ | refine Below.drew ?_ | refine below_drewN ?_ _))).trans (d1.mono (Nat.le_refl _))); clear d1; obtain ⟨k0, k1, k2, k3, k4⟩ := Y1.out.ic; have kr := Y1.out.rs; have ka := Y1.out.cells i.r1 n1; have kb := Y1.out.cells i.r2 n2; have kp : _ := Y1.out.run.cell 1) | (go_at_call 75; refine (specWord_any _ _).mono ?_; rintro e v2 ⟨rfl, rfl⟩) | (go_at_call 73; refine (HL.out _ (Y1.out.keep (by repeat (first | exact Below.refl _ _ | refine Below.drew ?_ | refine below_drewN ?_ _)))).mono ?_; rintro e v3 ⟨rfl, rfl⟩))
    all_goals
      go_wp2
      go_ret
      exact ⟨rfl, ⟨v, (Y1.out.keep (by repeat (first | exact Below.refl _ _ | refine Below.drew ?_ | refine below_drewN ?_ _))).run.mono fun x hx => .inl hx⟩, (Y1.out.keep (by repeat (first | exact Below.refl _ _ | refine Below.drew ?_ | refine below_drewN ?_ _))).st⟩
set_option maxRecDepth 8000 in
set_option maxHeartbeats 4000000 in
theorem do_store {D : Nat → Prop} {g : Nat} {u : World} {v : MV} {m : Pl.Mac} (h : Run D g u v m) (hv : Pl.Vd m) (i : Pl.Ins) (hi : Pl.InsOk i) (h1 : 34 ≤ i.op) (h2 : i.op ≤ 36) : Calls Tryz.prog 57 #[.pointer (some ⟨g, 0, none⟩), .agg #[.int .i64 i.op, .int .i64 i.rd, .int .i64 i.r1, .int .i64 i.r2, .int .i64 i.im]] u fun e u' => e = .returned (.int .i64 ((if (Pl.stv m (Pl.lsk i.op) (Pl.wd (Pl.rv m i.r1 + i.im)) (Pl.rv m i.r2)).2 = 0 then ({ (Pl.stv m (Pl.lsk i.op) (Pl.wd (Pl.rv m i.r1 + i.im)) (Pl.rv m i.r2)).1 with pc := Pl.wd (m.pc + 4) }, (0 : Int)) else ((Pl.stv m (Pl.lsk i.op) (Pl.wd (Pl.rv m i.r1 + i.im)) (Pl.rv m i.r2)).1, (Pl.stv m (Pl.lsk i.op) (Pl.wd (Pl.rv m i.r1 + i.im)) (Pl.rv m i.r2)).2)).2)) ∧ (∃ v', Run D g u' v' ((if (Pl.stv m (Pl.lsk i.op) (Pl.wd (Pl.rv m i.r1 + i.im)) (Pl.rv m i.r2)).2 = 0 then ({ (Pl.stv m (Pl.lsk i.op) (Pl.wd (Pl.rv m i.r1 + i.im)) (Pl.rv m i.r2)).1 with pc := Pl.wd (m.pc + 4) }, (0 : Int)) else ((Pl.stv m (Pl.lsk i.op) (Pl.wd (Pl.rv m i.r1 + i.im)) (Pl.rv m i.r2)).1, (Pl.stv m (Pl.lsk i.op) (Pl.wd (Pl.rv m i.r1 + i.im)) (Pl.rv m i.r2)).2)).1)) ∧ St D u u' := by
  have f0 : decide (i.op ≤ 18) = false := by simp; omega
  have f1 : decide (i.op ≤ 27) = false := by simp; omega
  have f2 : decide (i.op ≤ 32) = false := by simp; omega
  have f3 : decide (34 ≤ i.op) = true := by simp; omega
  have f4 : decide (i.op ≤ 36) = true := by simp; omega
  have him := hi.im
  obtain ⟨r, c, hr, hF⟩ := flow_rdy h hv i hi (by omega)
  have HF : Hid _ := hF
  clear hF
  have l1 : (i.r1 : Int) < 32 := by have := hi.r1; omega
  have l2 : (i.r2 : Int) < 32 := by have := hi.r2; omega
  have n1 : i.r1 < 32 := by have := hi.r1; omega
  have n2 : i.r2 < 32 := by have := hi.r2; omega
  have hrv := hv.word i.r1 n1
  have hw : IntKind.i64.wrap (Pl.rv m i.r1 + i.im) = Pl.rv m i.r1 + i.im := by rw [IntKind.wrap_i64]; unfold Pl.rv; omega
  have HK : Hid (∀ w, Calls Tryz.prog 74 #[.int .i64 i.op] w fun e w' => e = .returned (.int .i64 (Pl.lsk i.op)) ∧ Below w.heap.size w w') := fun w => l3Kinds_any i.op (by omega) w
  have hk : 1 ≤ Pl.lsk i.op ∧ Pl.lsk i.op ≤ 5 := by unfold Pl.lsk; repeat' split <;> omega
  have hwd := Pl.wd_bdd (Pl.rv m i.r1 + i.im)
  have HL : Hid (∀ U, Rdy D g u.heap.size r c u U v m i → Calls Tryz.prog 76 #[.pointer (some ⟨g, 0, none⟩), .int .i64 (Pl.lsk i.op), .int .i64 (Pl.wd (Pl.rv m i.r1 + i.im)), .int .i64 (Pl.rv m i.r2)] U fun e u' => e = .returned (.int .i64 (Pl.stv m (Pl.lsk i.op) (Pl.wd (Pl.rv m i.r1 + i.im)) (Pl.rv m i.r2)).2) ∧ Run D g u' v (Pl.stv m (Pl.lsk i.op) (Pl.wd (Pl.rv m i.r1 + i.im)) (Pl.rv m i.r2)).1 ∧ St D u u' ∧ u'.heap[u.heap.size]? = some (.cells #[.int .i64 i.op, .int .i64 i.rd, .int .i64 i.r1, .int .i64 i.r2, .int .i64 i.im] 74) ∧ u'.cell? ⟨g, 2, none⟩ = some (.slice (some ⟨r, 0, none⟩) 32 c) ∧ ∀ n, n < 32 → u'.cell? ⟨r, n, none⟩ = some (.int .i64 (Pl.rv m n))) := fun U hU => (l3Store_run hU.run hv _ _ _ hk.1 hk.2 (by omega)).mono fun e u' ⟨a, b, c⟩ => ⟨a, b.mono fun x hx => .inl hx, hU.st.trans (c.mono fun x hx => .inl hx), (c.keep _ (.inr rfl)).trans hU.ins, run_regs b hv.regs hU.reg (Pl.stv_regs m _ _ _)⟩
  generalize hX : Pl.stv m (Pl.lsk i.op) (Pl.wd (Pl.rv m i.r1 + i.im)) (Pl.rv m i.r2) = X at *
  obtain ⟨m2, f⟩ := X
  clear hX
  dsimp only at HL ⊢
  generalize Pl.lsk i.op = K at *
  clear hrv hwd hk h1 h2
  by_cases hf : f = 0
  · subst hf
    rw [if_pos rfl]
    go_enter Tryz.func57, Tryz.ntmps57
    go_wp2_with (go_at_call 70; refine Calls.mono HF.out ?_; rintro e u1 ⟨rfl, hy⟩; obtain ⟨z0, z1, z2, z3, z4⟩ := hy.ic; have zr := hy.rs; have za := hy.cells i.r1 n1; have zb := hy.cells i.r2 n2; have zp : u1.cell? ⟨g, 1, none⟩ = some (.int .i64 m.pc) := hy.run.cell 1; have Y : Hid (Rdy D g u.heap.size r c u u1 v m i) := hy; clear hy)
    go_region_held3 (fun w2 => w2.cell? ⟨u.heap.size, 0, none⟩ = some (.int .i64 i.op) ∧ w2.cell? ⟨u.heap.size, 2, none⟩ = some (.int .i64 i.r1) ∧ w2.cell? ⟨u.heap.size, 3, none⟩ = some (.int .i64 i.r2) ∧ w2.cell? ⟨u.heap.size, 4, none⟩ = some (.int .i64 i.im) ∧ w2.cell? ⟨g, 2, none⟩ = some (.slice (some ⟨r, 0, none⟩) 32 c) ∧ w2.cell? ⟨r, i.r1, none⟩ = some (.int .i64 (Pl.rv m i.r1)) ∧ w2.cell? ⟨r, i.r2, none⟩ = some (.int .i64 (Pl.rv m i.r2))) (go_keep) (first | (go_at_call 74; refine (HK.out _).mono ?_; rintro e v1 ⟨rfl, d1⟩; have Y1 : Hid (Rdy D g u.heap.size r c u v1 v m i) := Y.out.keep ((show Below u1.heap.size u1 _ from (by repeat (first | exact Below.refl _ _ | refine Below.drew ?_ | refine below_drewN ?_ _))).trans (d1.mono (Nat.le_refl _))); clear d1; obtain ⟨k0, k1, k2, k3, k4⟩ := Y1.out.ic; have kr := Y1.out.rs; have ka := Y1.out.cells i.r1 n1; have kb := Y1.out.cells i.r2 n2; have kp : _ := Y1.out.run.cell 1) | (go_at_call 75; refine (specWord_any _ _).mono ?_; rintro e v2 ⟨rfl, rfl⟩) | (go_at_call 76; refine (HL.out _ (Y1.out.keep (by repeat (first | exact Below.refl _ _ | refine Below.drew ?_ | refine below_drewN ?_ _)))).mono ?_; rintro e v3 ⟨rfl, hR2, hS2, hI, qr, hI2⟩; obtain ⟨q0, q1, q2, q3, q4⟩ := ins_cells hI; have qa := hI2 i.r1 n1; have qb := hI2 i.r2 n2; have p1 : v3.cell? ⟨g, 1, none⟩ = some (.int .i64 m2.pc) := hR2.cell 1; have p2 := hR2.unfrozen 1; have R2 : Hid (Run D g v3 v m2) := hR2; have S2 : Hid (St D u v3) := hS2; clear hR2 hS2 hI hI2))
    all_goals
      go_wp2
      go_ret
      exact ⟨rfl, ⟨v, by first | exact R2.out.setPc _ | exact (R2.out.keep (by repeat (first | exact Below.refl _ _ | refine Below.drew ?_ | refine below_drewN ?_ _))).setPc _⟩, S2.out.trans (by first | exact St.set (R2.out.ne 0 rfl) | exact (R2.out.st (by repeat (first | exact Below.refl _ _ | refine Below.drew ?_ | refine below_drewN ?_ _))).trans (St.set (R2.out.ne 0 rfl)))⟩
  · rw [if_neg hf]
    have ef : (f != 0) = true := by simpa using hf
    clear hf
    go_enter Tryz.func57, Tryz.ntmps57
    go_wp2_with (go_at_call 70; refine Calls.mono HF.out ?_; rintro e u1 ⟨rfl, hy⟩; obtain ⟨z0, z1, z2, z3, z4⟩ := hy.ic; have zr := hy.rs; have za := hy.cells i.r1 n1; have zb := hy.cells i.r2 n2; have zp : u1.cell? ⟨g, 1, none⟩ = some (.int .i64 m.pc) := hy.run.cell 1; have Y : Hid (Rdy D g u.heap.size r c u u1 v m i) := hy; clear hy)
    go_region_held3 (fun w2 => w2.cell? ⟨u.heap.size, 0, none⟩ = some (.int .i64 i.op) ∧ w2.cell? ⟨u.heap.size, 2, none⟩ = some (.int .i64 i.r1) ∧ w2.cell? ⟨u.heap.size, 3, none⟩ = some (.int .i64 i.r2) ∧ w2.cell? ⟨u.heap.size, 4, none⟩ = some (.int .i64 i.im) ∧ w2.cell? ⟨g, 2, none⟩ = some (.slice (some ⟨r, 0, none⟩) 32 c) ∧ w2.cell? ⟨r, i.r1, none⟩ = some (.int .i64 (Pl.rv m i.r1)) ∧ w2.cell? ⟨r, i.r2, none⟩ = some (.int .i64 (Pl.rv m i.r2))) (go_keep) (first | (go_at_call 74; refine (HK.out _).mono ?_; rintro e v1 ⟨rfl, d1⟩; have Y1 : Hid (Rdy D g u.heap.size r c u v1 v m i) := Y.out.keep ((show Below u1.heap.size u1 _ from (by repeat (first | exact Below.refl _ _ | refine Below.drew ?_ | refine below_drewN ?_ _))).trans (d1.mono (Nat.le_refl _))); clear d1; obtain ⟨k0, k1, k2, k3, k4⟩ := Y1.out.ic; have kr := Y1.out.rs; have ka := Y1.out.cells i.r1 n1; have kb := Y1.out.cells i.r2 n2; have kp : _ := Y1.out.run.cell 1) | (go_at_call 75; refine (specWord_any _ _).mono ?_; rintro e v2 ⟨rfl, rfl⟩) | (go_at_call 76; refine (HL.out _ (Y1.out.keep (by repeat (first | exact Below.refl _ _ | refine Below.drew ?_ | refine below_drewN ?_ _)))).mono ?_; rintro e v3 ⟨rfl, hR2, hS2, hI, qr, hI2⟩; obtain ⟨q0, q1, q2, q3, q4⟩ := ins_cells hI; have qa := hI2 i.r1 n1; have qb := hI2 i.r2 n2; have p1 : v3.cell? ⟨g, 1, none⟩ = some (.int .i64 m2.pc) := hR2.cell 1; have p2 := hR2.unfrozen 1; have R2 : Hid (Run D g v3 v m2) := hR2; have S2 : Hid (St D u v3) := hS2; clear hR2 hS2 hI hI2))
    all_goals
      go_wp2
      go_ret
      exact ⟨rfl, ⟨v, R2.out.keep (by repeat (first | exact Below.refl _ _ | refine Below.drew ?_ | refine below_drewN ?_ _))⟩, S2.out.trans (R2.out.st (by repeat (first | exact Below.refl _ _ | refine Below.drew ?_ | refine below_drewN ?_ _)))⟩
end Go.Proofs.YtjdfffdeljgenaaGreatDoor.W
namespace Go.Proofs.YtjdfffdeljgenaaGreatDoor.Pl
theorem flow_no {m : Mac} {i : Ins} (h : ¬ (flow m i).2.1 = true) : (i.op < 37 ∨ 42 < i.op) ∧ i.op ≠ 45 ∧ i.op ≠ 33 := by
  unfold flow at h
  by_cases h1 : 37 ≤ i.op ∧ i.op ≤ 42
  · rw [if_pos h1] at h; exact (h rfl).elim
  · rw [if_neg h1] at h
    by_cases h2 : i.op = 45
    · rw [if_pos h2] at h; exact (h rfl).elim
    · rw [if_neg h2] at h
      by_cases h3 : i.op = 33
      · rw [if_pos h3] at h; exact (h rfl).elim
      · exact ⟨by omega, h2, h3⟩
end Go.Proofs.YtjdfffdeljgenaaGreatDoor.Pl
namespace Go.Proofs.YtjdfffdeljgenaaGreatDoor.W
open Go.RowKit
theorem l3Do_run {D : Nat → Prop} {g : Nat} {u : World} {v : MV} {m : Pl.Mac} (h : Run D g u v m) (hv : Pl.Vd m) (i : Pl.Ins) (hi : Pl.InsOk i) : Calls Tryz.prog 57 #[.pointer (some ⟨g, 0, none⟩), .agg #[.int .i64 i.op, .int .i64 i.rd, .int .i64 i.r1, .int .i64 i.r2, .int .i64 i.im]] u fun e u' => e = .returned (.int .i64 (Pl.act m i).2) ∧ (∃ v', Run D g u' v' ((Pl.act m i).1)) ∧ St D u u' := by
  unfold Pl.act
  by_cases hf : (Pl.flow m i).2.1 = true
  · rw [if_pos hf]; exact do_flow h hv i hi hf
  rw [if_neg hf]
  have hn := Pl.flow_no hf
  by_cases h1 : i.op ≤ 18
  · rw [if_pos h1]; exact do_alu h hv i hi h1
  rw [if_neg h1]
  by_cases h2 : i.op ≤ 27
  · rw [if_pos h2]; exact do_ali h hv i hi (by omega) h2
  rw [if_neg h2]
  by_cases h3 : i.op ≤ 32
  · rw [if_pos h3]; exact do_load h hv i hi (by omega) h3
  rw [if_neg h3]
  by_cases h4 : i.op ≤ 36
  · rw [if_pos h4]; exact do_store h hv i hi (by omega) h4
  rw [if_neg h4]
  by_cases h5 : i.op = 43
  · rw [if_pos h5]; exact do_lui h hv i hi h5
  rw [if_neg h5]
  by_cases h6 : i.op = 44
  · rw [if_pos h6]; exact do_auipc h hv i hi h6
  rw [if_neg h6]
  by_cases h7 : i.op = 47
  · rw [if_pos h7]; exact do_break h hv i hi h7
  rw [if_neg h7]
  have h8 : i.op = 46 := by have := hi.op2; omega
  exact do_ecall h hv i hi h8
end Go.Proofs.YtjdfffdeljgenaaGreatDoor.W
namespace Go.Proofs.YtjdfffdeljgenaaGreatDoor.Pl
theorem form_lim : ∀ f : Nat, f < 9 → -1048576 ≤ lo f ∧ hi f ≤ 1048576 := by decide +kernel
theorem dec_ok {n : Int} (h : dec n ≠ 0) : 1 ≤ dec n ∧ dec n ≤ 47 ∧ okF (fmN (dec n)) (dRd n) (dR1 n) (dR2 n) (dIm n) = true := by
  cases hf : (List.range 48).find? fun k => decide (1 ≤ k) && hit k n with
  | none => exact absurd (by unfold dec; rw [hf]; rfl) h
  | some j =>
    have hp := List.find?_some hf
    have hm := List.mem_range.1 (List.mem_of_find?_eq_some hf)
    simp only [Bool.and_eq_true, decide_eq_true_eq] at hp
    have hd : dec n = j := dec_hit hp.1 (by omega) hp.2
    obtain ⟨g1, g2⟩ := (hit_iff j n).1 hp.2
    unfold dRd dR1 dR2 dIm
    rw [hd, if_neg (by omega), if_neg (by omega), if_neg (by omega), if_neg (by omega)]
    exact ⟨hp.1, by omega, g1⟩
def insOf (n : Int) : Ins := ⟨dec n, (dRd n).toNat, (dR1 n).toNat, (dR2 n).toNat, dIm n⟩
theorem dec_bds {n : Int} (h : dec n ≠ 0) : (1 ≤ dec n ∧ dec n ≤ 47) ∧ (0 ≤ dRd n ∧ dRd n ≤ 31) ∧ (0 ≤ dR1 n ∧ dR1 n ≤ 31) ∧ (0 ≤ dR2 n ∧ dR2 n ≤ 31) ∧ (-1048576 ≤ dIm n ∧ dIm n ≤ 1048576) := by
  obtain ⟨h1, h2, hk⟩ := dec_ok h
  have hf := fm_cases (dec n) (by omega) h1
  have hl := form_lim (fmN (dec n)) (by omega)
  generalize fmN (dec n) = f at *
  unfold okF rg imo at hk
  simp only [Bool.and_eq_true, decide_eq_true_eq] at hk
  obtain ⟨⟨⟨⟨a1, a2, _⟩, ⟨b1, b2, _⟩⟩, ⟨c1, c2, _⟩⟩, ⟨d1, d2⟩, _⟩ := hk
  exact ⟨⟨h1, h2⟩, ⟨a1, a2⟩, ⟨b1, b2⟩, ⟨c1, c2⟩, by omega, by omega⟩
theorem insOf_ok {n : Int} (h : dec n ≠ 0) : InsOk (insOf n) := by
  obtain ⟨a, b, c, d, e⟩ := dec_bds h
  refine ⟨?_, ?_, ?_, ?_, ?_, ?_⟩
  · show (1 : Int) ≤ (dec n : Int); omega
  · show (dec n : Int) ≤ 47; omega
  · show (dRd n).toNat ≤ 31; omega
  · show (dR1 n).toNat ≤ 31; omega
  · show (dR2 n).toNat ≤ 31; omega
  · show -2147483648 ≤ dIm n ∧ dIm n ≤ 2147483648; omega
theorem insOf_cells {n : Int} (h : dec n ≠ 0) : decV n = #[.int .i64 (insOf n).op, .int .i64 (insOf n).rd, .int .i64 (insOf n).r1, .int .i64 (insOf n).r2, .int .i64 (insOf n).im] := by
  obtain ⟨a, b, c, d, e⟩ := dec_bds h
  have e1 : ((insOf n).rd : Int) = dRd n := by show ((dRd n).toNat : Int) = _; omega
  have e2 : ((insOf n).r1 : Int) = dR1 n := by show ((dR1 n).toNat : Int) = _; omega
  have e3 : ((insOf n).r2 : Int) = dR2 n := by show ((dR2 n).toNat : Int) = _; omega
  rw [e1, e2, e3]
  rfl
def word (m : Mac) : Int := m.code.getD (place m.code.length m.pc).toNat 0
def step (m : Mac) : Mac :=
  if place m.code.length m.pc = -1 then { m with steps := m.steps + 1, fin := 2, val := 1 }
  else if dec (word m) = 0 then { m with steps := m.steps + 1, fin := 2, val := 2 }
  else if (act { m with steps := m.steps + 1 } (insOf (word m))).2 = 0 then (act { m with steps := m.steps + 1 } (insOf (word m))).1
  else { (act { m with steps := m.steps + 1 } (insOf (word m))).1 with fin := 2, val := (act { m with steps := m.steps + 1 } (insOf (word m))).2 }
theorem place_cases (len : Nat) (a : Int) : place len a = -1 ∨ ∃ k : Nat, place len a = k ∧ k < len := by
  unfold place
  split
  · exact .inr ⟨((a - 65536) / 4).toNat, by omega, by omega⟩
  · exact .inl rfl
end Go.Proofs.YtjdfffdeljgenaaGreatDoor.Pl
namespace Go.Proofs.YtjdfffdeljgenaaGreatDoor.W
open Go.RowKit
def CRow (u : World) (b : Nat) (ns : List Int) : Prop := ∀ i, i < ns.length → ∀ j, j < 5 → u.cell? ⟨b, i * 5 + j, none⟩ = (Pl.decV (ns.getD i 0))[j]?
theorem CRow.keep {u u' : World} {b : Nat} {ns : List Int} (h : CRow u b ns) (hb : u'.heap[b]? = u.heap[b]?) : CRow u' b ns := fun i hi j hj => by
  rw [World.cell?_of_block (a := ⟨b, i * 5 + j, none⟩) hb]
  exact h i hi j hj
set_option maxRecDepth 8000 in
set_option maxHeartbeats 4000000 in
theorem l3Step_run {D : Nat → Prop} {g b cap : Nat} {u : World} {v : MV} {m : Pl.Mac} (h : Run D g u v m) (hv : Pl.Vd m) (hs : m.steps < 1000000) (hb : D b) (hC0 : CRow u b m.code) (hcap : m.code.length ≤ cap) :
    Calls Tryz.prog 28 #[.pointer (some ⟨g, 0, none⟩), .slice (some ⟨b, 0, none⟩) m.code.length cap] u fun e u' => e = .returned (.tuple #[]) ∧ (∃ v', Run D g u' v' (Pl.step m)) ∧ St D u u' := by
  have hC : Hid (CRow u b m.code) := hC0
  clear hC0
  have hst := hv.steps
  have hw : IntKind.i64.wrap (m.steps + 1) = m.steps + 1 := by rw [IntKind.wrap_i64]; omega
  have c7 : u.cell? ⟨g, 7, none⟩ = some (.int .i64 m.steps) := h.cell 7
  have z7 := h.unfrozen 7
  have hcl : m.code.length = v.code.len := h.code.1
  have hl := hv.code
  have hp := hv.pc
  have HP : Hid (∀ w, Calls Tryz.prog 56 #[.slice v.code.a v.code.len v.code.cap, .int .i64 m.pc] w fun e w' => e = .returned (.int .i64 (Pl.place m.code.length m.pc)) ∧ w' = w) := fun w => by rw [hcl]; exact specPlace_any _ _ _ _ (by omega) (by omega) w
  unfold Pl.step
  rcases Pl.place_cases m.code.length m.pc with hq | ⟨k, hq, hk⟩
  · rw [if_pos hq]
    rw [hq] at HP
    clear hq
    go_enter Tryz.func28, Tryz.ntmps28
    go_wp2_with fail
    obtain ⟨U, hU⟩ : ∃ U, U = u.setCell ⟨g, 7, none⟩ (.int .i64 (m.steps + 1)) := ⟨_, rfl⟩
    rw [← hU]
    have hR1 : Run D g U v { m with steps := m.steps + 1 } := by rw [hU]; exact h.setSteps _
    have S1 : Hid (St D u U) := by rw [hU]; exact St.set (h.ne 0 rfl)
    clear hU
    have c0 : U.cell? ⟨g, 0, none⟩ = some (.slice v.code.a v.code.len v.code.cap) := hR1.cell 0
    have c1 : U.cell? ⟨g, 1, none⟩ = some (.int .i64 m.pc) := hR1.cell 1
    have c8 : U.cell? ⟨g, 8, none⟩ = some (.int .i64 m.fin) := hR1.cell 8
    have c9 : U.cell? ⟨g, 9, none⟩ = some (.int .i64 m.val) := hR1.cell 9
    have z8 := hR1.unfrozen 8
    have z9 := hR1.unfrozen 9
    have R1 : Hid (Run D g U v { m with steps := m.steps + 1 }) := hR1
    have CU : Hid (CRow U b m.code) := hC.out.keep (S1.out.keep b hb)
    clear hR1
    go_quiet ((go_at_call 56; exact Calls.quiet_of_same (HP.out _)))
    go_wp2
    go_end0
    exact ⟨rfl, ⟨v, ((R1.out.keep (below_drewN (Below.refl _ _) _)).setFin 2).setVal 1⟩, S1.out.trans (((R1.out.st (below_drewN (Below.refl _ _) _)).trans (St.set (R1.out.ne 0 rfl))).trans (St.set (R1.out.ne 0 rfl)))⟩
  have hw2 : Pl.word m = m.code.getD k 0 := by unfold Pl.word; rw [hq]; rfl
  rw [if_neg (by omega), hw2]
  rw [hq] at HP
  have ik : (k : Int) < (m.code.length : Int) := by omega
  have ig : ¬ (k : Int) < 0 := by omega
  have hcc := fun (U : World) (hU : CRow U b m.code) => hU k hk
  have HCC : Hid (∀ U, CRow U b m.code → ∀ j, j < 5 → U.cell? ⟨b, k * 5 + j, none⟩ = (Pl.decV (m.code.getD k 0))[j]?) := hcc
  clear hcc hw2 hq
  generalize m.code.getD k 0 = n at *
  by_cases hd : Pl.dec n = 0
  · rw [if_pos hd]
    go_enter Tryz.func28, Tryz.ntmps28
    go_wp2_with fail
    obtain ⟨U, hU⟩ : ∃ U, U = u.setCell ⟨g, 7, none⟩ (.int .i64 (m.steps + 1)) := ⟨_, rfl⟩
    rw [← hU]
    have hR1 : Run D g U v { m with steps := m.steps + 1 } := by rw [hU]; exact h.setSteps _
    have S1 : Hid (St D u U) := by rw [hU]; exact St.set (h.ne 0 rfl)
    clear hU
    have c0 : U.cell? ⟨g, 0, none⟩ = some (.slice v.code.a v.code.len v.code.cap) := hR1.cell 0
    have c1 : U.cell? ⟨g, 1, none⟩ = some (.int .i64 m.pc) := hR1.cell 1
    have c8 : U.cell? ⟨g, 8, none⟩ = some (.int .i64 m.fin) := hR1.cell 8
    have c9 : U.cell? ⟨g, 9, none⟩ = some (.int .i64 m.val) := hR1.cell 9
    have z8 := hR1.unfrozen 8
    have z9 := hR1.unfrozen 9
    have R1 : Hid (Run D g U v { m with steps := m.steps + 1 }) := hR1
    have CU : Hid (CRow U b m.code) := hC.out.keep (S1.out.keep b hb)
    clear hR1
    have x0 : U.cell? ⟨b, k * 5, none⟩ = some (.int .i64 0) := by
      have := HCC.out U CU.out 0 (by decide)
      rw [Pl.decV_none hd] at this
      exact this
    go_quiet ((go_at_call 56; exact Calls.quiet_of_same (HP.out _)))
    go_wp2
    go_end0
    exact ⟨rfl, ⟨v, ((R1.out.keep (below_drewN (Below.refl _ _) _)).setFin 2).setVal 2⟩, S1.out.trans (((R1.out.st (below_drewN (Below.refl _ _) _)).trans (St.set (R1.out.ne 0 rfl))).trans (St.set (R1.out.ne 0 rfl)))⟩
  rw [if_neg hd]
  have hi := Pl.insOf_ok hd
  have hV := Pl.insOf_cells hd
  rw [hV] at HCC
  clear hV hd
  generalize Pl.insOf n = i at *
  have hop := hi.op1
  have hv1 : Pl.Vd { m with steps := m.steps + 1 } := ⟨hv.code, hv.data, hv.stk, hv.pc, hv.regs, hv.word, hv.inp, hv.out, show 0 ≤ m.steps + 1 ∧ m.steps + 1 ≤ 1000000 by omega⟩
  have HD : Hid (∀ U, Run D g U v { m with steps := m.steps + 1 } → Calls Tryz.prog 57 #[.pointer (some ⟨g, 0, none⟩), .agg #[.int .i64 i.op, .int .i64 i.rd, .int .i64 i.r1, .int .i64 i.r2, .int .i64 i.im]] U fun e u' => e = .returned (.int .i64 (Pl.act { m with steps := m.steps + 1 } i).2) ∧ (∃ v', Run D g u' v' (Pl.act { m with steps := m.steps + 1 } i).1) ∧ St D U u') := fun U hU => l3Do_run hU hv1 i hi
  generalize Pl.act { m with steps := m.steps + 1 } i = E at *
  obtain ⟨m2, f⟩ := E
  dsimp only at HD ⊢
  clear hi hv1
  by_cases hf : f = 0
  · subst hf
    rw [if_pos rfl]
    go_enter Tryz.func28, Tryz.ntmps28
    go_wp2_with fail
    obtain ⟨U, hU⟩ : ∃ U, U = u.setCell ⟨g, 7, none⟩ (.int .i64 (m.steps + 1)) := ⟨_, rfl⟩
    rw [← hU]
    have hR1 : Run D g U v { m with steps := m.steps + 1 } := by rw [hU]; exact h.setSteps _
    have S1 : Hid (St D u U) := by rw [hU]; exact St.set (h.ne 0 rfl)
    clear hU
    have c0 : U.cell? ⟨g, 0, none⟩ = some (.slice v.code.a v.code.len v.code.cap) := hR1.cell 0
    have c1 : U.cell? ⟨g, 1, none⟩ = some (.int .i64 m.pc) := hR1.cell 1
    have c8 : U.cell? ⟨g, 8, none⟩ = some (.int .i64 m.fin) := hR1.cell 8
    have c9 : U.cell? ⟨g, 9, none⟩ = some (.int .i64 m.val) := hR1.cell 9
    have z8 := hR1.unfrozen 8
    have z9 := hR1.unfrozen 9
    have R1 : Hid (Run D g U v { m with steps := m.steps + 1 }) := hR1
    have CU : Hid (CRow U b m.code) := hC.out.keep (S1.out.keep b hb)
    clear hR1
    have x0 : U.cell? ⟨b, k * 5, none⟩ = some (.int .i64 i.op) := HCC.out U CU.out 0 (by decide)
    have x1 : U.cell? ⟨b, k * 5 + 1, none⟩ = some (.int .i64 i.rd) := HCC.out U CU.out 1 (by decide)
    have x2 : U.cell? ⟨b, k * 5 + 2, none⟩ = some (.int .i64 i.r1) := HCC.out U CU.out 2 (by decide)
    have x3 : U.cell? ⟨b, k * 5 + 3, none⟩ = some (.int .i64 i.r2) := HCC.out U CU.out 3 (by decide)
    have x4 : U.cell? ⟨b, k * 5 + 4, none⟩ = some (.int .i64 i.im) := HCC.out U CU.out 4 (by decide)
    go_quiet ((go_at_call 56; exact Calls.quiet_of_same (HP.out _)))
    go_wp2_with (go_at_call 57; refine Calls.mono (HD.out _ (R1.out.keep (by repeat (first | exact Below.refl _ _ | refine Below.drew ?_ | refine below_drewN ?_ _)))) ?_; rintro e u2 ⟨rfl, ⟨v2, hR2⟩, hS2⟩; have p8 : u2.cell? ⟨g, 8, none⟩ = some (.int .i64 m2.fin) := hR2.cell 8; have p9 : u2.cell? ⟨g, 9, none⟩ = some (.int .i64 m2.val) := hR2.cell 9; have y8 := hR2.unfrozen 8; have y9 := hR2.unfrozen 9; have R2 : Hid (Run D g u2 v2 m2) := hR2; have S2 : Hid (St D u u2) := (S1.out.trans (R1.out.st (by repeat (first | exact Below.refl _ _ | refine Below.drew ?_ | refine below_drewN ?_ _)))).trans hS2; clear hR2 hS2)
    go_end0
    exact ⟨rfl, ⟨v2, R2.out⟩, S2.out⟩
  · rw [if_neg hf]
    have ef : (f != 0) = true := by simpa using hf
    clear hf
    go_enter Tryz.func28, Tryz.ntmps28
    go_wp2_with fail
    obtain ⟨U, hU⟩ : ∃ U, U = u.setCell ⟨g, 7, none⟩ (.int .i64 (m.steps + 1)) := ⟨_, rfl⟩
    rw [← hU]
    have hR1 : Run D g U v { m with steps := m.steps + 1 } := by rw [hU]; exact h.setSteps _
    have S1 : Hid (St D u U) := by rw [hU]; exact St.set (h.ne 0 rfl)
    clear hU
    have c0 : U.cell? ⟨g, 0, none⟩ = some (.slice v.code.a v.code.len v.code.cap) := hR1.cell 0
    have c1 : U.cell? ⟨g, 1, none⟩ = some (.int .i64 m.pc) := hR1.cell 1
    have c8 : U.cell? ⟨g, 8, none⟩ = some (.int .i64 m.fin) := hR1.cell 8
    have c9 : U.cell? ⟨g, 9, none⟩ = some (.int .i64 m.val) := hR1.cell 9
    have z8 := hR1.unfrozen 8
    have z9 := hR1.unfrozen 9
    have R1 : Hid (Run D g U v { m with steps := m.steps + 1 }) := hR1
    have CU : Hid (CRow U b m.code) := hC.out.keep (S1.out.keep b hb)
    clear hR1
    have x0 : U.cell? ⟨b, k * 5, none⟩ = some (.int .i64 i.op) := HCC.out U CU.out 0 (by decide)
    have x1 : U.cell? ⟨b, k * 5 + 1, none⟩ = some (.int .i64 i.rd) := HCC.out U CU.out 1 (by decide)
    have x2 : U.cell? ⟨b, k * 5 + 2, none⟩ = some (.int .i64 i.r1) := HCC.out U CU.out 2 (by decide)
    have x3 : U.cell? ⟨b, k * 5 + 3, none⟩ = some (.int .i64 i.r2) := HCC.out U CU.out 3 (by decide)
    have x4 : U.cell? ⟨b, k * 5 + 4, none⟩ = some (.int .i64 i.im) := HCC.out U CU.out 4 (by decide)
    go_quiet ((go_at_call 56; exact Calls.quiet_of_same (HP.out _)))
    go_wp2_with (go_at_call 57; refine Calls.mono (HD.out _ (R1.out.keep (by repeat (first | exact Below.refl _ _ | refine Below.drew ?_ | refine below_drewN ?_ _)))) ?_; rintro e u2 ⟨rfl, ⟨v2, hR2⟩, hS2⟩; have p8 : u2.cell? ⟨g, 8, none⟩ = some (.int .i64 m2.fin) := hR2.cell 8; have p9 : u2.cell? ⟨g, 9, none⟩ = some (.int .i64 m2.val) := hR2.cell 9; have y8 := hR2.unfrozen 8; have y9 := hR2.unfrozen 9; have R2 : Hid (Run D g u2 v2 m2) := hR2; have S2 : Hid (St D u u2) := (S1.out.trans (R1.out.st (by repeat (first | exact Below.refl _ _ | refine Below.drew ?_ | refine below_drewN ?_ _)))).trans hS2; clear hR2 hS2)
    go_end0
    exact ⟨rfl, ⟨v2, (R2.out.setFin 2).setVal f⟩, (S2.out.trans (St.set (R2.out.ne 0 rfl))).trans (St.set (R2.out.ne 0 rfl))⟩
end Go.Proofs.YtjdfffdeljgenaaGreatDoor.W
namespace Go.Proofs.YtjdfffdeljgenaaGreatDoor.W
open Go.RowKit
theorem info_inst : (Tryz.prog.info? 74).map (fun i => (i.zero, i.size, i.bytes)) = some (some (.agg #[.int .i64 0, .int .i64 0, .int .i64 0, .int .i64 0, .int .i64 0]), 5, 40) := by kernel_rfl
theorem own_keep' {B : Nat} {e : TypeId} {k : Nat} {v : Value} {n : Nat} {xs : List Value} {w w' : World} (h : w.ownsRow B e k v n xs) (hb : Below w.heap.size w w') : w'.ownsRow B e k v n xs := by
  refine ⟨h.1, ?_⟩
  rcases h.2 with ⟨a, b⟩ | ⟨g, cap, cur, h0, hlo, hg, r⟩
  · exact .inl ⟨a, b⟩
  · exact .inr ⟨g, cap, cur, h0, hlo, (hb.block g (Array.getElem?_eq_some_iff.1 hg).1).trans hg, r⟩
def dcs (ns : List Int) (k : Nat) : List Value := (ns.take k).flatMap fun n => (Pl.decV n).toList
theorem dcs_succ (ns : List Int) (k : Nat) (h : k < ns.length) : dcs ns (k + 1) = dcs ns k ++ (Pl.decV (ns.getD k 0)).toList := by
  unfold dcs
  rw [List.take_add_one, List.getElem?_eq_getElem h, List.flatMap_append]
  simp [List.getD, List.getElem?_eq_getElem h]
theorem dcs_len (ns : List Int) : ∀ k, k ≤ ns.length → (dcs ns k).length = k * 5
  | 0, _ => rfl
  | k + 1, h => by
    rw [dcs_succ ns k (by omega), List.length_append, dcs_len ns k (by omega)]
    show k * 5 + 5 = _
    omega
theorem dcs_at (ns : List Int) : ∀ k, k ≤ ns.length → ∀ i, i < k → ∀ j, j < 5 → (dcs ns k)[i * 5 + j]? = (Pl.decV (ns.getD i 0))[j]?
  | 0, _, i, hi, _, _ => absurd hi (Nat.not_lt_zero _)
  | k + 1, h, i, hi, j, hj => by
    rw [dcs_succ ns k (by omega)]
    by_cases e : i = k
    · subst e
      rw [List.getElem?_append_right (by rw [dcs_len ns i (by omega)]; omega), dcs_len ns i (by omega)]
      have : i * 5 + j - i * 5 = j := by omega
      rw [this, Array.getElem?_toList]
    · rw [List.getElem?_append_left (by rw [dcs_len ns k (by omega)]; omega)]
      exact dcs_at ns k (by omega) i (by omega) j hj
theorem ins_news (w : World) (N : Nat) (hN : N = w.heap.size) (A B C D E : Value) (j : Nat) (u : Value) (hj : [A, B, C, D, E][j]? = some u) : (w.alloc (.cells #[A, B, C, D, E] 74)).cell? ((⟨N, 0, none⟩ : Addr).add j) = some u := by
  subst hN
  have := cell_of_row (w.alloc (.cells #[A, B, C, D, E] 74)) w.heap.size j _ 74 (0, 0) (heap_alloc_new w _)
  have e : (⟨w.heap.size, 0, none⟩ : Addr).add j = ⟨w.heap.size, j, none⟩ := by
    simp only [Addr.add, Nat.zero_add]
    split <;> simp_all
  rw [e, this]
  simpa using hj
set_option maxRecDepth 8000 in
set_option maxHeartbeats 4000000 in
theorem l3Decoded_any (a : Option Addr) (len cap : Nat) (ns : List Int) (w : World) (h : Row .i64 0 w a len cap ns) (hl : len ≤ 16384) :
    Calls Tryz.prog 27 #[.slice a len cap] w fun e w' => ∃ b c, e = .returned (.slice (some ⟨b, 0, none⟩) len c) ∧ w.heap.size ≤ b ∧ b < w'.heap.size ∧ len ≤ c ∧ CRow w' b ns ∧ Below w.heap.size w w' := by
  obtain ⟨i0, hi0, hz0, hz1, hz2⟩ := info_parts info_inst
  have HR : Hid (Row .i64 0 w a len cap ns) := h
  have hn : ns.length = len := h.1
  clear h
  have hl' : (len : Int) ≤ 16384 := by omega
  go_enter Tryz.func27, Tryz.ntmps27
  go_wp2_with fail
  go_loopw [3, 4] (fun v i wr => ∃ k : Nat, k ≤ len ∧ i = .int .i64 k ∧ (∃ g c, v = .slice (some ⟨g, 0, none⟩) k c ∧ g < wr.heap.size) ∧ wr.ownsRow w.heap.size 74 5 v k (dcs ns k) ∧ Below w.heap.size w wr) (fun _ i _ => len - (intOf i).toNat)
  case atStart => exact ⟨0, Nat.zero_le _, rfl, ⟨_, _, rfl, by simp⟩, World.ownsRow_lit w #[] 0 (base := w.heap.size) (e := 74) (size := 5) (Nat.le_refl _) (Nat.zero_le _) rfl, (Below.refl _ _).alloc (Nat.le_refl _) _⟩
  case round =>
    obtain ⟨k, hk, rfl, ⟨g, c, rfl, hg⟩, hown, hbel⟩ := hrel
    have HO : Hid (wr.ownsRow w.heap.size 74 5 (.slice (some ⟨g, 0, none⟩) k c) k (dcs ns k)) := hown
    have HB : Hid (Below w.heap.size w wr) := hbel
    clear hown hbel
    by_cases hlt : k < len
    · have hi : (k : Int) < (len : Int) := by omega
      obtain ⟨b, off, rfl, hc⟩ : ∃ b off, a = some ⟨b, off, none⟩ ∧ wr.cell? ⟨b, off + k, none⟩ = some (.int .i64 (ns.getD k 0)) := by
        obtain ⟨_, _, _, _, h5⟩ := HR.out.keep HB.out
        rcases h5 with h5 | ⟨b, off, ha, _, _, hc⟩
        · omega
        · refine ⟨b, off, ha, ?_⟩
          have := hc k hlt
          simpa using this
      obtain ⟨n, hN⟩ : ∃ n, n = ns.getD k 0 := ⟨_, rfl⟩
      rw [← hN] at hc
      have HN : Hid (n = ns.getD k 0) := hN
      clear hN
      obtain ⟨A, B, C, D, E, hV⟩ : ∃ A B C D E : Int, Pl.decV n = #[.int .i64 A, .int .i64 B, .int .i64 C, .int .i64 D, .int .i64 E] := ⟨_, _, _, _, _, rfl⟩
      have HV : Hid (Pl.decV n = #[.int .i64 A, .int .i64 B, .int .i64 C, .int .i64 D, .int .i64 E]) := hV
      have HD : Hid (∀ w, Calls Tryz.prog 55 #[.int .i64 n] w fun e w' => e = .returned (.tuple #[.agg #[.int .i64 A, .int .i64 B, .int .i64 C, .int .i64 D, .int .i64 E], .bool (Pl.dec n != 0)]) ∧ Below w.heap.size w w') := fun w => by rw [← hV]; exact specDec_any n w
      clear hV
      generalize (Pl.dec n != 0) = ok at *
      go_wp2_with (first | (go_at_call 55; refine (HD.out _).mono ?_; rintro e u1 ⟨rfl, d1⟩) | (at_builtin; refine wpList_append_own _ rfl (.tmp 22) (.tmp 24) 46 rfl w.heap.size 74 i0 (.agg #[.int .i64 0, .int .i64 0, .int .i64 0, .int .i64 0, .int .i64 0]) 5 40 Tryz.underlying46 hi0 hz0 hz1 hz2 rfl (by decide) _ _ _ rfl (own_keep' HO.out (((show Below wr.heap.size wr u1 from d1).alloc d1.size _).alloc (by have := d1.size; simp; omega) _)) ⟨u1.heap.size + 1, 0, none⟩ 1 _ [.int .i64 A, .int .i64 B, .int .i64 C, .int .i64 D, .int .i64 E] rfl rfl (ins_news _ _ (by simp) _ _ _ _ _) (by intro u hu; simp at hu; rcases hu with rfl | rfl | rfl | rfl | rfl <;> rfl) (by unfold maxLen; omega) (by omega) (by have := d1.size; have := HB.out.size; simp; omega) ?_; intro v' u3 hown' hgr _))
      have D2 : Below wr.heap.size wr ((u1.alloc (.cells #[.int .i64 A, .int .i64 B, .int .i64 C, .int .i64 D, .int .i64 E] 74)).alloc (.cells #[.int .i64 A, .int .i64 B, .int .i64 C, .int .i64 D, .int .i64 E] 74)) := (d1.alloc d1.size _).alloc (by have := d1.size; simp; omega) _
      obtain ⟨g', c', hv', _, hlt'⟩ := hown'.form (by omega)
      refine ⟨⟨k + 1, by omega, by go_num, ⟨g', c', hv', hlt'⟩, ?_, ?_⟩, by simp [intOf]; omega⟩
      · rw [dcs_succ ns k (by omega), ← HN.out, HV.out]
        exact hown'
      · exact (HB.out.trans (D2.mono HB.out.size)).grown hgr (Nat.le_trans HB.out.size D2.size) (fun j hj => ((own_keep' HO.out D2).lt j hj).1)
    · have hi : ¬ (k : Int) < (len : Int) := by omega
      obtain rfl : len = k := by omega
      go_wp2
      go_ret
      exact ⟨g, c, rfl, (HO.out.lt g rfl).1, hg, by rcases HO.out.2 with ⟨h0, _⟩ | ⟨_, _, _, h0, _, _, h1, _⟩; cases h0; cases h0; exact h1, fun i hi j hj => by rw [HO.out.cellAt (i * 5 + j) (by omega)]; exact dcs_at ns len (by omega) i (by omega) j hj, HB.out⟩
end Go.Proofs.YtjdfffdeljgenaaGreatDoor.W
namespace Go.Proofs.YtjdfffdeljgenaaGreatDoor.Pl
theorem Vd.regSet {m : Mac} (hv : Vd m) (n : Nat) (y : Int) (hy : 0 ≤ y ∧ y ≤ 4294967295) : Vd { m with regs := m.regs.set n y } := by
  refine ⟨hv.code, hv.data, hv.stk, hv.pc, ?_, fun k hk => ?_, hv.inp, hv.out, hv.steps⟩
  · show (m.regs.set n y).length = 32
    rw [List.length_set]; exact hv.regs
  · show 0 ≤ (m.regs.set n y).getD k 0 ∧ (m.regs.set n y).getD k 0 ≤ 4294967295
    have h0 := hv.word k hk
    have hl := hv.regs
    rw [List.getD_eq_getElem?_getD] at h0 ⊢
    rw [List.getElem?_set]
    by_cases e : n = k
    · rw [if_pos e, if_pos (by omega)]; exact hy
    · rw [if_neg e]; exact h0
theorem Vd.setR {m : Mac} (hv : Vd m) (n : Nat) (x : Int) : Vd (setR m n x) := by
  unfold Pl.setR
  split
  · exact hv
  · exact hv.regSet n _ (wd_bdd x)
theorem Vd.setPc {m : Mac} (hv : Vd m) (y : Int) (hy : 0 ≤ y ∧ y ≤ 4294967295) : Vd { m with pc := y } := ⟨hv.code, hv.data, hv.stk, hy, hv.regs, hv.word, hv.inp, hv.out, hv.steps⟩
theorem Vd.setEnd {m : Mac} (hv : Vd m) (x y : Int) : Vd { m with fin := x, val := y } := ⟨hv.code, hv.data, hv.stk, hv.pc, hv.regs, hv.word, hv.inp, hv.out, hv.steps⟩
theorem Vd.setSteps {m : Mac} (hv : Vd m) (y : Int) (hy : 0 ≤ y ∧ y ≤ 1000000) : Vd { m with steps := y } := ⟨hv.code, hv.data, hv.stk, hv.pc, hv.regs, hv.word, hv.inp, hv.out, hy⟩
theorem Vd.stv {m : Mac} (hv : Vd m) (k a x : Int) : Vd (stv m k a x).1 := by
  by_cases h1 : (a.tmod (ks k) != 0) = true
  · unfold Pl.stv; rw [if_pos h1]; exact hv
  · by_cases h2 : inD m a (ks k).toNat
    · unfold Pl.stv; rw [if_neg h1, if_pos h2]
      exact ⟨hv.code, by show (stk_ _ _ _ _).length ≤ _; rw [stk_length]; exact hv.data, hv.stk, hv.pc, hv.regs, hv.word, hv.inp, hv.out, hv.steps⟩
    · by_cases h3 : inS m a (ks k).toNat
      · unfold Pl.stv; rw [if_neg h1, if_neg h2, if_pos h3]
        exact ⟨hv.code, hv.data, by show (stk_ _ _ _ _).length ≤ _; rw [stk_length]; exact hv.stk, hv.pc, hv.regs, hv.word, hv.inp, hv.out, hv.steps⟩
      · unfold Pl.stv; rw [if_neg h1, if_neg h2, if_neg h3]; exact hv
theorem Vd.ecall {m : Mac} (hv : Vd m) (hb : ∀ n ∈ m.inp, 0 ≤ n ∧ n ≤ 255) : Vd (ecall m).1 := by
  unfold Pl.ecall
  by_cases h1 : rv m 17 = 1
  · rw [if_pos h1]
    by_cases h2 : 10000 ≤ m.out.length
    · rw [if_pos h2]; exact hv
    · rw [if_neg h2]
      exact ⟨hv.code, hv.data, hv.stk, hv.pc, hv.regs, hv.word, hv.inp, by show (m.out ++ [_]).length ≤ _; rw [List.length_append]; simp; omega, hv.steps⟩
  rw [if_neg h1]
  by_cases h2 : rv m 17 = 2
  · rw [if_pos h2]
    split
    · exact hv.regSet 10 4294967295 (by omega)
    · rename_i b r hi
      have hbb := hb b (by rw [hi]; exact List.mem_cons_self ..)
      have h0 := hv.regSet 10 b (by omega)
      exact ⟨h0.code, h0.data, h0.stk, h0.pc, h0.regs, h0.word, by have := hv.inp; rw [hi] at this; show r.length ≤ 10000; simp at this; omega, h0.out, h0.steps⟩
  rw [if_neg h2]
  by_cases h3 : rv m 17 = 3
  · rw [if_pos h3]; exact hv.setEnd _ _
  rw [if_neg h3]
  by_cases h4 : rv m 17 = 4
  · rw [if_pos h4]; exact hv.setEnd _ _
  rw [if_neg h4]; exact hv
theorem Vd.flow {m : Mac} (hv : Vd m) (i : Ins) : Vd (flow m i).2.2 ∧ 0 ≤ (flow m i).1 ∧ (flow m i).1 ≤ 4294967295 := by
  unfold Pl.flow
  by_cases h1 : 37 ≤ i.op ∧ i.op ≤ 42
  · rw [if_pos h1]
    refine ⟨hv, ?_⟩
    show 0 ≤ (if _ then _ else _ : Int) ∧ (if _ then _ else _ : Int) ≤ _
    split
    · exact wd_bdd _
    · exact wd_bdd _
  rw [if_neg h1]
  by_cases h2 : i.op = 45
  · rw [if_pos h2]; exact ⟨hv.setR _ _, wd_bdd _⟩
  rw [if_neg h2]
  by_cases h3 : i.op = 33
  · rw [if_pos h3]
    refine ⟨hv.setR _ _, ?_⟩
    have := wd_bdd (rv m i.r1 + i.im)
    dsimp only
    generalize wd (rv m i.r1 + i.im) = y at this
    omega
  rw [if_neg h3]
  exact ⟨hv, wd_bdd _⟩
theorem Vd.act {m : Mac} (hv : Vd m) (hb : ∀ n ∈ m.inp, 0 ≤ n ∧ n ≤ 255) (i : Ins) : Vd (act m i).1 := by
  unfold Pl.act
  by_cases h0 : (Pl.flow m i).2.1 = true
  · rw [if_pos h0]; exact (hv.flow i).1.setPc _ (hv.flow i).2
  rw [if_neg h0]
  by_cases h1 : i.op ≤ 18
  · rw [if_pos h1]; exact (hv.setR _ _).setPc _ (wd_bdd _)
  rw [if_neg h1]
  by_cases h2 : i.op ≤ 27
  · rw [if_pos h2]; exact (hv.setR _ _).setPc _ (wd_bdd _)
  rw [if_neg h2]
  by_cases h3 : i.op ≤ 32
  · rw [if_pos h3]
    by_cases hf : (ldv m (lsk i.op) (wd (rv m i.r1 + i.im))).2 = 0
    · rw [if_pos hf]; exact (hv.setR _ _).setPc _ (wd_bdd _)
    · rw [if_neg hf]; exact hv
  rw [if_neg h3]
  by_cases h4 : i.op ≤ 36
  · rw [if_pos h4]
    by_cases hf : (Pl.stv m (lsk i.op) (wd (rv m i.r1 + i.im)) (rv m i.r2)).2 = 0
    · rw [if_pos hf]; exact (hv.stv _ _ _).setPc _ (wd_bdd _)
    · rw [if_neg hf]; exact hv.stv _ _ _
  rw [if_neg h4]
  by_cases h5 : i.op = 43
  · rw [if_pos h5]; exact (hv.setR _ _).setPc _ (wd_bdd _)
  rw [if_neg h5]
  by_cases h6 : i.op = 44
  · rw [if_pos h6]; exact (hv.setR _ _).setPc _ (wd_bdd _)
  rw [if_neg h6]
  by_cases h7 : i.op = 47
  · rw [if_pos h7]; exact hv
  rw [if_neg h7]
  by_cases hf : (Pl.ecall m).2 = 0 ∧ (Pl.ecall m).1.fin = 0
  · rw [if_pos hf]; exact (hv.ecall hb).setPc _ (wd_bdd _)
  · rw [if_neg hf]; exact hv.ecall hb
theorem Vd.step {m : Mac} (hv : Vd m) (hb : ∀ n ∈ m.inp, 0 ≤ n ∧ n ≤ 255) (hs : m.steps < 1000000) : Vd (Pl.step m) := by
  have h0 := hv.steps
  have h1 := hv.setSteps (m.steps + 1) (by omega)
  unfold Pl.step
  split
  · exact h1.setEnd 2 1
  split
  · exact h1.setEnd 2 2
  have h2 := h1.act hb (insOf (Pl.word m))
  split
  · exact h2
  · exact h2.setEnd 2 _
theorem setR_same (m : Mac) (n : Nat) (x : Int) : (setR m n x).code = m.code ∧ (setR m n x).steps = m.steps := by unfold setR; split <;> exact ⟨rfl, rfl⟩
theorem stv_same (m : Mac) (k a x : Int) : (Pl.stv m k a x).1.code = m.code ∧ (Pl.stv m k a x).1.steps = m.steps := by
  by_cases h1 : (a.tmod (ks k) != 0) = true
  · unfold Pl.stv; rw [if_pos h1]; exact ⟨rfl, rfl⟩
  · by_cases h2 : inD m a (ks k).toNat
    · unfold Pl.stv; rw [if_neg h1, if_pos h2]; exact ⟨rfl, rfl⟩
    · by_cases h3 : inS m a (ks k).toNat
      · unfold Pl.stv; rw [if_neg h1, if_neg h2, if_pos h3]; exact ⟨rfl, rfl⟩
      · unfold Pl.stv; rw [if_neg h1, if_neg h2, if_neg h3]; exact ⟨rfl, rfl⟩
theorem ecall_same (m : Mac) : (Pl.ecall m).1.code = m.code ∧ (Pl.ecall m).1.steps = m.steps := by
  unfold Pl.ecall
  split
  · split <;> exact ⟨rfl, rfl⟩
  · split
    · split <;> exact ⟨rfl, rfl⟩
    · split
      · exact ⟨rfl, rfl⟩
      · split <;> exact ⟨rfl, rfl⟩
theorem flow_same (m : Mac) (i : Ins) : (Pl.flow m i).2.2.code = m.code ∧ (Pl.flow m i).2.2.steps = m.steps := by
  unfold Pl.flow
  split
  · exact ⟨rfl, rfl⟩
  · split
    · exact setR_same _ _ _
    · split
      · exact setR_same _ _ _
      · exact ⟨rfl, rfl⟩
theorem act_same (m : Mac) (i : Ins) : (Pl.act m i).1.code = m.code ∧ (Pl.act m i).1.steps = m.steps := by
  unfold Pl.act
  split
  · exact flow_same m i
  split
  · exact setR_same _ _ _
  split
  · exact setR_same _ _ _
  split
  · split
    · exact setR_same _ _ _
    · exact ⟨rfl, rfl⟩
  split
  · split
    · exact stv_same _ _ _ _
    · exact stv_same _ _ _ _
  split
  · exact setR_same _ _ _
  split
  · exact setR_same _ _ _
  split
  · exact ⟨rfl, rfl⟩
  split
  · exact ecall_same m
  · exact ecall_same m
theorem step_same (m : Mac) : (step m).code = m.code ∧ (step m).steps = m.steps + 1 := by
  unfold Pl.step
  split
  · exact ⟨rfl, rfl⟩
  split
  · exact ⟨rfl, rfl⟩
  have := act_same { m with steps := m.steps + 1 } (insOf (word m))
  split
  · exact this
  · exact this
def run : Nat → Mac → Mac
  | 0, m => m
  | n + 1, m => if m.fin = 0 ∧ m.steps < 1000000 then run n (step m) else m
end Go.Proofs.YtjdfffdeljgenaaGreatDoor.Pl
