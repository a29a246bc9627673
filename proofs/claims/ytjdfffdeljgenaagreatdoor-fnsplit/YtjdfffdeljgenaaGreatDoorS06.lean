import Derived.Test.YtjdfffdeljgenaaGreatDoorS02
import Derived.Test.YtjdfffdeljgenaaGreatDoorS12
set_option linter.unusedVariables false
set_option linter.unusedSimpArgs false
namespace Go.Proofs.YtjdfffdeljgenaaGreatDoor.W
open Go.RowKit
theorem Run.unfrozen {D : Nat → Prop} {g : Nat} {u : World} {v : MV} {m : Pl.Mac} (h : Run D g u v m) (j : Nat) : u.frozen? ⟨g, j, none⟩ = false := by
  simp [World.frozen?, h.box]
theorem byte_wf1 (x : Int) : (Lit.int .u8 (x % 256)).wf = true := by
  have h1 : 0 ≤ x % 256 := by omega
  have h2 : x % 256 ≤ 255 := by omega
  generalize x % 256 = y at h1 h2
  simp [Lit.wf, IntKind.min, IntKind.max, IntKind.signed, IntKind.bits]
  omega
theorem word_wf {x : Int} (h : 0 ≤ x ∧ x ≤ 4294967295) : (Lit.int .i64 x).wf = true := by
  simp [Lit.wf, IntKind.min, IntKind.max, IntKind.signed, IntKind.bits]
  omega
theorem l3Ecall_run {D : Nat → Prop} {g : Nat} {u : World} {v : MV} {m : Pl.Mac} (h : Run D g u v m) (hv : Pl.Vd m) :
    Calls Tryz.prog 77 #[.pointer (some ⟨g, 0, none⟩)] u fun e u' => e = .returned (.int .i64 (Pl.ecall m).2) ∧ (∃ v', Run D g u' v' (Pl.ecall m).1) ∧ St D u u' := by
  obtain ⟨r, c, hr, hc, hf⟩ := h.regsAt hv.regs
  have cr : u.cell? ⟨g, 2, none⟩ = some (.slice (some ⟨r, 0, none⟩) 32 c) := by rw [h.cell 2, hr]; rfl
  have c17 : u.cell? ⟨r, 17, none⟩ = some (.int .i64 (Pl.rv m 17)) := hc 17 (by decide)
  have c10 : u.cell? ⟨r, 10, none⟩ = some (.int .i64 (Pl.rv m 10)) := hc 10 (by decide)
  have w10 := hv.word 10 (by decide)
  have hB2 : (blks g v)[2]? = some (some r) := by simp [blks, hr]
  have hgr : g ≠ r := (h.ap.ne 2 (by decide) (by decide) hB2).symm
  have ra : v.regs.a = some ⟨r, 0, none⟩ := by rw [hr]
  unfold Pl.ecall
  by_cases h1 : Pl.rv m 17 = 1
  · rw [if_pos h1]
    rw [h1] at c17
    have hol : m.out.length = v.out.len := h.out.row.1
    by_cases hfull : 10000 ≤ m.out.length
    · rw [if_pos hfull]
      exact (ec_full g r c v.out.a v.out.len v.out.cap (by omega) (by have := hv.out; omega) u cr c17 (h.cell 6)).mono fun e u' ⟨he, hu⟩ => by rw [hu]; exact ⟨he, ⟨v, h⟩, St.refl _ _⟩
    · rw [if_neg hfull]
      refine (ec_put g r c v.out.a v.out.len v.out.cap (Pl.rv m 10) m.out (by omega) w10 u cr c17 (h.cell 6) c10 (h.unfrozen 6) h.out.1 (fun y hy => h.ap.ne 6 (by decide) (by decide) (by rw [own_blk h.out] at hy; rw [← hy]; rfl))).mono fun e u' ⟨he, w1, G, cap, k, ho, hg, hG, hl, hu⟩ => ?_
      rw [own_blk h.out] at hg hG
      have ho' : Own .u8 5 0 w1 (some ⟨G, 0, none⟩) (v.out.len + 1) cap (m.out ++ [Pl.rv m 10 % 256]) := ⟨ho, fun n hn => by
        rcases List.mem_append.1 hn with hn | hn
        · exact h.out.2 n hn
        · simp at hn; rw [hn]; exact byte_wf1 _⟩
      obtain ⟨hR, hS⟩ := h.setOut hg hG hl ho'
      rw [hu]
      exact ⟨he, ⟨_, hR.keep (below_drewN (Below.refl _ _) k)⟩, hS.trans (hR.st (below_drewN (Below.refl _ _) k))⟩
  rw [if_neg h1]
  by_cases h2 : Pl.rv m 17 = 2
  · rw [if_pos h2]
    rw [h2] at c17
    cases hin : m.inp with
    | nil =>
      have hil : v.inp.len = 0 := by have := h.inp.1; rw [hin] at this; simpa using this.symm
      have ci : u.cell? ⟨g, 5, none⟩ = some (.slice v.inp.a 0 v.inp.cap) := by rw [h.cell 5, ← hil]; rfl
      refine (ec_none g r c v.inp.a v.inp.cap _ u cr c17 ci c10 (hf 10)).mono fun e u' ⟨he, hu⟩ => ?_
      have hR := h.setReg ra 10 4294967295 (by decide)
      rw [hin] at hR
      rw [hu]
      exact ⟨he, ⟨v, hR⟩, St.set (h.ne 2 hB2)⟩
    | cons x xs =>
      obtain ⟨i1, i2, i3, i4, i5⟩ := h.inp
      rw [hin] at i1 i4 i5
      have hil : v.inp.len = xs.length + 1 := by simpa using i1.symm
      rcases i5 with i5 | ⟨b, off, ia, _, hb, hcc⟩
      · omega
      have ci : u.cell? ⟨g, 5, none⟩ = some (.slice (some ⟨b, off, none⟩) v.inp.len v.inp.cap) := by rw [h.cell 5, ← ia]; rfl
      have cx : u.cell? ⟨b, off, none⟩ = some (.int .u8 x) := hcc 0 (by omega)
      have hx := Pl.u8_bd (i4 x (by simp))
      refine (ec_get g r c b off v.inp.len v.inp.cap x _ (by omega) i2 (by unfold maxLen at i3; omega) hx u cr c17 ci cx c10 (hf 10) (h.unfrozen 5) hgr).mono fun e u' ⟨he, k, p, hp1, hp2, hu⟩ => ?_
      have hR := (h.setReg ra 10 x (word_wf (by omega))).keep (below_drewN (Below.refl _ _) k)
      have hS : St D u ((u.setCell ⟨r, 10, none⟩ (.int .i64 x)).drewN k) := (St.set (h.ne 2 hB2)).trans ((h.setReg ra 10 x (word_wf (by omega))).st (below_drewN (Below.refl _ _) k))
      have hpb : p.map (·.block) = v.inp.a.map (·.block) := by rw [ia]; rcases hp2 with e | e <;> rw [e] <;> rfl
      have hrow : Row .u8 0 ((u.setCell ⟨r, 10, none⟩ (.int .i64 x)).drewN k) p (v.inp.len - 1) (v.inp.cap - 1) xs := by
        refine ⟨by omega, by omega, by unfold maxLen at i3 ⊢; omega, fun n hn => i4 n (by simp [hn]), ?_⟩
        by_cases hl1 : v.inp.len = 1
        · exact .inl (by omega)
        · refine .inr ⟨b, off + 1, hp1 hl1, Nat.zero_le _, by simpa using hb, fun i hi => ?_⟩
          have hq : b ≠ r := fun e => h.ap 2 5 (by decide) (by decide) (by decide) r hB2 (by simp [blks, ia, e])
          show (u.setCell ⟨r, 10, none⟩ (.int .i64 x)).cell? ⟨b, off + 1 + i, none⟩ = _
          rw [World.cell?_setCell_other _ _ _ _ (by intro e; injection e with e1 _; exact hq e1.symm)]
          have := hcc (i + 1) (by omega)
          rw [show off + 1 + i = off + (i + 1) by omega, this]
          simp
      have hR2 := hR.setInp p (v.inp.len - 1) (v.inp.cap - 1) xs hpb hrow
      rw [hu]
      exact ⟨he, ⟨_, hR2⟩, hS.trans (St.set (hR.ne 0 rfl))⟩
  rw [if_neg h2]
  by_cases h3 : Pl.rv m 17 = 3
  · rw [if_pos h3]
    rw [h3] at c17
    refine (ec_exit g r c (Pl.rv m 10) _ _ u cr c17 c10 (h.cell 8) (h.cell 9) (h.unfrozen 8) (h.unfrozen 9) hgr).mono fun e u' ⟨he, hu⟩ => ?_
    have hR := h.setFin 1
    rw [hu]
    exact ⟨he, ⟨v, hR.setVal (Pl.rv m 10)⟩, (St.set (h.ne 0 rfl)).trans (St.set (hR.ne 0 rfl))⟩
  rw [if_neg h3]
  by_cases h4 : Pl.rv m 17 = 4
  · rw [if_pos h4]
    rw [h4] at c17
    refine (ec_over g r c _ _ u cr c17 (h.cell 8) (h.cell 9) (h.unfrozen 8) (h.unfrozen 9)).mono fun e u' ⟨he, hu⟩ => ?_
    have hR := h.setFin 3
    rw [hu]
    exact ⟨he, ⟨v, hR.setVal 0⟩, (St.set (h.ne 0 rfl)).trans (St.set (hR.ne 0 rfl))⟩
  rw [if_neg h4]
  exact (ec_no g r c (Pl.rv m 17) (by simpa using h1) (by simpa using h2) (by simpa using h3) (by simpa using h4) u cr c17).mono fun e u' ⟨he, hu⟩ => by rw [hu]; exact ⟨he, ⟨v, h⟩, St.refl _ _⟩
end Go.Proofs.YtjdfffdeljgenaaGreatDoor.W
namespace Go.Proofs.YtjdfffdeljgenaaGreatDoor.Pl
def ali (op : Int) : Int := if op = 19 then 1 else if op = 20 then 4 else if op = 21 then 5 else if op = 22 then 6 else if op = 23 then 9 else if op = 24 then 10 else if op = 25 then 3 else if op = 26 then 7 else 8
def act (m : Mac) (i : Ins) : Mac × Int :=
  if (flow m i).2.1 = true then ({ (flow m i).2.2 with pc := (flow m i).1 }, 0)
  else if i.op ≤ 18 then ({ setR m i.rd (al i.op.toNat (wd (rv m i.r1)) (wd (rv m i.r2))) with pc := wd (m.pc + 4) }, 0)
  else if i.op ≤ 27 then ({ setR m i.rd (al (ali i.op).toNat (wd (rv m i.r1)) (wd i.im)) with pc := wd (m.pc + 4) }, 0)
  else if i.op ≤ 32 then (if (ldv m (lsk i.op) (wd (rv m i.r1 + i.im))).2 = 0 then ({ setR m i.rd (ldv m (lsk i.op) (wd (rv m i.r1 + i.im))).1 with pc := wd (m.pc + 4) }, 0) else (m, (ldv m (lsk i.op) (wd (rv m i.r1 + i.im))).2))
  else if i.op ≤ 36 then (if (stv m (lsk i.op) (wd (rv m i.r1 + i.im)) (rv m i.r2)).2 = 0 then ({ (stv m (lsk i.op) (wd (rv m i.r1 + i.im)) (rv m i.r2)).1 with pc := wd (m.pc + 4) }, 0) else ((stv m (lsk i.op) (wd (rv m i.r1 + i.im)) (rv m i.r2)).1, (stv m (lsk i.op) (wd (rv m i.r1 + i.im)) (rv m i.r2)).2))
  else if i.op = 43 then ({ setR m i.rd (i.im * 4096) with pc := wd (m.pc + 4) }, 0)
  else if i.op = 44 then ({ setR m i.rd (m.pc + i.im * 4096) with pc := wd (m.pc + 4) }, 0)
  else if i.op = 47 then (m, 5)
  else (if (ecall m).2 = 0 ∧ (ecall m).1.fin = 0 then ({ (ecall m).1 with pc := wd (m.pc + 4) }, 0) else ecall m)
end Go.Proofs.YtjdfffdeljgenaaGreatDoor.Pl
namespace Go.Proofs.YtjdfffdeljgenaaGreatDoor.W
open Go.RowKit
theorem Run.mono {D D' : Nat → Prop} {g : Nat} {u : World} {v : MV} {m : Pl.Mac} (h : Run D' g u v m) (hd : ∀ x, D x → D' x) : Run D g u v m := ⟨fun x hx => h.av x (hd x hx), h.box, h.code, h.regs, h.data, h.stk, h.inp, h.out, h.ap, h.lt, h.fz⟩
theorem St.mono {D D' : Nat → Prop} {u u' : World} (h : St D' u u') (hd : ∀ x, D x → D' x) : St D u u' := ⟨h.os, h.tape, h.output, h.size, fun x hx => h.keep x (hd x hx)⟩
theorem Run.beside {D : Nat → Prop} {g : Nat} {u : World} {v : MV} {m : Pl.Mac} (h : Run D g u v m) (o : Obj) : Run (fun x => D x ∨ x = u.heap.size) g (u.alloc o) v m := by
  have k := h.keep (below_alloc u o)
  refine ⟨fun x hx => ?_, k.box, k.code, k.regs, k.data, k.stk, k.inp, k.out, k.ap, k.lt, k.fz⟩
  rcases hx with hx | rfl
  · exact k.av x hx
  · exact ⟨by simp, fun i e => Nat.lt_irrefl _ (h.lt i _ e)⟩
theorem ins_cells {u : World} {q : Nat} {op rd r1 r2 im : Int} (h : u.heap[q]? = some (.cells #[.int .i64 op, .int .i64 rd, .int .i64 r1, .int .i64 r2, .int .i64 im] 74)) : u.cell? ⟨q, 0, none⟩ = some (.int .i64 op) ∧ u.cell? ⟨q, 1, none⟩ = some (.int .i64 rd) ∧ u.cell? ⟨q, 2, none⟩ = some (.int .i64 r1) ∧ u.cell? ⟨q, 3, none⟩ = some (.int .i64 r2) ∧ u.cell? ⟨q, 4, none⟩ = some (.int .i64 im) :=
  ⟨cell_of_row u q 0 _ 74 (0, 0) h, cell_of_row u q 1 _ 74 (0, 0) h, cell_of_row u q 2 _ 74 (0, 0) h, cell_of_row u q 3 _ 74 (0, 0) h, cell_of_row u q 4 _ 74 (0, 0) h⟩
set_option maxRecDepth 8000 in
set_option maxHeartbeats 4000000 in
theorem do_flow {D : Nat → Prop} {g : Nat} {u : World} {v : MV} {m : Pl.Mac} (h : Run D g u v m) (hv : Pl.Vd m) (i : Pl.Ins) (hi : Pl.InsOk i) (hf : (Pl.flow m i).2.1 = true) :
    Calls Tryz.prog 57 #[.pointer (some ⟨g, 0, none⟩), .agg #[.int .i64 i.op, .int .i64 i.rd, .int .i64 i.r1, .int .i64 i.r2, .int .i64 i.im]] u fun e u' => e = .returned (.int .i64 0) ∧ (∃ v', Run D g u' v' { (Pl.flow m i).2.2 with pc := (Pl.flow m i).1 }) ∧ St D u u' := by
  have HF : Hid (∀ U : World, Below u.heap.size u U → Calls Tryz.prog 70 #[.pointer (some ⟨g, 0, none⟩), .agg #[.int .i64 i.op, .int .i64 i.rd, .int .i64 i.r1, .int .i64 i.r2, .int .i64 i.im]] U fun e u' => e = .returned (.tuple #[.int .i64 (Pl.flow m i).1, .bool true]) ∧ Run D g u' v (Pl.flow m i).2.2 ∧ St D U u') := fun U hU => by
    have := l3Flow_run (h.keep hU) hv i hi
    rw [hf] at this
    exact this
  have HS : Hid (∀ U : World, Below u.heap.size u U → St D u U) := fun U hU => h.st hU
  generalize (Pl.flow m i).1 = nx at *
  generalize (Pl.flow m i).2.2 = m2 at *
  clear hf
  go_enter Tryz.func57, Tryz.ntmps57
  go_wp2_with (go_at_call 70; refine (HF.out _ (below_alloc u _)).mono ?_; rintro e u1 ⟨rfl, hR1, hS1⟩; have p1 : u1.cell? ⟨g, 1, none⟩ = some (.int .i64 m2.pc) := hR1.cell 1; have p2 := hR1.unfrozen 1; have R1 : Hid (Run D g u1 v m2) := hR1; have S1 : Hid (St D u u1) := (HS.out _ (below_alloc u _)).trans hS1; clear hR1 hS1)
  go_ret
  exact ⟨rfl, ⟨v, R1.out.setPc nx⟩, S1.out.trans (St.set (R1.out.ne 0 rfl))⟩
end Go.Proofs.YtjdfffdeljgenaaGreatDoor.W
