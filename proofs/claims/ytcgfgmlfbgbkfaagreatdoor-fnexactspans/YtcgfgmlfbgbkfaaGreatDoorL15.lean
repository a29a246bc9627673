import Derived.Test.YtcgfgmlfbgbkfaaGreatDoorL12
import Derived.Test.YtcgfgmlfbgbkfaaGreatDoorL13
import Derived.Test.YtcgfgmlfbgbkfaaGreatDoorL14
import Derived.Test.YtcgfgmlfbgbkfaaGreatDoorL08
set_option linter.unusedVariables false
set_option linter.unusedSimpArgs false
namespace Go.Proofs.YtcgfgmlfbgbkfaaGreatDoor.Pl
structure StepOk (f : IrF) (x : IrI) : Prop where
  op : 1 ≤ x.op ∧ x.op ≤ 16
  same : SameI (wrI x.op.toNat x) x
  regs : regsOk f.regs (usesL x.op.toNat x ++ setsL x.op.toNat x)
  fits : fitsP f.slots.length (fun n => ∃ i, i < f.code.length ∧ isLab f.code n i) x.op.toNat x
def rrOk (f : IrF) : Prop := funHead f ∧ slotsOk f.slots ∧ labUniq f.code ∧ ∀ i, i < f.code.length → StepOk f (f.code.getD i IrI.zero)
end Go.Proofs.YtcgfgmlfbgbkfaaGreatDoor.Pl
namespace Go.Proofs.YtcgfgmlfbgbkfaaGreatDoor.W
open Go.RowKit Go.Maps Go.WideMaps
def stepsV (f : Pl.IrF) (Y : Nat → SV) (k : Nat) : List Value := (List.range k).map fun i => stV (f.code.getD i Pl.IrI.zero).op.toNat (f.code.getD i Pl.IrI.zero) (Y i)
def RrSaid (w : World) (f : Pl.IrF) (v s : SV) (e : Ending) (w' : World) : Prop :=
  Below w.heap.size w w' ∧ ((¬ Pl.rrOk f ∧ e = .returned (.tuple #[.pointer none, .bool false])) ∨ (Pl.rrOk f ∧ ∃ (gr gm nm : Nat) (S P : Value) (lab : Int → Option Int) (Y : Nat → SV), e = .returned (.tuple #[.pointer (some ⟨gr, 0, none⟩), .bool true]) ∧ Pl.LabK f.code f.code.length lab ∧ (∀ i, i < f.code.length → Row .i64 0 w (Y i).a (Y i).len (Y i).cap (f.code.getD i Pl.IrI.zero).args) ∧ Rt w gr gm nm f v s S (stepsV f Y f.code.length) lab P ((List.range f.slots.length).map (Pl.rooms f.slots)) (Pl.upM (Pl.rooms f.slots f.slots.length) 16) w'))
theorem Rt.low {W1 : World} {W0 : World} {gr gm nm : Nat} {f : Pl.IrF} {v s : SV} {S : Value} {sv : List Value} {lab : Int → Option Int} {P : Value} {ps : List Int} {room : Int} {w : World} (h : Rt W0 gr gm nm f v s S sv lab P ps room w) (hb : Below W1.heap.size W1 W0) : Rt W1 gr gm nm f v s S sv lab P ps room w := by
  have lo : ∀ {e : TypeId} {k : Nat} {x : Value} {n : Nat} {xs : List Value}, w.ownsRow W0.heap.size e k x n xs → w.ownsRow W1.heap.size e k x n xs := fun {e k x n xs} ho => by
    refine ⟨ho.1, ?_⟩
    rcases ho.2 with q | ⟨g, cp, cur, h0, hlo, r⟩
    · exact .inl q
    · exact .inr ⟨g, cp, cur, h0, Nat.le_trans hb.size hlo, r⟩
  exact ⟨hb.trans (h.bel.mono hb.size), Nat.le_trans hb.size h.grb, Nat.le_trans hb.size h.gmb, h.blk, h.map, lo h.st, lo h.pl⟩
theorem Rt.boxS {W0 : World} {gr gm nm : Nat} {f : Pl.IrF} {v s : SV} {S : Value} {sv : List Value} {lab : Int → Option Int} {P : Value} {ps : List Int} {room : Int} {w w2 : World} (h : Rt W0 gr gm nm f v s S sv lab P ps room w) (hg : w.grownBy w2 S.ownBlock) : w2.heap[gr]? = some (.cells (RtC f v s S gm P room) 61 (0, 0)) := far_row h.st hg h.blk (fun cs e => by simp only [Obj.cells.injEq] at e; exact absurd e.2.1 (by decide))
theorem Rt.stepped {W0 : World} {gr gm nm : Nat} {f : Pl.IrF} {v s : SV} {S : Value} {sv : List Value} {lab : Int → Option Int} {P : Value} {ps : List Int} {room : Int} {w w2 : World} {G cp : Nat} {r : Value} (h : Rt W0 gr gm nm f v s S sv lab P ps room w) (hg : w.grownBy w2 S.ownBlock) (hown : w2.ownsRow W0.heap.size 93 1 (.slice (some ⟨G, 0, none⟩) (sv.length + 1) cp) (sv.length + 1) (sv ++ [r])) : Rt W0 gr gm nm f v s (.slice (some ⟨G, 0, none⟩) (sv.length + 1) cp) (sv ++ [r]) lab P ps room (w2.setCell ⟨gr, 5, none⟩ (.slice (some ⟨G, 0, none⟩) (sv.length + 1) cp)) := by
  have hbx := h.boxS hg
  obtain ⟨D, ⟨es, cl, q1, q2⟩, hK⟩ := h.map
  have hgm := far_row h.st hg q1 (fun cs e => by cases e)
  have hmc : gm ≠ gr := fun e => by rw [e, hbx] at hgm; cases hgm
  have hsc : ∀ {g : Nat} {cs : Array Value} {e : TypeId}, e ≠ 61 → w2.heap[g]? = some (.cells cs e (0, 0)) → (w2.setCell ⟨gr, 5, none⟩ (.slice (some ⟨G, 0, none⟩) (sv.length + 1) cp)).heap[g]? = some (.cells cs e (0, 0)) := fun {g cs e} he hq => by
    rw [heap_setCell_other w2 ⟨gr, 5, none⟩ g _ (by
      rintro rfl
      rw [hbx] at hq
      simp only [Option.some.injEq, Obj.cells.injEq] at hq
      exact he hq.2.1.symm)]
    exact hq
  refine ⟨(h.bel.grown hg h.bel.size (fun k hk => (h.st.lt k hk).1)).setCell h.grb _, h.grb, h.gmb, ?_, ⟨D, ⟨es, cl, ?_, q2⟩, hK⟩, ?_, ?_⟩
  · rw [heap_setCell_same w2 gr 5 _ 61 _ hbx]; rfl
  · rw [heap_setCell_other w2 ⟨gr, 5, none⟩ _ _ hmc]; exact hgm
  · have e : (sv ++ [r]).length = sv.length + 1 := by simp
    rw [e]
    exact own_far hown fun g cur hq => hsc (by decide) hq
  · exact own_far h.pl fun g cur hq => hsc (by decide) (far_row h.st hg hq (fun cs e => by simp only [Obj.cells.injEq] at e; exact absurd e.2.1 (by decide)))
theorem uses_len (k : Nat) (x : Pl.IrI) : (Pl.usesL k x).length ≤ x.args.length + 1 ∨ (Pl.usesL k x).length ≤ 2 := by
  unfold Pl.usesL
  split <;> first | (right; simp; done) | (left; simp; done) | (left; simp; omega) | (right; split <;> simp)
theorem sets_len (k : Nat) (x : Pl.IrI) : (Pl.setsL k x).length ≤ 1 := by
  unfold Pl.setsL
  split <;> first | (simp; done) | (split <;> simp)
theorem rr_no {w w' : World} {f : Pl.IrF} {v s : SV} (h : ¬ Pl.rrOk f) (hb : Below w.heap.size w w') : RrSaid w f v s (.returned (.tuple #[.pointer none, .bool false])) w' := ⟨hb, .inl ⟨h, rfl⟩⟩
set_option maxRecDepth 100000 in
set_option maxHeartbeats 8000000 in
theorem readRoutine_is {lo : Nat} (f : Pl.IrF) (v s : SV) (w : World) (h : FIs lo w v s f) (hal : ∀ i, i < f.code.length → (f.code.getD i Pl.IrI.zero).args.length ≤ 1048576) (hwf : ∀ i, i < f.code.length → (Lit.int .i64 (f.code.getD i Pl.IrI.zero).n).wf = true) : Calls Tryz.prog 32 #[.agg #[.string f.name, .int .i64 f.params, .int .i64 f.regs, .slice v.a v.len v.cap, .slice s.a s.len s.cap]] w fun e w' => RrSaid w f v s e w' := by
  obtain ⟨va, vl, vc⟩ := v
  obtain ⟨sa, sl, sc⟩ := s
  obtain ⟨hV, hS, _⟩ := h
  simp only at hV hS ⊢
  have hvl : (vl : Int) ≤ 9223372036854775807 := by have := hV.small; omega
  have hsl : (sl : Int) ≤ 9223372036854775807 := by have := hS.small; omega
  have HV : Hid (Row .i64 lo w va vl vc f.slots ∧ f.slots.length = vl) := ⟨hV, hV.1⟩
  have HS : Hid (IRow lo w sa sl sc f.code ∧ f.code.length = sl) := ⟨hS, hS.1⟩
  have HAL : Hid (∀ i, i < f.code.length → (f.code.getD i Pl.IrI.zero).args.length ≤ 1048576) := hal
  have HWF : Hid (∀ i, i < f.code.length → (Lit.int .i64 (f.code.getD i Pl.IrI.zero).n).wf = true) := hwf
  have HWI : Hid (∀ (n a b : Int) (u : World), Calls Tryz.prog 55 #[.int .i64 n, .int .i64 a, .int .i64 b] u fun e w' => e = .returned (.bool (decide (a ≤ n ∧ n ≤ b))) ∧ w' = u) := fun n a b u => isWithin_ir n a b u
  have HB0 : Hid (Below w.heap.size w (w.alloc (.cells #[.string f.name, .int .i64 f.params, .int .i64 f.regs, .slice va vl vc, .slice sa sl sc] 31))) := below_alloc _ _
  clear hV hS hal hwf
  by_cases p1 : 0 ≤ f.params ∧ f.params ≤ 8
  rotate_left
  · have E1 : Hid (decide (0 ≤ f.params ∧ f.params ≤ 8) = false) := decide_eq_false p1
    have E2 := E1
    have E4 := E1
    have HN : Hid (¬ Pl.rrOk f) := fun q => p1 q.1.1
    clear p1
    go_enter Tryz.func32, Tryz.ntmps32
    go_wp2_with (go_at_call 55; refine (HWI.out _ _ _ _).mono ?_; rintro e z1 ⟨rfl, g1⟩; rw [g1]; clear g1 z1; (first | rw [E1.out] | rw [E2.out] | rw [E4.out]))
    go_ret2
    exact rr_no HN.out HB0.out
  have E1 : Hid (decide (0 ≤ f.params ∧ f.params ≤ 8) = true) := decide_eq_true p1
  by_cases p2 : f.params ≤ f.regs ∧ f.regs ≤ 2000
  rotate_left
  · have E2 : Hid (decide (f.params ≤ f.regs ∧ f.regs ≤ 2000) = false) := decide_eq_false p2
    have E4 := E1
    have HN : Hid (¬ Pl.rrOk f) := fun q => p2 q.1.2.1
    clear p1 p2
    go_enter Tryz.func32, Tryz.ntmps32
    go_wp2_with (go_at_call 55; refine (HWI.out _ _ _ _).mono ?_; rintro e z1 ⟨rfl, g1⟩; rw [g1]; clear g1 z1; (first | rw [E1.out] | rw [E2.out] | rw [E4.out]))
    go_ret2
    exact rr_no HN.out HB0.out
  have E2 : Hid (decide (f.params ≤ f.regs ∧ f.regs ≤ 2000) = true) := decide_eq_true p2
  by_cases p3 : 200 < (vl : Int)
  · have E4 := E1
    have HN : Hid (¬ Pl.rrOk f) := fun q => by have := q.1.2.2.1; have := HV.out.2; omega
    clear p1 p2
    go_enter Tryz.func32, Tryz.ntmps32
    go_wp2_with (go_at_call 55; refine (HWI.out _ _ _ _).mono ?_; rintro e z1 ⟨rfl, g1⟩; rw [g1]; clear g1 z1; (first | rw [E1.out] | rw [E2.out] | rw [E4.out]))
    go_ret2
    exact rr_no HN.out HB0.out
  by_cases p4 : 1 ≤ (sl : Int) ∧ (sl : Int) ≤ 8000
  rotate_left
  · have E4 : Hid (decide (1 ≤ (sl : Int) ∧ (sl : Int) ≤ 8000) = false) := decide_eq_false p4
    have HN : Hid (¬ Pl.rrOk f) := fun q => by have := q.1.2.2.2.1; have := HS.out.2; omega
    clear p1 p2 p4
    go_enter Tryz.func32, Tryz.ntmps32
    go_wp2_with (go_at_call 55; refine (HWI.out _ _ _ _).mono ?_; rintro e z1 ⟨rfl, g1⟩; rw [g1]; clear g1 z1; (first | rw [E1.out] | rw [E2.out] | rw [E4.out]))
    go_ret2
    exact rr_no HN.out HB0.out
  have E4 : Hid (decide (1 ≤ (sl : Int) ∧ (sl : Int) ≤ 8000) = true) := decide_eq_true p4
  obtain ⟨m, hm, hml⟩ : ∃ m : Nat, (sl : Int) - 1 = (m : Int) ∧ m < sl := ⟨sl - 1, by omega, by omega⟩
  have hmi : (m : Int) < (sl : Int) := by omega
  have hwm : IntKind.i64.wrap ((sl : Int) - 1) = (m : Int) := by rw [IntKind.wrap_i64]; omega
  obtain ⟨sb, so, y0, rfl, hslo, hsb, hc0, _, _⟩ := HS.out.1.at (k := m) hml
  have HL : Hid ((f.code.getD (f.code.length - 1) Pl.IrI.zero).op = (f.code.getD m Pl.IrI.zero).op) := by
    show (f.code.getD (f.code.length - 1) Pl.IrI.zero).op = _
    rw [HS.out.2, show sl - 1 = m by omega]
  obtain ⟨l0, hl0⟩ : ∃ l0, l0 = (f.code.getD m Pl.IrI.zero).op := ⟨_, rfl⟩
  have cl := (iri_cells hc0).1
  rw [← hl0] at cl
  clear hc0
  by_cases p7 : l0 = 14
  rotate_left
  · have e7 : (l0 == 14) = false := by rw [beq_eq_false_iff_ne]; exact p7
    have e8 : (l0 != 14) = true := by rw [bne, e7]; rfl
    have HN : Hid (¬ Pl.rrOk f) := fun c => p7 (hl0.trans (HL.out.symm.trans c.1.2.2.2.2))
    clear hl0 p7 p1 p2 p4
    go_enter Tryz.func32, Tryz.ntmps32
    go_wp2_with (go_at_call 55; refine (HWI.out _ _ _ _).mono ?_; rintro e z1 ⟨rfl, g1⟩; rw [g1]; clear g1 z1; (first | rw [E1.out] | rw [E2.out] | rw [E4.out]))
    go_ret2
    exact rr_no HN.out HB0.out
  have e7 : (l0 == 14) = true := by simpa using p7
  have e8 : (l0 != 14) = false := by simpa using p7
  have HH : Hid (Pl.funHead f) := ⟨p1, p2, by have := HV.out.2; omega, by have := HS.out.2; omega, HL.out.trans (hl0.symm.trans p7)⟩
  have hs8 : sl ≤ 8000 := by omega
  have hrg : 0 ≤ f.regs ∧ f.regs ≤ 2000 := by omega
  clear hl0 p7 p1 p2 p4 HL
  have hmm := @run_makeMap Tryz.prog
  go_enter Tryz.func32, Tryz.ntmps32
  obtain ⟨w0, hw0⟩ : ∃ w0 : World, w0 = w.alloc (.cells #[.string f.name, .int .i64 f.params, .int .i64 f.regs, .slice va vl vc, .slice (some ⟨sb, so, none⟩) sl sc] 31) := ⟨_, rfl⟩
  have hz0 : w0.heap.size = w.heap.size + 1 := by rw [hw0]; simp
  have q0 : w0.heap[w.heap.size]? = some (.cells #[.string f.name, .int .i64 f.params, .int .i64 f.regs, .slice va vl vc, .slice (some ⟨sb, so, none⟩) sl sc] 31 (0, 0)) := by rw [hw0]; exact heap_alloc_new w _
  have HW0 : Hid (Below w.heap.size w w0) := by rw [hw0]; exact below_alloc _ _
  have K4 : Hid (∀ u : World, Below w0.heap.size w0 u → u.cell? ⟨w.heap.size, 4, none⟩ = some (.slice (some ⟨sb, so, none⟩) sl sc)) := fun u hu => cell_of_row u w.heap.size 4 _ 31 (0, 0) ((hu.block _ (by omega)).trans q0)
  have HR3 : Hid (Rt w0 (w.heap.size + 1 + 1) (w.heap.size + 1) 0 f ⟨va, vl, vc⟩ ⟨some ⟨sb, so, none⟩, sl, sc⟩ (.slice none 0 0) [] (fun _ => none) (.slice none 0 0) [] 0 ((w0.alloc (.map #[] 0)).alloc (.cells #[.string f.name, .int .i64 f.params, .int .i64 f.regs, .slice va vl vc, .slice (some ⟨sb, so, none⟩) sl sc, .slice none 0 0, .map (some (w.heap.size + 1)), .slice none 0 0, .int .i64 0] 61))) := by
    have hmp : (w0.alloc (.map #[] 0)).ownsMap Tryz.prog 3 (plainElem (H := Unit) Tryz.prog 3) w0.heap.size 0 (.map []) := World.ownsMap_made _ _ _ _
    rw [hz0] at hmp
    refine ⟨Below.alloc (below_alloc _ _) (by simp) _, by omega, by omega, ?_, ⟨.map [], ownsMap_keepR hmp (below_alloc _ _) (by simp [hz0]), LabM.nil⟩, World.ownsRow_nil _ _ _ _, World.ownsRow_nil _ _ _ _⟩
    have e := heap_alloc_new (w0.alloc (.map #[] 0)) (.cells #[.string f.name, .int .i64 f.params, .int .i64 f.regs, .slice va vl vc, .slice (some ⟨sb, so, none⟩) sl sc, .slice none 0 0, .map (some (w.heap.size + 1)), .slice none 0 0, .int .i64 0] 61)
    rw [show (w0.alloc (.map #[] 0)).heap.size = w.heap.size + 1 + 1 by simp [hz0]] at e
    exact e
  clear q0
  go_upto_region 4 with (go_at_call 55; refine (HWI.out _ _ _ _).mono ?_; rintro e z1 ⟨rfl, g1⟩; rw [g1]; clear g1 z1; (first | rw [E1.out] | rw [E2.out] | rw [E4.out]))
  rw [← hw0]
  generalize (w0.alloc (.map #[] 0)).alloc (.cells #[.string f.name, .int .i64 f.params, .int .i64 f.regs, .slice va vl vc, .slice (some ⟨sb, so, none⟩) sl sc, .slice none 0 0, .map (some (w.heap.size + 1)), .slice none 0 0, .int .i64 0] 61) = W3 at *
  generalize hgr : w.heap.size + 1 + 1 = gr at *
  generalize hgm : w.heap.size + 1 = gm at *
  clear hgr hgm hw0
  have HPL : Hid (Calls Tryz.prog 56 #[.pointer (some ⟨gr, 0, none⟩)] W3 fun e w' => PlSaid w0 gr gm f ⟨va, vl, vc⟩ ⟨some ⟨sb, so, none⟩, sl, sc⟩ (.slice none 0 0) [] e w') := placeSlots_is HR3.out (HV.out.1.keep HW0.out) (by have := HH.out.2.2.1; omega)
  have HBB : Hid (∀ u : World, Below w0.heap.size w0 u → Below w.heap.size w u) := fun u hu => HW0.out.trans (hu.mono HW0.out.size)
  by_cases hso : Pl.slotsOk f.slots
  rotate_left
  · have HN : Hid (¬ Pl.rrOk f) := fun q => hso q.2.1
    have HP2 : Hid (Calls Tryz.prog 56 #[.pointer (some ⟨gr, 0, none⟩)] W3 fun e w' => e = .returned (.bool false) ∧ Below w0.heap.size w0 w') := HPL.out.mono fun e w' ⟨⟨b, he, hb⟩, hbl, _⟩ => ⟨by rw [he]; cases b with | false => rfl | true => exact absurd (hb.1 rfl) hso, hbl⟩
    clear hso HPL
    go_wp2_with (go_at_call 56; refine HP2.out.mono ?_; rintro e u1 ⟨rfl, d1⟩; have D1 : Hid (Below w0.heap.size w0 u1) := d1; clear d1)
    go_ret2
    exact rr_no HN.out (HBB.out _ D1.out)
  have HSO : Hid (Pl.slotsOk f.slots) := hso
  have HP2 : Hid (Calls Tryz.prog 56 #[.pointer (some ⟨gr, 0, none⟩)] W3 fun e w' => e = .returned (.bool true) ∧ ∃ P : Value, Hid (Rt w0 gr gm 0 f ⟨va, vl, vc⟩ ⟨some ⟨sb, so, none⟩, sl, sc⟩ (.slice none 0 0) [] (fun _ => none) P ((List.range f.slots.length).map (Pl.rooms f.slots)) (Pl.upM (Pl.rooms f.slots f.slots.length) 16) w')) := HPL.out.mono fun e w' ⟨⟨b, he, hb⟩, hbl, hx⟩ => ⟨by rw [he, hb.2 hso], hx hso⟩
  clear hso HPL HR3
  generalize hrm : Pl.upM (Pl.rooms f.slots f.slots.length) 16 = room at HP2 ⊢
  generalize hpp : (List.range f.slots.length).map (Pl.rooms f.slots) = pps at HP2 ⊢
  have HRM : Hid (Pl.upM (Pl.rooms f.slots f.slots.length) 16 = room ∧ (List.range f.slots.length).map (Pl.rooms f.slots) = pps) := ⟨hrm, hpp⟩
  clear hrm hpp
  have HFL : Hid (∀ (u : World) (P : Value), Rt w0 gr gm 0 f ⟨va, vl, vc⟩ ⟨some ⟨sb, so, none⟩, sl, sc⟩ (.slice none 0 0) [] (fun _ => none) P pps room u → Calls Tryz.prog 57 #[.pointer (some ⟨gr, 0, none⟩)] u fun e w' => FlSaid w0 gr gm f ⟨va, vl, vc⟩ ⟨some ⟨sb, so, none⟩, sl, sc⟩ (.slice none 0 0) [] P pps room e w') := fun u P hu => findLabels_is hu (HS.out.1.keep HW0.out) (by have := HH.out.2.2.2.1; omega) HWF.out
  by_cases hlu : Pl.labUniq f.code
  rotate_left
  · have HN : Hid (¬ Pl.rrOk f) := fun q => hlu q.2.2.1
    have HF2 : Hid (∀ (u : World) (P : Value), Rt w0 gr gm 0 f ⟨va, vl, vc⟩ ⟨some ⟨sb, so, none⟩, sl, sc⟩ (.slice none 0 0) [] (fun _ => none) P pps room u → Calls Tryz.prog 57 #[.pointer (some ⟨gr, 0, none⟩)] u fun e w' => e = .returned (.bool false) ∧ Below w0.heap.size w0 w') := fun u P hu => (HFL.out u P hu).mono fun e w' ⟨⟨b, he, hb⟩, hbl, _⟩ => ⟨by rw [he]; cases b with | false => rfl | true => exact absurd (hb.1 rfl) hlu, hbl⟩
    clear hlu HFL
    go_wp2_with (first | (go_at_call 56; refine HP2.out.mono ?_; rintro e u1 ⟨rfl, P, HR1⟩) | (go_at_call 57; refine (HF2.out _ P HR1.out).mono ?_; rintro e u2 ⟨rfl, d2⟩; have D2 : Hid (Below w0.heap.size w0 u2) := d2; clear d2))
    go_ret2
    exact rr_no HN.out (HBB.out _ D2.out)
  have HLU : Hid (Pl.labUniq f.code) := hlu
  have HF2 : Hid (∀ (u : World) (P : Value), Rt w0 gr gm 0 f ⟨va, vl, vc⟩ ⟨some ⟨sb, so, none⟩, sl, sc⟩ (.slice none 0 0) [] (fun _ => none) P pps room u → Calls Tryz.prog 57 #[.pointer (some ⟨gr, 0, none⟩)] u fun e w' => e = .returned (.bool true) ∧ ∃ (nm : Nat) (lab : Int → Option Int), Hid (Pl.LabK f.code f.code.length lab) ∧ Hid (Rt w0 gr gm nm f ⟨va, vl, vc⟩ ⟨some ⟨sb, so, none⟩, sl, sc⟩ (.slice none 0 0) [] lab P pps room w')) := fun u P hu => (HFL.out u P hu).mono fun e w' ⟨⟨b, he, hb⟩, hbl, hx⟩ => by
    obtain ⟨nm, lab, _, h1, h2⟩ := hx hlu
    exact ⟨by rw [he, hb.2 hlu], nm, lab, h1, h2⟩
  clear hlu HFL
  go_wp2_with (first | (go_at_call 56; refine HP2.out.mono ?_; rintro e u1 ⟨rfl, P, HR1⟩) | (go_at_call 57; refine (HF2.out _ P HR1.out).mono ?_; rintro e u2 ⟨rfl, nm, lab, HLK, HR2⟩; have k4 := K4.out u2 HR2.out.bel))
  have hYex : ∀ i, i < sl → ∃ y : SV, (∀ j, j < 7 → w.cell? ⟨sb, so + i * 7 + j, none⟩ = ((f.code.getD i Pl.IrI.zero).cells y)[j]?) ∧ Row .i64 lo w y.a y.len y.cap (f.code.getD i Pl.IrI.zero).args := fun i hi => by
    obtain ⟨b', o', y, eb, _, _, h1, h2, _⟩ := HS.out.1.at hi
    simp only [Option.some.injEq, Addr.mk.injEq, and_true] at eb
    obtain ⟨rfl, rfl⟩ := eb
    exact ⟨y, h1, h2⟩
  obtain ⟨Y, HY⟩ : ∃ Y : Nat → SV, Hid (∀ i, i < sl → (∀ j, j < 7 → w.cell? ⟨sb, so + i * 7 + j, none⟩ = ((f.code.getD i Pl.IrI.zero).cells (Y i))[j]?) ∧ Row .i64 lo w (Y i).a (Y i).len (Y i).cap (f.code.getD i Pl.IrI.zero).args) :=
    ⟨fun i => if h : i < sl then Classical.choose (hYex i h) else ⟨none, 0, 0⟩, fun i h => by simp only [dif_pos h]; exact Classical.choose_spec (hYex i h)⟩
  clear hYex k4
  have HSZ : Hid (hsb = hsb) := rfl
  go_loopw [61] (fun t wr => ∃ (k : Nat) (S : Value), k ≤ sl ∧ t = .int .i64 (k : Int) ∧ Hid (∀ i, i < k → Pl.StepOk f (f.code.getD i Pl.IrI.zero)) ∧ Hid (Rt w0 gr gm nm f ⟨va, vl, vc⟩ ⟨some ⟨sb, so, none⟩, sl, sc⟩ S (stepsV f Y k) lab P pps room wr)) (fun t _ => sl - (intOf t).toNat)
  case atStart => exact ⟨0, .slice none 0 0, Nat.zero_le _, rfl, fun i hi => absurd hi (Nat.not_lt_zero _), HR2⟩
  case round =>
    obtain ⟨k, S, hk, rfl, HK, HR⟩ := hrel
    by_cases hlt : k < sl
    rotate_left
    · have hki : ¬ ((k : Int) < (sl : Int)) := by omega
      have HE : Hid (RrSaid w f ⟨va, vl, vc⟩ ⟨some ⟨sb, so, none⟩, sl, sc⟩ (.returned (.tuple #[.pointer (some ⟨gr, 0, none⟩), .bool true])) wr) := by
        have e := HS.out.2
        have ek : f.code.length = k := by omega
        have ok : Pl.rrOk f := ⟨HH.out, HSO.out, HLU.out, fun i hi => HK.out i (by omega)⟩
        refine ⟨HBB.out _ HR.out.bel, .inr ⟨ok, gr, gm, nm, S, P, lab, Y, rfl, HLK.out, fun i hi => ((HY.out i (by omega)).2).lower (Nat.zero_le _), ?_⟩⟩
        rw [HRM.out.1, HRM.out.2, ek]
        exact HR.out.low HW0.out
      go_wp2_with fail
      go_ret2
      exact HE.out
    have hki : (k : Int) < (sl : Int) := by omega
    obtain ⟨x, hx⟩ : ∃ x, x = f.code.getD k Pl.IrI.zero := ⟨_, rfl⟩
    obtain ⟨y2, hy2⟩ : ∃ y2, y2 = Y k := ⟨_, rfl⟩
    have HX : Hid (x = f.code.getD k Pl.IrI.zero ∧ y2 = Y k) := ⟨hx, hy2⟩
    obtain ⟨hc, hrow⟩ := HY.out k hlt
    rw [← hx, ← hy2] at hc hrow
    have hbw := HBB.out _ HR.out.bel
    obtain ⟨b0, b1, b2, b3, b4, b5, b6⟩ := iri_cells (u := wr) (fun j hj => (hbw.cell (p := ⟨sb, so + k * 7 + j, none⟩) hsb).trans (hc j hj))
    have hal : x.args.length ≤ 1048576 := by rw [hx]; exact HAL.out k (by rw [HS.out.2]; exact hlt)
    have hyl : y2.len ≤ 1048576 := by rw [← hrow.1]; exact hal
    have hyl2 : (y2.len : Int) ≤ 9223372036854775807 := by omega
    have hxn : (Lit.int .i64 x.n).wf = true := by rw [hx]; exact HWF.out k (by rw [HS.out.2]; exact hlt)
    have HROW : Hid (∀ u : World, Below wr.heap.size wr u → Row .i64 lo u y2.a y2.len y2.cap x.args) := fun u hu => hrow.keep (hbw.trans (hu.mono hbw.size))
    have HAY : Hid (x.args.length = y2.len) := hrow.1
    have HNS : Hid (¬ Pl.StepOk f x → ¬ Pl.rrOk f) := fun q r => q (by rw [hx]; exact r.2.2.2 k (by rw [HS.out.2]; exact hlt))
    obtain ⟨y0, hy0⟩ : ∃ y0 : World, y0 = wr.alloc (.cells #[.int .i64 x.op, .int .i64 x.d, .int .i64 x.a, .int .i64 x.b, .int .i64 x.n, .string x.sym, .slice y2.a y2.len y2.cap] 81) := ⟨_, rfl⟩
    have hbx : y0.heap[wr.heap.size]? = some (.cells #[.int .i64 x.op, .int .i64 x.d, .int .i64 x.a, .int .i64 x.b, .int .i64 x.n, .string x.sym, .slice y2.a y2.len y2.cap] 81 (0, 0)) := by rw [hy0]; exact heap_alloc_new wr _
    have HY0 : Hid (Below wr.heap.size wr y0) := by rw [hy0]; exact below_alloc _ _
    have HBX : Hid (∀ u : World, Below y0.heap.size y0 u → u.heap[wr.heap.size]? = some (.cells #[.int .i64 x.op, .int .i64 x.d, .int .i64 x.a, .int .i64 x.b, .int .i64 x.n, .string x.sym, .slice y2.a y2.len y2.cap] 81 (0, 0))) := fun u hu => (hu.block _ (Array.getElem?_eq_some_iff.1 hbx).1).trans hbx
    have z0 := cell_of_row y0 wr.heap.size 0 _ 81 (0, 0) hbx
    have z1 := cell_of_row y0 wr.heap.size 1 _ 81 (0, 0) hbx
    have z2 := cell_of_row y0 wr.heap.size 2 _ 81 (0, 0) hbx
    have z3 := cell_of_row y0 wr.heap.size 3 _ 81 (0, 0) hbx
    have z4 := cell_of_row y0 wr.heap.size 4 _ 81 (0, 0) hbx
    have z5 := cell_of_row y0 wr.heap.size 5 _ 81 (0, 0) hbx
    have z6 := cell_of_row y0 wr.heap.size 6 _ 81 (0, 0) hbx
    simp only [List.getElem?_toArray, List.getElem?_cons_zero, List.getElem?_cons_succ] at z0 z1 z2 z3 z4 z5 z6
    clear hx hy2 hc hrow hbw hbx
    by_cases hop : 1 ≤ x.op ∧ x.op ≤ 16
    rotate_left
    · have HN : Hid (¬ Pl.rrOk f) := HNS.out fun q => hop q.op
      have HRS : Hid (∀ u : World, Calls Tryz.prog 58 #[.agg #[.int .i64 x.op, .int .i64 x.d, .int .i64 x.a, .int .i64 x.b, .int .i64 x.n, .string x.sym, .slice y2.a y2.len y2.cap]] u fun e w' => e = .returned (.tuple #[.nilIface, .bool false]) ∧ Below u.heap.size u w') := fun u => readStep_0 x y2 u (by omega)
      clear hop
      go_upto_region 9 with fail
      rw [← hy0]
      clear hy0
      go_upto_region 10 with (go_at_call 58; refine (HRS.out _).mono ?_; rintro e u1 ⟨rfl, d1⟩; have D1 : Hid (Below y0.heap.size y0 u1) := d1; clear d1)
      refine rr10_0 (x := x) (wx := x) (y2 := y2) (T := 0) (c := .nilIface) (F1 := 0) (F4 := 0) (r1 := .nilIface) (r4 := .nilIface) (HBX.out _ D1.out) _ _ _ _ _ _ _ _ _ _ _ _ _ _ _ _ _ _ _ _ _ _ _ _ _ _ _ _ _ _ _ _ _ _ _ _ _ _ _ _ _ _ _ _ _ _ _ _ _ _ _ _ _ _ _ _ _ _ _ _ _ _ _ _ _ _ _ _ _ _ _ _ _ _ _ _ _ _ _ _ _ _ _ _ _ _ _ _ _ _ _ _ _ _ _ _ _ _ _ _ ?_
      intro s70 s71 s72 s73 s74 s75 s76 s77 s78 s79 s80 s81 s82 s83 s84 s85 s86 s87 s88 s89 y3 hb3
      have HB3 : Hid (Below w.heap.size w y3) := HBB.out _ (HR.out.bel.trans (Below.mono (HY0.out.trans (Below.mono (D1.out.trans (hb3.mono D1.out.size)) HY0.out.size)) HR.out.bel.size))
      clear hb3
      go_wp2_with fail
      go_ret2
      exact rr_no HN.out HB3.out
    obtain ⟨kk, hkk⟩ : ∃ kk : Nat, x.op = (kk : Int) := ⟨x.op.toNat, by omega⟩
    have hk16 : 1 ≤ kk ∧ kk ≤ 16 := by omega
    have HOP : Hid ((1 ≤ x.op ∧ x.op ≤ 16) ∧ x.op.toNat = kk) := ⟨hop, by omega⟩
    have hRS0 := fun u : World => readStep_is kk hk16 x hkk y2 u
    obtain ⟨T, c, F1, r1, hv, hm1, hf1, hc1⟩ := says_written (lo := lo) kk hk16 x y2 wr (HROW.out wr (Below.refl _ _)) hyl
    obtain ⟨T', c', F4, r4, hv', hm4, hf4, hc4⟩ := says_fits kk hk16 gr gm nm vl lab x y2 HAY.out hyl2 (by omega) hxn wr HR.out.fit
    have HRGx : Hid (∀ u : World, Below wr.heap.size wr u → Calls Tryz.prog 60 #[.pointer (some ⟨gr, 0, none⟩), stV kk x y2] u fun e w' => IsB (Pl.regsOk f.regs (Pl.usesL kk x ++ Pl.setsL kk x)) e ∧ Below u.heap.size u w') := fun u hu => hasRegs_is gr f.regs hrg (stV kk x y2) _ _ (by have := uses_len kk x; omega) (sets_len kk x) u ((HR.out.keep hu).cell 2) (says_uses (lo := lo) kk hk16 x y2 u (HROW.out u hu) hyl) (says_sets (lo := lo) kk hk16 x y2 u (HROW.out u hu) hyl)
    rw [hv] at hRS0 HRGx hv'
    simp only [Value.iface.injEq] at hv'
    obtain ⟨rfl, rfl⟩ := hv'
    have HVV : Hid (stV kk x y2 = .iface T c) := hv
    have HRS : Hid (∀ u : World, Calls Tryz.prog 58 #[.agg #[.int .i64 x.op, .int .i64 x.d, .int .i64 x.a, .int .i64 x.b, .int .i64 x.n, .string x.sym, .slice y2.a y2.len y2.cap]] u fun e w' => e = .returned (.tuple #[.iface T c, .bool true]) ∧ Below u.heap.size u w') := hRS0
    have HSX : Hid (Pl.StepOk f x ↔ (Pl.SameI (Pl.wrI kk x) x ∧ Pl.regsOk f.regs (Pl.usesL kk x ++ Pl.setsL kk x) ∧ Pl.fitsP vl (fun n => (lab n).isSome = true) kk x)) := by
      have el : (fun n => (lab n).isSome = true) = (fun n => ∃ i, i < f.code.length ∧ Pl.isLab f.code n i) := funext fun n => propext (HLK.out.1 n)
      show Pl.StepOk f x ↔ _
      rw [el, ← HV.out.2]
      exact ⟨fun q => ⟨by have := q.same; rw [HOP.out.2] at this; exact this, by have := q.regs; rw [HOP.out.2] at this; exact this, by have := q.fits; rw [HOP.out.2] at this; exact this⟩, fun q => ⟨HOP.out.1, by rw [HOP.out.2]; exact q.1, by rw [HOP.out.2]; exact q.2.1, by rw [HOP.out.2]; exact q.2.2⟩⟩
    have HFTx : Hid (∀ u : World, Below wr.heap.size wr u → Calls Tryz.prog F4 #[r4, .pointer (some ⟨gr, 0, none⟩)] u fun e u' => IsB (Pl.fitsP vl (fun n => (lab n).isSome = true) kk x) e ∧ Below u.heap.size u u') := fun u hu => hc4 u hu
    obtain ⟨wx, hwx⟩ : ∃ wx, wx = Pl.wrI kk x := ⟨_, rfl⟩
    have HWRx : Hid (∀ u : World, Below wr.heap.size wr u → Calls Tryz.prog F1 #[r1] u fun e u' => ∃ v2 : SV, e = .returned (.agg #[.int .i64 wx.op, .int .i64 wx.d, .int .i64 wx.a, .int .i64 wx.b, .int .i64 wx.n, .string wx.sym, .slice v2.a v2.len v2.cap]) ∧ Row .i64 0 u' v2.a v2.len v2.cap wx.args ∧ Below u.heap.size u u') := fun u hu => (hc1 u hu).mono fun e u' ⟨⟨v2, he, hr⟩, hb⟩ => ⟨v2, by rw [he, hwx]; rfl, by rw [hwx]; exact hr.lower (Nat.zero_le _), hb⟩
    have HSMx : Hid (∀ (u : World) (v2 : SV), Below wr.heap.size wr u → Row .i64 0 u v2.a v2.len v2.cap wx.args → Calls Tryz.prog 59 #[.agg #[.int .i64 wx.op, .int .i64 wx.d, .int .i64 wx.a, .int .i64 wx.b, .int .i64 wx.n, .string wx.sym, .slice v2.a v2.len v2.cap], .agg #[.int .i64 x.op, .int .i64 x.d, .int .i64 x.a, .int .i64 x.b, .int .i64 x.n, .string x.sym, .slice y2.a y2.len y2.cap]] u fun e u' => IsB (Pl.SameI wx x) e ∧ Below u.heap.size u u') := fun u v2 hu hr => sameIns_is wx x v2 y2 u hr (HROW.out u hu)
    rw [← hwx] at HSX
    clear hRS0 hc1 hc4 hop hkk hk16 hwx hv
    have isF : ∀ {p : Prop} {e : Ending}, ¬ p → IsB p e → e = .returned (.bool false) := fun hp ⟨b, he, hb⟩ => by rw [he]; cases b with | false => rfl | true => exact absurd (hb.1 rfl) hp
    have isT : ∀ {p : Prop} {e : Ending}, p → IsB p e → e = .returned (.bool true) := fun hp ⟨b, he, hb⟩ => by rw [he, hb.2 hp]
    have HIF : Hid (∀ {p : Prop} {e : Ending}, ¬ p → IsB p e → e = .returned (.bool false)) := isF
    have HIT : Hid (∀ {p : Prop} {e : Ending}, p → IsB p e → e = .returned (.bool true)) := isT
    clear isF isT
    go_upto_region 9 with fail
    rw [← hy0]
    clear hy0
    go_upto_region 10 with (go_at_call 58; refine (HRS.out _).mono ?_; rintro e u1 ⟨rfl, d1⟩; have D1 : Hid (Below y0.heap.size y0 u1) := d1; clear d1)
    have HBU : Hid (∀ u : World, Below u1.heap.size u1 u → Below wr.heap.size wr u) := fun u hu => HY0.out.trans (Below.mono (D1.out.trans (hu.mono D1.out.size)) HY0.out.size)
    by_cases c1 : Pl.SameI wx x
    rotate_left
    · have HN : Hid (¬ Pl.rrOk f) := HNS.out fun q => c1 (HSX.out.1 q).1
      refine rr10_1 (wx := wx) (HBX.out _ D1.out) hm1 hf1 (fun u hu => HWRx.out u (HBU.out u hu)) (fun u v2 hu hr => (HSMx.out u v2 (HBU.out u hu) hr).mono fun e u' ⟨h1, h2⟩ => ⟨HIF.out c1 h1, h2⟩) (F4 := 0) (r4 := .nilIface) _ _ _ _ _ _ _ _ _ _ _ _ _ _ _ _ _ _ _ _ _ _ _ _ _ _ _ _ _ _ _ _ _ _ _ _ _ _ _ _ _ _ _ _ _ _ _ _ _ _ _ _ _ _ _ _ _ _ _ _ _ _ _ _ _ _ _ _ _ _ _ _ _ _ _ _ _ _ _ _ _ _ _ _ _ _ _ _ _ _ _ _ _ _ _ _ _ _ _ _ ?_
      intro s70 s71 s72 s73 s74 s75 s76 s77 s78 s79 s80 s81 s82 s83 s84 s85 s86 s87 s88 s89 y3 hb3
      have HB3 : Hid (Below w.heap.size w y3) := HBB.out _ (HR.out.bel.trans (Below.mono (HY0.out.trans (Below.mono (D1.out.trans (hb3.mono D1.out.size)) HY0.out.size)) HR.out.bel.size))
      clear hb3
      go_wp2_with fail
      go_ret2
      exact rr_no HN.out HB3.out
    by_cases c2 : Pl.regsOk f.regs (Pl.usesL kk x ++ Pl.setsL kk x)
    rotate_left
    · have HN : Hid (¬ Pl.rrOk f) := HNS.out fun q => c2 (HSX.out.1 q).2.1
      refine rr10_2 (wx := wx) (HBX.out _ D1.out) hm1 hf1 (fun u hu => HWRx.out u (HBU.out u hu)) (fun u v2 hu hr => (HSMx.out u v2 (HBU.out u hu) hr).mono fun e u' ⟨h1, h2⟩ => ⟨HIT.out c1 h1, h2⟩) (fun u hu => (HRGx.out u (HBU.out u hu)).mono fun e u' ⟨h1, h2⟩ => ⟨HIF.out c2 h1, h2⟩) (F4 := 0) (r4 := .nilIface) _ _ _ _ _ _ _ _ _ _ _ _ _ _ _ _ _ _ _ _ _ _ _ _ _ _ _ _ _ _ _ _ _ _ _ _ _ _ _ _ _ _ _ _ _ _ _ _ _ _ _ _ _ _ _ _ _ _ _ _ _ _ _ _ _ _ _ _ _ _ _ _ _ _ _ _ _ _ _ _ _ _ _ _ _ _ _ _ _ _ _ _ _ _ _ _ _ _ _ _ ?_
      intro s70 s71 s72 s73 s74 s75 s76 s77 s78 s79 s80 s81 s82 s83 s84 s85 s86 s87 s88 s89 y3 hb3
      have HB3 : Hid (Below w.heap.size w y3) := HBB.out _ (HR.out.bel.trans (Below.mono (HY0.out.trans (Below.mono (D1.out.trans (hb3.mono D1.out.size)) HY0.out.size)) HR.out.bel.size))
      clear hb3
      go_wp2_with fail
      go_ret2
      exact rr_no HN.out HB3.out
    by_cases c3 : Pl.fitsP vl (fun n => (lab n).isSome = true) kk x
    rotate_left
    · have HN : Hid (¬ Pl.rrOk f) := HNS.out fun q => c3 (HSX.out.1 q).2.2
      refine rr10_3 (wx := wx) (HBX.out _ D1.out) hm1 hf1 (fun u hu => HWRx.out u (HBU.out u hu)) (fun u v2 hu hr => (HSMx.out u v2 (HBU.out u hu) hr).mono fun e u' ⟨h1, h2⟩ => ⟨HIT.out c1 h1, h2⟩) (fun u hu => (HRGx.out u (HBU.out u hu)).mono fun e u' ⟨h1, h2⟩ => ⟨HIT.out c2 h1, h2⟩) hm4 hf4 (fun u hu => (HFTx.out u (HBU.out u hu)).mono fun e u' ⟨h1, h2⟩ => ⟨HIF.out c3 h1, h2⟩) _ _ _ _ _ _ _ _ _ _ _ _ _ _ _ _ _ _ _ _ _ _ _ _ _ _ _ _ _ _ _ _ _ _ _ _ _ _ _ _ _ _ _ _ _ _ _ _ _ _ _ _ _ _ _ _ _ _ _ _ _ _ _ _ _ _ _ _ _ _ _ _ _ _ _ _ _ _ _ _ _ _ _ _ _ _ _ _ _ _ _ _ _ _ _ _ _ _ _ _ ?_
      intro s70 s71 s72 s73 s74 s75 s76 s77 s78 s79 s80 s81 s82 s83 s84 s85 s86 s87 s88 s89 y3 hb3
      have HB3 : Hid (Below w.heap.size w y3) := HBB.out _ (HR.out.bel.trans (Below.mono (HY0.out.trans (Below.mono (D1.out.trans (hb3.mono D1.out.size)) HY0.out.size)) HR.out.bel.size))
      clear hb3
      go_wp2_with fail
      go_ret2
      exact rr_no HN.out HB3.out
    have HOK : Hid (Pl.StepOk f x) := HSX.out.2 ⟨c1, c2, c3⟩
    refine rr10_4 (wx := wx) (HBX.out _ D1.out) hm1 hf1 (fun u hu => HWRx.out u (HBU.out u hu)) (fun u v2 hu hr => (HSMx.out u v2 (HBU.out u hu) hr).mono fun e u' ⟨h1, h2⟩ => ⟨HIT.out c1 h1, h2⟩) (fun u hu => (HRGx.out u (HBU.out u hu)).mono fun e u' ⟨h1, h2⟩ => ⟨HIT.out c2 h1, h2⟩) hm4 hf4 (fun u hu => (HFTx.out u (HBU.out u hu)).mono fun e u' ⟨h1, h2⟩ => ⟨HIT.out c3 h1, h2⟩) _ _ _ _ _ _ _ _ _ _ _ _ _ _ _ _ _ _ _ _ _ _ _ _ _ _ _ _ _ _ _ _ _ _ _ _ _ _ _ _ _ _ _ _ _ _ _ _ _ _ _ _ _ _ _ _ _ _ _ _ _ _ _ _ _ _ _ _ _ _ _ _ _ _ _ _ _ _ _ _ _ _ _ _ _ _ _ _ _ _ _ _ _ _ _ _ _ _ _ _ ?_
    intro s70 s71 s72 s73 s74 s75 s76 s77 s78 s79 s80 s81 s82 s83 s84 s85 s86 s87 s88 s89 y3 hb3
    have HR3 : Hid (Rt w0 gr gm nm f ⟨va, vl, vc⟩ ⟨some ⟨sb, so, none⟩, sl, sc⟩ S (stepsV f Y k) lab P pps room y3) := HR.out.keep (HBU.out y3 hb3)
    have hln : (stepsV f Y k).length = k := by unfold stepsV; simp
    have HST : Hid (stepsV f Y (k + 1) = stepsV f Y k ++ [.iface T c]) := by
      show stepsV f Y (k + 1) = _
      unfold stepsV
      rw [List.range_succ, List.map_append]
      simp only [List.map_cons, List.map_nil]
      rw [← HX.out.1, ← HX.out.2, HOP.out.2, HVV.out]
    have r5 : y3.cell? ⟨gr, 5, none⟩ = some S := HR3.out.cell 5
    have hgl : gr < y3.heap.size := HR3.out.lt
    have hwz : w0.heap.size ≤ y3.heap.size := HR3.out.bel.size
    have HO5 : Hid (y3.ownsRow w0.heap.size 93 1 S k (stepsV f Y k)) := by have := HR3.out.st; rw [hln] at this; exact this
    obtain ⟨i0, hi0, hz0', hz1, hz2⟩ := info_parts (P := Tryz.prog) (e := 93) (z := .nilIface) (size := 1) (bytes := 16) (by kernel_rfl)
    have HI : Hid (Tryz.prog.info? 93 = some i0 ∧ i0.zero = some .nilIface ∧ i0.size = 1 ∧ i0.bytes = 16) := ⟨hi0, hz0', hz1, hz2⟩
    clear hb3 c1 c2 c3 z0 z1 z2 z3 z4 z5 z6 hm1 hf1 hm4 hf4 hi0 hz0' hz1 hz2
    go_wp2_with (at_builtin; refine wpList_append_lies _ rfl (.tmp 95) (.tmp 97) 58 rfl w0.heap.size 93 i0 .nilIface 1 16 Tryz.underlying58 HI.out.1 HI.out.2.1 HI.out.2.2.1 HI.out.2.2.2 rfl (by decide) S k (stepsV f Y k) rfl (own_keepI HO5.out (below_alloc y3 (.cells #[.iface T c] 93))) ⟨y3.heap.size, 0, none⟩ 1 1 [.iface T c] rfl rfl (World.news_of_block (heap_alloc_new y3 (.cells #[.iface T c] 93))) (by intro z hz; simp at hz; subst hz; rfl) (by decide) (by unfold maxLen; omega) (by omega) (Nat.le_trans hwz (below_alloc y3 _).size) _ rfl ?_; intro G cp w2 hown1 hgrow hat hlt1; have HGR : Hid (y3.grownBy w2 S.ownBlock) := grown_throughI (below_alloc _ _) hgrow; have HOW : Hid (w2.ownsRow w0.heap.size 93 1 (.slice (some ⟨G, 0, none⟩) (k + 1) cp) (k + 1) (stepsV f Y k ++ [.iface T c])) := hown1; have g5 : w2.cell? ⟨gr, 5, none⟩ = some S := cell_of_row w2 gr 5 _ 61 (0, 0) (HR3.out.boxS HGR.out); have h5 : w2.frozen? ⟨gr, 5, none⟩ = false := frozen_of_row w2 gr 5 _ 61 (HR3.out.boxS HGR.out); clear hown1 hgrow hat)
    have HFN : Hid (Rt w0 gr gm nm f ⟨va, vl, vc⟩ ⟨some ⟨sb, so, none⟩, sl, sc⟩ (.slice (some ⟨G, 0, none⟩) (k + 1) cp) (stepsV f Y (k + 1)) lab P pps room (w2.setCell ⟨gr, 5, none⟩ (.slice (some ⟨G, 0, none⟩) (k + 1) cp))) := by
      have q := HR3.out.stepped (r := .iface T c) (G := G) (cp := cp) HGR.out (by rw [hln]; exact HOW.out)
      rw [hln] at q
      show Rt _ _ _ _ _ _ _ _ _ _ _ _ _ _
      rw [HST.out]
      exact q
    have HK2 : Hid (∀ i, i < k + 1 → Pl.StepOk f (f.code.getD i Pl.IrI.zero)) := fun i hi => by
      by_cases e : i = k
      · rw [e, ← HX.out.1]; exact HOK.out
      · exact HK.out i (by omega)
    go_roundw
    case rel => exact ⟨k + 1, _, by omega, by go_num, HK2, HFN⟩
    case measure => simp [intOf]; omega
end Go.Proofs.YtcgfgmlfbgbkfaaGreatDoor.W
namespace Go.Proofs.YtcgfgmlfbgbkfaaGreatDoor.Pl
theorem lab_nx {f : IrF} (hf : funOk f) {lab : Int → Option Int} (hl : LabK f.code f.code.length lab) {i : Nat} (hi : i < f.code.length) (hop : (f.code.getD i IrI.zero).op = 12 ∨ (f.code.getD i IrI.zero).op = 13) : ∃ q : Nat, lab (f.code.getD i IrI.zero).n = some (q : Int) ∧ q < f.code.length ∧ ∀ k : Nat, isLab f.code (f.code.getD i IrI.zero).n k ↔ k = q := by
  have h1 := (hf.2.2.2 i hi).2 hop
  have h2 : ∃ j, j < f.code.length ∧ isLab f.code (f.code.getD i IrI.zero).n j := by
    apply Classical.byContradiction
    intro hn
    exact h1 (.inl ⟨rfl, fun j hj q => hn ⟨j, hj, q⟩⟩)
  have h3 := (hl.1 _).2 h2
  obtain ⟨v, hv⟩ := Option.isSome_iff_exists.1 h3
  obtain ⟨q, rfl, hq, hq2⟩ := hl.2.1 _ _ hv
  refine ⟨q, hv, hq, fun k => ⟨fun hk => hl.2.2 k q _ (isLab_lt hk) hq hk hq2, fun e => e ▸ hq2⟩⟩
end Go.Proofs.YtcgfgmlfbgbkfaaGreatDoor.Pl
namespace Go.Proofs.YtcgfgmlfbgbkfaaGreatDoor.W
open Go.RowKit Go.Maps Go.WideMaps
theorem Tryz.infostL : (Tryz.prog.info? 108).map (fun i => (i.zero, i.size, i.bytes)) = some (some (.int .i64 0), 1, 8) := by kernel_rfl
def StepsA (lo : Nat) (us : List Int) (e : Ending) (w' : World) : Prop := ∃ (a : Option Addr) (cap : Nat), e = .returned (.slice a us.length cap) ∧ w'.ownsRow lo 108 1 (.slice a us.length cap) us.length (us.map (Value.int .i64))
def NxSaid (w : World) (code : List Pl.IrI) (i : Nat) (e : Ending) (w' : World) : Prop := (∃ ns, Pl.NxL code i ns ∧ StepsA w.heap.size ns e w') ∧ Below w.heap.size w w'
theorem nx_one {w u : World} {code : List Pl.IrI} {i : Nat} {z : Int} (hb : Below w.heap.size w u) (h : ∀ j : Int, j = z ↔ ∃ k : Nat, j = k ∧ Pl.Nx code i k) (b : Nat) (e : b = u.heap.size) : NxSaid w code i (.returned (.slice (some ⟨b, 0, none⟩) 1 1)) (u.alloc (.cells #[.int .i64 z] 108)) := by
  subst e
  refine ⟨⟨[z], ⟨by simp, fun j => by rw [List.mem_singleton]; exact h j⟩, some ⟨u.heap.size, 0, none⟩, 1, rfl, ?_⟩, hb.alloc hb.size _⟩
  exact World.ownsRow_lit u #[.int .i64 z] 1 hb.size (by decide) rfl
theorem nx_two {w u : World} {code : List Pl.IrI} {i : Nat} {z z2 : Int} (hb : Below w.heap.size w u) (h : ∀ j : Int, j = z ∨ j = z2 ↔ ∃ k : Nat, j = k ∧ Pl.Nx code i k) (b : Nat) (e : b = u.heap.size) : NxSaid w code i (.returned (.slice (some ⟨b, 0, none⟩) 2 2)) (u.alloc (.cells #[.int .i64 z, .int .i64 z2] 108)) := by
  subst e
  refine ⟨⟨[z, z2], ⟨by simp, fun j => by rw [List.mem_cons, List.mem_singleton]; exact h j⟩, some ⟨u.heap.size, 0, none⟩, 2, rfl, ?_⟩, hb.alloc hb.size _⟩
  exact World.ownsRow_lit u #[.int .i64 z, .int .i64 z2] 2 hb.size (by decide) rfl
set_option maxRecDepth 100000 in
set_option maxHeartbeats 4000000 in
theorem nextOf_1 (gr gm nm g n c i : Nat) (code : List Pl.IrI) (x : Pl.IrI) (y : SV) (w : World) (c5 : w.cell? ⟨gr, 5, none⟩ = some (.slice (some ⟨g, 0, none⟩) n c)) (hin : i < n) (hn8 : n ≤ 8000) (cz : w.cell? ⟨g, i, none⟩ = some (stV 1 x y)) (hx : ∀ j : Int, j = (i : Int) + 1 ↔ ∃ k : Nat, j = k ∧ Pl.Nx code i k) : Calls Tryz.prog 94 #[.pointer (some ⟨gr, 0, none⟩), .int .i64 (i : Int)] w fun e w' => NxSaid w code i e w' := by
  have hii : (i : Int) < (n : Int) := by omega
  have hi8 : (i : Int) ≤ 8000 := by omega
  unfold stV at cz
  simp only at cz
  have hta0 : ∀ w : World, (Instr.typeAssert (.iface 151 (.agg #[.int .i64 x.d, .int .i64 x.n])) 93 173 true).run Tryz.prog w = .ok (.tuple #[(.agg #[.int .i64 0]), .bool false]) w := fun _ => by kernel_rfl
  have hta1 : ∀ w : World, (Instr.typeAssert (.iface 151 (.agg #[.int .i64 x.d, .int .i64 x.n])) 93 175 true).run Tryz.prog w = .ok (.tuple #[(.agg #[.int .i64 0, .int .i64 0, .string ⟨#[]⟩, .int .i64 0]), .bool false]) w := fun _ => by kernel_rfl
  have hta2 : ∀ w : World, (Instr.typeAssert (.iface 151 (.agg #[.int .i64 x.d, .int .i64 x.n])) 93 177 true).run Tryz.prog w = .ok (.tuple #[(.agg #[.int .i64 0]), .bool false]) w := fun _ => by kernel_rfl
  have HX : Hid (∀ j : Int, j = (i : Int) + 1 ↔ ∃ k : Nat, j = k ∧ Pl.Nx code i k) := hx
  clear hx
  go_enter Tryz.func94, Tryz.ntmps94
  go_wp2_with fail
  go_ret
  exact nx_one (Below.refl _ _) HX.out _ rfl
set_option maxRecDepth 100000 in
set_option maxHeartbeats 4000000 in
theorem nextOf_2 (gr gm nm g n c i : Nat) (code : List Pl.IrI) (x : Pl.IrI) (y : SV) (w : World) (c5 : w.cell? ⟨gr, 5, none⟩ = some (.slice (some ⟨g, 0, none⟩) n c)) (hin : i < n) (hn8 : n ≤ 8000) (cz : w.cell? ⟨g, i, none⟩ = some (stV 2 x y)) (hx : ∀ j : Int, j = (i : Int) + 1 ↔ ∃ k : Nat, j = k ∧ Pl.Nx code i k) : Calls Tryz.prog 94 #[.pointer (some ⟨gr, 0, none⟩), .int .i64 (i : Int)] w fun e w' => NxSaid w code i e w' := by
  have hii : (i : Int) < (n : Int) := by omega
  have hi8 : (i : Int) ≤ 8000 := by omega
  unfold stV at cz
  simp only at cz
  have hta0 : ∀ w : World, (Instr.typeAssert (.iface 153 (.agg #[.int .i64 x.a, .int .i64 x.d])) 93 173 true).run Tryz.prog w = .ok (.tuple #[(.agg #[.int .i64 0]), .bool false]) w := fun _ => by kernel_rfl
  have hta1 : ∀ w : World, (Instr.typeAssert (.iface 153 (.agg #[.int .i64 x.a, .int .i64 x.d])) 93 175 true).run Tryz.prog w = .ok (.tuple #[(.agg #[.int .i64 0, .int .i64 0, .string ⟨#[]⟩, .int .i64 0]), .bool false]) w := fun _ => by kernel_rfl
  have hta2 : ∀ w : World, (Instr.typeAssert (.iface 153 (.agg #[.int .i64 x.a, .int .i64 x.d])) 93 177 true).run Tryz.prog w = .ok (.tuple #[(.agg #[.int .i64 0]), .bool false]) w := fun _ => by kernel_rfl
  have HX : Hid (∀ j : Int, j = (i : Int) + 1 ↔ ∃ k : Nat, j = k ∧ Pl.Nx code i k) := hx
  clear hx
  go_enter Tryz.func94, Tryz.ntmps94
  go_wp2_with fail
  go_ret
  exact nx_one (Below.refl _ _) HX.out _ rfl
set_option maxRecDepth 100000 in
set_option maxHeartbeats 4000000 in
theorem nextOf_3 (gr gm nm g n c i : Nat) (code : List Pl.IrI) (x : Pl.IrI) (y : SV) (w : World) (c5 : w.cell? ⟨gr, 5, none⟩ = some (.slice (some ⟨g, 0, none⟩) n c)) (hin : i < n) (hn8 : n ≤ 8000) (cz : w.cell? ⟨g, i, none⟩ = some (stV 3 x y)) (hx : ∀ j : Int, j = (i : Int) + 1 ↔ ∃ k : Nat, j = k ∧ Pl.Nx code i k) : Calls Tryz.prog 94 #[.pointer (some ⟨gr, 0, none⟩), .int .i64 (i : Int)] w fun e w' => NxSaid w code i e w' := by
  have hii : (i : Int) < (n : Int) := by omega
  have hi8 : (i : Int) ≤ 8000 := by omega
  unfold stV at cz
  simp only at cz
  have hta0 : ∀ w : World, (Instr.typeAssert (.iface 155 (.agg #[.int .i64 x.a, .int .i64 x.b, .int .i64 x.d, .int .i64 x.n])) 93 173 true).run Tryz.prog w = .ok (.tuple #[(.agg #[.int .i64 0]), .bool false]) w := fun _ => by kernel_rfl
  have hta1 : ∀ w : World, (Instr.typeAssert (.iface 155 (.agg #[.int .i64 x.a, .int .i64 x.b, .int .i64 x.d, .int .i64 x.n])) 93 175 true).run Tryz.prog w = .ok (.tuple #[(.agg #[.int .i64 0, .int .i64 0, .string ⟨#[]⟩, .int .i64 0]), .bool false]) w := fun _ => by kernel_rfl
  have hta2 : ∀ w : World, (Instr.typeAssert (.iface 155 (.agg #[.int .i64 x.a, .int .i64 x.b, .int .i64 x.d, .int .i64 x.n])) 93 177 true).run Tryz.prog w = .ok (.tuple #[(.agg #[.int .i64 0]), .bool false]) w := fun _ => by kernel_rfl
  have HX : Hid (∀ j : Int, j = (i : Int) + 1 ↔ ∃ k : Nat, j = k ∧ Pl.Nx code i k) := hx
  clear hx
  go_enter Tryz.func94, Tryz.ntmps94
  go_wp2_with fail
  go_ret
  exact nx_one (Below.refl _ _) HX.out _ rfl
set_option maxRecDepth 100000 in
set_option maxHeartbeats 4000000 in
theorem nextOf_4 (gr gm nm g n c i : Nat) (code : List Pl.IrI) (x : Pl.IrI) (y : SV) (w : World) (c5 : w.cell? ⟨gr, 5, none⟩ = some (.slice (some ⟨g, 0, none⟩) n c)) (hin : i < n) (hn8 : n ≤ 8000) (cz : w.cell? ⟨g, i, none⟩ = some (stV 4 x y)) (hx : ∀ j : Int, j = (i : Int) + 1 ↔ ∃ k : Nat, j = k ∧ Pl.Nx code i k) : Calls Tryz.prog 94 #[.pointer (some ⟨gr, 0, none⟩), .int .i64 (i : Int)] w fun e w' => NxSaid w code i e w' := by
  have hii : (i : Int) < (n : Int) := by omega
  have hi8 : (i : Int) ≤ 8000 := by omega
  unfold stV at cz
  simp only at cz
  have hta0 : ∀ w : World, (Instr.typeAssert (.iface 157 (.agg #[.int .i64 x.a, .int .i64 x.d, .int .i64 x.n])) 93 173 true).run Tryz.prog w = .ok (.tuple #[(.agg #[.int .i64 0]), .bool false]) w := fun _ => by kernel_rfl
  have hta1 : ∀ w : World, (Instr.typeAssert (.iface 157 (.agg #[.int .i64 x.a, .int .i64 x.d, .int .i64 x.n])) 93 175 true).run Tryz.prog w = .ok (.tuple #[(.agg #[.int .i64 0, .int .i64 0, .string ⟨#[]⟩, .int .i64 0]), .bool false]) w := fun _ => by kernel_rfl
  have hta2 : ∀ w : World, (Instr.typeAssert (.iface 157 (.agg #[.int .i64 x.a, .int .i64 x.d, .int .i64 x.n])) 93 177 true).run Tryz.prog w = .ok (.tuple #[(.agg #[.int .i64 0]), .bool false]) w := fun _ => by kernel_rfl
  have HX : Hid (∀ j : Int, j = (i : Int) + 1 ↔ ∃ k : Nat, j = k ∧ Pl.Nx code i k) := hx
  clear hx
  go_enter Tryz.func94, Tryz.ntmps94
  go_wp2_with fail
  go_ret
  exact nx_one (Below.refl _ _) HX.out _ rfl
set_option maxRecDepth 100000 in
set_option maxHeartbeats 4000000 in
theorem nextOf_5 (gr gm nm g n c i : Nat) (code : List Pl.IrI) (x : Pl.IrI) (y : SV) (w : World) (c5 : w.cell? ⟨gr, 5, none⟩ = some (.slice (some ⟨g, 0, none⟩) n c)) (hin : i < n) (hn8 : n ≤ 8000) (cz : w.cell? ⟨g, i, none⟩ = some (stV 5 x y)) (hx : ∀ j : Int, j = (i : Int) + 1 ↔ ∃ k : Nat, j = k ∧ Pl.Nx code i k) : Calls Tryz.prog 94 #[.pointer (some ⟨gr, 0, none⟩), .int .i64 (i : Int)] w fun e w' => NxSaid w code i e w' := by
  have hii : (i : Int) < (n : Int) := by omega
  have hi8 : (i : Int) ≤ 8000 := by omega
  unfold stV at cz
  simp only at cz
  have hta0 : ∀ w : World, (Instr.typeAssert (.iface 158 (.agg #[.int .i64 x.a, .int .i64 x.d, .int .i64 x.n])) 93 173 true).run Tryz.prog w = .ok (.tuple #[(.agg #[.int .i64 0]), .bool false]) w := fun _ => by kernel_rfl
  have hta1 : ∀ w : World, (Instr.typeAssert (.iface 158 (.agg #[.int .i64 x.a, .int .i64 x.d, .int .i64 x.n])) 93 175 true).run Tryz.prog w = .ok (.tuple #[(.agg #[.int .i64 0, .int .i64 0, .string ⟨#[]⟩, .int .i64 0]), .bool false]) w := fun _ => by kernel_rfl
  have hta2 : ∀ w : World, (Instr.typeAssert (.iface 158 (.agg #[.int .i64 x.a, .int .i64 x.d, .int .i64 x.n])) 93 177 true).run Tryz.prog w = .ok (.tuple #[(.agg #[.int .i64 0]), .bool false]) w := fun _ => by kernel_rfl
  have HX : Hid (∀ j : Int, j = (i : Int) + 1 ↔ ∃ k : Nat, j = k ∧ Pl.Nx code i k) := hx
  clear hx
  go_enter Tryz.func94, Tryz.ntmps94
  go_wp2_with fail
  go_ret
  exact nx_one (Below.refl _ _) HX.out _ rfl
set_option maxRecDepth 100000 in
set_option maxHeartbeats 4000000 in
theorem nextOf_6 (gr gm nm g n c i : Nat) (code : List Pl.IrI) (x : Pl.IrI) (y : SV) (w : World) (c5 : w.cell? ⟨gr, 5, none⟩ = some (.slice (some ⟨g, 0, none⟩) n c)) (hin : i < n) (hn8 : n ≤ 8000) (cz : w.cell? ⟨g, i, none⟩ = some (stV 6 x y)) (hx : ∀ j : Int, j = (i : Int) + 1 ↔ ∃ k : Nat, j = k ∧ Pl.Nx code i k) : Calls Tryz.prog 94 #[.pointer (some ⟨gr, 0, none⟩), .int .i64 (i : Int)] w fun e w' => NxSaid w code i e w' := by
  have hii : (i : Int) < (n : Int) := by omega
  have hi8 : (i : Int) ≤ 8000 := by omega
  unfold stV at cz
  simp only at cz
  have hta0 : ∀ w : World, (Instr.typeAssert (.iface 161 (.agg #[.int .i64 x.a, .int .i64 x.b, .int .i64 x.n])) 93 173 true).run Tryz.prog w = .ok (.tuple #[(.agg #[.int .i64 0]), .bool false]) w := fun _ => by kernel_rfl
  have hta1 : ∀ w : World, (Instr.typeAssert (.iface 161 (.agg #[.int .i64 x.a, .int .i64 x.b, .int .i64 x.n])) 93 175 true).run Tryz.prog w = .ok (.tuple #[(.agg #[.int .i64 0, .int .i64 0, .string ⟨#[]⟩, .int .i64 0]), .bool false]) w := fun _ => by kernel_rfl
  have hta2 : ∀ w : World, (Instr.typeAssert (.iface 161 (.agg #[.int .i64 x.a, .int .i64 x.b, .int .i64 x.n])) 93 177 true).run Tryz.prog w = .ok (.tuple #[(.agg #[.int .i64 0]), .bool false]) w := fun _ => by kernel_rfl
  have HX : Hid (∀ j : Int, j = (i : Int) + 1 ↔ ∃ k : Nat, j = k ∧ Pl.Nx code i k) := hx
  clear hx
  go_enter Tryz.func94, Tryz.ntmps94
  go_wp2_with fail
  go_ret
  exact nx_one (Below.refl _ _) HX.out _ rfl
set_option maxRecDepth 100000 in
set_option maxHeartbeats 4000000 in
theorem nextOf_7 (gr gm nm g n c i : Nat) (code : List Pl.IrI) (x : Pl.IrI) (y : SV) (w : World) (c5 : w.cell? ⟨gr, 5, none⟩ = some (.slice (some ⟨g, 0, none⟩) n c)) (hin : i < n) (hn8 : n ≤ 8000) (cz : w.cell? ⟨g, i, none⟩ = some (stV 7 x y)) (hx : ∀ j : Int, j = (i : Int) + 1 ↔ ∃ k : Nat, j = k ∧ Pl.Nx code i k) : Calls Tryz.prog 94 #[.pointer (some ⟨gr, 0, none⟩), .int .i64 (i : Int)] w fun e w' => NxSaid w code i e w' := by
  have hii : (i : Int) < (n : Int) := by omega
  have hi8 : (i : Int) ≤ 8000 := by omega
  unfold stV at cz
  simp only at cz
  have hta0 : ∀ w : World, (Instr.typeAssert (.iface 163 (.agg #[.int .i64 x.d, .string x.sym, .int .i64 x.n])) 93 173 true).run Tryz.prog w = .ok (.tuple #[(.agg #[.int .i64 0]), .bool false]) w := fun _ => by kernel_rfl
  have hta1 : ∀ w : World, (Instr.typeAssert (.iface 163 (.agg #[.int .i64 x.d, .string x.sym, .int .i64 x.n])) 93 175 true).run Tryz.prog w = .ok (.tuple #[(.agg #[.int .i64 0, .int .i64 0, .string ⟨#[]⟩, .int .i64 0]), .bool false]) w := fun _ => by kernel_rfl
  have hta2 : ∀ w : World, (Instr.typeAssert (.iface 163 (.agg #[.int .i64 x.d, .string x.sym, .int .i64 x.n])) 93 177 true).run Tryz.prog w = .ok (.tuple #[(.agg #[.int .i64 0]), .bool false]) w := fun _ => by kernel_rfl
  have HX : Hid (∀ j : Int, j = (i : Int) + 1 ↔ ∃ k : Nat, j = k ∧ Pl.Nx code i k) := hx
  clear hx
  go_enter Tryz.func94, Tryz.ntmps94
  go_wp2_with fail
  go_ret
  exact nx_one (Below.refl _ _) HX.out _ rfl
set_option maxRecDepth 100000 in
set_option maxHeartbeats 4000000 in
theorem nextOf_8 (gr gm nm g n c i : Nat) (code : List Pl.IrI) (x : Pl.IrI) (y : SV) (w : World) (c5 : w.cell? ⟨gr, 5, none⟩ = some (.slice (some ⟨g, 0, none⟩) n c)) (hin : i < n) (hn8 : n ≤ 8000) (cz : w.cell? ⟨g, i, none⟩ = some (stV 8 x y)) (hx : ∀ j : Int, j = (i : Int) + 1 ↔ ∃ k : Nat, j = k ∧ Pl.Nx code i k) : Calls Tryz.prog 94 #[.pointer (some ⟨gr, 0, none⟩), .int .i64 (i : Int)] w fun e w' => NxSaid w code i e w' := by
  have hii : (i : Int) < (n : Int) := by omega
  have hi8 : (i : Int) ≤ 8000 := by omega
  unfold stV at cz
  simp only at cz
  have hta0 : ∀ w : World, (Instr.typeAssert (.iface 165 (.agg #[.int .i64 x.d, .int .i64 x.n])) 93 173 true).run Tryz.prog w = .ok (.tuple #[(.agg #[.int .i64 0]), .bool false]) w := fun _ => by kernel_rfl
  have hta1 : ∀ w : World, (Instr.typeAssert (.iface 165 (.agg #[.int .i64 x.d, .int .i64 x.n])) 93 175 true).run Tryz.prog w = .ok (.tuple #[(.agg #[.int .i64 0, .int .i64 0, .string ⟨#[]⟩, .int .i64 0]), .bool false]) w := fun _ => by kernel_rfl
  have hta2 : ∀ w : World, (Instr.typeAssert (.iface 165 (.agg #[.int .i64 x.d, .int .i64 x.n])) 93 177 true).run Tryz.prog w = .ok (.tuple #[(.agg #[.int .i64 0]), .bool false]) w := fun _ => by kernel_rfl
  have HX : Hid (∀ j : Int, j = (i : Int) + 1 ↔ ∃ k : Nat, j = k ∧ Pl.Nx code i k) := hx
  clear hx
  go_enter Tryz.func94, Tryz.ntmps94
  go_wp2_with fail
  go_ret
  exact nx_one (Below.refl _ _) HX.out _ rfl
set_option maxRecDepth 100000 in
set_option maxHeartbeats 4000000 in
theorem nextOf_9 (gr gm nm g n c i : Nat) (code : List Pl.IrI) (x : Pl.IrI) (y : SV) (w : World) (c5 : w.cell? ⟨gr, 5, none⟩ = some (.slice (some ⟨g, 0, none⟩) n c)) (hin : i < n) (hn8 : n ≤ 8000) (cz : w.cell? ⟨g, i, none⟩ = some (stV 9 x y)) (hx : ∀ j : Int, j = (i : Int) + 1 ↔ ∃ k : Nat, j = k ∧ Pl.Nx code i k) : Calls Tryz.prog 94 #[.pointer (some ⟨gr, 0, none⟩), .int .i64 (i : Int)] w fun e w' => NxSaid w code i e w' := by
  have hii : (i : Int) < (n : Int) := by omega
  have hi8 : (i : Int) ≤ 8000 := by omega
  unfold stV at cz
  simp only at cz
  have hta0 : ∀ w : World, (Instr.typeAssert (.iface 168 (.agg #[.int .i64 x.d, .string x.sym, .slice y.a y.len y.cap])) 93 173 true).run Tryz.prog w = .ok (.tuple #[(.agg #[.int .i64 0]), .bool false]) w := fun _ => by kernel_rfl
  have hta1 : ∀ w : World, (Instr.typeAssert (.iface 168 (.agg #[.int .i64 x.d, .string x.sym, .slice y.a y.len y.cap])) 93 175 true).run Tryz.prog w = .ok (.tuple #[(.agg #[.int .i64 0, .int .i64 0, .string ⟨#[]⟩, .int .i64 0]), .bool false]) w := fun _ => by kernel_rfl
  have hta2 : ∀ w : World, (Instr.typeAssert (.iface 168 (.agg #[.int .i64 x.d, .string x.sym, .slice y.a y.len y.cap])) 93 177 true).run Tryz.prog w = .ok (.tuple #[(.agg #[.int .i64 0]), .bool false]) w := fun _ => by kernel_rfl
  have HX : Hid (∀ j : Int, j = (i : Int) + 1 ↔ ∃ k : Nat, j = k ∧ Pl.Nx code i k) := hx
  clear hx
  go_enter Tryz.func94, Tryz.ntmps94
  go_wp2_with fail
  go_ret
  exact nx_one (Below.refl _ _) HX.out _ rfl
set_option maxRecDepth 100000 in
set_option maxHeartbeats 4000000 in
theorem nextOf_10 (gr gm nm g n c i : Nat) (code : List Pl.IrI) (x : Pl.IrI) (y : SV) (w : World) (c5 : w.cell? ⟨gr, 5, none⟩ = some (.slice (some ⟨g, 0, none⟩) n c)) (hin : i < n) (hn8 : n ≤ 8000) (cz : w.cell? ⟨g, i, none⟩ = some (stV 10 x y)) (hx : ∀ j : Int, j = (i : Int) + 1 ↔ ∃ k : Nat, j = k ∧ Pl.Nx code i k) : Calls Tryz.prog 94 #[.pointer (some ⟨gr, 0, none⟩), .int .i64 (i : Int)] w fun e w' => NxSaid w code i e w' := by
  have hii : (i : Int) < (n : Int) := by omega
  have hi8 : (i : Int) ≤ 8000 := by omega
  unfold stV at cz
  simp only at cz
  have hta0 : ∀ w : World, (Instr.typeAssert (.iface 170 (.agg #[.int .i64 x.d, .int .i64 x.a, .slice y.a y.len y.cap])) 93 173 true).run Tryz.prog w = .ok (.tuple #[(.agg #[.int .i64 0]), .bool false]) w := fun _ => by kernel_rfl
  have hta1 : ∀ w : World, (Instr.typeAssert (.iface 170 (.agg #[.int .i64 x.d, .int .i64 x.a, .slice y.a y.len y.cap])) 93 175 true).run Tryz.prog w = .ok (.tuple #[(.agg #[.int .i64 0, .int .i64 0, .string ⟨#[]⟩, .int .i64 0]), .bool false]) w := fun _ => by kernel_rfl
  have hta2 : ∀ w : World, (Instr.typeAssert (.iface 170 (.agg #[.int .i64 x.d, .int .i64 x.a, .slice y.a y.len y.cap])) 93 177 true).run Tryz.prog w = .ok (.tuple #[(.agg #[.int .i64 0]), .bool false]) w := fun _ => by kernel_rfl
  have HX : Hid (∀ j : Int, j = (i : Int) + 1 ↔ ∃ k : Nat, j = k ∧ Pl.Nx code i k) := hx
  clear hx
  go_enter Tryz.func94, Tryz.ntmps94
  go_wp2_with fail
  go_ret
  exact nx_one (Below.refl _ _) HX.out _ rfl
set_option maxRecDepth 100000 in
set_option maxHeartbeats 4000000 in
theorem nextOf_11 (gr gm nm g n c i : Nat) (code : List Pl.IrI) (x : Pl.IrI) (y : SV) (w : World) (c5 : w.cell? ⟨gr, 5, none⟩ = some (.slice (some ⟨g, 0, none⟩) n c)) (hin : i < n) (hn8 : n ≤ 8000) (cz : w.cell? ⟨g, i, none⟩ = some (stV 11 x y)) (hx : ∀ j : Int, j = (i : Int) + 1 ↔ ∃ k : Nat, j = k ∧ Pl.Nx code i k) : Calls Tryz.prog 94 #[.pointer (some ⟨gr, 0, none⟩), .int .i64 (i : Int)] w fun e w' => NxSaid w code i e w' := by
  have hii : (i : Int) < (n : Int) := by omega
  have hi8 : (i : Int) ≤ 8000 := by omega
  unfold stV at cz
  simp only at cz
  have hta0 : ∀ w : World, (Instr.typeAssert (.iface 172 (.agg #[.int .i64 x.n])) 93 173 true).run Tryz.prog w = .ok (.tuple #[(.agg #[.int .i64 0]), .bool false]) w := fun _ => by kernel_rfl
  have hta1 : ∀ w : World, (Instr.typeAssert (.iface 172 (.agg #[.int .i64 x.n])) 93 175 true).run Tryz.prog w = .ok (.tuple #[(.agg #[.int .i64 0, .int .i64 0, .string ⟨#[]⟩, .int .i64 0]), .bool false]) w := fun _ => by kernel_rfl
  have hta2 : ∀ w : World, (Instr.typeAssert (.iface 172 (.agg #[.int .i64 x.n])) 93 177 true).run Tryz.prog w = .ok (.tuple #[(.agg #[.int .i64 0]), .bool false]) w := fun _ => by kernel_rfl
  have HX : Hid (∀ j : Int, j = (i : Int) + 1 ↔ ∃ k : Nat, j = k ∧ Pl.Nx code i k) := hx
  clear hx
  go_enter Tryz.func94, Tryz.ntmps94
  go_wp2_with fail
  go_ret
  exact nx_one (Below.refl _ _) HX.out _ rfl
set_option maxRecDepth 100000 in
set_option maxHeartbeats 4000000 in
theorem nextOf_15 (gr gm nm g n c i : Nat) (code : List Pl.IrI) (x : Pl.IrI) (y : SV) (w : World) (c5 : w.cell? ⟨gr, 5, none⟩ = some (.slice (some ⟨g, 0, none⟩) n c)) (hin : i < n) (hn8 : n ≤ 8000) (cz : w.cell? ⟨g, i, none⟩ = some (stV 15 x y)) (hx : ∀ j : Int, j = (i : Int) + 1 ↔ ∃ k : Nat, j = k ∧ Pl.Nx code i k) : Calls Tryz.prog 94 #[.pointer (some ⟨gr, 0, none⟩), .int .i64 (i : Int)] w fun e w' => NxSaid w code i e w' := by
  have hii : (i : Int) < (n : Int) := by omega
  have hi8 : (i : Int) ≤ 8000 := by omega
  unfold stV at cz
  simp only at cz
  have hta0 : ∀ w : World, (Instr.typeAssert (.iface 179 (.agg #[.int .i64 x.a, .int .i64 x.b, .int .i64 x.n])) 93 173 true).run Tryz.prog w = .ok (.tuple #[(.agg #[.int .i64 0]), .bool false]) w := fun _ => by kernel_rfl
  have hta1 : ∀ w : World, (Instr.typeAssert (.iface 179 (.agg #[.int .i64 x.a, .int .i64 x.b, .int .i64 x.n])) 93 175 true).run Tryz.prog w = .ok (.tuple #[(.agg #[.int .i64 0, .int .i64 0, .string ⟨#[]⟩, .int .i64 0]), .bool false]) w := fun _ => by kernel_rfl
  have hta2 : ∀ w : World, (Instr.typeAssert (.iface 179 (.agg #[.int .i64 x.a, .int .i64 x.b, .int .i64 x.n])) 93 177 true).run Tryz.prog w = .ok (.tuple #[(.agg #[.int .i64 0]), .bool false]) w := fun _ => by kernel_rfl
  have HX : Hid (∀ j : Int, j = (i : Int) + 1 ↔ ∃ k : Nat, j = k ∧ Pl.Nx code i k) := hx
  clear hx
  go_enter Tryz.func94, Tryz.ntmps94
  go_wp2_with fail
  go_ret
  exact nx_one (Below.refl _ _) HX.out _ rfl
set_option maxRecDepth 100000 in
set_option maxHeartbeats 4000000 in
theorem nextOf_16 (gr gm nm g n c i : Nat) (code : List Pl.IrI) (x : Pl.IrI) (y : SV) (w : World) (c5 : w.cell? ⟨gr, 5, none⟩ = some (.slice (some ⟨g, 0, none⟩) n c)) (hin : i < n) (hn8 : n ≤ 8000) (cz : w.cell? ⟨g, i, none⟩ = some (stV 16 x y)) (hx : ∀ j : Int, j = (i : Int) + 1 ↔ ∃ k : Nat, j = k ∧ Pl.Nx code i k) : Calls Tryz.prog 94 #[.pointer (some ⟨gr, 0, none⟩), .int .i64 (i : Int)] w fun e w' => NxSaid w code i e w' := by
  have hii : (i : Int) < (n : Int) := by omega
  have hi8 : (i : Int) ≤ 8000 := by omega
  unfold stV at cz
  simp only at cz
  have hta0 : ∀ w : World, (Instr.typeAssert (.iface 181 (.agg #[.int .i64 x.a, .int .i64 x.n])) 93 173 true).run Tryz.prog w = .ok (.tuple #[(.agg #[.int .i64 0]), .bool false]) w := fun _ => by kernel_rfl
  have hta1 : ∀ w : World, (Instr.typeAssert (.iface 181 (.agg #[.int .i64 x.a, .int .i64 x.n])) 93 175 true).run Tryz.prog w = .ok (.tuple #[(.agg #[.int .i64 0, .int .i64 0, .string ⟨#[]⟩, .int .i64 0]), .bool false]) w := fun _ => by kernel_rfl
  have hta2 : ∀ w : World, (Instr.typeAssert (.iface 181 (.agg #[.int .i64 x.a, .int .i64 x.n])) 93 177 true).run Tryz.prog w = .ok (.tuple #[(.agg #[.int .i64 0]), .bool false]) w := fun _ => by kernel_rfl
  have HX : Hid (∀ j : Int, j = (i : Int) + 1 ↔ ∃ k : Nat, j = k ∧ Pl.Nx code i k) := hx
  clear hx
  go_enter Tryz.func94, Tryz.ntmps94
  go_wp2_with fail
  go_ret
  exact nx_one (Below.refl _ _) HX.out _ rfl
set_option maxRecDepth 100000 in
set_option maxHeartbeats 4000000 in
theorem nextOf_14 (gr gm nm g n c i : Nat) (code : List Pl.IrI) (x : Pl.IrI) (y : SV) (w : World) (c5 : w.cell? ⟨gr, 5, none⟩ = some (.slice (some ⟨g, 0, none⟩) n c)) (hin : i < n) (hn8 : n ≤ 8000) (cz : w.cell? ⟨g, i, none⟩ = some (stV 14 x y)) (hx : ∀ k : Nat, ¬ Pl.Nx code i k) : Calls Tryz.prog 94 #[.pointer (some ⟨gr, 0, none⟩), .int .i64 (i : Int)] w fun e w' => NxSaid w code i e w' := by
  have hii : (i : Int) < (n : Int) := by omega
  have hi8 : (i : Int) ≤ 8000 := by omega
  unfold stV at cz
  simp only at cz
  have hta0 : ∀ w : World, (Instr.typeAssert (.iface 177 (.agg #[.int .i64 x.a])) 93 173 true).run Tryz.prog w = .ok (.tuple #[(.agg #[.int .i64 0]), .bool false]) w := fun _ => by kernel_rfl
  have hta1 : ∀ w : World, (Instr.typeAssert (.iface 177 (.agg #[.int .i64 x.a])) 93 175 true).run Tryz.prog w = .ok (.tuple #[(.agg #[.int .i64 0, .int .i64 0, .string ⟨#[]⟩, .int .i64 0]), .bool false]) w := fun _ => by kernel_rfl
  have hta2 : ∀ w : World, (Instr.typeAssert (.iface 177 (.agg #[.int .i64 x.a])) 93 177 true).run Tryz.prog w = .ok (.tuple #[(.agg #[.int .i64 x.a]), .bool true]) w := fun _ => by kernel_rfl
  have HX : Hid (∀ k : Nat, ¬ Pl.Nx code i k) := hx
  clear hx
  go_enter Tryz.func94, Tryz.ntmps94
  go_wp2_with fail
  go_ret
  exact ⟨⟨[], ⟨by simp, fun j => by simp; intro k _; exact HX.out k⟩, none, 0, rfl, World.ownsRow_nil _ _ _ _⟩, below_alloc _ _⟩
set_option maxRecDepth 100000 in
set_option maxHeartbeats 4000000 in
theorem nextOf_12 (gr gm nm g n c i : Nat) (code : List Pl.IrI) (x : Pl.IrI) (y : SV) (w : World) (c5 : w.cell? ⟨gr, 5, none⟩ = some (.slice (some ⟨g, 0, none⟩) n c)) (hin : i < n) (hn8 : n ≤ 8000) (cz : w.cell? ⟨g, i, none⟩ = some (stV 12 x y)) (lab : Int → Option Int) (D : DataW Unit) (q : Nat) (hm : w.ownsMap Tryz.prog 3 (plainElem Tryz.prog 3) gm nm D) (hD : LabM D lab) (c6 : w.cell? ⟨gr, 6, none⟩ = some (.map (some gm))) (hwf : (Lit.int .i64 x.n).wf = true) (hq : lab x.n = some (q : Int)) (hx : ∀ j : Int, j = (q : Int) ↔ ∃ k : Nat, j = k ∧ Pl.Nx code i k) : Calls Tryz.prog 94 #[.pointer (some ⟨gr, 0, none⟩), .int .i64 (i : Int)] w fun e w' => NxSaid w code i e w' := by
  have hii : (i : Int) < (n : Int) := by omega
  have hi8 : (i : Int) ≤ 8000 := by omega
  unfold stV at cz
  simp only at cz
  have hta0 : ∀ w : World, (Instr.typeAssert (.iface 173 (.agg #[.int .i64 x.n])) 93 173 true).run Tryz.prog w = .ok (.tuple #[(.agg #[.int .i64 x.n]), .bool true]) w := fun _ => by kernel_rfl
  have HX : Hid (∀ j : Int, j = (q : Int) ↔ ∃ k : Nat, j = k ∧ Pl.Nx code i k) := hx
  have hkey : keyOf Tryz.prog 3 (.int .i64 x.n) = some (.int .i64 x.n) := keyOf_int_mk Tryz.underlying3 hwf
  have hgm : gm < w.heap.size := by
    obtain ⟨es, cl, q1, _⟩ := hm
    exact (Array.getElem?_eq_some_iff.1 q1).1
  have HLK : Hid (∀ u : World, Below w.heap.size w u → (Instr.lookup 59 (.map (some gm)) (.int .i64 x.n) false).run Tryz.prog u = .ok (.int .i64 (q : Int)) u) := fun u hu => by
    obtain ⟨c, hrun, hat, _⟩ := (ownsMap_keepR hm hu hgm).lookup_int intLawR Tryz.underlying59 Tryz.underlying3 (zeroIR u) hkey
    have e := hD.2.2 x.n (q : Int) hwf hq
    rw [hat] at e
    injection e with e
    injection e with e1 e2
    rw [e2] at hrun
    exact hrun
  have hgr : gr < w.heap.size := block_lt_of_cell c6
  clear hx hm hD hq hkey
  go_enter Tryz.func94, Tryz.ntmps94
  go_upto_region 4 with fail
  obtain ⟨u, hu⟩ : ∃ u, u = w.alloc (.cells #[.int .i64 x.n] 173) := ⟨_, rfl⟩
  rw [← hu]
  have HB : Hid (Below w.heap.size w u) := by rw [hu]; exact below_alloc _ _
  have hxn : u.cell? ⟨w.heap.size, 0, none⟩ = some (.int .i64 x.n) := by rw [hu, cell_of_row _ w.heap.size 0 _ 173 (0, 0) (heap_alloc_new w _)]; rfl
  have d6 : u.cell? ⟨gr, 6, none⟩ = some (.map (some gm)) := (HB.out.cell (p := ⟨gr, 6, none⟩) hgr).trans c6
  have hlk : (Instr.lookup 59 (.map (some gm)) (.int .i64 x.n) false).run Tryz.prog u.drew = .ok (.int .i64 (q : Int)) u.drew := HLK.out _ (Below.drew HB.out)
  have hwi : IntKind.i64.wrap ((i : Int) + 1) = (i : Int) + 1 := by rw [IntKind.wrap_i64]; omega
  have HBD : Hid (Below w.heap.size w u.drew) := Below.drew HB.out
  clear hu c6 c5 cz
  go_region
  go_wp2_with fail
  go_ret
  exact nx_one HBD.out HX.out _ rfl
set_option maxRecDepth 100000 in
set_option maxHeartbeats 4000000 in
theorem nextOf_13 (gr gm nm g n c i : Nat) (code : List Pl.IrI) (x : Pl.IrI) (y : SV) (w : World) (c5 : w.cell? ⟨gr, 5, none⟩ = some (.slice (some ⟨g, 0, none⟩) n c)) (hin : i < n) (hn8 : n ≤ 8000) (cz : w.cell? ⟨g, i, none⟩ = some (stV 13 x y)) (lab : Int → Option Int) (D : DataW Unit) (q : Nat) (hm : w.ownsMap Tryz.prog 3 (plainElem Tryz.prog 3) gm nm D) (hD : LabM D lab) (c6 : w.cell? ⟨gr, 6, none⟩ = some (.map (some gm))) (hwf : (Lit.int .i64 x.n).wf = true) (hq : lab x.n = some (q : Int)) (hx : ∀ j : Int, j = (i : Int) + 1 ∨ j = (q : Int) ↔ ∃ k : Nat, j = k ∧ Pl.Nx code i k) : Calls Tryz.prog 94 #[.pointer (some ⟨gr, 0, none⟩), .int .i64 (i : Int)] w fun e w' => NxSaid w code i e w' := by
  have hii : (i : Int) < (n : Int) := by omega
  have hi8 : (i : Int) ≤ 8000 := by omega
  unfold stV at cz
  simp only at cz
  have hta0 : ∀ w : World, (Instr.typeAssert (.iface 175 (.agg #[.int .i64 x.a, .int .i64 x.b, .string x.sym, .int .i64 x.n])) 93 173 true).run Tryz.prog w = .ok (.tuple #[(.agg #[.int .i64 0]), .bool false]) w := fun _ => by kernel_rfl
  have hta1 : ∀ w : World, (Instr.typeAssert (.iface 175 (.agg #[.int .i64 x.a, .int .i64 x.b, .string x.sym, .int .i64 x.n])) 93 175 true).run Tryz.prog w = .ok (.tuple #[(.agg #[.int .i64 x.a, .int .i64 x.b, .string x.sym, .int .i64 x.n]), .bool true]) w := fun _ => by kernel_rfl
  have HX : Hid (∀ j : Int, j = (i : Int) + 1 ∨ j = (q : Int) ↔ ∃ k : Nat, j = k ∧ Pl.Nx code i k) := hx
  have hkey : keyOf Tryz.prog 3 (.int .i64 x.n) = some (.int .i64 x.n) := keyOf_int_mk Tryz.underlying3 hwf
  have hgm : gm < w.heap.size := by
    obtain ⟨es, cl, q1, _⟩ := hm
    exact (Array.getElem?_eq_some_iff.1 q1).1
  have HLK : Hid (∀ u : World, Below w.heap.size w u → (Instr.lookup 59 (.map (some gm)) (.int .i64 x.n) false).run Tryz.prog u = .ok (.int .i64 (q : Int)) u) := fun u hu => by
    obtain ⟨c, hrun, hat, _⟩ := (ownsMap_keepR hm hu hgm).lookup_int intLawR Tryz.underlying59 Tryz.underlying3 (zeroIR u) hkey
    have e := hD.2.2 x.n (q : Int) hwf hq
    rw [hat] at e
    injection e with e
    injection e with e1 e2
    rw [e2] at hrun
    exact hrun
  have hgr : gr < w.heap.size := block_lt_of_cell c6
  clear hx hm hD hq hkey
  go_enter Tryz.func94, Tryz.ntmps94
  go_upto_region 7 with fail
  obtain ⟨u, hu⟩ : ∃ u, u = w.alloc (.cells #[.int .i64 x.a, .int .i64 x.b, .string x.sym, .int .i64 x.n] 175) := ⟨_, rfl⟩
  rw [← hu]
  have HB : Hid (Below w.heap.size w u) := by rw [hu]; exact below_alloc _ _
  have hxn : u.cell? ⟨w.heap.size, 3, none⟩ = some (.int .i64 x.n) := by rw [hu, cell_of_row _ w.heap.size 3 _ 175 (0, 0) (heap_alloc_new w _)]; rfl
  have d6 : u.cell? ⟨gr, 6, none⟩ = some (.map (some gm)) := (HB.out.cell (p := ⟨gr, 6, none⟩) hgr).trans c6
  have hlk : (Instr.lookup 59 (.map (some gm)) (.int .i64 x.n) false).run Tryz.prog u.drew = .ok (.int .i64 (q : Int)) u.drew := HLK.out _ (Below.drew HB.out)
  have hwi : IntKind.i64.wrap ((i : Int) + 1) = (i : Int) + 1 := by rw [IntKind.wrap_i64]; omega
  have HBD : Hid (Below w.heap.size w u.drew) := Below.drew HB.out
  clear hu c6 c5 cz
  go_region
  go_wp2_with fail
  go_ret
  exact nx_two HBD.out HX.out _ rfl
theorem nextOf_is {W0 : World} {gr gm nm : Nat} {f : Pl.IrF} {v s : SV} {S : Value} {Y : Nat → SV} {lab : Int → Option Int} {P : Value} {ps : List Int} {room : Int} {w : World} (h : Rt W0 gr gm nm f v s S (stepsV f Y f.code.length) lab P ps room w) (hf : Pl.funOk f) (hl : Pl.LabK f.code f.code.length lab) (hwf : ∀ i, i < f.code.length → (Lit.int .i64 (f.code.getD i Pl.IrI.zero).n).wf = true) (i : Nat) (hi : i < f.code.length) : Calls Tryz.prog 94 #[.pointer (some ⟨gr, 0, none⟩), .int .i64 (i : Int)] w fun e w' => NxSaid w f.code i e w' := by
  have hn8 : f.code.length ≤ 8000 := hf.1.2.2.2.1.2
  have hsl : (stepsV f Y f.code.length).length = f.code.length := by simp [stepsV]
  have hst := h.st
  rw [hsl] at hst
  obtain ⟨g, c, rfl, _, _⟩ := hst.form (by omega)
  have c5 : w.cell? ⟨gr, 5, none⟩ = some (.slice (some ⟨g, 0, none⟩) f.code.length c) := h.cell 5
  have c6 : w.cell? ⟨gr, 6, none⟩ = some (.map (some gm)) := h.cell 6
  obtain ⟨x, hx⟩ : ∃ x, x = f.code.getD i Pl.IrI.zero := ⟨_, rfl⟩
  have cz : w.cell? ⟨g, i, none⟩ = some (stV x.op.toNat x (Y i)) := by
    rw [hst.cellAt i (by omega)]
    unfold stepsV
    rw [List.getElem?_map, List.getElem?_range hi, hx]; rfl
  obtain ⟨D, hm, hD⟩ := h.map
  have hop := ((hf.2.2.1 i hi).1).1
  rw [← hx] at hop
  have hnx : x.op ≠ 12 → x.op ≠ 13 → x.op ≠ 14 → ∀ j : Int, j = (i : Int) + 1 ↔ ∃ k : Nat, j = k ∧ Pl.Nx f.code i k := fun h1 h2 h3 j => by
    unfold Pl.Nx
    rw [← hx]
    simp only [if_neg h3, if_neg h1, if_neg h2]
    constructor
    · intro e; exact ⟨i + 1, by omega, rfl⟩
    · rintro ⟨k, rfl, rfl⟩; omega
  have e : x.op = 1 ∨ x.op = 2 ∨ x.op = 3 ∨ x.op = 4 ∨ x.op = 5 ∨ x.op = 6 ∨ x.op = 7 ∨ x.op = 8 ∨ x.op = 9 ∨ x.op = 10 ∨ x.op = 11 ∨ x.op = 12 ∨ x.op = 13 ∨ x.op = 14 ∨ x.op = 15 ∨ x.op = 16 := by omega
  rcases e with e | e | e | e | e | e | e | e | e | e | e | e | e | e | e | e
  · exact nextOf_1 gr gm nm g _ c i f.code x (Y i) w c5 hi hn8 (by rw [e] at cz; exact cz) (hnx (by omega) (by omega) (by omega))
  · exact nextOf_2 gr gm nm g _ c i f.code x (Y i) w c5 hi hn8 (by rw [e] at cz; exact cz) (hnx (by omega) (by omega) (by omega))
  · exact nextOf_3 gr gm nm g _ c i f.code x (Y i) w c5 hi hn8 (by rw [e] at cz; exact cz) (hnx (by omega) (by omega) (by omega))
  · exact nextOf_4 gr gm nm g _ c i f.code x (Y i) w c5 hi hn8 (by rw [e] at cz; exact cz) (hnx (by omega) (by omega) (by omega))
  · exact nextOf_5 gr gm nm g _ c i f.code x (Y i) w c5 hi hn8 (by rw [e] at cz; exact cz) (hnx (by omega) (by omega) (by omega))
  · exact nextOf_6 gr gm nm g _ c i f.code x (Y i) w c5 hi hn8 (by rw [e] at cz; exact cz) (hnx (by omega) (by omega) (by omega))
  · exact nextOf_7 gr gm nm g _ c i f.code x (Y i) w c5 hi hn8 (by rw [e] at cz; exact cz) (hnx (by omega) (by omega) (by omega))
  · exact nextOf_8 gr gm nm g _ c i f.code x (Y i) w c5 hi hn8 (by rw [e] at cz; exact cz) (hnx (by omega) (by omega) (by omega))
  · exact nextOf_9 gr gm nm g _ c i f.code x (Y i) w c5 hi hn8 (by rw [e] at cz; exact cz) (hnx (by omega) (by omega) (by omega))
  · exact nextOf_10 gr gm nm g _ c i f.code x (Y i) w c5 hi hn8 (by rw [e] at cz; exact cz) (hnx (by omega) (by omega) (by omega))
  · exact nextOf_11 gr gm nm g _ c i f.code x (Y i) w c5 hi hn8 (by rw [e] at cz; exact cz) (hnx (by omega) (by omega) (by omega))
  · obtain ⟨q, hq, hq2, hqk⟩ := Pl.lab_nx hf hl hi (by rw [← hx]; exact .inl e)
    refine nextOf_12 gr gm nm g _ c i f.code x (Y i) w c5 hi hn8 (by rw [e] at cz; exact cz) lab D q hm hD c6 (by rw [hx]; exact hwf i hi) (by rw [hx]; exact hq) (fun j => ?_)
    unfold Pl.Nx
    rw [← hx]
    simp only [if_neg (show ¬ x.op = 14 by omega), if_pos e]
    rw [hx]
    constructor
    · intro e; exact ⟨q, e, (hqk q).2 rfl⟩
    · rintro ⟨k, rfl, hk⟩; rw [(hqk k).1 hk]
  · obtain ⟨q, hq, hq2, hqk⟩ := Pl.lab_nx hf hl hi (by rw [← hx]; exact .inr e)
    refine nextOf_13 gr gm nm g _ c i f.code x (Y i) w c5 hi hn8 (by rw [e] at cz; exact cz) lab D q hm hD c6 (by rw [hx]; exact hwf i hi) (by rw [hx]; exact hq) (fun j => ?_)
    unfold Pl.Nx
    rw [← hx]
    simp only [if_neg (show ¬ x.op = 14 by omega), if_neg (show ¬ x.op = 12 by omega), if_pos e]
    rw [hx]
    constructor
    · rintro (e | e)
      · exact ⟨i + 1, by omega, .inl rfl⟩
      · exact ⟨q, e, .inr ((hqk q).2 rfl)⟩
    · rintro ⟨k, rfl, rfl | hk⟩
      · exact .inl (by omega)
      · exact .inr (by rw [(hqk k).1 hk])
  · exact nextOf_14 gr gm nm g _ c i f.code x (Y i) w c5 hi hn8 (by rw [e] at cz; exact cz) (fun k q => by unfold Pl.Nx at q; rw [← hx, if_pos e] at q; exact q)
  · exact nextOf_15 gr gm nm g _ c i f.code x (Y i) w c5 hi hn8 (by rw [e] at cz; exact cz) (hnx (by omega) (by omega) (by omega))
  · exact nextOf_16 gr gm nm g _ c i f.code x (Y i) w c5 hi hn8 (by rw [e] at cz; exact cz) (hnx (by omega) (by omega) (by omega))
end Go.Proofs.YtcgfgmlfbgbkfaaGreatDoor.W
