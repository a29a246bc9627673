import Derived.Test.YtjdfffdeljgenaaGreatDoorP21
import Derived.Test.YtjdfffdeljgenaaGreatDoorP33
import Derived.Test.YtjdfffdeljgenaaGreatDoorP01
import Derived.Test.YtjdfffdeljgenaaGreatDoorP14
import Derived.Test.YtjdfffdeljgenaaGreatDoorP22
import Derived.Test.YtjdfffdeljgenaaGreatDoorP38
set_option linter.unusedVariables false
set_option linter.unusedSimpArgs false
namespace Go.Proofs.YtjdfffdeljgenaaGreatDoor.W
open Go.RowKit
theorem cell_setCell_self {w : World} {a : Addr} {x y : Value} (h : w.cell? a = some x) : (w.setCell a y).cell? a = some y := World.cell?_setCell_same _ _ _ h
theorem below_both {B : Nat} {u w : World} (h : Below B u w) (a : Addr) (y : Value) : Below B (u.setCell a y) (w.setCell a y) := by
  refine ⟨h.os, h.tape, h.output, by simpa using h.size, fun b hb => ?_⟩
  by_cases e : b = a.block
  · subst e
    have := h.block _ hb
    simp only [World.setCell, Array.getElem?_modify, if_true]
    rw [this]
  · rw [Below.heap_setCell _ _ _ _ e, Below.heap_setCell _ _ _ _ e]; exact h.block b hb
set_option maxRecDepth 8000 in
set_option maxHeartbeats 4000000 in
theorem rfetch_pc (p g : Nat) (ca : Option Addr) (n ccap : Nat) (pc : Int) (hn : n ≤ 16384) (hpc : 0 ≤ pc ∧ pc ≤ 4294967295) (u : World) (cm : u.cell? ⟨p, 0, none⟩ = some (.pointer (some ⟨g, 0, none⟩))) (cc : u.cell? ⟨g, 0, none⟩ = some (.slice ca n ccap)) (cp : u.cell? ⟨g, 1, none⟩ = some (.int .i64 pc)) (hk : Pl.place n pc = -1) :
    Calls Tryz.prog 63 #[.pointer (some ⟨p, 0, none⟩)] u fun e u' => e = .panicked [{ v := .iface 97 (.int .i64 1), recovered := false }] ∧ Below u.heap.size u u' := by
  have HC : Hid (∀ U, Calls Tryz.prog 85 #[.slice ca n ccap, .int .i64 pc] U fun e U' => e = .returned (.int .i64 (-1)) ∧ U' = U) := fun U => by
    have := implPlace_any ca n ccap pc (by omega) (by omega) U
    rw [hk] at this
    exact this
  have dm := fl_alloc cm
  have dc := fl_alloc cc
  have dp := fl_alloc cp
  clear cm cc cp hk hn hpc
  go_enter Tryz.func63, Tryz.ntmps63
  go_wp2_with fail
  go_region_held3 (fun w2 => w2.cell? ⟨p, 0, none⟩ = some (.pointer (some ⟨g, 0, none⟩)) ∧ w2.cell? ⟨g, 0, none⟩ = some (.slice ca n ccap) ∧ w2.cell? ⟨g, 1, none⟩ = some (.int .i64 pc)) (go_keep) (first | (go_at_call 85; refine (HC.out _).mono ?_; rintro e u1 ⟨rfl, rfl⟩))
  all_goals
    go_wp2
    exact ⟨rfl, rfl, (by repeat (first | exact below_alloc _ _ | refine Below.drew ?_ | refine below_drewN ?_ _))⟩
set_option maxRecDepth 8000 in
set_option maxHeartbeats 4000000 in
theorem rfetch_old (p g : Nat) (ca : Option Addr) (n ccap : Nat) (pc : Int) (hn : n ≤ 16384) (hpc : 0 ≤ pc ∧ pc ≤ 4294967295) (u : World) (cm : u.cell? ⟨p, 0, none⟩ = some (.pointer (some ⟨g, 0, none⟩))) (cc : u.cell? ⟨g, 0, none⟩ = some (.slice ca n ccap)) (cp : u.cell? ⟨g, 1, none⟩ = some (.int .i64 pc)) (k : Nat) (hk : Pl.place n pc = k) (hkn : k < n) (s b : Nat) (cs : u.cell? ⟨p, 3, none⟩ = some (.slice (some ⟨s, 0, none⟩) n n)) (sk : u.cell? ⟨s, k, none⟩ = some (.pointer (some ⟨b, 0, none⟩))) (x0 x1 x2 x3 x4 : Int) (hb : u.heap[b]? = some (.cells #[.int .i64 x0, .int .i64 x1, .int .i64 x2, .int .i64 x3, .int .i64 x4] 74)) :
    Calls Tryz.prog 63 #[.pointer (some ⟨p, 0, none⟩)] u fun e u' => e = .returned (.agg #[.int .i64 x0, .int .i64 x1, .int .i64 x2, .int .i64 x3, .int .i64 x4]) ∧ Below u.heap.size u u' := by
  have HC : Hid (∀ U, Calls Tryz.prog 85 #[.slice ca n ccap, .int .i64 pc] U fun e U' => e = .returned (.int .i64 (k : Int)) ∧ U' = U) := fun U => by
    have := implPlace_any ca n ccap pc (by omega) (by omega) U
    rw [hk] at this
    exact this
  have dm := fl_alloc cm
  have dc := fl_alloc cc
  have dp := fl_alloc cp
  have ds := fl_alloc cs
  have dk := fl_alloc sk
  obtain ⟨b0, b1, b2, b3, b4⟩ := ins_cells hb
  have e0 := fl_alloc b0
  have e1 := fl_alloc b1
  have e2 := fl_alloc b2
  have e3 := fl_alloc b3
  have e4 := fl_alloc b4
  have ik : (k : Int) < (n : Int) := by omega
  have ig : ¬ (k : Int) < 0 := by omega
  have ig' : decide ((k : Int) < 0) = false := by simp
  clear cm cc cp hk hn hpc cs sk hb b0 b1 b2 b3 b4
  go_enter Tryz.func63, Tryz.ntmps63
  go_wp2_with fail
  go_region_held3 (fun w2 => w2.cell? ⟨p, 0, none⟩ = some (.pointer (some ⟨g, 0, none⟩)) ∧ w2.cell? ⟨g, 0, none⟩ = some (.slice ca n ccap) ∧ w2.cell? ⟨g, 1, none⟩ = some (.int .i64 pc)) (go_keep) (first | (go_at_call 85; refine (HC.out _).mono ?_; rintro e u1 ⟨rfl, rfl⟩))
  all_goals
    go_wp2
    refine bodyPost_ret (v := .agg #[.int .i64 x0, .int .i64 x1, .int .i64 x2, .int .i64 x3, .int .i64 x4]) ?hres rfl ⟨rfl, (by repeat (first | exact below_alloc _ _ | refine Below.drew ?_ | refine below_drewN ?_ _))⟩
    refine results_cell_row Tryz.results63 _ _ u.heap.size 74 #[.int .i64 x0, .int .i64 x1, .int .i64 x2, .int .i64 x3, .int .i64 x4] (0, 0) _ ?hp ?hg Tryz.underlying74 ?hd ?hi
    · rfl
    · exact heap_alloc_new u _
    · rfl
    · kernel_rfl
set_option maxRecDepth 8000 in
set_option maxHeartbeats 4000000 in
theorem rfetch_bad (p g : Nat) (cb co : Nat) (n ccap : Nat) (pc : Int) (hn : n ≤ 16384) (hpc : 0 ≤ pc ∧ pc ≤ 4294967295) (u : World) (cm : u.cell? ⟨p, 0, none⟩ = some (.pointer (some ⟨g, 0, none⟩))) (cc : u.cell? ⟨g, 0, none⟩ = some (.slice (some ⟨cb, co, none⟩) n ccap)) (cp : u.cell? ⟨g, 1, none⟩ = some (.int .i64 pc)) (k : Nat) (hk : Pl.place n pc = k) (hkn : k < n) (s : Nat) (cs : u.cell? ⟨p, 3, none⟩ = some (.slice (some ⟨s, 0, none⟩) n n)) (sk : u.cell? ⟨s, k, none⟩ = some (.pointer none)) (z : Int) (cw : u.cell? ⟨cb, co + k, none⟩ = some (.int .i64 z)) (x0 x1 x2 x3 x4 : Int) (hd : ∀ U, Calls Tryz.prog 86 #[.int .i64 z] U fun e U' => e = .returned (.tuple #[.agg #[.int .i64 x0, .int .i64 x1, .int .i64 x2, .int .i64 x3, .int .i64 x4], .bool false]) ∧ Below U.heap.size U U') :
    Calls Tryz.prog 63 #[.pointer (some ⟨p, 0, none⟩)] u fun e u' => e = .panicked [{ v := .iface 97 (.int .i64 2), recovered := false }] ∧ Below u.heap.size u u' := by
  have HC : Hid (∀ U, Calls Tryz.prog 85 #[.slice (some ⟨cb, co, none⟩) n ccap, .int .i64 pc] U fun e U' => e = .returned (.int .i64 (k : Int)) ∧ U' = U) := fun U => by
    have := implPlace_any (some ⟨cb, co, none⟩) n ccap pc (by omega) (by omega) U
    rw [hk] at this
    exact this
  have dm := fl_alloc cm
  have dc := fl_alloc cc
  have dp := fl_alloc cp
  have ds := fl_alloc cs
  have dk := fl_alloc sk
  have dw := fl_alloc cw
  have ik : (k : Int) < (n : Int) := by omega
  have ig : ¬ (k : Int) < 0 := by omega
  have ig' : decide ((k : Int) < 0) = false := by simp
  have HZ : Hid (∀ U w1 : World, Below u.heap.size u U → U.heap[u.heap.size]? = some (.cells #[.int .i64 0, .int .i64 0, .int .i64 0, .int .i64 0, .int .i64 0] 74) → Below U.heap.size U w1 → Below u.heap.size u w1 ∧ u.heap.size < w1.heap.size ∧ w1.heap[u.heap.size]? = some (.cells #[.int .i64 0, .int .i64 0, .int .i64 0, .int .i64 0, .int .i64 0] 74)) := fun U w1 a b c => ⟨a.trans (c.mono a.size), Nat.lt_of_lt_of_le (Array.getElem?_eq_some_iff.1 b).1 c.size, (c.block _ (Array.getElem?_eq_some_iff.1 b).1).trans b⟩
  have HD : Hid (∀ U, Calls Tryz.prog 86 #[.int .i64 z] U fun e U' => e = .returned (.tuple #[.agg #[.int .i64 x0, .int .i64 x1, .int .i64 x2, .int .i64 x3, .int .i64 x4], .bool false]) ∧ Below U.heap.size U U') := hd
  clear cm cc cp hk hn hpc cs sk cw hd
  go_enter Tryz.func63, Tryz.ntmps63
  go_wp2_with fail
  go_region_held3 (fun w2 => w2.cell? ⟨p, 0, none⟩ = some (.pointer (some ⟨g, 0, none⟩)) ∧ w2.cell? ⟨g, 0, none⟩ = some (.slice (some ⟨cb, co, none⟩) n ccap) ∧ w2.cell? ⟨g, 1, none⟩ = some (.int .i64 pc)) (go_keep) (first | (go_at_call 85; refine (HC.out _).mono ?_; rintro e u1 ⟨rfl, rfl⟩))
  all_goals
    go_wp2_with (go_at_call 86; refine (HD.out _).mono ?_; rintro e w1 ⟨rfl, d1⟩; have B1 : Hid (Below u.heap.size u w1) := (HZ.out _ _ (by repeat (first | exact below_alloc _ _ | refine Below.drew ?_ | refine below_drewN ?_ _)) (by exact heap_alloc_new u _) d1).1; clear d1)
    exact ⟨rfl, rfl, by first | exact B1.out.alloc B1.out.size _ | exact (B1.out.alloc B1.out.size _).drew⟩
set_option maxRecDepth 8000 in
set_option maxHeartbeats 4000000 in
theorem rfetch_new (p g : Nat) (cb co : Nat) (n ccap : Nat) (pc : Int) (hn : n ≤ 16384) (hpc : 0 ≤ pc ∧ pc ≤ 4294967295) (u : World) (cm : u.cell? ⟨p, 0, none⟩ = some (.pointer (some ⟨g, 0, none⟩))) (cc : u.cell? ⟨g, 0, none⟩ = some (.slice (some ⟨cb, co, none⟩) n ccap)) (cp : u.cell? ⟨g, 1, none⟩ = some (.int .i64 pc)) (k : Nat) (hk : Pl.place n pc = k) (hkn : k < n) (s : Nat) (cs : u.cell? ⟨p, 3, none⟩ = some (.slice (some ⟨s, 0, none⟩) n n)) (sk : u.cell? ⟨s, k, none⟩ = some (.pointer none)) (z : Int) (cw : u.cell? ⟨cb, co + k, none⟩ = some (.int .i64 z)) (x0 x1 x2 x3 x4 : Int) (hps : p ≠ s) (fs : u.frozen? ⟨s, k, none⟩ = false) (hd : ∀ U, Calls Tryz.prog 86 #[.int .i64 z] U fun e U' => e = .returned (.tuple #[.agg #[.int .i64 x0, .int .i64 x1, .int .i64 x2, .int .i64 x3, .int .i64 x4], .bool true]) ∧ Below U.heap.size U U') :
    Calls Tryz.prog 63 #[.pointer (some ⟨p, 0, none⟩)] u fun e u' => e = .returned (.agg #[.int .i64 x0, .int .i64 x1, .int .i64 x2, .int .i64 x3, .int .i64 x4]) ∧ ∃ b, u.heap.size ≤ b ∧ u'.heap[b]? = some (.cells #[.int .i64 x0, .int .i64 x1, .int .i64 x2, .int .i64 x3, .int .i64 x4] 74) ∧ Below u.heap.size (u.setCell ⟨s, k, none⟩ (.pointer (some ⟨b, 0, none⟩))) u' := by
  have HS : Hid (∀ w1 : World, Below u.heap.size u w1 → (∀ o, (w1.alloc o).cell? ⟨p, 3, none⟩ = some (.slice (some ⟨s, 0, none⟩) n n)) ∧ (∀ o, (w1.alloc o).cell? ⟨s, k, none⟩ = some (.pointer none)) ∧ (∀ o, (w1.alloc o).frozen? ⟨s, k, none⟩ = false)) := fun w1 h => by
    have h1 := below_cell h cs
    have h2 := below_cell h sk
    have h3 : w1.frozen? ⟨s, k, none⟩ = false := (h.frozen (block_lt_of_cell sk)).trans fs
    exact ⟨fl_alloc h1, fl_alloc h2, fun o => ((below_alloc w1 o).frozen (block_lt_of_cell h2)).trans h3⟩
  have HB : Hid (s < u.heap.size ∧ p < u.heap.size) := ⟨block_lt_of_cell sk, block_lt_of_cell cs⟩
  have HC : Hid (∀ U, Calls Tryz.prog 85 #[.slice (some ⟨cb, co, none⟩) n ccap, .int .i64 pc] U fun e U' => e = .returned (.int .i64 (k : Int)) ∧ U' = U) := fun U => by
    have := implPlace_any (some ⟨cb, co, none⟩) n ccap pc (by omega) (by omega) U
    rw [hk] at this
    exact this
  have dm := fl_alloc cm
  have dc := fl_alloc cc
  have dp := fl_alloc cp
  have ds := fl_alloc cs
  have dk := fl_alloc sk
  have dw := fl_alloc cw
  have ik : (k : Int) < (n : Int) := by omega
  have ig : ¬ (k : Int) < 0 := by omega
  have ig' : decide ((k : Int) < 0) = false := by simp
  have HZ : Hid (∀ U w1 : World, Below u.heap.size u U → U.heap[u.heap.size]? = some (.cells #[.int .i64 0, .int .i64 0, .int .i64 0, .int .i64 0, .int .i64 0] 74) → Below U.heap.size U w1 → Below u.heap.size u w1 ∧ u.heap.size < w1.heap.size ∧ w1.heap[u.heap.size]? = some (.cells #[.int .i64 0, .int .i64 0, .int .i64 0, .int .i64 0, .int .i64 0] 74)) := fun U w1 a b c => ⟨a.trans (c.mono a.size), Nat.lt_of_lt_of_le (Array.getElem?_eq_some_iff.1 b).1 c.size, (c.block _ (Array.getElem?_eq_some_iff.1 b).1).trans b⟩
  have HD : Hid (∀ U, Calls Tryz.prog 86 #[.int .i64 z] U fun e U' => e = .returned (.tuple #[.agg #[.int .i64 x0, .int .i64 x1, .int .i64 x2, .int .i64 x3, .int .i64 x4], .bool true]) ∧ Below U.heap.size U U') := hd
  clear cm cc cp hk hn hpc cs sk cw hd fs
  go_enter Tryz.func63, Tryz.ntmps63
  go_wp2_with fail
  go_region_held3 (fun w2 => w2.cell? ⟨p, 0, none⟩ = some (.pointer (some ⟨g, 0, none⟩)) ∧ w2.cell? ⟨g, 0, none⟩ = some (.slice (some ⟨cb, co, none⟩) n ccap) ∧ w2.cell? ⟨g, 1, none⟩ = some (.int .i64 pc)) (go_keep) (first | (go_at_call 85; refine (HC.out _).mono ?_; rintro e u1 ⟨rfl, rfl⟩))
  all_goals
    go_upto_region 9 with (go_at_call 86; refine (HD.out _).mono ?_; rintro e w1 ⟨rfl, d1⟩; have B1 : Hid (Below u.heap.size u w1 ∧ u.heap.size < w1.heap.size ∧ w1.heap[u.heap.size]? = some (.cells #[.int .i64 0, .int .i64 0, .int .i64 0, .int .i64 0, .int .i64 0] 74)) := HZ.out _ _ (by repeat (first | exact below_alloc _ _ | refine Below.drew ?_ | refine below_drewN ?_ _)) (by exact heap_alloc_new u _) d1; clear d1; obtain ⟨v1, v2, v3⟩ := HS.out w1 B1.out.1)
    obtain ⟨W, hW⟩ : ∃ W, W = (w1.alloc (.cells #[.int .i64 x0, .int .i64 x1, .int .i64 x2, .int .i64 x3, .int .i64 x4] 74)).setCell ⟨s, k, none⟩ (.pointer (some ⟨w1.heap.size, 0, none⟩)) := ⟨_, rfl⟩
    have y1 : W.cell? ⟨p, 3, none⟩ = some (.slice (some ⟨s, 0, none⟩) n n) := by rw [hW, World.cell?_setCell_other _ _ _ _ (by intro e; injection e with e1 _; exact hps e1.symm)]; exact v1 _
    have y2 : W.cell? ⟨s, k, none⟩ = some (.pointer (some ⟨w1.heap.size, 0, none⟩)) := by rw [hW]; exact cell_setCell_self (v2 _)
    have hb1 := B1.out
    have hb2 := HB.out
    have y3 : W.heap[w1.heap.size]? = some (.cells #[.int .i64 x0, .int .i64 x1, .int .i64 x2, .int .i64 x3, .int .i64 x4] 74) := by rw [hW, Below.heap_setCell _ ⟨s, k, none⟩ _ _ (by show w1.heap.size ≠ s; omega)]; exact heap_alloc_new w1 _
    have y4 : W.heap[u.heap.size]? = some (.cells #[.int .i64 0, .int .i64 0, .int .i64 0, .int .i64 0, .int .i64 0] 74) := by rw [hW, Below.heap_setCell _ ⟨s, k, none⟩ _ _ (by show u.heap.size ≠ s; omega), Below.heap_alloc _ _ _ hb1.2.1]; exact hb1.2.2
    have y5 : Below u.heap.size (u.setCell ⟨s, k, none⟩ (.pointer (some ⟨w1.heap.size, 0, none⟩))) W := by
      rw [hW]
      exact below_both (hb1.1.alloc hb1.1.size _) _ _
    rw [← hW]
    have Y3 : Hid (W.heap[w1.heap.size]? = some (.cells #[.int .i64 x0, .int .i64 x1, .int .i64 x2, .int .i64 x3, .int .i64 x4] 74)) := y3
    have Y4 : Hid (W.heap[u.heap.size]? = some (.cells #[.int .i64 0, .int .i64 0, .int .i64 0, .int .i64 0, .int .i64 0] 74)) := y4
    have Y5 : Hid (Below u.heap.size (u.setCell ⟨s, k, none⟩ (.pointer (some ⟨w1.heap.size, 0, none⟩))) W) := y5
    have Y6 : Hid (u.heap.size < w1.heap.size) := hb1.2.1
    clear hW y3 y4 y5 hb1 hb2 v1 v2 v3
    go_wp2_with (first | (refine wpList_load_row rfl 74 _ rfl w1.heap.size ?hx 74 #[.int .i64 x0, .int .i64 x1, .int .i64 x2, .int .i64 x3, .int .i64 x4] (0, 0) _ ?hg Tryz.underlying74 ?hd ?hi ?_; (case hx => rfl); (case hg => exact Y3.out); (case hd => rfl); (case hi => kernel_rfl)) | (refine wpList_store_row rfl 74 _ _ rfl u.heap.size #[.int .i64 x0, .int .i64 x1, .int .i64 x2, .int .i64 x3, .int .i64 x4] ?hx ?hy 74 #[.int .i64 0, .int .i64 0, .int .i64 0, .int .i64 0, .int .i64 0] ?hg ?hi ?ho ?h1 ?_; (case hx => rfl); (case hy => rfl); (case hg => exact Y4.out); (case hi => kernel_rfl); (case ho => kernel_rfl); (case h1 => kernel_rfl)))
    refine bodyPost_ret (v := .agg #[.int .i64 x0, .int .i64 x1, .int .i64 x2, .int .i64 x3, .int .i64 x4]) ?hres rfl ⟨rfl, w1.heap.size, Nat.le_of_lt Y6.out, ?_, ?_⟩
    · refine results_cell_row Tryz.results63 _ _ u.heap.size 74 #[.int .i64 x0, .int .i64 x1, .int .i64 x2, .int .i64 x3, .int .i64 x4] (0, 0) _ ?hp ?hg Tryz.underlying74 ?hd ?hi
      · rfl
      · exact setRow_heap _ _ _ _ _ _ Y4.out
      · rfl
      · kernel_rfl
    · exact (setRow_other _ _ _ _ (by have := Y6.out; omega)).trans Y3.out
    · exact below_setRow Y5.out (Nat.le_refl _) _
end Go.Proofs.YtjdfffdeljgenaaGreatDoor.W
namespace Go.Proofs.YtjdfffdeljgenaaGreatDoor.W
open Go.RowKit
theorem Run.other {D : Nat → Prop} {g : Nat} {u u' : World} {v : MV} {m : Pl.Mac} (h : Run D g u v m) (hs : u.heap.size ≤ u'.heap.size) (hb : ∀ (i x : Nat), (blks g v)[i]? = some (some x) → u'.heap[x]? = u.heap[x]?) : Run D g u' v m :=
  ⟨fun x hx => ⟨Nat.lt_of_lt_of_le (h.av x hx).1 hs, (h.av x hx).2⟩, (hb 0 g rfl).trans h.box,
   h.code.other hs fun x hx => hb 1 x (by show some (v.code.a.map (·.block)) = _; rw [hx]),
   h.regs.other fun x hx => hb 2 x (by show some (v.regs.a.map (·.block)) = _; rw [hx]),
   h.data.other fun x hx => hb 3 x (by show some (v.data.a.map (·.block)) = _; rw [hx]),
   h.stk.other fun x hx => hb 4 x (by show some (v.stk.a.map (·.block)) = _; rw [hx]),
   h.inp.other hs fun x hx => hb 5 x (by show some (v.inp.a.map (·.block)) = _; rw [hx]),
   h.out.other fun x hx => hb 6 x (by show some (v.out.a.map (·.block)) = _; rw [hx]),
   h.ap, fun i x hx => Nat.lt_of_lt_of_le (h.lt i x hx) hs, fun i x hx j => (World.frozen?_of_block (w := u) (hb i x hx)).trans (h.fz i x hx j)⟩
def Seen (D : Nat → Prop) (lo s : Nat) (u : World) (ns : List Int) : Prop := ∀ k, k < ns.length → u.cell? ⟨s, k, none⟩ = some (.pointer none) ∨ ∃ b, u.cell? ⟨s, k, none⟩ = some (.pointer (some ⟨b, 0, none⟩)) ∧ D b ∧ lo ≤ b ∧ u.heap[b]? = some (.cells (Pl.decV (ns.getD k 0)) 74) ∧ Pl.dec (ns.getD k 0) ≠ 0
def rcells (g s n : Nat) (v : MV) : Array Value := #[.pointer (some ⟨g, 0, none⟩), .iface 78 (.slice v.data.a v.data.len v.data.cap), .iface 79 (.slice v.stk.a v.stk.len v.stk.cap), .slice (some ⟨s, 0, none⟩) n n]
structure Rn (D : Nat → Prop) (lo p g s : Nat) (u : World) (v : MV) (m : Pl.Mac) : Prop where
  run : Run D g u v m
  pd : D p
  sd : D s
  ps : p ≠ s
  pl : p < lo
  sl : s < lo
  ls : lo ≤ u.heap.size
  row : u.heap[p]? = some (.cells (rcells g s m.code.length v) 57)
  tabs : Tabs u
  td : D 0 ∧ D 1 ∧ D 2 ∧ 0 ≠ s ∧ 1 ≠ s ∧ 2 ≠ s
  fz : ∀ k, u.frozen? ⟨s, k, none⟩ = false
  seen : Seen D lo s u m.code
theorem Tabs.keep {u u' : World} (h : Tabs u) (h0 : u'.heap[0]? = u.heap[0]?) (h1 : u'.heap[1]? = u.heap[1]?) (h2 : u'.heap[2]? = u.heap[2]?) : Tabs u' :=
  ⟨fun k hk => (World.cell?_of_block (w := u) h0).trans (h.ali k hk), fun k hk => (World.cell?_of_block (w := u) h1).trans (h.lds k hk), fun k hk => (World.cell?_of_block (w := u) h2).trans (h.sts k hk)⟩
theorem Rn.rr {D : Nat → Prop} {lo p g s : Nat} {u : World} {v : MV} {m : Pl.Mac} (h : Rn D lo p g s u v m) : Rr D p g u v m := ⟨h.run, h.pd, cell_of_row u p 0 _ 57 (0, 0) h.row⟩
theorem Rn.cell {D : Nat → Prop} {lo p g s : Nat} {u : World} {v : MV} {m : Pl.Mac} (h : Rn D lo p g s u v m) (j : Nat) : u.cell? ⟨p, j, none⟩ = (rcells g s m.code.length v)[j]? := cell_of_row u p j _ 57 (0, 0) h.row
theorem Rn.step {D : Nat → Prop} {lo p g s : Nat} {u : World} {v : MV} {m : Pl.Mac} (h : Rn D lo p g s u v m) {u' : World} {v' : MV} {m' : Pl.Mac} (hR : Run D g u' v' m') (hM : MemS v v') (hc : m'.code = m.code) (X : Nat) (xp : X ≠ p) (xs : X ≠ s) (xl : X < lo) (xt : 0 ≠ X ∧ 1 ≠ X ∧ 2 ≠ X) (hS : St (fun x => D x ∧ x ≠ X) u u') : Rn D lo p g s u' v' m' := by
  have ks : u'.heap[s]? = u.heap[s]? := hS.keep s ⟨h.sd, xs.symm⟩
  refine ⟨hR, h.pd, h.sd, h.ps, h.pl, h.sl, Nat.le_trans h.ls hS.size, ?_, h.tabs.keep (hS.keep _ ⟨h.td.1, xt.1⟩) (hS.keep _ ⟨h.td.2.1, xt.2.1⟩) (hS.keep _ ⟨h.td.2.2.1, xt.2.2⟩), h.td, fun k => (World.frozen?_of_block (w := u) ks).trans (h.fz k), ?_⟩
  · rw [hS.keep p ⟨h.pd, xp.symm⟩, h.row, hc]
    unfold rcells
    rw [hM.data, hM.stk]
  · intro k hk
    rw [hc] at hk ⊢
    rcases h.seen k hk with e | ⟨b, e, hb, hl, hrow, hd⟩
    · exact .inl ((World.cell?_of_block (w := u) ks).trans e)
    · exact .inr ⟨b, (World.cell?_of_block (w := u) ks).trans e, hb, hl, (hS.keep b ⟨hb, by omega⟩).trans hrow, hd⟩
theorem Rn.keep {D : Nat → Prop} {lo p g s : Nat} {u : World} {v : MV} {m : Pl.Mac} (h : Rn D lo p g s u v m) {u' : World} (hB : Below u.heap.size u u') : Rn D lo p g s u' v m := by
  have ks : u'.heap[s]? = u.heap[s]? := hB.block s (h.run.av s h.sd).1
  refine ⟨h.run.keep hB, h.pd, h.sd, h.ps, h.pl, h.sl, Nat.le_trans h.ls hB.size, (hB.block p (h.run.av p h.pd).1).trans h.row, h.tabs.keep (hB.block _ (h.run.av _ h.td.1).1) (hB.block _ (h.run.av _ h.td.2.1).1) (hB.block _ (h.run.av _ h.td.2.2.1).1), h.td, fun k => (World.frozen?_of_block (w := u) ks).trans (h.fz k), ?_⟩
  intro k hk
  rcases h.seen k hk with e | ⟨b, e, hb, hl, hrow, hd⟩
  · exact .inl ((World.cell?_of_block (w := u) ks).trans e)
  · exact .inr ⟨b, (World.cell?_of_block (w := u) ks).trans e, hb, hl, (hB.block b (h.run.av b hb).1).trans hrow, hd⟩
def fetchEnd (m : Pl.Mac) : Ending :=
  if Pl.place m.code.length m.pc = -1 then ends 1 else if Pl.dec (Pl.word m) = 0 then ends 2 else .returned (.agg (Pl.decV (Pl.word m)))
theorem rfetch_run {D : Nat → Prop} {lo p g s : Nat} {u : World} {v : MV} {m : Pl.Mac} (h : Rn D lo p g s u v m) (hv : Pl.Vd m) :
    Calls Tryz.prog 63 #[.pointer (some ⟨p, 0, none⟩)] u fun e u' => e = fetchEnd m ∧ ∃ D' : Nat → Prop, (∀ x, D x → D' x) ∧ Rn D' lo p g s u' v m ∧ St (fun x => D x ∧ x ≠ s) u u' := by
  have hcl : m.code.length = v.code.len := h.run.code.1
  have cm : u.cell? ⟨p, 0, none⟩ = some (.pointer (some ⟨g, 0, none⟩)) := h.cell 0
  have cs : u.cell? ⟨p, 3, none⟩ = some (.slice (some ⟨s, 0, none⟩) m.code.length m.code.length) := h.cell 3
  have cc : u.cell? ⟨g, 0, none⟩ = some (.slice v.code.a m.code.length v.code.cap) := by rw [hcl]; exact h.run.cell 0
  have cp : u.cell? ⟨g, 1, none⟩ = some (.int .i64 m.pc) := h.run.cell 1
  have hn := hv.code
  have keep : ∀ u', Below u.heap.size u u' → ∃ D' : Nat → Prop, (∀ x, D x → D' x) ∧ Rn D' lo p g s u' v m ∧ St (fun x => D x ∧ x ≠ s) u u' := fun u' hB => ⟨D, fun _ q => q, h.keep hB, (h.run.st hB).mono fun x q => q.1⟩
  unfold fetchEnd
  rcases Pl.place_cases m.code.length m.pc with hq | ⟨k, hq, hk⟩
  · rw [if_pos hq]
    exact (rfetch_pc p g _ _ _ m.pc hn hv.pc u cm cc cp hq).mono fun e u' ⟨he, hB⟩ => ⟨he, keep u' hB⟩
  rw [if_neg (by omega)]
  have hw : Pl.word m = m.code.getD k 0 := by unfold Pl.word; rw [hq]; rfl
  rw [hw]
  rcases h.seen k hk with e | ⟨b, e, hb, hl, hrow, hd⟩
  rotate_left
  · rw [if_neg hd]
    exact (rfetch_old p g _ _ _ m.pc hn hv.pc u cm cc cp k hq hk s b cs e _ _ _ _ _ hrow).mono fun e u' ⟨he, hB⟩ => ⟨he, keep u' hB⟩
  obtain ⟨i1, i2, i3, i4, i5⟩ := h.run.code
  rcases i5 with i5 | ⟨cb, co, ia, _, hbb, hcc⟩
  · omega
  have cw : u.cell? ⟨cb, co + k, none⟩ = some (.int .i64 (m.code.getD k 0)) := hcc k (by omega)
  rw [ia] at cc
  by_cases hd : Pl.dec (m.code.getD k 0) = 0
  · rw [if_pos hd]
    refine (rfetch_bad p g cb co _ _ m.pc hn hv.pc u cm cc cp k hq hk s cs e _ cw (Pl.dec (m.code.getD k 0) : Int) (Pl.dRd (m.code.getD k 0)) (Pl.dR1 (m.code.getD k 0)) (Pl.dR2 (m.code.getD k 0)) (Pl.dIm (m.code.getD k 0)) (fun U => ?_)).mono fun e u' ⟨he, hB⟩ => ⟨he, keep u' hB⟩
    have := implDec_any (m.code.getD k 0) U
    rw [show (Pl.dec (m.code.getD k 0) != 0) = false by rw [hd]; rfl] at this
    exact this
  rw [if_neg hd]
  refine (rfetch_new p g cb co _ _ m.pc hn hv.pc u cm cc cp k hq hk s cs e _ cw (Pl.dec (m.code.getD k 0) : Int) (Pl.dRd (m.code.getD k 0)) (Pl.dR1 (m.code.getD k 0)) (Pl.dR2 (m.code.getD k 0)) (Pl.dIm (m.code.getD k 0)) h.ps (h.fz k) (fun U => ?_)).mono fun e2 u' ⟨he, b, hb1, hb2, hB⟩ => ⟨he, ?_⟩
  · have := implDec_any (m.code.getD k 0) U
    rw [show (Pl.dec (m.code.getD k 0) != 0) = true by simpa using hd] at this
    exact this
  have hS1 : St (fun x => D x ∧ x ≠ s) u (u.setCell ⟨s, k, none⟩ (.pointer (some ⟨b, 0, none⟩))) := St.set fun x hx => hx.2
  have hsz : (u.setCell ⟨s, k, none⟩ (.pointer (some ⟨b, 0, none⟩))).heap.size = u.heap.size := by simp
  have hR1 : Run D g (u.setCell ⟨s, k, none⟩ (.pointer (some ⟨b, 0, none⟩))) v m := h.run.other (by omega) fun i x hx => Below.heap_setCell _ _ _ _ (fun q => (h.run.av s h.sd).2 i (by rw [hx]; exact congrArg _ (congrArg _ q)))
  have hS : St (fun x => D x ∧ x ≠ s) u u' := ⟨hB.os, hB.tape, hB.output, by have := hB.size; omega, fun x hx => (hB.block x (h.run.av x hx.1).1).trans (hS1.keep x hx)⟩
  have hR2 : Run D g u' v m := hR1.keep (by rw [hsz]; exact hB)
  have hlt : b < u'.heap.size := (Array.getElem?_eq_some_iff.1 hb2).1
  have hslt := (h.run.av s h.sd).1
  have hR3 : Run (fun x => D x ∨ x = b) g u' v m := by
    refine ⟨fun x hx => ?_, hR2.box, hR2.code, hR2.regs, hR2.data, hR2.stk, hR2.inp, hR2.out, hR2.ap, hR2.lt, hR2.fz⟩
    rcases hx with hx | rfl
    · exact hR2.av x hx
    · exact ⟨hlt, fun i q => by have := h.run.lt i _ q; omega⟩
  have ks : ∀ j, u'.cell? ⟨s, j, none⟩ = (u.setCell ⟨s, k, none⟩ (.pointer (some ⟨b, 0, none⟩))).cell? ⟨s, j, none⟩ := fun j => World.cell?_of_block (w := u.setCell ⟨s, k, none⟩ (.pointer (some ⟨b, 0, none⟩))) (hB.block s hslt)
  refine ⟨fun x => D x ∨ x = b, fun x q => .inl q, ⟨hR3, .inl h.pd, .inl h.sd, h.ps, h.pl, h.sl, Nat.le_trans h.ls hS.size, (hS.keep p ⟨h.pd, h.ps⟩).trans h.row, h.tabs.keep (hS.keep _ ⟨h.td.1, h.td.2.2.2.1⟩) (hS.keep _ ⟨h.td.2.1, h.td.2.2.2.2.1⟩) (hS.keep _ ⟨h.td.2.2.1, h.td.2.2.2.2.2⟩), ⟨.inl h.td.1, .inl h.td.2.1, .inl h.td.2.2.1, h.td.2.2.2⟩, fun j => ?_, ?_⟩, hS⟩
  · refine (World.frozen?_of_block (w := u.setCell ⟨s, k, none⟩ (.pointer (some ⟨b, 0, none⟩))) (hB.block s hslt)).trans ?_
    rw [World.frozen?_setCell]
    exact h.fz j
  · intro j hj
    by_cases ej : j = k
    · subst ej
      exact .inr ⟨b, (ks j).trans (cell_setCell_self e), .inr rfl, Nat.le_trans h.ls hb1, hb2, hd⟩
    · have kj : u'.cell? ⟨s, j, none⟩ = u.cell? ⟨s, j, none⟩ := (ks j).trans (World.cell?_setCell_other _ _ _ _ (by intro q; injection q with _ q2; exact ej q2.symm))
      rcases h.seen j hj with e3 | ⟨b3, e3, hb3, hl3, hrow3, hd3⟩
      · exact .inl (kj.trans e3)
      · exact .inr ⟨b3, kj.trans e3, .inl hb3, hl3, (hS.keep b3 ⟨hb3, by have := h.sl; omega⟩).trans hrow3, hd3⟩
end Go.Proofs.YtjdfffdeljgenaaGreatDoor.W
namespace Go.Proofs.YtjdfffdeljgenaaGreatDoor.Pl
theorem step_pc {m : Mac} (h : place m.code.length m.pc = -1) : step m = { m with steps := m.steps + 1, fin := 2, val := 1 } := by unfold step; rw [if_pos h]
theorem step_dec {m : Mac} (h : place m.code.length m.pc ≠ -1) (hd : dec (word m) = 0) : step m = { m with steps := m.steps + 1, fin := 2, val := 2 } := by unfold step; rw [if_neg h, if_pos hd]
theorem step_bad {m : Mac} (h : place m.code.length m.pc ≠ -1) (hd : dec (word m) ≠ 0) (ha : (act { m with steps := m.steps + 1 } (insOf (word m))).2 ≠ 0) : step m = { (act { m with steps := m.steps + 1 } (insOf (word m))).1 with fin := 2, val := (act { m with steps := m.steps + 1 } (insOf (word m))).2 } := by unfold step; rw [if_neg h, if_neg hd, if_neg ha]
theorem step_good {m : Mac} (h : place m.code.length m.pc ≠ -1) (hd : dec (word m) ≠ 0) (ha : (act { m with steps := m.steps + 1 } (insOf (word m))).2 = 0) : step m = (act { m with steps := m.steps + 1 } (insOf (word m))).1 := by unfold step; rw [if_neg h, if_neg hd, if_pos ha]
theorem run_ended {m : Mac} (h : m.fin ≠ 0) (n : Nat) : run n m = m := W.Pl_run_stop fun q => h q.1
theorem form_mem : ∀ k : Nat, k < 48 → 28 ≤ k → k ≤ 36 → -2048 ≤ lo (fmN k) ∧ hi (fmN k) ≤ 2047 := by decide +kernel
theorem mem_im {n : Int} (h : dec n ≠ 0) (h1 : 28 ≤ (insOf n).op) (h2 : (insOf n).op ≤ 36) : -2048 ≤ (insOf n).im ∧ (insOf n).im ≤ 2047 := by
  obtain ⟨k1, k2, hk⟩ := dec_ok h
  replace h1 : (28 : Int) ≤ (dec n : Int) := h1
  replace h2 : (dec n : Int) ≤ 36 := h2
  have hl := form_mem (dec n) (by omega) (by omega) (by omega)
  show -2048 ≤ dIm n ∧ dIm n ≤ 2047
  generalize fmN (dec n) = f at *
  unfold okF rg imo at hk
  simp only [Bool.and_eq_true, decide_eq_true_eq] at hk
  obtain ⟨_, ⟨d1, d2⟩, _⟩ := hk
  exact ⟨by omega, by omega⟩
end Go.Proofs.YtjdfffdeljgenaaGreatDoor.Pl
namespace Go.Proofs.YtjdfffdeljgenaaGreatDoor.W
open Go.RowKit
def LopMk (fb rb p g : Nat) (fl fn st : Int) (u24 u25 u36 u37 u38 u39 : Value) (dv : Array Value)  (L : Array Bool) : Act := { tmps := #[.pointer (some ⟨fb, 0, none⟩), .pointer (some ⟨rb, 0, none⟩), .int .i64 (fl), .bool true, .bool true, .pointer (some ⟨p, 0, none⟩), .pointer (some ⟨p, 0, none⟩), .pointer (some ⟨p, 0, none⟩), .pointer (some ⟨g, 0, none⟩), .pointer (some ⟨g, 0, none⟩), .pointer (some ⟨g, 8, none⟩), .int .i64 (fn), .bool true, .bool true, .bool true, .pointer (some ⟨p, 0, none⟩), .pointer (some ⟨p, 0, none⟩), .pointer (some ⟨p, 0, none⟩), .pointer (some ⟨g, 0, none⟩), .pointer (some ⟨g, 0, none⟩), .pointer (some ⟨g, 7, none⟩), .int .i64 (st), .bool true, .bool true, u24, u25, .pointer (some ⟨p, 0, none⟩), .pointer (some ⟨p, 0, none⟩), .pointer (some ⟨p, 0, none⟩), .pointer (some ⟨g, 0, none⟩), .pointer (some ⟨g, 0, none⟩), .pointer (some ⟨g, 7, none⟩), .int .i64 (st), .int .i64 (st + 1), .pointer (some ⟨g, 0, none⟩), .pointer (some ⟨g, 7, none⟩), sld u36 L 0 (.pointer (some ⟨p, 0, none⟩)), sld u37 L 1 (.pointer (some ⟨p, 0, none⟩)), sld u38 L 2 (.agg dv), sld u39 L 3 (.tuple #[])], defers := [] }
theorem fetchEnd_ok {m : Pl.Mac} (h : fetchEnd m = .returned (.agg (Pl.decV (Pl.word m)))) : Pl.place m.code.length m.pc ≠ -1 ∧ Pl.dec (Pl.word m) ≠ 0 := by
  unfold fetchEnd at h
  by_cases hp : Pl.place m.code.length m.pc = -1
  · rw [if_pos hp] at h; cases h
  · by_cases hd : Pl.dec (Pl.word m) = 0
    · rw [if_neg hp, if_pos hd] at h; cases h
    · exact ⟨hp, hd⟩
def LoopPost (D : Nat → Prop) (lo p g s fb : Nat) (u : World) (v : MV) (m : Pl.Mac) (fuel : Int) (e : Ending) (u' : World) : Prop := ∃ (D' : Nat → Prop) (v' : MV) (m' : Pl.Mac) (f : Int), (∀ x, D x → D' x) ∧ Rn D' lo p g s u' v' m' ∧ MemS v v' ∧ St (fun x => D x ∧ x ≠ s ∧ x ≠ fb) u u' ∧ e = ends f ∧ (f = 0 → Pl.run fuel.toNat m = m') ∧ (f ≠ 0 → Pl.run fuel.toNat m = { m' with fin := 2, val := f })
theorem setCell_row {w : World} {b : Nat} {x y : Value} {t : TypeId} (h : w.heap[b]? = some (.cells #[x] t)) : (w.setCell ⟨b, 0, none⟩ y).heap[b]? = some (.cells #[y] t) := by
  simp only [World.setCell, Array.getElem?_modify, if_true]
  rw [h]
  rfl
set_option maxRecDepth 8000 in
set_option maxHeartbeats 4000000 in
theorem rloop_run {D : Nat → Prop} {lo p g s fb rb : Nat} {u : World} {v : MV} {m : Pl.Mac} (h : Rn D lo p g s u v m) (hv : Pl.Vd m) (fuel : Int) (hfl : -9223372036854775808 ≤ fuel ∧ fuel ≤ 9223372036854775807) (hfb : u.heap[fb]? = some (.cells #[.int .i64 fuel] 3)) (hrb : u.heap[rb]? = some (.cells #[.pointer (some ⟨p, 0, none⟩)] 80)) (dfb : D fb) (drb : D rb) (hne : fb ≠ rb ∧ fb ≠ p ∧ fb ≠ s ∧ rb ≠ s ∧ fb < lo ∧ 0 ≠ fb ∧ 1 ≠ fb ∧ 2 ≠ fb) :
    Calls Tryz.prog 61 #[.pointer (some ⟨fb, 0, none⟩), .pointer (some ⟨rb, 0, none⟩)] u fun e u' => LoopPost D lo p g s fb u v m fuel e u' := by
  have HH : Hid (Rn D lo p g s u v m) := h
  have HV : Hid (Pl.Vd m) := hv
  have HF : Hid (u.heap[fb]? = some (.cells #[.int .i64 fuel] 3)) := hfb
  have HRB : Hid (u.heap[rb]? = some (.cells #[.pointer (some ⟨p, 0, none⟩)] 80)) := hrb
  have HNE : Hid (fb ≠ rb ∧ fb ≠ p ∧ fb ≠ s ∧ rb ≠ s ∧ fb < lo ∧ 0 ≠ fb ∧ 1 ≠ fb ∧ 2 ≠ fb) := hne
  have HDF : Hid (D fb ∧ D rb) := ⟨dfb, drb⟩
  clear h hv hfb hrb hne dfb drb
  go_enter Tryz.func61, Tryz.ntmps61
  go_wp2_with fail
  go_loopw [] (fun wr => ∃ (D' : Nat → Prop) (v2 : MV) (m2 : Pl.Mac) (k : Nat), k ≤ fuel.toNat ∧ (∀ x, D x → D' x) ∧ Rn D' lo p g s wr v2 m2 ∧ MemS v v2 ∧ Pl.Vd m2 ∧ m2.code = m.code ∧ wr.heap[fb]? = some (.cells #[.int .i64 (fuel - k)] 3) ∧ Pl.run (fuel.toNat - k) m2 = Pl.run fuel.toNat m ∧ St (fun x => D x ∧ x ≠ s ∧ x ≠ fb) u wr) (fun wr => (intOf ((wr.cell? ⟨fb, 0, none⟩).getD undef)).toNat)
  case atStart => exact ⟨D, v, m, 0, Nat.zero_le _, fun _ q => q, HH.out, MemS.refl v, HV.out, rfl, by simpa using HF.out, rfl, St.refl _ _⟩
  case round =>
    obtain ⟨D', v2, m2, k, hk, hD, hR, hM, hVd, hcode, hfw, hrun, hS⟩ := hrel
    have cf : wr.cell? ⟨fb, 0, none⟩ = some (.int .i64 (fuel - k)) := cell_of_row wr fb 0 _ 3 (0, 0) hfw
    have zf : wr.frozen? ⟨fb, 0, none⟩ = false := frozen_of_row wr fb 0 _ 3 hfw
    have cb : wr.cell? ⟨rb, 0, none⟩ = some (.pointer (some ⟨p, 0, none⟩)) := cell_of_row wr rb 0 _ 80 (0, 0) ((hS.keep rb ⟨HDF.out.2, HNE.out.2.2.2.1, fun q => HNE.out.1 q.symm⟩).trans HRB.out)
    have cm : wr.cell? ⟨p, 0, none⟩ = some (.pointer (some ⟨g, 0, none⟩)) := hR.cell 0
    have c8 : wr.cell? ⟨g, 8, none⟩ = some (.int .i64 m2.fin) := hR.run.cell 8
    have c7 : wr.cell? ⟨g, 7, none⟩ = some (.int .i64 m2.steps) := hR.run.cell 7
    have f7 : wr.frozen? ⟨g, 7, none⟩ = false := hR.run.unfrozen 7
    have RR : Hid (Rn D' lo p g s wr v2 m2) := hR
    have VV : Hid (Pl.Vd m2) := hVd
    have SS : Hid (St (fun x => D x ∧ x ≠ s ∧ x ≠ fb) u wr) := hS
    have UU : Hid (Pl.run (fuel.toNat - k) m2 = Pl.run fuel.toNat m) := hrun
    have FW : Hid (wr.heap[fb]? = some (.cells #[.int .i64 (fuel - k)] 3)) := hfw
    have HD2 : Hid (∀ x, D x → D' x) := hD
    have MM : Hid (MemS v v2) := hM
    have HCD : Hid (m2.code = m.code) := hcode
    have HKK : Hid (k ≤ fuel.toNat) := hk
    clear hR hVd hS hrun hfw hD hM hcode hk
    by_cases hgo : (k : Int) < fuel ∧ m2.fin = 0 ∧ m2.steps < 1000000
    · obtain ⟨g1, g2, g3⟩ := hgo
      have e1 : decide ((k : Int) < fuel) = true := by simpa using g1
      have e2 : (m2.fin == 0) = true := by simpa using g2
      have e3 : decide (m2.steps < 1000000) = true := by simpa using g3
      have hst := VV.out.steps
      have hw : IntKind.i64.wrap (m2.steps + 1) = m2.steps + 1 := by rw [IntKind.wrap_i64]; omega
      have G2 : Hid (m2.fin = 0) := g2
      have G3 : Hid (m2.steps < 1000000) := g3
      clear g2 g3
      go_upto_region 3 with fail
      obtain ⟨U1, hU1⟩ : ∃ U1, U1 = wr.setCell ⟨g, 7, none⟩ (.int .i64 (m2.steps + 1)) := ⟨_, rfl⟩
      obtain ⟨m3, hm3⟩ : ∃ m3 : Pl.Mac, m3 = { m2 with steps := m2.steps + 1 } := ⟨_, rfl⟩
      have s1 : St D' wr U1 := by rw [hU1]; exact St.set (RR.out.run.ne 0 rfl)
      have r1 : Rn D' lo p g s U1 v2 m3 := RR.out.step (by rw [hU1, hm3]; exact RR.out.run.setSteps _) (MemS.refl v2) (by rw [hm3]) fb HNE.out.2.1 HNE.out.2.2.1 HNE.out.2.2.2.2.1 HNE.out.2.2.2.2.2 (s1.mono fun x hx => hx.1)
      have RU1 : Hid (Rn D' lo p g s U1 v2 m3) := r1
      have v3d : Pl.Vd m3 := by rw [hm3]; exact VV.out.setSteps _ (by have := G3.out; omega)
      have HRD : Hid (D' rb ∧ rb ≠ s) := ⟨HD2.out rb HDF.out.2, HNE.out.2.2.2.1⟩
      have cb1 : U1.drew.cell? ⟨rb, 0, none⟩ = some (.pointer (some ⟨p, 0, none⟩)) := (World.cell?_of_block (w := wr) (s1.keep rb HRD.out.1)).trans cb
      have HFE : Hid _ := rfetch_run (r1.keep (Below.refl _ _).drew) v3d
      have HRU : Hid (Pl.run (fuel.toNat - k) m2 = Pl.run fuel.toNat m) := UU.out
      have hrk : Pl.run (fuel.toNat - k) m2 = Pl.run (fuel.toNat - (k + 1)) (Pl.step m2) := by
        have : fuel.toNat - k = (fuel.toNat - (k + 1)) + 1 := by omega
        rw [this, Pl_run_go ⟨G2.out, G3.out⟩]
      have HGO : Hid (Pl.run (fuel.toNat - k) m2 = Pl.run (fuel.toNat - (k + 1)) (Pl.step m2)) := hrk
      have HST : Hid (∀ w2, St (fun x => D' x ∧ x ≠ s) U1.drew w2 → St (fun x => D x ∧ x ≠ s ∧ x ≠ fb) u w2) := fun w2 q => SS.out.trans (((s1.trans (RU1.out.run.st (Below.refl _ _).drew)).mono fun x hx => HD2.out x hx.1).trans (q.mono fun x hx => ⟨HD2.out x hx.1, hx.2.1⟩))
      have HPC : Hid (Pl.place m3.code.length m3.pc = -1 → Pl.run (fuel.toNat - k) m2 = { m3 with fin := 2, val := 1 }) := fun q => by
        rw [hm3] at q ⊢
        rw [hrk, Pl.step_pc (m := m2) q]
        exact Pl.run_ended (show (2 : Int) ≠ 0 by decide) _
      have HDC : Hid (Pl.place m3.code.length m3.pc ≠ -1 → Pl.dec (Pl.word m3) = 0 → Pl.run (fuel.toNat - k) m2 = { m3 with fin := 2, val := 2 }) := fun q q2 => by
        rw [hm3] at q q2 ⊢
        rw [hrk, Pl.step_dec (m := m2) q q2]
        exact Pl.run_ended (show (2 : Int) ≠ 0 by decide) _
      have HAC : Hid (Pl.place m3.code.length m3.pc ≠ -1 → Pl.dec (Pl.word m3) ≠ 0 → (Pl.act m3 (Pl.insOf (Pl.word m3))).2 ≠ 0 → Pl.run (fuel.toNat - k) m2 = { (Pl.act m3 (Pl.insOf (Pl.word m3))).1 with fin := 2, val := (Pl.act m3 (Pl.insOf (Pl.word m3))).2 }) := fun q q2 q3 => by
        rw [hm3] at q q2 q3 ⊢
        rw [hrk, Pl.step_bad (m := m2) q q2 q3]
        exact Pl.run_ended (show (2 : Int) ≠ 0 by decide) _
      have HOK : Hid (Pl.place m3.code.length m3.pc ≠ -1 → Pl.dec (Pl.word m3) ≠ 0 → (Pl.act m3 (Pl.insOf (Pl.word m3))).2 = 0 → Pl.step m2 = (Pl.act m3 (Pl.insOf (Pl.word m3))).1) := fun q q2 q3 => by
        rw [hm3] at q q2 q3 ⊢
        exact Pl.step_good (m := m2) q q2 q3
      have HVS : Hid (Pl.Vd (Pl.step m2) ∧ (Pl.step m2).code = m.code) := ⟨VV.out.step (fun n hn => Pl.u8_bd (RR.out.run.inp.2.2.2.1 n hn)) G3.out, (Pl.step_same m2).1.trans HCD.out⟩
      have f30 : m3.fin = 0 := by rw [hm3]; exact G2.out
      have HDO : Hid (∀ (w1 : World) (D2 : Nat → Prop), Pl.dec (Pl.word m3) ≠ 0 → Rn D2 lo p g s w1 v2 m3 → Calls Tryz.prog 62 #[.pointer (some ⟨p, 0, none⟩), .agg (Pl.decV (Pl.word m3))] w1 fun e u' => e = ends (Pl.act m3 (Pl.insOf (Pl.word m3))).2 ∧ (∃ v', MemS v2 v' ∧ Run D2 g u' v' (Pl.act m3 (Pl.insOf (Pl.word m3))).1) ∧ St D2 w1 u') := fun w1 D2 q r => by
        rw [Pl.insOf_cells q]
        exact rdo_all r.rr v3d f30 _ (Pl.insOf_ok q) (Pl.mem_im q) r.tabs (r.cell 1) (r.cell 2)
      have FW1 : Hid (U1.drew.heap[fb]? = some (.cells #[.int .i64 (fuel - k)] 3)) := (s1.keep fb (HD2.out fb HDF.out.1)).trans FW.out
      rw [← hU1]
      clear hU1 s1 r1 v3d hrk hm3 f30 c7 c8 cm cb f7 cf zf hst
      refine wp_region_any (by kernel_rfl) ?_
      change wpAny _ _ _ _ _ _ _ (World.drew _)
      refine wpAny_inw (fun L act w => ∃ w1, act = LopMk fb rb p g (fuel - k) m2.fin m2.steps u24 u25 u36 u37 u38 u39 (Pl.decV (Pl.word m3)) L ∧ TwoW U1.drew (fun w1 : World => fetchEnd m3 = .returned (.agg (Pl.decV (Pl.word m3))) ∧ (∃ D2 : Nat → Prop, (∀ x, D' x → D2 x) ∧ Rn D2 lo p g s w1 v2 m3 ∧ St (fun x => D' x ∧ x ≠ s) U1.drew w1)) (fun w2 : World => (Pl.act m3 (Pl.insOf (Pl.word m3))).2 = 0 ∧ Pl.place m3.code.length m3.pc ≠ -1 ∧ Pl.dec (Pl.word m3) ≠ 0 ∧ ∃ (D2 : Nat → Prop) (v3 : MV), (∀ x, D' x → D2 x) ∧ Rn D2 lo p g s w2 v3 (Pl.act m3 (Pl.insOf (Pl.word m3))).1 ∧ MemS v2 v3 ∧ St (fun x => D' x ∧ x ≠ s) U1.drew w2) 2 3 w1 L w) ?done (by kernel_rfl) ?step _ 4 _ _ (by kernel_rfl) ?init (by decide)
      case init => exact ⟨u, by simp only [LopMk, sld_no (up_init _ _)], TwoW.init⟩
      case step =>
        intro L act w i o hI hlt hs nl hC hd ho K hK
        obtain ⟨w1, rfl, hW⟩ := hI
        have hi_lt : i < 4 := (Array.getElem?_eq_some_iff.1 ho).1
        rcases (show i = 0 ∨ i = 1 ∨ i = 2 ∨ i = 3 by omega) with rfl | rfl | rfl | rfl
        · change some _ = some o at ho
          cases ho
          have n3 : up L 3 = false := hC.no nl 3 rfl (by kernel_rfl)
          have xb := hW.cell n3 cb1 (fun q => by obtain ⟨_, D2, _, _, y⟩ := q; exact (World.cell?_of_block (w := U1.drew) (y.keep rb (HRD.out))).trans cb1)
          simp only [LopMk]
          go_simp
          exact hK _ _ ⟨w1, by simp only [LopMk, sld_set hlt, reduceIte, Nat.reduceEqDiff]; try rfl, (hW.keep hlt (by decide) (by decide))⟩
        · change some _ = some o at ho
          cases ho
          have n2 : up L 2 = false := hC.no nl 2 rfl (by kernel_rfl)
          have n3 : up L 3 = false := hC.no n2 3 rfl (by kernel_rfl)
          have xb := hW.cell n3 cb1 (fun q => by obtain ⟨_, D2, _, _, y⟩ := q; exact (World.cell?_of_block (w := U1.drew) (y.keep rb (HRD.out))).trans cb1)
          simp only [LopMk]
          go_simp
          exact hK _ _ ⟨w1, by simp only [LopMk, sld_set hlt, reduceIte, Nat.reduceEqDiff]; try rfl, (hW.keep hlt (by decide) (by decide))⟩
        · change some _ = some o at ho
          cases ho
          have q1 : up L 1 = true := (by first | exact hd { on := 1, ground := .data } (by simp) rfl | exact hd { on := 1, ground := .chain } (by simp) rfl | exact hd { on := 1, ground := .phase } (by simp) rfl)
          have n3 : up L 3 = false := hC.no nl 3 rfl (by kernel_rfl)
          obtain rfl := hW.1 nl
          simp only [LopMk, sld_yes q1]
          go_simp
          refine Calls.mono HFE.out ?_
          rintro e w2 ⟨rfl, D2, y1, y2, y3⟩
          by_cases hp : Pl.place m3.code.length m3.pc = -1
          · rw [show fetchEnd m3 = .panicked [{ v := .iface 97 (.int .i64 1), recovered := false }] by unfold fetchEnd; rw [if_pos hp]; rfl]
            refine panic_exit (P := Tryz.prog) (fn := Tryz.f61) rfl ?_
            refine ⟨D2, v2, m3, 1, fun x hx => y1 x (HD2.out x hx), y2, MM.out, HST.out _ y3, rfl, fun q => absurd q (by decide), fun _ => ?_⟩
            rw [← HRU.out]
            exact HPC.out hp
          by_cases hd0 : Pl.dec (Pl.word m3) = 0
          · rw [show fetchEnd m3 = .panicked [{ v := .iface 97 (.int .i64 2), recovered := false }] by unfold fetchEnd; rw [if_neg hp, if_pos hd0]; rfl]
            refine panic_exit (P := Tryz.prog) (fn := Tryz.f61) rfl ?_
            refine ⟨D2, v2, m3, 2, fun x hx => y1 x (HD2.out x hx), y2, MM.out, HST.out _ y3, rfl, fun q => absurd q (by decide), fun _ => ?_⟩
            rw [← HRU.out]
            exact HDC.out hp hd0
          have hfe : fetchEnd m3 = .returned (.agg (Pl.decV (Pl.word m3))) := by unfold fetchEnd; rw [if_neg hp, if_neg hd0]
          rw [hfe]
          go_simp
          exact hK _ _ ⟨w2, by simp only [LopMk, sld_set hlt, sld_yes q1, reduceIte, Nat.reduceEqDiff]; try rfl, TwoW.first hlt (by decide) n3 ⟨hfe, D2, y1, y2, y3⟩⟩
        · change some _ = some o at ho
          cases ho
          have q0 : up L 0 = true := (by first | exact hd { on := 0, ground := .data } (by simp) rfl | exact hd { on := 0, ground := .chain } (by simp) rfl | exact hd { on := 0, ground := .phase } (by simp) rfl)
          have q2 : up L 2 = true := (by first | exact hd { on := 2, ground := .data } (by simp) rfl | exact hd { on := 2, ground := .chain } (by simp) rfl | exact hd { on := 2, ground := .phase } (by simp) rfl)
          obtain ⟨⟨hfe, D2, y1, y2, y3⟩, y4, _⟩ := hW.2 q2
          obtain rfl := y4 nl
          obtain ⟨hp, hd0⟩ := fetchEnd_ok hfe
          simp only [LopMk, sld_yes q0, sld_yes q2]
          go_simp
          refine Calls.mono (HDO.out _ D2 hd0 y2) ?_
          rintro e w2 ⟨he, ⟨v3, hM3, hR3⟩, hS3⟩
          have y5 : Rn D2 lo p g s w2 v3 (Pl.act m3 (Pl.insOf (Pl.word m3))).1 := y2.step hR3 hM3 (Pl.act_same _ _).1 fb HNE.out.2.1 HNE.out.2.2.1 HNE.out.2.2.2.2.1 HNE.out.2.2.2.2.2 (hS3.mono fun x hx => hx.1)
          have y6 : St (fun x => D' x ∧ x ≠ s) U1.drew w2 := y3.trans (hS3.mono fun x hx => y1 x hx.1)
          by_cases hF : (Pl.act m3 (Pl.insOf (Pl.word m3))).2 = 0
          rotate_left
          · rw [he, show ends (Pl.act m3 (Pl.insOf (Pl.word m3))).2 = .panicked [{ v := .iface 97 (.int .i64 (Pl.act m3 (Pl.insOf (Pl.word m3))).2), recovered := false }] by unfold ends; rw [if_neg hF]]
            refine panic_exit (P := Tryz.prog) (fn := Tryz.f61) rfl ?_
            refine ⟨D2, v3, _, (Pl.act m3 (Pl.insOf (Pl.word m3))).2, fun x hx => y1 x (HD2.out x hx), y5, MM.out.trans hM3, HST.out _ y6, by unfold ends; rw [if_neg hF], fun q => absurd q hF, fun _ => ?_⟩
            rw [← HRU.out]
            exact HAC.out hp hd0 hF
          rw [he, hF, show ends 0 = .returned (.tuple #[]) from rfl]
          go_simp
          exact hK _ _ ⟨w, by simp only [LopMk, sld_set hlt, sld_yes q0, sld_yes q2, reduceIte, Nat.reduceEqDiff]; try rfl, hW.second hlt q2 ⟨hF, hp, hd0, D2, v3, y1, y5, hM3, y6⟩⟩
      case done =>
        rintro L act w ⟨w1, rfl, hW⟩ hall
        obtain ⟨_, _, y2⟩ := hW.2 (hall 2 (by decide))
        obtain ⟨hF, hp, hd0, D2, v3, y1, y5, hM3, y6⟩ := y2 (hall 3 (by decide))
        clear hW y2
        have e5 : Pl.step m2 = (Pl.act m3 (Pl.insOf (Pl.word m3))).1 := HOK.out hp hd0 hF
        rw [← e5] at y5
        have fw2 : w.heap[fb]? = some (.cells #[.int .i64 (fuel - k)] 3) := (y6.keep fb ⟨HD2.out fb HDF.out.1, HNE.out.2.2.1⟩).trans FW1.out
        have cf : w.cell? ⟨fb, 0, none⟩ = some (.int .i64 (fuel - k)) := cell_of_row w fb 0 _ 3 (0, 0) fw2
        have zf : w.frozen? ⟨fb, 0, none⟩ = false := frozen_of_row w fb 0 _ 3 fw2
        have Y5 : Hid (Rn D2 lo p g s w v3 (Pl.step m2)) := y5
        have Y1 : Hid (∀ x, D' x → D2 x) := y1
        have Y6 : Hid (St (fun x => D' x ∧ x ≠ s) U1.drew w) := y6
        have YM : Hid (MemS v2 v3) := hM3
        have FW2 : Hid (w.heap[fb]? = some (.cells #[.int .i64 (fuel - k)] 3)) := fw2
        have hwf : IntKind.i64.wrap (fuel - k - 1) = fuel - k - 1 := by rw [IntKind.wrap_i64]; omega
        clear y5 y1 y6 hM3 fw2 hF hp hd0 e5
        simp only [LopMk, sld_yes (hall 0 (by decide)), sld_yes (hall 1 (by decide)), sld_yes (hall 2 (by decide)), sld_yes (hall 3 (by decide))]
        go_wp2_with fail
        go_roundw
        case rel =>
          have hD2f : D2 fb := Y1.out _ (HD2.out _ HDF.out.1)
          have hSF : St (fun x => D2 x ∧ x ≠ fb) w (w.setCell ⟨fb, 0, none⟩ (.int .i64 (fuel - k - 1))) := St.set fun x hx => hx.2
          refine ⟨D2, v3, Pl.step m2, k + 1, by omega, fun x hx => Y1.out x (HD2.out x hx), Y5.out.step (Y5.out.run.other (by simp) fun i x hx => Below.heap_setCell _ _ _ _ (fun q => (Y5.out.run.av fb hD2f).2 i (by rw [hx]; exact congrArg _ (congrArg _ q)))) (MemS.refl _) rfl fb HNE.out.2.1 HNE.out.2.2.1 HNE.out.2.2.2.2.1 HNE.out.2.2.2.2.2 hSF, MM.out.trans YM.out, HVS.out.1, HVS.out.2, ?_, HGO.out.symm.trans HRU.out, (HST.out _ Y6.out).trans (hSF.mono fun x hx => ⟨Y1.out x (HD2.out x hx.1), hx.2.2⟩)⟩
          rw [setCell_row FW2.out]
          show some (Obj.cells #[.int .i64 (fuel - k - 1)] 3 (0, 0)) = _
          rw [show fuel - (k : Int) - 1 = fuel - ((k + 1 : Nat) : Int) by omega]
        case measure =>
          have cw : wr.cell? ⟨fb, 0, none⟩ = some (.int .i64 (fuel - k)) := cell_of_row wr fb 0 _ 3 (0, 0) FW.out
          rw [cell_setCell_self cf, cw]
          show (fuel - (k : Int) - 1).toNat < (fuel - (k : Int)).toNat
          omega
    · have hfin : Pl.run fuel.toNat m = m2 := by
        rw [← UU.out]
        by_cases g1 : (k : Int) < fuel
        · exact Pl_run_stop fun q => hgo ⟨g1, q⟩
        · have : fuel.toNat - k = 0 := by omega
          rw [this]; rfl
      have HFIN : Hid (Pl.run fuel.toNat m = m2) := hfin
      have hend : ∀ (b1 b2 b3 : Bool), b1 = decide ((k : Int) < fuel) → b2 = (m2.fin == 0) → b3 = decide (m2.steps < 1000000) → (b1 && b2 && b3) = false := by
        intro b1 b2 b3 h1 h2 h3
        rw [h1, h2, h3]
        by_cases q1 : (k : Int) < fuel
        · by_cases q2 : m2.fin = 0
          · by_cases q3 : m2.steps < 1000000
            · exact absurd ⟨q1, q2, q3⟩ hgo
            · simp [q3]
          · simp [q2]
        · simp [q1]
      obtain ⟨b1, hb1'⟩ : ∃ b1, decide ((k : Int) < fuel) = b1 := ⟨_, rfl⟩
      obtain ⟨b2, hb2'⟩ : ∃ b2, (m2.fin == 0) = b2 := ⟨_, rfl⟩
      obtain ⟨b3, hb3'⟩ : ∃ b3, decide (m2.steps < 1000000) = b3 := ⟨_, rfl⟩
      have hbb := hend b1 b2 b3 hb1'.symm hb2'.symm hb3'.symm
      clear hend hgo hfin UU
      cases b1
      rotate_left
      cases b2
      rotate_left
      cases b3
      rotate_left
      · exact absurd hbb (by decide)
      all_goals
        clear hbb
        go_wp2_with fail
        go_end0
        refine ⟨D', v2, m2, 0, HD2.out, RR.out, MM.out, SS.out, rfl, fun _ => HFIN.out, fun q => absurd rfl q⟩
end Go.Proofs.YtjdfffdeljgenaaGreatDoor.W
