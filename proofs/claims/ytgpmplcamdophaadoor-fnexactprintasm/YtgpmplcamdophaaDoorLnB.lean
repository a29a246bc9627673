import Derived.Test.YtgpmplcamdophaaDoorLnA
import Derived.Test.YtgpmplcamdophaaDoorInstJ
import Derived.Test.YtgpmplcamdophaaDoorInstS
import Derived.Test.YtgpmplcamdophaaDoorWFnExactInstOk
set_option linter.unusedVariables false
set_option linter.unusedSimpArgs false
namespace Go.Proofs.YtgpmplcamdophaaDoor.Pl
def emp (s : ByteArray) : Bool := s.toList.isEmpty
theorem emp_iff (s : ByteArray) : emp s = true ↔ s.size = 0 := by unfold emp; rw [List.isEmpty_iff]; exact nil_iff s
def br (n : Int) : Bool := decide (1 ≤ n ∧ n ≤ 47) && (fmN n.toNat == 5 || fmN n.toNat == 7)
def onlyRegs (op rd r1 r2 im : Int) (d s : Bool) : Bool := op == 0 && r2 == 0 && im == 0 && rg rd d && rg r1 s
def sy (s : ByteArray) (u : Bool) : Bool := if u then lab s else emp s
end Go.Proofs.YtgpmplcamdophaaDoor.Pl
namespace Go.Proofs.YtgpmplcamdophaaDoor.W
open Go.RowKit
theorem symOk_any (s : ByteArray) (u : Bool) (w : World) : Calls Tryd.prog 40 #[.string s, .bool u] w fun e w' => e = .returned (.bool (Pl.sy s u)) ∧ w' = w := by
  cases u
  all_goals
    go_enter Tryd.func40, Tryd.ntmps40
    go_wp2_with (go_at_call 57; refine (labelOk_any _ _).mono ?_; rintro e u1 ⟨rfl, rfl⟩)
    go_ret
    exact ⟨ret_bool (by simp [Pl.sy, Pl.emp]), rfl⟩
theorem branching_no (n : Int) (h : n < 1 ∨ 47 < n) (w : World) : Calls Tryd.prog 42 #[.int .i64 n] w fun e w' => e = .returned (.bool (Pl.br n)) ∧ Below w.heap.size w w' := by
  have e : Pl.br n = false := by unfold Pl.br; rw [decide_eq_false (by omega)]; rfl
  rw [e]
  clear e
  go_enter Tryd.func42, Tryd.ntmps42
  go_wp2_with (go_at_call 58; refine (rowOf_no n h _).mono ?_; rintro e u1 ⟨rfl, hb1⟩; unfold rowZ)
  go_ret
  exact ⟨rfl, hb1.alloc hb1.size _⟩
set_option maxHeartbeats 1000000 in
theorem branching_yes (k : Nat) (h1 : 1 ≤ k) (h2 : k ≤ 47) (w : World) : Calls Tryd.prog 42 #[.int .i64 k] w fun e w' => e = .returned (.bool (Pl.br k)) ∧ Below w.heap.size w w' := by
  obtain ⟨f1, f2, hf⟩ := fm_at k h1 h2
  have e : Pl.br k = (Pl.fmN k == 5 || Pl.fmN k == 7) := by unfold Pl.br; rw [decide_eq_true (by omega), Int.toNat_natCast]; rfl
  rw [e]
  clear e
  obtain ⟨f, hff⟩ : ∃ f, f = Pl.fmN k := ⟨_, rfl⟩
  rw [← hff] at f1 f2 hf ⊢
  have HF : Hid (Pl.fm k = (f : Int)) := hf
  clear hff hf
  go_enter Tryd.func42, Tryd.ntmps42
  go_wp2_with (go_at_call 58; refine (rowOf_at k h1 h2 _).mono ?_; rintro e u1 ⟨rfl, rfl⟩; unfold Pl.rowV; rw [HF.out])
  all_goals
    go_ret
    refine ⟨ret_bool ?_, (by repeat (first | exact Below.refl _ _ | refine Below.alloc ?_ (by simp <;> omega) _))⟩
    rw [Bool.eq_iff_iff]
    simp <;> omega
theorem branching_any (n : Int) (w : World) : Calls Tryd.prog 42 #[.int .i64 n] w fun e w' => e = .returned (.bool (Pl.br n)) ∧ Below w.heap.size w w' := by
  by_cases h : n < 1 ∨ 47 < n
  · exact branching_no n h w
  · obtain ⟨k, rfl⟩ : ∃ k : Nat, n = k := ⟨n.toNat, by omega⟩
    exact branching_yes k (by omega) (by omega) w
set_option maxHeartbeats 2000000 in
theorem l4Regs_any (op rd r1 r2 im : Int) (d s : Bool) (w : World) : Calls Tryd.prog 28 #[.agg #[.int .i64 op, .int .i64 rd, .int .i64 r1, .int .i64 r2, .int .i64 im], .bool d, .bool s] w fun e w' => e = .returned (.bool (Pl.onlyRegs op rd r1 r2 im d s)) ∧ Below w.heap.size w w' := by
  cases d <;> cases s
  all_goals
    go_enter Tryd.func28, Tryd.ntmps28
    go_wp2
    all_goals
      go_ret
      refine ⟨ret_bool ?_, (by repeat (first | exact Below.refl _ _ | refine Below.alloc ?_ (by simp <;> omega) _))⟩
      rw [Bool.eq_iff_iff]
      simp [Pl.onlyRegs, Pl.rg] <;> omega
set_option maxHeartbeats 1000000 in
theorem szLine_any (k : Int) (op rd r1 r2 im n : Int) (s : ByteArray) (w : World) : Calls Tryd.prog 18 #[.agg #[.int .i64 k, .int .i64 op, .int .i64 rd, .int .i64 r1, .int .i64 r2, .int .i64 im, .string s, .int .i64 n], .int .i64 1048576] w fun e w' => ∃ r : Int, e = .returned (.int .i64 r) ∧ Below w.heap.size w w' := by
  go_enter Tryd.func18, Tryd.ntmps18
  go_wp2
  all_goals
    go_ret
    exact ⟨_, rfl, (by repeat (first | exact Below.refl _ _ | refine Below.alloc ?_ (by simp <;> omega) _))⟩
end Go.Proofs.YtgpmplcamdophaaDoor.W
