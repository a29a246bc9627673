import Derived.Test.YtfcfnbncgadomaaQ25
import Derived.Test.YtfcfnbncgadomaaQ11
set_option linter.unusedVariables false
namespace Go.Proofs.Ytfcfnbncgadomaa.W
open Go.RowKit
set_option maxRecDepth 100000 in
theorem catch_panicking (p : Addr) (x c : Int) (older : List PanicEntry) (w : World) (hc : w.cell? p = some (.int .i64 x)) (hz : w.frozen? p = false) :
    CallsD Try.prog 60 #[.pointer (some p)] (.panicking ({ v := .iface 87 (.int .i64 c), recovered := false } :: older)) w fun e u' w' =>
      e = .returned (.tuple #[]) ∧ u' = .panicking ({ v := .iface 87 (.int .i64 c), recovered := true } :: older) ∧ w' = w.setCell p (.int .i64 c) := by
  refine callsD_of_wpS Try.func60 rfl fun c₀ cs hu => ?_
  apply wpS_seq
  apply wpS_region
  simp [wpOpsS, go_sem, recoverD, hu, Try.ntmps60, Exit.thenS]
  apply wpS_seq
  apply wpS_region
  have hn : ∀ w : World, (binOp .neq 20 (.iface 87 (.int .i64 c)) .nilIface).run Try.prog w = .ok (.bool true) w := fun _ => by kernel_rfl
  simp [wpOpsS, go_sem, hn, Exit.thenS]
  refine wpS_cond (t := true) (by simp [Act.eval, Array.replicate]) ?_
  simp only [if_true]
  apply wpS_region
  have hta : ∀ w : World, (Instr.typeAssert (.iface 87 (.int .i64 c)) 20 87 false).run Try.prog w = .ok (.int .i64 c) w := fun _ => by kernel_rfl
  simp [wpOpsS, go_sem, hc, hz, hta, bodyPostS, results, Try.results60]
set_option maxRecDepth 100000 in
theorem catch_idle (p : Addr) (w : World) :
    CallsD Try.prog 60 #[.pointer (some p)] .returning w fun e u' w' => e = .returned (.tuple #[]) ∧ u' = .returning ∧ w' = w := by
  refine callsD_of_wpS Try.func60 rfl fun c₀ cs hu => ?_
  apply wpS_seq
  apply wpS_region
  simp [wpOpsS, go_sem, recoverD, hu, Try.ntmps60, Exit.thenS]
  apply wpS_seq
  apply wpS_region
  have hn : ∀ w : World, (binOp .neq 20 .nilIface .nilIface).run Try.prog w = .ok (.bool false) w := fun _ => by kernel_rfl
  simp [wpOpsS, go_sem, hn, Exit.thenS]
  refine wpS_cond (t := false) (by simp [Act.eval, Array.replicate]) ?_
  simp only [Bool.false_eq_true, if_false]
  refine wpS_of_wp (wp_skip ?_)
  cases c₀
  simp_all [bodyPostS, results, Try.results60]
set_option maxRecDepth 100000 in
set_option maxHeartbeats 1000000 in
theorem faultOf_goodL (caps : Array Value) (w : World) (post : World → Prop)
    (HD : Calls Try.prog 35 caps (w.alloc (.cells #[.int .i64 0] 3)) fun e w' => e = .returned (.tuple #[]) ∧ post w') (HC : Hid (∀ u, post u → u.heap[w.heap.size]? = some (.cells #[.int .i64 0] 3))) :
    Calls Try.prog 28 #[.func (.func 35) #[] caps] w fun e w' => e = .returned (.int .i64 0) ∧ ∃ u, post u ∧ w' = u.setCell ⟨w.heap.size, 0, none⟩ (.int .i64 0) := by
  have hmf : ∀ (fn : Fn) (first cap : Array Value) (w : World), (Instr.makeFunc fn first cap).run Try.prog w = .ok (.func fn first cap) w := fun _ _ _ _ => rfl
  go_enter_defers Try.func28, Try.ntmps28
  go_wp2_with fail
  refine HD.mono ?_
  rintro e u ⟨rfl, hp⟩
  have hc := cell_of_row u w.heap.size 0 _ 3 (0, 0) (HC.out u hp)
  have hz := frozen_of_row u w.heap.size 0 _ 3 (HC.out u hp)
  have hc' : u.cell? ⟨w.heap.size, 0, none⟩ = some (.int .i64 0) := hc
  have HP : Hid (post u) := hp
  clear hc hp
  go_wp2_with fail
  refine leaves_cons (f := 60) (args := #[.pointer (some ⟨w.heap.size, 0, none⟩)]) (by simp) (by simp [go_sem]) ?_
  refine (catch_idle ⟨w.heap.size, 0, none⟩ _).mono ?_
  rintro e u' w'' ⟨rfl, rfl, rfl⟩
  simp [Leaves, settle, results, Try.results28, go_sem, hc']
  exact ⟨u, HP.out, rfl⟩
set_option maxRecDepth 100000 in
set_option maxHeartbeats 1000000 in
theorem faultOf_badL (caps : Array Value) (w : World) (c : Int) (post : World → Prop)
    (HD : Calls Try.prog 35 caps (w.alloc (.cells #[.int .i64 0] 3)) fun e w' => e = .panicked [{ v := .iface 87 (.int .i64 c), recovered := false }] ∧ post w') (HC : Hid (∀ u, post u → u.heap[w.heap.size]? = some (.cells #[.int .i64 0] 3))) :
    Calls Try.prog 28 #[.func (.func 35) #[] caps] w fun e w' => e = .returned (.int .i64 c) ∧ ∃ u, post u ∧ w' = u.setCell ⟨w.heap.size, 0, none⟩ (.int .i64 c) := by
  have hmf : ∀ (fn : Fn) (first cap : Array Value) (w : World), (Instr.makeFunc fn first cap).run Try.prog w = .ok (.func fn first cap) w := fun _ _ _ _ => rfl
  go_enter_defers Try.func28, Try.ntmps28
  go_wp2_with fail
  refine HD.mono ?_
  rintro e u ⟨rfl, hp⟩
  have hc := cell_of_row u w.heap.size 0 _ 3 (0, 0) (HC.out u hp)
  have hz := frozen_of_row u w.heap.size 0 _ 3 (HC.out u hp)
  have hc' : u.cell? ⟨w.heap.size, 0, none⟩ = some (.int .i64 0) := hc
  have HP : Hid (post u) := hp
  clear hc hp
  go_wp2_with fail
  refine leaves_cons (f := 60) (args := #[.pointer (some ⟨w.heap.size, 0, none⟩)]) (by simp) (by simp [go_sem]) ?_
  refine (catch_panicking ⟨w.heap.size, 0, none⟩ 0 c [] _ hc' hz).mono ?_
  rintro e u' w'' ⟨rfl, rfl, rfl⟩
  simp [Leaves, settle, results, Try.results28, go_sem, hc']
  exact ⟨u, HP.out, rfl⟩
end Go.Proofs.Ytfcfnbncgadomaa.W
namespace Go.Proofs.Ytfcfnbncgadomaa.W
open Go.RowKit
set_option maxRecDepth 100000 in
set_option maxHeartbeats 1000000 in
theorem faultOf_goodS (caps : Array Value) (w : World) (post : World → Prop)
    (HD : Calls Try.prog 29 caps (w.alloc (.cells #[.int .i64 0] 3)) fun e w' => e = .returned (.tuple #[]) ∧ post w') (HC : Hid (∀ u, post u → u.heap[w.heap.size]? = some (.cells #[.int .i64 0] 3))) :
    Calls Try.prog 28 #[.func (.func 29) #[] caps] w fun e w' => e = .returned (.int .i64 0) ∧ ∃ u, post u ∧ w' = u.setCell ⟨w.heap.size, 0, none⟩ (.int .i64 0) := by
  have hmf : ∀ (fn : Fn) (first cap : Array Value) (w : World), (Instr.makeFunc fn first cap).run Try.prog w = .ok (.func fn first cap) w := fun _ _ _ _ => rfl
  go_enter_defers Try.func28, Try.ntmps28
  go_wp2_with fail
  refine HD.mono ?_
  rintro e u ⟨rfl, hp⟩
  have hc := cell_of_row u w.heap.size 0 _ 3 (0, 0) (HC.out u hp)
  have hz := frozen_of_row u w.heap.size 0 _ 3 (HC.out u hp)
  have hc' : u.cell? ⟨w.heap.size, 0, none⟩ = some (.int .i64 0) := hc
  have HP : Hid (post u) := hp
  clear hc hp
  go_wp2_with fail
  refine leaves_cons (f := 60) (args := #[.pointer (some ⟨w.heap.size, 0, none⟩)]) (by simp) (by simp [go_sem]) ?_
  refine (catch_idle ⟨w.heap.size, 0, none⟩ _).mono ?_
  rintro e u' w'' ⟨rfl, rfl, rfl⟩
  simp [Leaves, settle, results, Try.results28, go_sem, hc']
  exact ⟨u, HP.out, rfl⟩
set_option maxRecDepth 100000 in
set_option maxHeartbeats 1000000 in
theorem faultOf_badS (caps : Array Value) (w : World) (c : Int) (post : World → Prop)
    (HD : Calls Try.prog 29 caps (w.alloc (.cells #[.int .i64 0] 3)) fun e w' => e = .panicked [{ v := .iface 87 (.int .i64 c), recovered := false }] ∧ post w') (HC : Hid (∀ u, post u → u.heap[w.heap.size]? = some (.cells #[.int .i64 0] 3))) :
    Calls Try.prog 28 #[.func (.func 29) #[] caps] w fun e w' => e = .returned (.int .i64 c) ∧ ∃ u, post u ∧ w' = u.setCell ⟨w.heap.size, 0, none⟩ (.int .i64 c) := by
  have hmf : ∀ (fn : Fn) (first cap : Array Value) (w : World), (Instr.makeFunc fn first cap).run Try.prog w = .ok (.func fn first cap) w := fun _ _ _ _ => rfl
  go_enter_defers Try.func28, Try.ntmps28
  go_wp2_with fail
  refine HD.mono ?_
  rintro e u ⟨rfl, hp⟩
  have hc := cell_of_row u w.heap.size 0 _ 3 (0, 0) (HC.out u hp)
  have hz := frozen_of_row u w.heap.size 0 _ 3 (HC.out u hp)
  have hc' : u.cell? ⟨w.heap.size, 0, none⟩ = some (.int .i64 0) := hc
  have HP : Hid (post u) := hp
  clear hc hp
  go_wp2_with fail
  refine leaves_cons (f := 60) (args := #[.pointer (some ⟨w.heap.size, 0, none⟩)]) (by simp) (by simp [go_sem]) ?_
  refine (catch_panicking ⟨w.heap.size, 0, none⟩ 0 c [] _ hc' hz).mono ?_
  rintro e u' w'' ⟨rfl, rfl, rfl⟩
  simp [Leaves, settle, results, Try.results28, go_sem, hc']
  exact ⟨u, HP.out, rfl⟩
end Go.Proofs.Ytfcfnbncgadomaa.W
