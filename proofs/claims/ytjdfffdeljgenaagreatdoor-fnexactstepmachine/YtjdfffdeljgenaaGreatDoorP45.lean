import Derived.Test.YtjdfffdeljgenaaGreatDoorP43
import Derived.Test.YtjdfffdeljgenaaGreatDoorP44
set_option linter.unusedVariables false
namespace Go.Proofs.YtjdfffdeljgenaaGreatDoor.W
open Go.RowKit
theorem fnExactStepMachine_walk {lo : Nat} (v : MV) (m : Pl.Mac) (w : World) (h : MIs lo w v m) (ht : Tabs w) :
    Calls Tryz.prog 6 #[.agg #[.slice v.code.a v.code.len v.code.cap, .int .i64 m.pc, .slice v.regs.a v.regs.len v.regs.cap, .slice v.data.a v.data.len v.data.cap, .slice v.stk.a v.stk.len v.stk.cap, .slice v.inp.a v.inp.len v.inp.cap, .slice v.out.a v.out.len v.out.cap, .int .i64 m.steps, .int .i64 m.fin, .int .i64 m.val]] w fun e w' => e = .returned (.bool true) ∧ Below w.heap.size w w' := by
  refine fnExactStepMachine_walk0 v m (Pl.runM m 1) w h fun hsz => ⟨Pl.runM_size hsz (inp_byte h) 1, fun lo2 v2 w2 q => ?_, fun lo2 v2 u q hB => ?_⟩
  · refine (specStep_any v2 m w2 q hsz).mono ?_
    rintro e w' ⟨v', mm, rfl, rfl, o, b⟩
    exact ⟨v', rfl, o, b⟩
  · refine (implStep_any v2 m u q (ht.under hB) hsz).mono ?_
    rintro e w' ⟨v', mm, rfl, rfl, o, s, b⟩
    exact ⟨v', rfl, o, s, b⟩
end Go.Proofs.YtjdfffdeljgenaaGreatDoor.W
