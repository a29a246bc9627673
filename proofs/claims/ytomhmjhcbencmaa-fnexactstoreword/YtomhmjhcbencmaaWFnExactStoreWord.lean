import Derived.Test.YtomhmjhcbencmaaStL
import Derived.Test.YtomhmjhcbencmaaWStW
set_option linter.unusedVariables false
namespace Go.Proofs.Ytomhmjhcbencmaa.W
open Go.RowKit
theorem fnExactStoreWord_walk {lo : Nat} (v : MV) (m : Pl.Mac) (kind at_ x : Int) (w : World) (h : MIs lo w v m) (hb : -9223372036854775808 ≤ at_ ∧ at_ ≤ 9223372036854775807) (hx : -9223372036854775808 ≤ x ∧ x ≤ 9223372036854775807) :
    Calls Try.prog 3 #[.agg #[.slice v.code.a v.code.len v.code.cap, .int .i64 m.pc, .slice v.regs.a v.regs.len v.regs.cap, .slice v.data.a v.data.len v.data.cap, .slice v.stk.a v.stk.len v.stk.cap, .slice v.inp.a v.inp.len v.inp.cap, .slice v.out.a v.out.len v.out.cap, .int .i64 m.steps, .int .i64 m.fin, .int .i64 m.val], .int .i64 kind, .int .i64 at_, .int .i64 x] w fun e w' => e = .returned (.bool true) ∧ Below w.heap.size w w' :=
  fnExactStoreWord_walk0 v m kind at_ x w h fun hs => stores_agree m kind at_ x hs hb hx
end Go.Proofs.Ytomhmjhcbencmaa.W
