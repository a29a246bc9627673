import Derived.Test.YtjdfffdeljgenaaGreatDoorP08
import Derived.Test.YtjdfffdeljgenaaGreatDoorP39
set_option linter.unusedVariables false
set_option linter.unusedSimpArgs false
namespace Go.Proofs.YtjdfffdeljgenaaGreatDoor.W
open Go.RowKit
theorem Tabs.below {w u : World} (h : Tabs w) (hB : Below w.heap.size w u) : Tabs u :=
  h.keep (hB.block _ (block_lt_of_cell (h.ali 0 (by decide)))) (hB.block _ (block_lt_of_cell (h.lds 0 (by decide)))) (hB.block _ (block_lt_of_cell (h.sts 0 (by decide))))
theorem inp_bytes {lo : Nat} {w : World} {v : MV} {m : Pl.Mac} (h : MIs lo w v m) : ∀ n ∈ m.inp, 0 ≤ n ∧ n ≤ 255 := fun n hn => Pl.u8_bd (h.2.2.2.2.1.2.2.2.1 n hn)
theorem fnExactRunMachine_walk {lo : Nat} (v : MV) (m : Pl.Mac) (fuel : Int) (w : World) (h : MIs lo w v m) (ht : Tabs w) (hfl : -9223372036854775808 ≤ fuel ∧ fuel ≤ 9223372036854775807) :
    Calls Tryz.prog 5 #[.agg #[.slice v.code.a v.code.len v.code.cap, .int .i64 m.pc, .slice v.regs.a v.regs.len v.regs.cap, .slice v.data.a v.data.len v.data.cap, .slice v.stk.a v.stk.len v.stk.cap, .slice v.inp.a v.inp.len v.inp.cap, .slice v.out.a v.out.len v.out.cap, .int .i64 m.steps, .int .i64 m.fin, .int .i64 m.val], .int .i64 fuel] w fun e w' => e = .returned (.bool true) ∧ Below w.heap.size w w' := by
  refine fnExactRunMachine_walk0 v m (Pl.runM m fuel) fuel w h fun hsz => ⟨Pl.runM_size hsz (inp_bytes h) fuel, fun lo2 v2 w2 q => ?_, fun lo2 v2 u q hB => ?_⟩
  · refine (specRun_any v2 m w2 q hsz fuel hfl.2).mono ?_
    rintro e w' ⟨v', mm, rfl, rfl, o, _, b⟩
    exact ⟨v', rfl, o, b⟩
  · refine (implRun_any v2 m u q hsz (ht.below hB) fuel hfl).mono ?_
    rintro e w' ⟨v', mm, rfl, rfl, o, s, b⟩
    exact ⟨v', rfl, o, s, b⟩
end Go.Proofs.YtjdfffdeljgenaaGreatDoor.W
