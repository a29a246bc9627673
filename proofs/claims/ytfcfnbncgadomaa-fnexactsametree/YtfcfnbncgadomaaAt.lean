import Derived.Test.YtfcfnbncgadomaaSl
namespace Go.Proofs.Ytfcfnbncgadomaa.W
open Go.RowKit
theorem Try.infou8 : (Try.prog.info? 5).map (fun i => (i.zero, i.size, i.bytes)) = some (some (.int .u8 0), 1, 1) := by kernel_rfl
theorem wpList_at {P : Program} {ops : Array Oper} {Q : Exit → Act → World → Prop} {rest : List Oper} {a : Act} {W : World} (h : ∀ U, U = W → wpList P ops Q rest a U) : wpList P ops Q rest a W := h W rfl
theorem below_alloc (w : World) (o : Obj) : Below w.heap.size w (w.alloc o) := (Below.refl _ _).alloc (Nat.le_refl _) _
end Go.Proofs.Ytfcfnbncgadomaa.W
