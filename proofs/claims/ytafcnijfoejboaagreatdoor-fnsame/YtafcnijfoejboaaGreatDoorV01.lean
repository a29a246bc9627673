import Derived.Test.YtafcnijfoejboaaGreatDoorV00
set_option linter.unusedVariables false
namespace Go.Proofs.YtafcnijfoejboaaGreatDoor.W
open Go.RowKit
end Go.Proofs.YtafcnijfoejboaaGreatDoor.W
namespace Go.Proofs.YtafcnijfoejboaaGreatDoor.Pl
end Go.Proofs.YtafcnijfoejboaaGreatDoor.Pl
namespace Go.Proofs.YtafcnijfoejboaaGreatDoor.W
open Go.RowKit
theorem Tryz.infoi64 : (Tryz.prog.info? 3).map (fun i => (i.zero, i.size, i.bytes)) = some (some (.int .i64 0), 1, 8) := by kernel_rfl
end Go.Proofs.YtafcnijfoejboaaGreatDoor.W
namespace Go.Proofs.YtafcnijfoejboaaGreatDoor.Pl
structure Mac where
  code : List Int
  pc : Int
  regs : List Int
  data : List Int
  stk : List Int
  inp : List Int
  out : List Int
  steps : Int
  fin : Int
  val : Int
structure Img where
  code : List Int
  data : List Int
  entry : Int
  size : Int
end Go.Proofs.YtafcnijfoejboaaGreatDoor.Pl
namespace Go.Proofs.YtafcnijfoejboaaGreatDoor.W
open Go.RowKit
structure SV where
  a : Option Addr
  len : Nat
  cap : Nat
structure MV where
  code : SV
  regs : SV
  data : SV
  stk : SV
  inp : SV
  out : SV
structure IV where
  code : SV
  data : SV
def MIs (lo : Nat) (w : World) (v : MV) (m : Pl.Mac) : Prop :=
  Row .i64 lo w v.code.a v.code.len v.code.cap m.code ∧ Row .i64 lo w v.regs.a v.regs.len v.regs.cap m.regs ∧ Row .u8 lo w v.data.a v.data.len v.data.cap m.data ∧
  Row .u8 lo w v.stk.a v.stk.len v.stk.cap m.stk ∧ Row .u8 lo w v.inp.a v.inp.len v.inp.cap m.inp ∧ Row .u8 lo w v.out.a v.out.len v.out.cap m.out
def IIs (lo : Nat) (w : World) (v : IV) (m : Pl.Img) : Prop := Row .i64 lo w v.code.a v.code.len v.code.cap m.code ∧ Row .u8 lo w v.data.a v.data.len v.data.cap m.data
theorem MIs.keep {lo : Nat} {w w' : World} {v : MV} {m : Pl.Mac} (h : MIs lo w v m) (hb : Below w.heap.size w w') : MIs lo w' v m :=
  ⟨h.1.keep hb, h.2.1.keep hb, h.2.2.1.keep hb, h.2.2.2.1.keep hb, h.2.2.2.2.1.keep hb, h.2.2.2.2.2.keep hb⟩
theorem IIs.keep {lo : Nat} {w w' : World} {v : IV} {m : Pl.Img} (h : IIs lo w v m) (hb : Below w.heap.size w w') : IIs lo w' v m := ⟨h.1.keep hb, h.2.keep hb⟩
end Go.Proofs.YtafcnijfoejboaaGreatDoor.W
