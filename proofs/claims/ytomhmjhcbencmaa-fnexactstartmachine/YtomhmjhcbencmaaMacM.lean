import Derived.Test.YtomhmjhcbencmaaMacB
set_option linter.unusedVariables false
namespace Go.Proofs.Ytomhmjhcbencmaa.Pl
/-- a machine -/
structure Mac where
  code : List Int
  pc : Int
  regs : List Int
  data : List Int
  stk : List Int
  inp : List Int
  out : List Int
  steps : Int
  fin : Int
  val : Int
/-- an image -/
structure Img where
  code : List Int
  data : List Int
  entry : Int
  size : Int
def mOk (m : Mac) : Bool :=
  cdOk m.code && (decide (m.data.length ≤ 65536) && (skOk m.stk.length && (isW m.pc && (decide (m.regs.length = 32) && (decide (m.regs.getD 0 0 = 0) && (m.regs.all isW &&
    (decide (m.inp.length ≤ 10000) && (decide (m.out.length ≤ 10000) && (decide (0 ≤ m.steps) && (decide (m.steps ≤ 1000000) && (decide (0 ≤ m.fin) && (decide (m.fin ≤ 3) && isW m.val))))))))))))
def iOk (m : Img) : Bool := cdOk m.code && (decide (m.data.length ≤ 65536) && (decide (0 ≤ place m.code.length m.entry) && skOk m.size))
end Go.Proofs.Ytomhmjhcbencmaa.Pl
namespace Go.Proofs.Ytomhmjhcbencmaa.W
open Go.RowKit
/-- a slice's words -/
structure SV where
  a : Option Addr
  len : Nat
  cap : Nat
/-- a machine's slices -/
structure MV where
  code : SV
  regs : SV
  data : SV
  stk : SV
  inp : SV
  out : SV
structure IV where
  code : SV
  data : SV
def MIs (lo : Nat) (w : World) (v : MV) (m : Pl.Mac) : Prop :=
  Row .i64 lo w v.code.a v.code.len v.code.cap m.code ∧ Row .i64 lo w v.regs.a v.regs.len v.regs.cap m.regs ∧ Row .u8 lo w v.data.a v.data.len v.data.cap m.data ∧
  Row .u8 lo w v.stk.a v.stk.len v.stk.cap m.stk ∧ Row .u8 lo w v.inp.a v.inp.len v.inp.cap m.inp ∧ Row .u8 lo w v.out.a v.out.len v.out.cap m.out
def IIs (lo : Nat) (w : World) (v : IV) (m : Pl.Img) : Prop := Row .i64 lo w v.code.a v.code.len v.code.cap m.code ∧ Row .u8 lo w v.data.a v.data.len v.data.cap m.data
theorem MIs.keep {lo : Nat} {w w' : World} {v : MV} {m : Pl.Mac} (h : MIs lo w v m) (hb : Below w.heap.size w w') : MIs lo w' v m :=
  ⟨h.1.keep hb, h.2.1.keep hb, h.2.2.1.keep hb, h.2.2.2.1.keep hb, h.2.2.2.2.1.keep hb, h.2.2.2.2.2.keep hb⟩
theorem IIs.keep {lo : Nat} {w w' : World} {v : IV} {m : Pl.Img} (h : IIs lo w v m) (hb : Below w.heap.size w w') : IIs lo w' v m := ⟨h.1.keep hb, h.2.keep hb⟩
theorem wpList_at {P : Program} {ops : Array Oper} {Q : Exit → Act → World → Prop} {rest : List Oper} {a : Act} {W : World} (h : ∀ U, U = W → wpList P ops Q rest a U) : wpList P ops Q rest a W := h W rfl
theorem below_alloc (w : World) (o : Obj) : Below w.heap.size w (w.alloc o) := (Below.refl _ _).alloc (Nat.le_refl _) _
end Go.Proofs.Ytomhmjhcbencmaa.W
