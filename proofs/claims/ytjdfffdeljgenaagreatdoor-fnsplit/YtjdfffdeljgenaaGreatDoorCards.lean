/-
  DERIVED. GIVEN WITH THE SEED: THE CARDS: each row of YtjdfffdeljgenaaGreatDoorRows.lean that lists a variable, with what it lists TIED to the program's text (the seventh form; the later family's looks); each row that meets fmt, with fmt's text TOLD by the authors' own Lean function (tested against real Go, not proved from fmt's source: count such statements apart). THE CARD IS WHAT COUNTS. Prove the row's statement (the work); the ties are given (YtjdfffdeljgenaaGreatDoorTie.lean); close each card by the builder's one call (the guide's Derived/Test/ToyasCard.lean, 'card_holds'). Laid BY PROGRAM, IN A SANDBOX (cutbox-door.mjs). By AI agents, Wed Nov 11 2026. No macro, syntax, notation, axiom, sorry.
-/
import Derived.Test.YtjdfffdeljgenaaGreatDoorRows
import GoSem.ClaimSeven
namespace Go.Proofs.YtjdfffdeljgenaaGreatDoor
namespace Rows

/-- THE TIED CARD OF 'laws.FnSplit'. -/
def fnSplitCard : Claim7 := { stood := { row := fnSplitRow, standIns := [], harness := (true, "6ce3ac64d22add3b3cf1c797d537f64a2f3ecb2da46b1ba1d1ba99bfc9e19b58"), looks := true }, kinds := [], alts := [], laidByText := true, laidKinds := [.data, .data, .data], laidTests := true, laidLooks := .later }
def FnSplitCardSaid : Prop := Claim7.holds Tryz.pinned (.plain (OpenSpec.ofChange fnSplitSpec)) fnSplitCard

/-- THE TIED CARD OF 'laws.FnStep'. -/
def fnStepCard : Claim7 := { stood := { row := fnStepRow, standIns := [], harness := (true, "6ce3ac64d22add3b3cf1c797d537f64a2f3ecb2da46b1ba1d1ba99bfc9e19b58"), looks := true }, kinds := [], alts := [], laidByText := true, laidKinds := [.data, .data, .data], laidTests := true, laidLooks := .later }
def FnStepCardSaid : Prop := Claim7.holds Tryz.pinned (.plain (OpenSpec.ofChange fnStepSpec)) fnStepCard

/-- THE TIED CARD OF 'laws.FnExactRunMachine'. -/
def fnExactRunMachineCard : Claim7 := { stood := { row := fnExactRunMachineRow, standIns := [], harness := (true, "6ce3ac64d22add3b3cf1c797d537f64a2f3ecb2da46b1ba1d1ba99bfc9e19b58"), looks := true }, kinds := [], alts := [], laidByText := true, laidKinds := [.data, .data, .data], laidTests := true, laidLooks := .later }
def FnExactRunMachineCardSaid : Prop := Claim7.holds Tryz.pinned (.plain (OpenSpec.ofChange fnExactRunMachineSpec)) fnExactRunMachineCard

/-- THE TIED CARD OF 'laws.FnExactStepMachine'. -/
def fnExactStepMachineCard : Claim7 := { stood := { row := fnExactStepMachineRow, standIns := [], harness := (true, "6ce3ac64d22add3b3cf1c797d537f64a2f3ecb2da46b1ba1d1ba99bfc9e19b58"), looks := true }, kinds := [], alts := [], laidByText := true, laidKinds := [.data, .data, .data], laidTests := true, laidLooks := .later }
def FnExactStepMachineCardSaid : Prop := Claim7.holds Tryz.pinned (.plain (OpenSpec.ofChange fnExactStepMachineSpec)) fnExactStepMachineCard

/-- THE SECOND FORM's CARD OF 'laws.FnSplit'. -/
def fnSplitUptoCard : Claim7 := { stood := { row := fnSplitUptoRow, standIns := [], harness := (true, "6ce3ac64d22add3b3cf1c797d537f64a2f3ecb2da46b1ba1d1ba99bfc9e19b58"), looks := true }, kinds := [], alts := [], laidByText := true, laidKinds := [.data, .data, .data], laidTests := true, laidLooks := .later }
def FnSplitUptoCardSaid : Prop := Claim7.holds Tryz.pinned (.plain (OpenSpec.upto fnSplitSpec)) fnSplitUptoCard

/-- THE SECOND FORM's CARD OF 'laws.FnStep'. -/
def fnStepUptoCard : Claim7 := { stood := { row := fnStepUptoRow, standIns := [], harness := (true, "6ce3ac64d22add3b3cf1c797d537f64a2f3ecb2da46b1ba1d1ba99bfc9e19b58"), looks := true }, kinds := [], alts := [], laidByText := true, laidKinds := [.data, .data, .data], laidTests := true, laidLooks := .later }
def FnStepUptoCardSaid : Prop := Claim7.holds Tryz.pinned (.plain (OpenSpec.upto fnStepSpec)) fnStepUptoCard

/-- THE SECOND FORM's CARD OF 'laws.FnExactRunMachine'. -/
def fnExactRunMachineUptoCard : Claim7 := { stood := { row := fnExactRunMachineUptoRow, standIns := [], harness := (true, "6ce3ac64d22add3b3cf1c797d537f64a2f3ecb2da46b1ba1d1ba99bfc9e19b58"), looks := true }, kinds := [], alts := [], laidByText := true, laidKinds := [.data, .data, .data], laidTests := true, laidLooks := .later }
def FnExactRunMachineUptoCardSaid : Prop := Claim7.holds Tryz.pinned (.plain (OpenSpec.upto fnExactRunMachineSpec)) fnExactRunMachineUptoCard

/-- THE SECOND FORM's CARD OF 'laws.FnExactStepMachine'. -/
def fnExactStepMachineUptoCard : Claim7 := { stood := { row := fnExactStepMachineUptoRow, standIns := [], harness := (true, "6ce3ac64d22add3b3cf1c797d537f64a2f3ecb2da46b1ba1d1ba99bfc9e19b58"), looks := true }, kinds := [], alts := [], laidByText := true, laidKinds := [.data, .data, .data], laidTests := true, laidLooks := .later }
def FnExactStepMachineUptoCardSaid : Prop := Claim7.holds Tryz.pinned (.plain (OpenSpec.upto fnExactStepMachineSpec)) fnExactStepMachineUptoCard
end Rows
end Go.Proofs.YtjdfffdeljgenaaGreatDoor
