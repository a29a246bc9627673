/-
  DERIVED. GIVEN WITH THE SEED: THE CARDS: each row of YtmnlhienhfmhdaaDoorRows.lean that lists a variable, with what it lists TIED to the program's text (the seventh form; the later family's looks); each row that meets fmt, with fmt's text TOLD by the authors' own Lean function (tested against real Go, not proved from fmt's source: count such statements apart). THE CARD IS WHAT COUNTS. Prove the row's statement (the work); the ties are given (YtmnlhienhfmhdaaDoorTie.lean); close each card by the builder's one call (the guide's Derived/Test/ToyasCard.lean, 'card_holds'). Laid BY PROGRAM, IN A SANDBOX (cutbox-door.mjs). By AI agents, Wed Nov 11 2026. No macro, syntax, notation, axiom, sorry.
-/
import Derived.Test.YtmnlhienhfmhdaaDoorRows
import GoSem.ClaimSeven
namespace Go.Proofs.YtmnlhienhfmhdaaDoor
namespace Rows

/-- THE TIED CARD OF 'laws.FnExactRegName'. -/
def fnExactRegNameCard : Claim7 := { stood := { row := fnExactRegNameRow, standIns := [], harness := (true, "d3532866446d849b2054d500a72f48cd27124f1a135b805b3d1aab8e15ee98b1"), looks := false }, kinds := [], alts := [], laidByText := true, laidKinds := [.data], laidTests := true, laidLooks := .later }
def FnExactRegNameCardSaid : Prop := Claim7.holds Tryd.pinned (.plain (OpenSpec.ofChange fnExactRegNameSpec)) fnExactRegNameCard

/-- THE TIED CARD OF 'laws.FnExactRegNumber'. -/
def fnExactRegNumberCard : Claim7 := { stood := { row := fnExactRegNumberRow, standIns := [], harness := (true, "d3532866446d849b2054d500a72f48cd27124f1a135b805b3d1aab8e15ee98b1"), looks := false }, kinds := [], alts := [], laidByText := true, laidKinds := [.data, .data, .data, .data], laidTests := true, laidLooks := .later }
def FnExactRegNumberCardSaid : Prop := Claim7.holds Tryd.pinned (.plain (OpenSpec.ofChange fnExactRegNumberSpec)) fnExactRegNumberCard

/-- THE TIED CARD OF 'laws.FnInst'. -/
def fnInstCard : Claim7 := { stood := { row := fnInstRow, standIns := [], harness := (true, "d3532866446d849b2054d500a72f48cd27124f1a135b805b3d1aab8e15ee98b1"), looks := false }, kinds := [], alts := [], laidByText := true, laidKinds := [.data, .data, .data, .data], laidTests := true, laidLooks := .later }
def FnInstCardSaid : Prop := Claim7.holds Tryd.pinned (.plain (OpenSpec.ofChange fnInstSpec)) fnInstCard

/-- THE SECOND FORM's CARD OF 'laws.FnExactRegName'. -/
def fnExactRegNameUptoCard : Claim7 := { stood := { row := fnExactRegNameUptoRow, standIns := [], harness := (true, "d3532866446d849b2054d500a72f48cd27124f1a135b805b3d1aab8e15ee98b1"), looks := false }, kinds := [], alts := [], laidByText := true, laidKinds := [.data], laidTests := true, laidLooks := .later }
def FnExactRegNameUptoCardSaid : Prop := Claim7.holds Tryd.pinned (.plain (OpenSpec.upto fnExactRegNameSpec)) fnExactRegNameUptoCard

/-- THE SECOND FORM's CARD OF 'laws.FnExactRegNumber'. -/
def fnExactRegNumberUptoCard : Claim7 := { stood := { row := fnExactRegNumberUptoRow, standIns := [], harness := (true, "d3532866446d849b2054d500a72f48cd27124f1a135b805b3d1aab8e15ee98b1"), looks := false }, kinds := [], alts := [], laidByText := true, laidKinds := [.data, .data, .data, .data], laidTests := true, laidLooks := .later }
def FnExactRegNumberUptoCardSaid : Prop := Claim7.holds Tryd.pinned (.plain (OpenSpec.upto fnExactRegNumberSpec)) fnExactRegNumberUptoCard

/-- THE SECOND FORM's CARD OF 'laws.FnInst'. -/
def fnInstUptoCard : Claim7 := { stood := { row := fnInstUptoRow, standIns := [], harness := (true, "d3532866446d849b2054d500a72f48cd27124f1a135b805b3d1aab8e15ee98b1"), looks := false }, kinds := [], alts := [], laidByText := true, laidKinds := [.data, .data, .data, .data], laidTests := true, laidLooks := .later }
def FnInstUptoCardSaid : Prop := Claim7.holds Tryd.pinned (.plain (OpenSpec.upto fnInstSpec)) fnInstUptoCard
end Rows
end Go.Proofs.YtmnlhienhfmhdaaDoor
