/-
  DERIVED. GIVEN WITH THE SEED: THE CARDS: each row of YtafcnijfoejboaaDoorRows.lean that lists a variable, with what it lists TIED to the program's text (the seventh form; the later family's looks); each row that meets fmt, with fmt's text TOLD by the authors' own Lean function (tested against real Go, not proved from fmt's source: count such statements apart). THE CARD IS WHAT COUNTS. Prove the row's statement (the work); the ties are given (YtafcnijfoejboaaDoorTie.lean); close each card by the builder's one call (the guide's Derived/Test/ToyasCard.lean, 'card_holds'). Laid BY PROGRAM, IN A SANDBOX (cutbox-door.mjs). By AI agents, Wed Nov 11 2026. No macro, syntax, notation, axiom, sorry.
-/
import Derived.Test.YtafcnijfoejboaaDoorRows
import GoSem.ClaimSeven
namespace Go.Proofs.YtafcnijfoejboaaDoor
namespace Rows

/-- THE TIED CARD OF 'laws.FnExactTypesOk'. -/
def fnExactTypesOkCard : Claim7 := { stood := { row := fnExactTypesOkRow, standIns := [], harness := (true, "a6c6c0cf8783ce979bfa08e20f805a4541718fd49756c12753d2b0b848c45998"), looks := true }, kinds := [], alts := [], laidByText := true, laidKinds := [.data, .data, .data, .data, .sentinel, .sentinel, .pinned], laidTests := true, laidLooks := .later }
def FnExactTypesOkCardSaid : Prop := Claim7.holds Tryd.pinned (.plain (OpenSpec.ofChange fnExactTypesOkSpec)) fnExactTypesOkCard

/-- THE SECOND FORM's CARD OF 'laws.FnExactTypesOk'. -/
def fnExactTypesOkUptoCard : Claim7 := { stood := { row := fnExactTypesOkUptoRow, standIns := [], harness := (true, "a6c6c0cf8783ce979bfa08e20f805a4541718fd49756c12753d2b0b848c45998"), looks := true }, kinds := [], alts := [], laidByText := true, laidKinds := [.data, .data, .data, .data, .sentinel, .sentinel, .pinned], laidTests := true, laidLooks := .later }
def FnExactTypesOkUptoCardSaid : Prop := Claim7.holds Tryd.pinned (.plain (OpenSpec.upto fnExactTypesOkSpec)) fnExactTypesOkUptoCard
end Rows
end Go.Proofs.YtafcnijfoejboaaDoor
