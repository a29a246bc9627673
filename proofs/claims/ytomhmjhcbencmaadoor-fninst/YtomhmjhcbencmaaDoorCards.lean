/-
  DERIVED. GIVEN WITH THE SEED: THE CARDS: each row of YtomhmjhcbencmaaDoorRows.lean that lists a variable, with what it lists TIED to the program's text (the seventh form; the later family's looks); each row that meets fmt, with fmt's text TOLD by the authors' own Lean function (tested against real Go, not proved from fmt's source: count such statements apart). THE CARD IS WHAT COUNTS. Prove the row's statement (the work); the ties are given (YtomhmjhcbencmaaDoorTie.lean); close each card by the builder's one call (the guide's Derived/Test/ToyasCard.lean, 'card_holds'). Laid BY PROGRAM, IN A SANDBOX (cutbox-door.mjs). By AI agents, Wed Nov 11 2026. No macro, syntax, notation, axiom, sorry.
-/
import Derived.Test.YtomhmjhcbencmaaDoorRows
import GoSem.ClaimSeven
namespace Go.Proofs.YtomhmjhcbencmaaDoor
namespace Rows

/-- THE TIED CARD OF 'laws.FnInst'. -/
def fnInstCard : Claim7 := { stood := { row := fnInstRow, standIns := [], harness := (true, "b7d583472c566048ad43803827c331783a57d6b6b08d1d8c5ea6e3f577c618d3"), looks := false }, kinds := [], alts := [], laidByText := true, laidKinds := [.data, .data, .data, .data], laidTests := true, laidLooks := .later }
def FnInstCardSaid : Prop := Claim7.holds Tryd.pinned (.plain (OpenSpec.ofChange fnInstSpec)) fnInstCard

/-- THE TIED CARD OF 'laws.FnExactPrintAsm'. -/
def fnExactPrintAsmCard : Claim7 := { stood := { row := fnExactPrintAsmRow, standIns := [], harness := (true, "b7d583472c566048ad43803827c331783a57d6b6b08d1d8c5ea6e3f577c618d3"), looks := false }, kinds := [], alts := [], laidByText := true, laidKinds := [.data, .data, .data, .data, .data], laidTests := true, laidLooks := .later }
def FnExactPrintAsmCardSaid : Prop := Claim7.holds Tryd.pinned (.plain (OpenSpec.ofChange fnExactPrintAsmSpec)) fnExactPrintAsmCard

/-- THE SECOND FORM's CARD OF 'laws.FnInst'. -/
def fnInstUptoCard : Claim7 := { stood := { row := fnInstUptoRow, standIns := [], harness := (true, "b7d583472c566048ad43803827c331783a57d6b6b08d1d8c5ea6e3f577c618d3"), looks := false }, kinds := [], alts := [], laidByText := true, laidKinds := [.data, .data, .data, .data], laidTests := true, laidLooks := .later }
def FnInstUptoCardSaid : Prop := Claim7.holds Tryd.pinned (.plain (OpenSpec.upto fnInstSpec)) fnInstUptoCard

/-- THE SECOND FORM's CARD OF 'laws.FnExactPrintAsm'. -/
def fnExactPrintAsmUptoCard : Claim7 := { stood := { row := fnExactPrintAsmUptoRow, standIns := [], harness := (true, "b7d583472c566048ad43803827c331783a57d6b6b08d1d8c5ea6e3f577c618d3"), looks := false }, kinds := [], alts := [], laidByText := true, laidKinds := [.data, .data, .data, .data, .data], laidTests := true, laidLooks := .later }
def FnExactPrintAsmUptoCardSaid : Prop := Claim7.holds Tryd.pinned (.plain (OpenSpec.upto fnExactPrintAsmSpec)) fnExactPrintAsmUptoCard
end Rows
end Go.Proofs.YtomhmjhcbencmaaDoor
