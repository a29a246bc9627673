/-
  DERIVED. GIVEN WITH THE SEED: THE CARDS: each row of YtgpmplcamdophaaDoorRows.lean that lists a variable, with what it lists TIED to the program's text (the seventh form; the later family's looks); each row that meets fmt, with fmt's text TOLD by the authors' own Lean function (tested against real Go, not proved from fmt's source: count such statements apart). THE CARD IS WHAT COUNTS. Prove the row's statement (the work); the ties are given (YtgpmplcamdophaaDoorTie.lean); close each card by the builder's one call (the guide's Derived/Test/ToyasCard.lean, 'card_holds'). Laid BY PROGRAM, IN A SANDBOX (cutbox-door.mjs). By AI agents, Wed Nov 11 2026. No macro, syntax, notation, axiom, sorry.
-/
import Derived.Test.YtgpmplcamdophaaDoorRows
import GoSem.ClaimSeven
namespace Go.Proofs.YtgpmplcamdophaaDoor
namespace Rows

/-- THE TIED CARD OF 'laws.FnExactQuoteText'. -/
def fnExactQuoteTextCard : Claim7 := { stood := { row := fnExactQuoteTextRow, standIns := [], harness := (true, "cbb4f26f5ccced86ee05cbcbf1c819ecf75c6ce604ff2fb6bbdda1168d65984a"), looks := false }, kinds := [], alts := [], laidByText := true, laidKinds := [.data, .data, .data], laidTests := true, laidLooks := .later }
def FnExactQuoteTextCardSaid : Prop := Claim7.holds Tryd.pinned (.plain (OpenSpec.ofChange fnExactQuoteTextSpec)) fnExactQuoteTextCard

/-- THE TIED CARD OF 'laws.FnExactPrintAsm'. -/
def fnExactPrintAsmCard : Claim7 := { stood := { row := fnExactPrintAsmRow, standIns := [], harness := (true, "cbb4f26f5ccced86ee05cbcbf1c819ecf75c6ce604ff2fb6bbdda1168d65984a"), looks := false }, kinds := [], alts := [], laidByText := true, laidKinds := [.data, .data, .data, .data, .data], laidTests := true, laidLooks := .later }
def FnExactPrintAsmCardSaid : Prop := Claim7.holds Tryd.pinned (.plain (OpenSpec.ofChange fnExactPrintAsmSpec)) fnExactPrintAsmCard

/-- THE SECOND FORM's CARD OF 'laws.FnExactQuoteText'. -/
def fnExactQuoteTextUptoCard : Claim7 := { stood := { row := fnExactQuoteTextUptoRow, standIns := [], harness := (true, "cbb4f26f5ccced86ee05cbcbf1c819ecf75c6ce604ff2fb6bbdda1168d65984a"), looks := false }, kinds := [], alts := [], laidByText := true, laidKinds := [.data, .data, .data], laidTests := true, laidLooks := .later }
def FnExactQuoteTextUptoCardSaid : Prop := Claim7.holds Tryd.pinned (.plain (OpenSpec.upto fnExactQuoteTextSpec)) fnExactQuoteTextUptoCard

/-- THE SECOND FORM's CARD OF 'laws.FnExactPrintAsm'. -/
def fnExactPrintAsmUptoCard : Claim7 := { stood := { row := fnExactPrintAsmUptoRow, standIns := [], harness := (true, "cbb4f26f5ccced86ee05cbcbf1c819ecf75c6ce604ff2fb6bbdda1168d65984a"), looks := false }, kinds := [], alts := [], laidByText := true, laidKinds := [.data, .data, .data, .data, .data], laidTests := true, laidLooks := .later }
def FnExactPrintAsmUptoCardSaid : Prop := Claim7.holds Tryd.pinned (.plain (OpenSpec.upto fnExactPrintAsmSpec)) fnExactPrintAsmUptoCard
end Rows
end Go.Proofs.YtgpmplcamdophaaDoor
