/-
  DERIVED. GIVEN WITH THE SEED: THE CARDS: each row of YtafcnijfoejboaaGreatDoorRows.lean that lists a variable, with what it lists TIED to the program's text (the seventh form; the later family's looks); each row that meets fmt, with fmt's text TOLD by the authors' own Lean function (tested against real Go, not proved from fmt's source: count such statements apart). THE CARD IS WHAT COUNTS. Prove the row's statement (the work); the ties are given (YtafcnijfoejboaaGreatDoorTie.lean); close each card by the builder's one call (the guide's Derived/Test/ToyasCard.lean, 'card_holds'). Laid BY PROGRAM, IN A SANDBOX (cutbox-door.mjs). By AI agents, Wed Nov 11 2026. No macro, syntax, notation, axiom, sorry.
-/
import Derived.Test.YtafcnijfoejboaaGreatDoorRows
import GoSem.ClaimSeven
namespace Go.Proofs.YtafcnijfoejboaaGreatDoor
namespace Rows

/-- THE TIED CARD OF 'laws.FnTypes'. -/
def fnTypesCard : Claim7 := { stood := { row := fnTypesRow, standIns := [], harness := (true, "595f204db5d1aa61ab0daa687c69bb3d4407b3e605923576b0f7a58555345813"), looks := true }, kinds := [], alts := [], laidByText := true, laidKinds := [.data, .data, .data, .data, .sentinel, .sentinel, .pinned], laidTests := true, laidLooks := .later }
def FnTypesCardSaid : Prop := Claim7.holds Tryz.pinned (.plain (OpenSpec.ofChange fnTypesSpec)) fnTypesCard

/-- THE TIED CARD OF 'laws.FnSame'. -/
def fnSameCard : Claim7 := { stood := { row := fnSameRow, standIns := [], harness := (true, "595f204db5d1aa61ab0daa687c69bb3d4407b3e605923576b0f7a58555345813"), looks := true }, kinds := [], alts := [], laidByText := true, laidKinds := [.data, .data, .data, .data, .sentinel, .sentinel, .pinned], laidTests := true, laidLooks := .later }
def FnSameCardSaid : Prop := Claim7.holds Tryz.pinned (.plain (OpenSpec.ofChange fnSameSpec)) fnSameCard

/-- THE TIED CARD OF 'laws.FnExactSizeOf'. -/
def fnExactSizeOfCard : Claim7 := { stood := { row := fnExactSizeOfRow, standIns := [], harness := (true, "595f204db5d1aa61ab0daa687c69bb3d4407b3e605923576b0f7a58555345813"), looks := true }, kinds := [], alts := [], laidByText := true, laidKinds := [.data, .data, .data, .data, .sentinel, .sentinel, .pinned], laidTests := true, laidLooks := .later }
def FnExactSizeOfCardSaid : Prop := Claim7.holds Tryz.pinned (.plain (OpenSpec.ofChange fnExactSizeOfSpec)) fnExactSizeOfCard

/-- THE TIED CARD OF 'laws.FnExactAlignOf'. -/
def fnExactAlignOfCard : Claim7 := { stood := { row := fnExactAlignOfRow, standIns := [], harness := (true, "595f204db5d1aa61ab0daa687c69bb3d4407b3e605923576b0f7a58555345813"), looks := true }, kinds := [], alts := [], laidByText := true, laidKinds := [.data, .data, .data, .data, .sentinel, .sentinel, .pinned], laidTests := true, laidLooks := .later }
def FnExactAlignOfCardSaid : Prop := Claim7.holds Tryz.pinned (.plain (OpenSpec.ofChange fnExactAlignOfSpec)) fnExactAlignOfCard

/-- THE TIED CARD OF 'laws.FnExactFieldOf'. -/
def fnExactFieldOfCard : Claim7 := { stood := { row := fnExactFieldOfRow, standIns := [], harness := (true, "595f204db5d1aa61ab0daa687c69bb3d4407b3e605923576b0f7a58555345813"), looks := true }, kinds := [], alts := [], laidByText := true, laidKinds := [.data, .data, .data, .data, .sentinel, .sentinel, .pinned], laidTests := true, laidLooks := .later }
def FnExactFieldOfCardSaid : Prop := Claim7.holds Tryz.pinned (.plain (OpenSpec.ofChange fnExactFieldOfSpec)) fnExactFieldOfCard

/-- THE TIED CARD OF 'laws.FnExactSameType'. -/
def fnExactSameTypeCard : Claim7 := { stood := { row := fnExactSameTypeRow, standIns := [], harness := (true, "595f204db5d1aa61ab0daa687c69bb3d4407b3e605923576b0f7a58555345813"), looks := true }, kinds := [], alts := [], laidByText := true, laidKinds := [.data, .data, .data, .data, .sentinel, .sentinel, .pinned], laidTests := true, laidLooks := .later }
def FnExactSameTypeCardSaid : Prop := Claim7.holds Tryz.pinned (.plain (OpenSpec.ofChange fnExactSameTypeSpec)) fnExactSameTypeCard

/-- THE SECOND FORM's CARD OF 'laws.FnTypes'. -/
def fnTypesUptoCard : Claim7 := { stood := { row := fnTypesUptoRow, standIns := [], harness := (true, "595f204db5d1aa61ab0daa687c69bb3d4407b3e605923576b0f7a58555345813"), looks := true }, kinds := [], alts := [], laidByText := true, laidKinds := [.data, .data, .data, .data, .sentinel, .sentinel, .pinned], laidTests := true, laidLooks := .later }
def FnTypesUptoCardSaid : Prop := Claim7.holds Tryz.pinned (.plain (OpenSpec.upto fnTypesSpec)) fnTypesUptoCard

/-- THE SECOND FORM's CARD OF 'laws.FnSame'. -/
def fnSameUptoCard : Claim7 := { stood := { row := fnSameUptoRow, standIns := [], harness := (true, "595f204db5d1aa61ab0daa687c69bb3d4407b3e605923576b0f7a58555345813"), looks := true }, kinds := [], alts := [], laidByText := true, laidKinds := [.data, .data, .data, .data, .sentinel, .sentinel, .pinned], laidTests := true, laidLooks := .later }
def FnSameUptoCardSaid : Prop := Claim7.holds Tryz.pinned (.plain (OpenSpec.upto fnSameSpec)) fnSameUptoCard

/-- THE SECOND FORM's CARD OF 'laws.FnExactSizeOf'. -/
def fnExactSizeOfUptoCard : Claim7 := { stood := { row := fnExactSizeOfUptoRow, standIns := [], harness := (true, "595f204db5d1aa61ab0daa687c69bb3d4407b3e605923576b0f7a58555345813"), looks := true }, kinds := [], alts := [], laidByText := true, laidKinds := [.data, .data, .data, .data, .sentinel, .sentinel, .pinned], laidTests := true, laidLooks := .later }
def FnExactSizeOfUptoCardSaid : Prop := Claim7.holds Tryz.pinned (.plain (OpenSpec.upto fnExactSizeOfSpec)) fnExactSizeOfUptoCard

/-- THE SECOND FORM's CARD OF 'laws.FnExactAlignOf'. -/
def fnExactAlignOfUptoCard : Claim7 := { stood := { row := fnExactAlignOfUptoRow, standIns := [], harness := (true, "595f204db5d1aa61ab0daa687c69bb3d4407b3e605923576b0f7a58555345813"), looks := true }, kinds := [], alts := [], laidByText := true, laidKinds := [.data, .data, .data, .data, .sentinel, .sentinel, .pinned], laidTests := true, laidLooks := .later }
def FnExactAlignOfUptoCardSaid : Prop := Claim7.holds Tryz.pinned (.plain (OpenSpec.upto fnExactAlignOfSpec)) fnExactAlignOfUptoCard

/-- THE SECOND FORM's CARD OF 'laws.FnExactFieldOf'. -/
def fnExactFieldOfUptoCard : Claim7 := { stood := { row := fnExactFieldOfUptoRow, standIns := [], harness := (true, "595f204db5d1aa61ab0daa687c69bb3d4407b3e605923576b0f7a58555345813"), looks := true }, kinds := [], alts := [], laidByText := true, laidKinds := [.data, .data, .data, .data, .sentinel, .sentinel, .pinned], laidTests := true, laidLooks := .later }
def FnExactFieldOfUptoCardSaid : Prop := Claim7.holds Tryz.pinned (.plain (OpenSpec.upto fnExactFieldOfSpec)) fnExactFieldOfUptoCard

/-- THE SECOND FORM's CARD OF 'laws.FnExactSameType'. -/
def fnExactSameTypeUptoCard : Claim7 := { stood := { row := fnExactSameTypeUptoRow, standIns := [], harness := (true, "595f204db5d1aa61ab0daa687c69bb3d4407b3e605923576b0f7a58555345813"), looks := true }, kinds := [], alts := [], laidByText := true, laidKinds := [.data, .data, .data, .data, .sentinel, .sentinel, .pinned], laidTests := true, laidLooks := .later }
def FnExactSameTypeUptoCardSaid : Prop := Claim7.holds Tryz.pinned (.plain (OpenSpec.upto fnExactSameTypeSpec)) fnExactSameTypeUptoCard
end Rows
end Go.Proofs.YtafcnijfoejboaaGreatDoor
