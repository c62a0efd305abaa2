/-
  DERIVED. GIVEN WITH THE SEED: THE CARDS: each row of YtomnjckbgmbgmaaGreatDoorRows.lean that lists a variable, with what it lists TIED to the program's text (the seventh form; the later family's looks); each row that meets fmt, with fmt's text TOLD by the authors' own Lean function (tested against real Go, not proved from fmt's source: count such statements apart). THE CARD IS WHAT COUNTS. Prove the row's statement (the work); the ties are given (YtomnjckbgmbgmaaGreatDoorTie.lean); close each card by the builder's one call (the guide's Derived/Test/ToyasCard.lean, 'card_holds'). Laid BY PROGRAM, IN A SANDBOX (cutbox-door.mjs). By AI agents, Wed Nov 11 2026. No macro, syntax, notation, axiom, sorry.
-/
import Derived.Test.YtomnjckbgmbgmaaGreatDoorRows
import GoSem.ClaimSeven
namespace Go.Proofs.YtomnjckbgmbgmaaGreatDoor
namespace Rows

/-- THE TIED CARD OF 'catchmentlaw12.ParseTokens'. -/
def parseTokensCard : Claim7 := { stood := { row := parseTokensRow, standIns := [], harness := (true, "0a3015fb6c8a65d6ccf5bbbf9c4ff03a9478903df3eb429463709521f177fa06"), looks := true }, kinds := [], alts := [], laidByText := true, laidKinds := [.data, .data, .data, .sentinel, .sentinel, .data], laidTests := true, laidLooks := .later }
def ParseTokensCardSaid : Prop := Claim7.holds Tryz.pinned (.plain (OpenSpec.ofChange parseTokensSpec)) parseTokensCard

/-- THE TIED CARD OF 'catchmentlaw12.ParseTexts'. -/
def parseTextsCard : Claim7 := { stood := { row := parseTextsRow, standIns := [], harness := (true, "0a3015fb6c8a65d6ccf5bbbf9c4ff03a9478903df3eb429463709521f177fa06"), looks := true }, kinds := [], alts := [], laidByText := true, laidKinds := [.data, .data, .data, .sentinel, .sentinel, .data], laidTests := true, laidLooks := .later }
def ParseTextsCardSaid : Prop := Claim7.holds Tryz.pinned (.plain (OpenSpec.ofChange parseTextsSpec)) parseTextsCard

/-- THE TIED CARD OF 'catchmentlaw12.ParseBrackets'. -/
def parseBracketsCard : Claim7 := { stood := { row := parseBracketsRow, standIns := [], harness := (true, "0a3015fb6c8a65d6ccf5bbbf9c4ff03a9478903df3eb429463709521f177fa06"), looks := true }, kinds := [], alts := [], laidByText := true, laidKinds := [.data, .data, .data, .sentinel, .sentinel, .data], laidTests := true, laidLooks := .later }
def ParseBracketsCardSaid : Prop := Claim7.holds Tryz.pinned (.plain (OpenSpec.ofChange parseBracketsSpec)) parseBracketsCard

/-- THE TIED CARD OF 'catchmentlaw13.PrintNodes'. -/
def printNodesCard : Claim7 := { stood := { row := printNodesRow, standIns := [], harness := (true, "0a3015fb6c8a65d6ccf5bbbf9c4ff03a9478903df3eb429463709521f177fa06"), looks := true }, kinds := [], alts := [], laidByText := true, laidKinds := [.data, .data, .data, .sentinel, .sentinel, .data, .data, .data, .data], laidTests := true, laidLooks := .later }
def PrintNodesCardSaid : Prop := Claim7.holds Tryz.pinned (.plain (OpenSpec.ofChange printNodesSpec)) printNodesCard

/-- THE TIED CARD OF 'catchmentlaw13.PrintTexts'. -/
def printTextsCard : Claim7 := { stood := { row := printTextsRow, standIns := [], harness := (true, "0a3015fb6c8a65d6ccf5bbbf9c4ff03a9478903df3eb429463709521f177fa06"), looks := true }, kinds := [], alts := [], laidByText := true, laidKinds := [.data, .data, .data, .sentinel, .sentinel, .data, .data, .data, .data], laidTests := true, laidLooks := .later }
def PrintTextsCardSaid : Prop := Claim7.holds Tryz.pinned (.plain (OpenSpec.ofChange printTextsSpec)) printTextsCard

/-- THE TIED CARD OF 'catchmentlaw13.PrintConds'. -/
def printCondsCard : Claim7 := { stood := { row := printCondsRow, standIns := [], harness := (true, "0a3015fb6c8a65d6ccf5bbbf9c4ff03a9478903df3eb429463709521f177fa06"), looks := true }, kinds := [], alts := [], laidByText := true, laidKinds := [.data, .data, .data, .sentinel, .sentinel, .data, .data, .data, .data], laidTests := true, laidLooks := .later }
def PrintCondsCardSaid : Prop := Claim7.holds Tryz.pinned (.plain (OpenSpec.ofChange printCondsSpec)) printCondsCard

/-- THE SECOND FORM's CARD OF 'catchmentlaw12.ParseTokens'. -/
def parseTokensUptoCard : Claim7 := { stood := { row := parseTokensUptoRow, standIns := [], harness := (true, "0a3015fb6c8a65d6ccf5bbbf9c4ff03a9478903df3eb429463709521f177fa06"), looks := true }, kinds := [], alts := [], laidByText := true, laidKinds := [.data, .data, .data, .sentinel, .sentinel, .data], laidTests := true, laidLooks := .later }
def ParseTokensUptoCardSaid : Prop := Claim7.holds Tryz.pinned (.plain (OpenSpec.upto parseTokensSpec)) parseTokensUptoCard

/-- THE SECOND FORM's CARD OF 'catchmentlaw12.ParseTexts'. -/
def parseTextsUptoCard : Claim7 := { stood := { row := parseTextsUptoRow, standIns := [], harness := (true, "0a3015fb6c8a65d6ccf5bbbf9c4ff03a9478903df3eb429463709521f177fa06"), looks := true }, kinds := [], alts := [], laidByText := true, laidKinds := [.data, .data, .data, .sentinel, .sentinel, .data], laidTests := true, laidLooks := .later }
def ParseTextsUptoCardSaid : Prop := Claim7.holds Tryz.pinned (.plain (OpenSpec.upto parseTextsSpec)) parseTextsUptoCard

/-- THE SECOND FORM's CARD OF 'catchmentlaw12.ParseBrackets'. -/
def parseBracketsUptoCard : Claim7 := { stood := { row := parseBracketsUptoRow, standIns := [], harness := (true, "0a3015fb6c8a65d6ccf5bbbf9c4ff03a9478903df3eb429463709521f177fa06"), looks := true }, kinds := [], alts := [], laidByText := true, laidKinds := [.data, .data, .data, .sentinel, .sentinel, .data], laidTests := true, laidLooks := .later }
def ParseBracketsUptoCardSaid : Prop := Claim7.holds Tryz.pinned (.plain (OpenSpec.upto parseBracketsSpec)) parseBracketsUptoCard

/-- THE SECOND FORM's CARD OF 'catchmentlaw13.PrintNodes'. -/
def printNodesUptoCard : Claim7 := { stood := { row := printNodesUptoRow, standIns := [], harness := (true, "0a3015fb6c8a65d6ccf5bbbf9c4ff03a9478903df3eb429463709521f177fa06"), looks := true }, kinds := [], alts := [], laidByText := true, laidKinds := [.data, .data, .data, .sentinel, .sentinel, .data, .data, .data, .data], laidTests := true, laidLooks := .later }
def PrintNodesUptoCardSaid : Prop := Claim7.holds Tryz.pinned (.plain (OpenSpec.upto printNodesSpec)) printNodesUptoCard

/-- THE SECOND FORM's CARD OF 'catchmentlaw13.PrintTexts'. -/
def printTextsUptoCard : Claim7 := { stood := { row := printTextsUptoRow, standIns := [], harness := (true, "0a3015fb6c8a65d6ccf5bbbf9c4ff03a9478903df3eb429463709521f177fa06"), looks := true }, kinds := [], alts := [], laidByText := true, laidKinds := [.data, .data, .data, .sentinel, .sentinel, .data, .data, .data, .data], laidTests := true, laidLooks := .later }
def PrintTextsUptoCardSaid : Prop := Claim7.holds Tryz.pinned (.plain (OpenSpec.upto printTextsSpec)) printTextsUptoCard

/-- THE SECOND FORM's CARD OF 'catchmentlaw13.PrintConds'. -/
def printCondsUptoCard : Claim7 := { stood := { row := printCondsUptoRow, standIns := [], harness := (true, "0a3015fb6c8a65d6ccf5bbbf9c4ff03a9478903df3eb429463709521f177fa06"), looks := true }, kinds := [], alts := [], laidByText := true, laidKinds := [.data, .data, .data, .sentinel, .sentinel, .data, .data, .data, .data], laidTests := true, laidLooks := .later }
def PrintCondsUptoCardSaid : Prop := Claim7.holds Tryz.pinned (.plain (OpenSpec.upto printCondsSpec)) printCondsUptoCard
end Rows
end Go.Proofs.YtomnjckbgmbgmaaGreatDoor
