/-
  DERIVED. GIVEN WITH THE SEED: THE CARDS: each row of YtmpjmimhoikknaaGreatDoorRows.lean that lists a variable, with what it lists TIED to the program's text (the seventh form; the later family's looks); each row that meets fmt, with fmt's text TOLD by the authors' own Lean function (tested against real Go, not proved from fmt's source: count such statements apart). THE CARD IS WHAT COUNTS. Prove the row's statement (the work); the ties are given (YtmpjmimhoikknaaGreatDoorTie.lean); close each card by the builder's one call (the guide's Derived/Test/ToyasCard.lean, 'card_holds'). Laid BY PROGRAM, IN A SANDBOX (cutbox-door.mjs). By AI agents, Wed Nov 11 2026. No macro, syntax, notation, axiom, sorry.
-/
import Derived.Test.YtmpjmimhoikknaaGreatDoorRows
import GoSem.ClaimSeven
namespace Go.Proofs.YtmpjmimhoikknaaGreatDoor
namespace Rows

/-- THE TIED CARD OF 'catchmentlaw13.PrintNodes'. -/
def printNodesCard : Claim7 := { stood := { row := printNodesRow, standIns := [], harness := (true, "180217d41ddfb957e5e7ffb337306d3fda63b23fb9835e9fc7f521b5d9e61688"), looks := true }, kinds := [], alts := [], laidByText := true, laidKinds := [.data, .data, .data, .sentinel, .sentinel, .data, .data, .data, .data], laidTests := true, laidLooks := .later }
def PrintNodesCardSaid : Prop := Claim7.holds Tryz.pinned (.plain (OpenSpec.ofChange printNodesSpec)) printNodesCard

/-- THE TIED CARD OF 'catchmentlaw13.PrintTexts'. -/
def printTextsCard : Claim7 := { stood := { row := printTextsRow, standIns := [], harness := (true, "180217d41ddfb957e5e7ffb337306d3fda63b23fb9835e9fc7f521b5d9e61688"), looks := true }, kinds := [], alts := [], laidByText := true, laidKinds := [.data, .data, .data, .sentinel, .sentinel, .data, .data, .data, .data], laidTests := true, laidLooks := .later }
def PrintTextsCardSaid : Prop := Claim7.holds Tryz.pinned (.plain (OpenSpec.ofChange printTextsSpec)) printTextsCard

/-- THE TIED CARD OF 'catchmentlaw13.PrintConds'. -/
def printCondsCard : Claim7 := { stood := { row := printCondsRow, standIns := [], harness := (true, "180217d41ddfb957e5e7ffb337306d3fda63b23fb9835e9fc7f521b5d9e61688"), looks := true }, kinds := [], alts := [], laidByText := true, laidKinds := [.data, .data, .data, .sentinel, .sentinel, .data, .data, .data, .data], laidTests := true, laidLooks := .later }
def PrintCondsCardSaid : Prop := Claim7.holds Tryz.pinned (.plain (OpenSpec.ofChange printCondsSpec)) printCondsCard

/-- THE TIED CARD OF 'catchmentlaw14.CheckNodes'. -/
def checkNodesCard : Claim7 := { stood := { row := checkNodesRow, standIns := [], harness := (true, "180217d41ddfb957e5e7ffb337306d3fda63b23fb9835e9fc7f521b5d9e61688"), looks := true }, kinds := [], alts := [], laidByText := true, laidKinds := [.data, .data, .data, .sentinel, .sentinel, .data, .data, .data, .data], laidTests := true, laidLooks := .later }
def CheckNodesCardSaid : Prop := Claim7.holds Tryz.pinned (.plain (OpenSpec.ofChange checkNodesSpec)) checkNodesCard

/-- THE TIED CARD OF 'catchmentlaw14.CheckTexts'. -/
def checkTextsCard : Claim7 := { stood := { row := checkTextsRow, standIns := [], harness := (true, "180217d41ddfb957e5e7ffb337306d3fda63b23fb9835e9fc7f521b5d9e61688"), looks := true }, kinds := [], alts := [], laidByText := true, laidKinds := [.data, .data, .data, .sentinel, .sentinel, .data, .data, .data, .data], laidTests := true, laidLooks := .later }
def CheckTextsCardSaid : Prop := Claim7.holds Tryz.pinned (.plain (OpenSpec.ofChange checkTextsSpec)) checkTextsCard

/-- THE TIED CARD OF 'catchmentlaw14.CheckTables'. -/
def checkTablesCard : Claim7 := { stood := { row := checkTablesRow, standIns := [], harness := (true, "180217d41ddfb957e5e7ffb337306d3fda63b23fb9835e9fc7f521b5d9e61688"), looks := true }, kinds := [], alts := [], laidByText := true, laidKinds := [.data, .data, .data, .sentinel, .sentinel, .data, .data, .data, .data], laidTests := true, laidLooks := .later }
def CheckTablesCardSaid : Prop := Claim7.holds Tryz.pinned (.plain (OpenSpec.ofChange checkTablesSpec)) checkTablesCard

/-- THE TIED CARD OF 'catchmentlaw14.CheckSame'. -/
def checkSameCard : Claim7 := { stood := { row := checkSameRow, standIns := [], harness := (true, "180217d41ddfb957e5e7ffb337306d3fda63b23fb9835e9fc7f521b5d9e61688"), looks := true }, kinds := [], alts := [], laidByText := true, laidKinds := [.data, .data, .data, .sentinel, .sentinel, .data, .data, .data, .data], laidTests := true, laidLooks := .later }
def CheckSameCardSaid : Prop := Claim7.holds Tryz.pinned (.plain (OpenSpec.ofChange checkSameSpec)) checkSameCard

/-- THE TIED CARD OF 'catchmentlaw14.CheckGroups'. -/
def checkGroupsCard : Claim7 := { stood := { row := checkGroupsRow, standIns := [], harness := (true, "180217d41ddfb957e5e7ffb337306d3fda63b23fb9835e9fc7f521b5d9e61688"), looks := true }, kinds := [], alts := [], laidByText := true, laidKinds := [.data, .data, .data, .sentinel, .sentinel, .data, .data, .data, .data], laidTests := true, laidLooks := .later }
def CheckGroupsCardSaid : Prop := Claim7.holds Tryz.pinned (.plain (OpenSpec.ofChange checkGroupsSpec)) checkGroupsCard

/-- THE SECOND FORM's CARD OF 'catchmentlaw13.PrintNodes'. -/
def printNodesUptoCard : Claim7 := { stood := { row := printNodesUptoRow, standIns := [], harness := (true, "180217d41ddfb957e5e7ffb337306d3fda63b23fb9835e9fc7f521b5d9e61688"), looks := true }, kinds := [], alts := [], laidByText := true, laidKinds := [.data, .data, .data, .sentinel, .sentinel, .data, .data, .data, .data], laidTests := true, laidLooks := .later }
def PrintNodesUptoCardSaid : Prop := Claim7.holds Tryz.pinned (.plain (OpenSpec.upto printNodesSpec)) printNodesUptoCard

/-- THE SECOND FORM's CARD OF 'catchmentlaw13.PrintTexts'. -/
def printTextsUptoCard : Claim7 := { stood := { row := printTextsUptoRow, standIns := [], harness := (true, "180217d41ddfb957e5e7ffb337306d3fda63b23fb9835e9fc7f521b5d9e61688"), looks := true }, kinds := [], alts := [], laidByText := true, laidKinds := [.data, .data, .data, .sentinel, .sentinel, .data, .data, .data, .data], laidTests := true, laidLooks := .later }
def PrintTextsUptoCardSaid : Prop := Claim7.holds Tryz.pinned (.plain (OpenSpec.upto printTextsSpec)) printTextsUptoCard

/-- THE SECOND FORM's CARD OF 'catchmentlaw13.PrintConds'. -/
def printCondsUptoCard : Claim7 := { stood := { row := printCondsUptoRow, standIns := [], harness := (true, "180217d41ddfb957e5e7ffb337306d3fda63b23fb9835e9fc7f521b5d9e61688"), looks := true }, kinds := [], alts := [], laidByText := true, laidKinds := [.data, .data, .data, .sentinel, .sentinel, .data, .data, .data, .data], laidTests := true, laidLooks := .later }
def PrintCondsUptoCardSaid : Prop := Claim7.holds Tryz.pinned (.plain (OpenSpec.upto printCondsSpec)) printCondsUptoCard

/-- THE SECOND FORM's CARD OF 'catchmentlaw14.CheckNodes'. -/
def checkNodesUptoCard : Claim7 := { stood := { row := checkNodesUptoRow, standIns := [], harness := (true, "180217d41ddfb957e5e7ffb337306d3fda63b23fb9835e9fc7f521b5d9e61688"), looks := true }, kinds := [], alts := [], laidByText := true, laidKinds := [.data, .data, .data, .sentinel, .sentinel, .data, .data, .data, .data], laidTests := true, laidLooks := .later }
def CheckNodesUptoCardSaid : Prop := Claim7.holds Tryz.pinned (.plain (OpenSpec.upto checkNodesSpec)) checkNodesUptoCard

/-- THE SECOND FORM's CARD OF 'catchmentlaw14.CheckTexts'. -/
def checkTextsUptoCard : Claim7 := { stood := { row := checkTextsUptoRow, standIns := [], harness := (true, "180217d41ddfb957e5e7ffb337306d3fda63b23fb9835e9fc7f521b5d9e61688"), looks := true }, kinds := [], alts := [], laidByText := true, laidKinds := [.data, .data, .data, .sentinel, .sentinel, .data, .data, .data, .data], laidTests := true, laidLooks := .later }
def CheckTextsUptoCardSaid : Prop := Claim7.holds Tryz.pinned (.plain (OpenSpec.upto checkTextsSpec)) checkTextsUptoCard

/-- THE SECOND FORM's CARD OF 'catchmentlaw14.CheckTables'. -/
def checkTablesUptoCard : Claim7 := { stood := { row := checkTablesUptoRow, standIns := [], harness := (true, "180217d41ddfb957e5e7ffb337306d3fda63b23fb9835e9fc7f521b5d9e61688"), looks := true }, kinds := [], alts := [], laidByText := true, laidKinds := [.data, .data, .data, .sentinel, .sentinel, .data, .data, .data, .data], laidTests := true, laidLooks := .later }
def CheckTablesUptoCardSaid : Prop := Claim7.holds Tryz.pinned (.plain (OpenSpec.upto checkTablesSpec)) checkTablesUptoCard

/-- THE SECOND FORM's CARD OF 'catchmentlaw14.CheckSame'. -/
def checkSameUptoCard : Claim7 := { stood := { row := checkSameUptoRow, standIns := [], harness := (true, "180217d41ddfb957e5e7ffb337306d3fda63b23fb9835e9fc7f521b5d9e61688"), looks := true }, kinds := [], alts := [], laidByText := true, laidKinds := [.data, .data, .data, .sentinel, .sentinel, .data, .data, .data, .data], laidTests := true, laidLooks := .later }
def CheckSameUptoCardSaid : Prop := Claim7.holds Tryz.pinned (.plain (OpenSpec.upto checkSameSpec)) checkSameUptoCard

/-- THE SECOND FORM's CARD OF 'catchmentlaw14.CheckGroups'. -/
def checkGroupsUptoCard : Claim7 := { stood := { row := checkGroupsUptoRow, standIns := [], harness := (true, "180217d41ddfb957e5e7ffb337306d3fda63b23fb9835e9fc7f521b5d9e61688"), looks := true }, kinds := [], alts := [], laidByText := true, laidKinds := [.data, .data, .data, .sentinel, .sentinel, .data, .data, .data, .data], laidTests := true, laidLooks := .later }
def CheckGroupsUptoCardSaid : Prop := Claim7.holds Tryz.pinned (.plain (OpenSpec.upto checkGroupsSpec)) checkGroupsUptoCard
end Rows
end Go.Proofs.YtmpjmimhoikknaaGreatDoor
