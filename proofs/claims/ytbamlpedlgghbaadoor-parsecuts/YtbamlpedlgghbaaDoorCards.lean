/-
  DERIVED. GIVEN WITH THE SEED: THE CARDS: each row of YtbamlpedlgghbaaDoorRows.lean that lists a variable, with what it lists TIED to the program's text (the seventh form; the later family's looks); each row that meets fmt, with fmt's text TOLD by the authors' own Lean function (tested against real Go, not proved from fmt's source: count such statements apart). THE CARD IS WHAT COUNTS. Prove the row's statement (the work); the ties are given (YtbamlpedlgghbaaDoorTie.lean); close each card by the builder's one call (the guide's Derived/Test/ToyasCard.lean, 'card_holds'). Laid BY PROGRAM, IN A SANDBOX (cutbox-door.mjs). By AI agents, Wed Nov 11 2026. No macro, syntax, notation, axiom, sorry.
-/
import Derived.Test.YtbamlpedlgghbaaDoorRows
import GoSem.ClaimSeven
namespace Go.Proofs.YtbamlpedlgghbaaDoor
namespace Rows

/-- THE TIED CARD OF 'catchmentlaw12.ParseTree'. -/
def parseTreeCard : Claim7 := { stood := { row := parseTreeRow, standIns := [], harness := (true, "dacaa80e01a62c19b62a7d1bcc9633bdfc7db80a619e3719900c731e9da94621"), looks := true }, kinds := [], alts := [], laidByText := true, laidKinds := [.data, .data, .data, .sentinel, .sentinel, .data], laidTests := true, laidLooks := .later }
def ParseTreeCardSaid : Prop := Claim7.holds Tryd.pinned (.plain (OpenSpec.ofChange parseTreeSpec)) parseTreeCard

/-- THE TIED CARD OF 'catchmentlaw12.ParseCuts'. -/
def parseCutsCard : Claim7 := { stood := { row := parseCutsRow, standIns := [], harness := (true, "dacaa80e01a62c19b62a7d1bcc9633bdfc7db80a619e3719900c731e9da94621"), looks := true }, kinds := [], alts := [], laidByText := true, laidKinds := [.data, .data, .data, .sentinel, .sentinel, .data], laidTests := true, laidLooks := .later }
def ParseCutsCardSaid : Prop := Claim7.holds Tryd.pinned (.plain (OpenSpec.ofChange parseCutsSpec)) parseCutsCard

/-- THE SECOND FORM's CARD OF 'catchmentlaw12.ParseTree'. -/
def parseTreeUptoCard : Claim7 := { stood := { row := parseTreeUptoRow, standIns := [], harness := (true, "dacaa80e01a62c19b62a7d1bcc9633bdfc7db80a619e3719900c731e9da94621"), looks := true }, kinds := [], alts := [], laidByText := true, laidKinds := [.data, .data, .data, .sentinel, .sentinel, .data], laidTests := true, laidLooks := .later }
def ParseTreeUptoCardSaid : Prop := Claim7.holds Tryd.pinned (.plain (OpenSpec.upto parseTreeSpec)) parseTreeUptoCard

/-- THE SECOND FORM's CARD OF 'catchmentlaw12.ParseCuts'. -/
def parseCutsUptoCard : Claim7 := { stood := { row := parseCutsUptoRow, standIns := [], harness := (true, "dacaa80e01a62c19b62a7d1bcc9633bdfc7db80a619e3719900c731e9da94621"), looks := true }, kinds := [], alts := [], laidByText := true, laidKinds := [.data, .data, .data, .sentinel, .sentinel, .data], laidTests := true, laidLooks := .later }
def ParseCutsUptoCardSaid : Prop := Claim7.holds Tryd.pinned (.plain (OpenSpec.upto parseCutsSpec)) parseCutsUptoCard
end Rows
end Go.Proofs.YtbamlpedlgghbaaDoor
