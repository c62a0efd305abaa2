/-
  DERIVED. GIVEN WITH THE SEED: THE CARDS: each row of YtjplnelffiegmabDoorRows.lean that lists a variable, with what it lists TIED to the program's text (the seventh form; the later family's looks); each row that meets fmt, with fmt's text TOLD by the authors' own Lean function (tested against real Go, not proved from fmt's source: count such statements apart). THE CARD IS WHAT COUNTS. Prove the row's statement (the work); the ties are given (YtjplnelffiegmabDoorTie.lean); close each card by the builder's one call (the guide's Derived/Test/ToyasCard.lean, 'card_holds'). Laid BY PROGRAM, IN A SANDBOX (cutbox-door.mjs). By AI agents, Wed Nov 11 2026. No macro, syntax, notation, axiom, sorry.
-/
import Derived.Test.YtjplnelffiegmabDoorRows
import GoSem.ClaimSeven
namespace Go.Proofs.YtjplnelffiegmabDoor
namespace Rows

/-- THE TIED CARD OF 'catchmentlaw01.ValueMakes'. -/
def valueMakesCard : Claim7 := { stood := { row := valueMakesRow, standIns := [], harness := (true, "afb3c5a6739425d57f275ab073243297aa63c07b7a85c32aea9307eaf14b7c37"), looks := false }, kinds := [], alts := [], laidByText := true, laidKinds := [.data, .data, .data], laidTests := true, laidLooks := .later }
def ValueMakesCardSaid : Prop := Claim7.holds Tryd.pinned (.plain (OpenSpec.ofChange valueMakesSpec)) valueMakesCard

/-- THE TIED CARD OF 'catchmentlaw01.ValueHow'. -/
def valueHowCard : Claim7 := { stood := { row := valueHowRow, standIns := [], harness := (true, "afb3c5a6739425d57f275ab073243297aa63c07b7a85c32aea9307eaf14b7c37"), looks := false }, kinds := [], alts := [], laidByText := true, laidKinds := [.data, .data, .data], laidTests := true, laidLooks := .later }
def ValueHowCardSaid : Prop := Claim7.holds Tryd.pinned (.plain (OpenSpec.ofChange valueHowSpec)) valueHowCard

/-- THE TIED CARD OF 'catchmentlaw01.ValueTells'. -/
def valueTellsCard : Claim7 := { stood := { row := valueTellsRow, standIns := [], harness := (true, "afb3c5a6739425d57f275ab073243297aa63c07b7a85c32aea9307eaf14b7c37"), looks := false }, kinds := [], alts := [], laidByText := true, laidKinds := [.data, .data, .data], laidTests := true, laidLooks := .later }
def ValueTellsCardSaid : Prop := Claim7.holds Tryd.pinned (.plain (OpenSpec.ofChange valueTellsSpec)) valueTellsCard

/-- THE TIED CARD OF 'catchmentlaw01.ValueNoughts'. -/
def valueNoughtsCard : Claim7 := { stood := { row := valueNoughtsRow, standIns := [], harness := (true, "afb3c5a6739425d57f275ab073243297aa63c07b7a85c32aea9307eaf14b7c37"), looks := false }, kinds := [], alts := [], laidByText := true, laidKinds := [.data, .data, .data], laidTests := true, laidLooks := .later }
def ValueNoughtsCardSaid : Prop := Claim7.holds Tryd.pinned (.plain (OpenSpec.ofChange valueNoughtsSpec)) valueNoughtsCard

/-- THE SECOND FORM's CARD OF 'catchmentlaw01.ValueMakes'. -/
def valueMakesUptoCard : Claim7 := { stood := { row := valueMakesUptoRow, standIns := [], harness := (true, "afb3c5a6739425d57f275ab073243297aa63c07b7a85c32aea9307eaf14b7c37"), looks := false }, kinds := [], alts := [], laidByText := true, laidKinds := [.data, .data, .data], laidTests := true, laidLooks := .later }
def ValueMakesUptoCardSaid : Prop := Claim7.holds Tryd.pinned (.plain (OpenSpec.upto valueMakesSpec)) valueMakesUptoCard

/-- THE SECOND FORM's CARD OF 'catchmentlaw01.ValueHow'. -/
def valueHowUptoCard : Claim7 := { stood := { row := valueHowUptoRow, standIns := [], harness := (true, "afb3c5a6739425d57f275ab073243297aa63c07b7a85c32aea9307eaf14b7c37"), looks := false }, kinds := [], alts := [], laidByText := true, laidKinds := [.data, .data, .data], laidTests := true, laidLooks := .later }
def ValueHowUptoCardSaid : Prop := Claim7.holds Tryd.pinned (.plain (OpenSpec.upto valueHowSpec)) valueHowUptoCard

/-- THE SECOND FORM's CARD OF 'catchmentlaw01.ValueTells'. -/
def valueTellsUptoCard : Claim7 := { stood := { row := valueTellsUptoRow, standIns := [], harness := (true, "afb3c5a6739425d57f275ab073243297aa63c07b7a85c32aea9307eaf14b7c37"), looks := false }, kinds := [], alts := [], laidByText := true, laidKinds := [.data, .data, .data], laidTests := true, laidLooks := .later }
def ValueTellsUptoCardSaid : Prop := Claim7.holds Tryd.pinned (.plain (OpenSpec.upto valueTellsSpec)) valueTellsUptoCard

/-- THE SECOND FORM's CARD OF 'catchmentlaw01.ValueNoughts'. -/
def valueNoughtsUptoCard : Claim7 := { stood := { row := valueNoughtsUptoRow, standIns := [], harness := (true, "afb3c5a6739425d57f275ab073243297aa63c07b7a85c32aea9307eaf14b7c37"), looks := false }, kinds := [], alts := [], laidByText := true, laidKinds := [.data, .data, .data], laidTests := true, laidLooks := .later }
def ValueNoughtsUptoCardSaid : Prop := Claim7.holds Tryd.pinned (.plain (OpenSpec.upto valueNoughtsSpec)) valueNoughtsUptoCard
end Rows
end Go.Proofs.YtjplnelffiegmabDoor
