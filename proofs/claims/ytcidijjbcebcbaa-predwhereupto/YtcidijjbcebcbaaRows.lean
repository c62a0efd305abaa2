/-
  No cell of these rows narrows 'for every input' (looked for: loops, veiled, ifaces, maps, wideKeys, modest, calm, conditions, laid).
  DERIVED. THE GIVEN ROWS OF THIS SEAT. 13 by the template 'for every input the law returns true; each argument reads behind the call as it read before'; 0 by the template 'total and deterministic' (their statements: YtcidijjbcebcbaaTotals.lean).
  GIVEN WITH THE SEED: the statements are not yours to turn. If you find one false, say at which input.
  Laid BY PROGRAM, IN A SANDBOX (cutbox-rows.mjs): the forced cells as the released guide's own fill.sh prints them over the translation 7d344124b333f431… (all of the seat's roots in one cut). By AI agents, Wed Nov 11 2026. No macro, syntax, notation, axiom, sorry.
-/
import Derived.Test.YtcidijjbcebcbaaChecked
import GoSem.Claim
import GoSem.ClaimJoined
import GoSem.ClaimMapViews
import Derived.JoinedTies
import Derived.KernelRfl
namespace Go.Proofs.Ytcidijjbcebcbaa
/- THE CELL 'sum', in the pinned program and in every row, IS THE sha256 OF THE DUMP (.gsa) THAT YtcidijjbcebcbaaProg.lean LOADS. Nothing in Lean hashes anything: it is a label: what it is worth is what the hold of that sum in a sandbox is worth. -/
noncomputable def Try.pinned : Pinned := { name := "ytcidijjbcebcbaa", sum := "7d344124b333f43162ff22b92510fc17298f84fbf8c6348642827d1b215ed2ef", checked := Try.checked }
namespace Rows
def none {H : Type} : Left H := { results := [], args := [] }

/-- 'catchmentlaw15.PredHolds': WHATEVER THE INPUT: true; the input reads as it did. -/
def predHoldsSpec : ChangeSpec := { name := "predHolds", fn := fun _ => fun
  | [d1, d2, d3] => { results := [.lit (.bool true)], args := [d1, d2, d3] }
  | _ => none }
def predHoldsRow : OpenClaim := { program := "ytcidijjbcebcbaa", sum := "7d344124b333f43162ff22b92510fc17298f84fbf8c6348642827d1b215ed2ef", func := "catchment/catchmentlaw15.PredHolds", spec := "predHolds", inPlace := ["internal/bytealg.IndexByteString", "internal/bytealg.IndexString"], unfollowed := true, recurses := true, named := ["internal/bytealg.MaxLen"], apart := false }
def PredHoldsSaid : Prop := predHoldsRow.holds Try.pinned (OpenSpec.ofChange predHoldsSpec)

/-- ITS FALSE NEIGHBOUR: 'it returns false'. Refute it at one input. -/
def predHoldsWrong : ChangeSpec := { name := "predHolds", fn := fun _ => fun
  | [d1, d2, d3] => { results := [.lit (.bool false)], args := [d1, d2, d3] }
  | _ => none }
def PredHoldsWrongFalsely : Prop := predHoldsRow.holds Try.pinned (OpenSpec.ofChange predHoldsWrong)

/-- 'catchmentlaw15.PredWhere': WHATEVER THE INPUT: true; the input reads as it did. -/
def predWhereSpec : ChangeSpec := { name := "predWhere", fn := fun _ => fun
  | [d1, d2, d3] => { results := [.lit (.bool true)], args := [d1, d2, d3] }
  | _ => none }
def predWhereRow : OpenClaim := { program := "ytcidijjbcebcbaa", sum := "7d344124b333f43162ff22b92510fc17298f84fbf8c6348642827d1b215ed2ef", func := "catchment/catchmentlaw15.PredWhere", spec := "predWhere", inPlace := ["internal/bytealg.IndexByteString", "internal/bytealg.IndexString"], unfollowed := true, recurses := true, named := ["internal/bytealg.MaxLen"], apart := false }
def PredWhereSaid : Prop := predWhereRow.holds Try.pinned (OpenSpec.ofChange predWhereSpec)

/-- ITS FALSE NEIGHBOUR: 'it returns false'. Refute it at one input. -/
def predWhereWrong : ChangeSpec := { name := "predWhere", fn := fun _ => fun
  | [d1, d2, d3] => { results := [.lit (.bool false)], args := [d1, d2, d3] }
  | _ => none }
def PredWhereWrongFalsely : Prop := predWhereRow.holds Try.pinned (OpenSpec.ofChange predWhereWrong)

/-- 'catchmentlaw15.PredNot': WHATEVER THE INPUT: true; the input reads as it did. -/
def predNotSpec : ChangeSpec := { name := "predNot", fn := fun _ => fun
  | [d1, d2] => { results := [.lit (.bool true)], args := [d1, d2] }
  | _ => none }
def predNotRow : OpenClaim := { program := "ytcidijjbcebcbaa", sum := "7d344124b333f43162ff22b92510fc17298f84fbf8c6348642827d1b215ed2ef", func := "catchment/catchmentlaw15.PredNot", spec := "predNot", inPlace := ["internal/bytealg.IndexByteString", "internal/bytealg.IndexString"], unfollowed := true, recurses := true, named := ["internal/bytealg.MaxLen"], apart := false }
def PredNotSaid : Prop := predNotRow.holds Try.pinned (OpenSpec.ofChange predNotSpec)

/-- ITS FALSE NEIGHBOUR: 'it returns false'. Refute it at one input. -/
def predNotWrong : ChangeSpec := { name := "predNot", fn := fun _ => fun
  | [d1, d2] => { results := [.lit (.bool false)], args := [d1, d2] }
  | _ => none }
def PredNotWrongFalsely : Prop := predNotRow.holds Try.pinned (OpenSpec.ofChange predNotWrong)

/-- 'catchmentlaw15.PredMorgan': WHATEVER THE INPUT: true; the input reads as it did. -/
def predMorganSpec : ChangeSpec := { name := "predMorgan", fn := fun _ => fun
  | [d1, d2, d3] => { results := [.lit (.bool true)], args := [d1, d2, d3] }
  | _ => none }
def predMorganRow : OpenClaim := { program := "ytcidijjbcebcbaa", sum := "7d344124b333f43162ff22b92510fc17298f84fbf8c6348642827d1b215ed2ef", func := "catchment/catchmentlaw15.PredMorgan", spec := "predMorgan", inPlace := ["internal/bytealg.IndexByteString", "internal/bytealg.IndexString"], unfollowed := true, recurses := true, named := ["internal/bytealg.MaxLen"], apart := false }
def PredMorganSaid : Prop := predMorganRow.holds Try.pinned (OpenSpec.ofChange predMorganSpec)

/-- ITS FALSE NEIGHBOUR: 'it returns false'. Refute it at one input. -/
def predMorganWrong : ChangeSpec := { name := "predMorgan", fn := fun _ => fun
  | [d1, d2, d3] => { results := [.lit (.bool false)], args := [d1, d2, d3] }
  | _ => none }
def PredMorganWrongFalsely : Prop := predMorganRow.holds Try.pinned (OpenSpec.ofChange predMorganWrong)

/-- 'catchmentlaw15.PredSides': WHATEVER THE INPUT: true; the input reads as it did. -/
def predSidesSpec : ChangeSpec := { name := "predSides", fn := fun _ => fun
  | [d1, d2, d3] => { results := [.lit (.bool true)], args := [d1, d2, d3] }
  | _ => none }
def predSidesRow : OpenClaim := { program := "ytcidijjbcebcbaa", sum := "7d344124b333f43162ff22b92510fc17298f84fbf8c6348642827d1b215ed2ef", func := "catchment/catchmentlaw15.PredSides", spec := "predSides", inPlace := ["internal/bytealg.IndexByteString", "internal/bytealg.IndexString"], unfollowed := true, recurses := true, named := ["internal/bytealg.MaxLen"], apart := false }
def PredSidesSaid : Prop := predSidesRow.holds Try.pinned (OpenSpec.ofChange predSidesSpec)

/-- ITS FALSE NEIGHBOUR: 'it returns false'. Refute it at one input. -/
def predSidesWrong : ChangeSpec := { name := "predSides", fn := fun _ => fun
  | [d1, d2, d3] => { results := [.lit (.bool false)], args := [d1, d2, d3] }
  | _ => none }
def PredSidesWrongFalsely : Prop := predSidesRow.holds Try.pinned (OpenSpec.ofChange predSidesWrong)

/-- 'catchmentlaw16.RowopsTops': WHATEVER THE INPUT: true; the input reads as it did. -/
def rowopsTopsSpec : ChangeSpec := { name := "rowopsTops", fn := fun _ => fun
  | [d1, d2, d3] => { results := [.lit (.bool true)], args := [d1, d2, d3] }
  | _ => none }
def rowopsTopsRow : OpenClaim := { program := "ytcidijjbcebcbaa", sum := "7d344124b333f43162ff22b92510fc17298f84fbf8c6348642827d1b215ed2ef", func := "catchment/catchmentlaw16.RowopsTops", spec := "rowopsTops", unfollowed := true, recurses := true, apart := false }
def RowopsTopsSaid : Prop := rowopsTopsRow.holds Try.pinned (OpenSpec.ofChange rowopsTopsSpec)

/-- ITS FALSE NEIGHBOUR: 'it returns false'. Refute it at one input. -/
def rowopsTopsWrong : ChangeSpec := { name := "rowopsTops", fn := fun _ => fun
  | [d1, d2, d3] => { results := [.lit (.bool false)], args := [d1, d2, d3] }
  | _ => none }
def RowopsTopsWrongFalsely : Prop := rowopsTopsRow.holds Try.pinned (OpenSpec.ofChange rowopsTopsWrong)

/-- 'catchmentlaw16.RowopsParts': WHATEVER THE INPUT: true; the input reads as it did. -/
def rowopsPartsSpec : ChangeSpec := { name := "rowopsParts", fn := fun _ => fun
  | [d1, d2, d3] => { results := [.lit (.bool true)], args := [d1, d2, d3] }
  | _ => none }
def rowopsPartsRow : OpenClaim := { program := "ytcidijjbcebcbaa", sum := "7d344124b333f43162ff22b92510fc17298f84fbf8c6348642827d1b215ed2ef", func := "catchment/catchmentlaw16.RowopsParts", spec := "rowopsParts", unfollowed := true, recurses := true, apart := false }
def RowopsPartsSaid : Prop := rowopsPartsRow.holds Try.pinned (OpenSpec.ofChange rowopsPartsSpec)

/-- ITS FALSE NEIGHBOUR: 'it returns false'. Refute it at one input. -/
def rowopsPartsWrong : ChangeSpec := { name := "rowopsParts", fn := fun _ => fun
  | [d1, d2, d3] => { results := [.lit (.bool false)], args := [d1, d2, d3] }
  | _ => none }
def RowopsPartsWrongFalsely : Prop := rowopsPartsRow.holds Try.pinned (OpenSpec.ofChange rowopsPartsWrong)

/-- 'catchmentlaw16.RowopsWhole': WHATEVER THE INPUT: true; the input reads as it did. -/
def rowopsWholeSpec : ChangeSpec := { name := "rowopsWhole", fn := fun _ => fun
  | [d1, d2, d3] => { results := [.lit (.bool true)], args := [d1, d2, d3] }
  | _ => none }
def rowopsWholeRow : OpenClaim := { program := "ytcidijjbcebcbaa", sum := "7d344124b333f43162ff22b92510fc17298f84fbf8c6348642827d1b215ed2ef", func := "catchment/catchmentlaw16.RowopsWhole", spec := "rowopsWhole", unfollowed := true, recurses := true, apart := false }
def RowopsWholeSaid : Prop := rowopsWholeRow.holds Try.pinned (OpenSpec.ofChange rowopsWholeSpec)

/-- ITS FALSE NEIGHBOUR: 'it returns false'. Refute it at one input. -/
def rowopsWholeWrong : ChangeSpec := { name := "rowopsWhole", fn := fun _ => fun
  | [d1, d2, d3] => { results := [.lit (.bool false)], args := [d1, d2, d3] }
  | _ => none }
def RowopsWholeWrongFalsely : Prop := rowopsWholeRow.holds Try.pinned (OpenSpec.ofChange rowopsWholeWrong)

/-- 'catchmentlaw17.JoinPlays': WHATEVER THE INPUT: true; the input reads as it did. -/
def joinPlaysSpec : ChangeSpec := { name := "joinPlays", fn := fun _ => fun
  | [d1, d2, d3] => { results := [.lit (.bool true)], args := [d1, d2, d3] }
  | _ => none }
def joinPlaysRow : OpenClaim := { program := "ytcidijjbcebcbaa", sum := "7d344124b333f43162ff22b92510fc17298f84fbf8c6348642827d1b215ed2ef", func := "catchment/catchmentlaw17.JoinPlays", spec := "joinPlays", unfollowed := true, recurses := true, apart := false }
def JoinPlaysSaid : Prop := joinPlaysRow.holds Try.pinned (OpenSpec.ofChange joinPlaysSpec)

/-- ITS FALSE NEIGHBOUR: 'it returns false'. Refute it at one input. -/
def joinPlaysWrong : ChangeSpec := { name := "joinPlays", fn := fun _ => fun
  | [d1, d2, d3] => { results := [.lit (.bool false)], args := [d1, d2, d3] }
  | _ => none }
def JoinPlaysWrongFalsely : Prop := joinPlaysRow.holds Try.pinned (OpenSpec.ofChange joinPlaysWrong)

/-- 'catchmentlaw17.JoinSides': WHATEVER THE INPUT: true; the input reads as it did. -/
def joinSidesSpec : ChangeSpec := { name := "joinSides", fn := fun _ => fun
  | [d1, d2] => { results := [.lit (.bool true)], args := [d1, d2] }
  | _ => none }
def joinSidesRow : OpenClaim := { program := "ytcidijjbcebcbaa", sum := "7d344124b333f43162ff22b92510fc17298f84fbf8c6348642827d1b215ed2ef", func := "catchment/catchmentlaw17.JoinSides", spec := "joinSides", unfollowed := true, recurses := true, apart := false }
def JoinSidesSaid : Prop := joinSidesRow.holds Try.pinned (OpenSpec.ofChange joinSidesSpec)

/-- ITS FALSE NEIGHBOUR: 'it returns false'. Refute it at one input. -/
def joinSidesWrong : ChangeSpec := { name := "joinSides", fn := fun _ => fun
  | [d1, d2] => { results := [.lit (.bool false)], args := [d1, d2] }
  | _ => none }
def JoinSidesWrongFalsely : Prop := joinSidesRow.holds Try.pinned (OpenSpec.ofChange joinSidesWrong)

/-- 'catchmentlaw17.JoinParts': WHATEVER THE INPUT: true; the input reads as it did. -/
def joinPartsSpec : ChangeSpec := { name := "joinParts", fn := fun _ => fun
  | [d1, d2, d3] => { results := [.lit (.bool true)], args := [d1, d2, d3] }
  | _ => none }
def joinPartsRow : OpenClaim := { program := "ytcidijjbcebcbaa", sum := "7d344124b333f43162ff22b92510fc17298f84fbf8c6348642827d1b215ed2ef", func := "catchment/catchmentlaw17.JoinParts", spec := "joinParts", unfollowed := true, recurses := true, apart := false }
def JoinPartsSaid : Prop := joinPartsRow.holds Try.pinned (OpenSpec.ofChange joinPartsSpec)

/-- ITS FALSE NEIGHBOUR: 'it returns false'. Refute it at one input. -/
def joinPartsWrong : ChangeSpec := { name := "joinParts", fn := fun _ => fun
  | [d1, d2, d3] => { results := [.lit (.bool false)], args := [d1, d2, d3] }
  | _ => none }
def JoinPartsWrongFalsely : Prop := joinPartsRow.holds Try.pinned (OpenSpec.ofChange joinPartsWrong)

/-- 'catchmentlaw17.JoinNone': WHATEVER THE INPUT: true; the input reads as it did. -/
def joinNoneSpec : ChangeSpec := { name := "joinNone", fn := fun _ => fun
  | [d] => { results := [.lit (.bool true)], args := [d] }
  | _ => none }
def joinNoneRow : OpenClaim := { program := "ytcidijjbcebcbaa", sum := "7d344124b333f43162ff22b92510fc17298f84fbf8c6348642827d1b215ed2ef", func := "catchment/catchmentlaw17.JoinNone", spec := "joinNone", unfollowed := true, recurses := true, apart := false }
def JoinNoneSaid : Prop := joinNoneRow.holds Try.pinned (OpenSpec.ofChange joinNoneSpec)

/-- ITS FALSE NEIGHBOUR: 'it returns false'. Refute it at one input. -/
def joinNoneWrong : ChangeSpec := { name := "joinNone", fn := fun _ => fun
  | [d] => { results := [.lit (.bool false)], args := [d] }
  | _ => none }
def JoinNoneWrongFalsely : Prop := joinNoneRow.holds Try.pinned (OpenSpec.ofChange joinNoneWrong)

/-- 'catchmentlaw17.JoinRows': WHATEVER THE INPUT: true; the input reads as it did. -/
def joinRowsSpec : ChangeSpec := { name := "joinRows", fn := fun _ => fun
  | [d1, d2] => { results := [.lit (.bool true)], args := [d1, d2] }
  | _ => none }
def joinRowsRow : OpenClaim := { program := "ytcidijjbcebcbaa", sum := "7d344124b333f43162ff22b92510fc17298f84fbf8c6348642827d1b215ed2ef", func := "catchment/catchmentlaw17.JoinRows", spec := "joinRows", unfollowed := true, recurses := true, apart := false }
def JoinRowsSaid : Prop := joinRowsRow.holds Try.pinned (OpenSpec.ofChange joinRowsSpec)

/-- ITS FALSE NEIGHBOUR: 'it returns false'. Refute it at one input. -/
def joinRowsWrong : ChangeSpec := { name := "joinRows", fn := fun _ => fun
  | [d1, d2] => { results := [.lit (.bool false)], args := [d1, d2] }
  | _ => none }
def JoinRowsWrongFalsely : Prop := joinRowsRow.holds Try.pinned (OpenSpec.ofChange joinRowsWrong)

/- THE SECOND FORM. 'bulk': how many values and letters a reading holds, each counted each time it is reached (what is shared counts as often as it is met; a slice's spare places count too). A statement '..UptoSaid' is the law's where the arguments, and the package variables that the reading takes, are together of bulk at most 1048576: NARROWER than '..Said'. Prove '..Said' where nothing that the law and all that it calls make is longer than what came in: it says more and counts as full. Else prove '..UptoSaid'. A law counts once. -/
mutual
def uptoBulk {H : Type} : DataW H → Nat
  | .lit (.string bytes) => bytes.length + 1
  | .lit _ => 1
  | .nil => 1
  | .ptr d => uptoBulk d + 1
  | .slice elems spare => uptoBulkAll elems + uptoBulkAll spare + 1
  | .agg parts => uptoBulkAll parts + 1
  | .iface _ d => uptoBulk d + 1
  | .map entries => uptoBulkEntries entries + 1
  | .held _ => 1
def uptoBulkAll {H : Type} : List (DataW H) → Nat
  | [] => 0
  | d :: r => uptoBulk d + uptoBulkAll r
def uptoBulkEntries {H : Type} : List (Lit × DataW H) → Nat
  | [] => 0
  | x :: r => uptoBulkEntry x + uptoBulkEntries r
def uptoBulkEntry {H : Type} : Lit × DataW H → Nat
  | (.string bytes, d) => bytes.length + uptoBulk d + 1
  | (_, d) => uptoBulk d + 1
 end
def uptoSmall : (H : Type) → List (DataW H) → Bool := fun _ ds => decide (uptoBulkAll ds ≤ 1048576)
def OpenSpec.upto (s : _root_.Go.ChangeSpec) : _root_.Go.OpenSpec := { _root_.Go.OpenSpec.ofChange s with cond := some uptoSmall }

/-- 'catchmentlaw15.PredHolds', WHERE WHAT IT READS IS OF BULK AT MOST 1048576: true; the input reads as it did. -/
def predHoldsUptoRow : OpenClaim := { program := "ytcidijjbcebcbaa", sum := "7d344124b333f43162ff22b92510fc17298f84fbf8c6348642827d1b215ed2ef", func := "catchment/catchmentlaw15.PredHolds", spec := "predHolds", inPlace := ["internal/bytealg.IndexByteString", "internal/bytealg.IndexString"], unfollowed := true, recurses := true, named := ["internal/bytealg.MaxLen"], apart := false, narrowed := true }
def PredHoldsUptoSaid : Prop := predHoldsUptoRow.holds Try.pinned (OpenSpec.upto predHoldsSpec)

/-- 'catchmentlaw15.PredWhere', WHERE WHAT IT READS IS OF BULK AT MOST 1048576: true; the input reads as it did. -/
def predWhereUptoRow : OpenClaim := { program := "ytcidijjbcebcbaa", sum := "7d344124b333f43162ff22b92510fc17298f84fbf8c6348642827d1b215ed2ef", func := "catchment/catchmentlaw15.PredWhere", spec := "predWhere", inPlace := ["internal/bytealg.IndexByteString", "internal/bytealg.IndexString"], unfollowed := true, recurses := true, named := ["internal/bytealg.MaxLen"], apart := false, narrowed := true }
def PredWhereUptoSaid : Prop := predWhereUptoRow.holds Try.pinned (OpenSpec.upto predWhereSpec)

/-- 'catchmentlaw15.PredNot', WHERE WHAT IT READS IS OF BULK AT MOST 1048576: true; the input reads as it did. -/
def predNotUptoRow : OpenClaim := { program := "ytcidijjbcebcbaa", sum := "7d344124b333f43162ff22b92510fc17298f84fbf8c6348642827d1b215ed2ef", func := "catchment/catchmentlaw15.PredNot", spec := "predNot", inPlace := ["internal/bytealg.IndexByteString", "internal/bytealg.IndexString"], unfollowed := true, recurses := true, named := ["internal/bytealg.MaxLen"], apart := false, narrowed := true }
def PredNotUptoSaid : Prop := predNotUptoRow.holds Try.pinned (OpenSpec.upto predNotSpec)

/-- 'catchmentlaw15.PredMorgan', WHERE WHAT IT READS IS OF BULK AT MOST 1048576: true; the input reads as it did. -/
def predMorganUptoRow : OpenClaim := { program := "ytcidijjbcebcbaa", sum := "7d344124b333f43162ff22b92510fc17298f84fbf8c6348642827d1b215ed2ef", func := "catchment/catchmentlaw15.PredMorgan", spec := "predMorgan", inPlace := ["internal/bytealg.IndexByteString", "internal/bytealg.IndexString"], unfollowed := true, recurses := true, named := ["internal/bytealg.MaxLen"], apart := false, narrowed := true }
def PredMorganUptoSaid : Prop := predMorganUptoRow.holds Try.pinned (OpenSpec.upto predMorganSpec)

/-- 'catchmentlaw15.PredSides', WHERE WHAT IT READS IS OF BULK AT MOST 1048576: true; the input reads as it did. -/
def predSidesUptoRow : OpenClaim := { program := "ytcidijjbcebcbaa", sum := "7d344124b333f43162ff22b92510fc17298f84fbf8c6348642827d1b215ed2ef", func := "catchment/catchmentlaw15.PredSides", spec := "predSides", inPlace := ["internal/bytealg.IndexByteString", "internal/bytealg.IndexString"], unfollowed := true, recurses := true, named := ["internal/bytealg.MaxLen"], apart := false, narrowed := true }
def PredSidesUptoSaid : Prop := predSidesUptoRow.holds Try.pinned (OpenSpec.upto predSidesSpec)

/-- 'catchmentlaw16.RowopsTops', WHERE WHAT IT READS IS OF BULK AT MOST 1048576: true; the input reads as it did. -/
def rowopsTopsUptoRow : OpenClaim := { program := "ytcidijjbcebcbaa", sum := "7d344124b333f43162ff22b92510fc17298f84fbf8c6348642827d1b215ed2ef", func := "catchment/catchmentlaw16.RowopsTops", spec := "rowopsTops", unfollowed := true, recurses := true, apart := false, narrowed := true }
def RowopsTopsUptoSaid : Prop := rowopsTopsUptoRow.holds Try.pinned (OpenSpec.upto rowopsTopsSpec)

/-- 'catchmentlaw16.RowopsParts', WHERE WHAT IT READS IS OF BULK AT MOST 1048576: true; the input reads as it did. -/
def rowopsPartsUptoRow : OpenClaim := { program := "ytcidijjbcebcbaa", sum := "7d344124b333f43162ff22b92510fc17298f84fbf8c6348642827d1b215ed2ef", func := "catchment/catchmentlaw16.RowopsParts", spec := "rowopsParts", unfollowed := true, recurses := true, apart := false, narrowed := true }
def RowopsPartsUptoSaid : Prop := rowopsPartsUptoRow.holds Try.pinned (OpenSpec.upto rowopsPartsSpec)

/-- 'catchmentlaw16.RowopsWhole', WHERE WHAT IT READS IS OF BULK AT MOST 1048576: true; the input reads as it did. -/
def rowopsWholeUptoRow : OpenClaim := { program := "ytcidijjbcebcbaa", sum := "7d344124b333f43162ff22b92510fc17298f84fbf8c6348642827d1b215ed2ef", func := "catchment/catchmentlaw16.RowopsWhole", spec := "rowopsWhole", unfollowed := true, recurses := true, apart := false, narrowed := true }
def RowopsWholeUptoSaid : Prop := rowopsWholeUptoRow.holds Try.pinned (OpenSpec.upto rowopsWholeSpec)

/-- 'catchmentlaw17.JoinPlays', WHERE WHAT IT READS IS OF BULK AT MOST 1048576: true; the input reads as it did. -/
def joinPlaysUptoRow : OpenClaim := { program := "ytcidijjbcebcbaa", sum := "7d344124b333f43162ff22b92510fc17298f84fbf8c6348642827d1b215ed2ef", func := "catchment/catchmentlaw17.JoinPlays", spec := "joinPlays", unfollowed := true, recurses := true, apart := false, narrowed := true }
def JoinPlaysUptoSaid : Prop := joinPlaysUptoRow.holds Try.pinned (OpenSpec.upto joinPlaysSpec)

/-- 'catchmentlaw17.JoinSides', WHERE WHAT IT READS IS OF BULK AT MOST 1048576: true; the input reads as it did. -/
def joinSidesUptoRow : OpenClaim := { program := "ytcidijjbcebcbaa", sum := "7d344124b333f43162ff22b92510fc17298f84fbf8c6348642827d1b215ed2ef", func := "catchment/catchmentlaw17.JoinSides", spec := "joinSides", unfollowed := true, recurses := true, apart := false, narrowed := true }
def JoinSidesUptoSaid : Prop := joinSidesUptoRow.holds Try.pinned (OpenSpec.upto joinSidesSpec)

/-- 'catchmentlaw17.JoinParts', WHERE WHAT IT READS IS OF BULK AT MOST 1048576: true; the input reads as it did. -/
def joinPartsUptoRow : OpenClaim := { program := "ytcidijjbcebcbaa", sum := "7d344124b333f43162ff22b92510fc17298f84fbf8c6348642827d1b215ed2ef", func := "catchment/catchmentlaw17.JoinParts", spec := "joinParts", unfollowed := true, recurses := true, apart := false, narrowed := true }
def JoinPartsUptoSaid : Prop := joinPartsUptoRow.holds Try.pinned (OpenSpec.upto joinPartsSpec)

/-- 'catchmentlaw17.JoinNone', WHERE WHAT IT READS IS OF BULK AT MOST 1048576: true; the input reads as it did. -/
def joinNoneUptoRow : OpenClaim := { program := "ytcidijjbcebcbaa", sum := "7d344124b333f43162ff22b92510fc17298f84fbf8c6348642827d1b215ed2ef", func := "catchment/catchmentlaw17.JoinNone", spec := "joinNone", unfollowed := true, recurses := true, apart := false, narrowed := true }
def JoinNoneUptoSaid : Prop := joinNoneUptoRow.holds Try.pinned (OpenSpec.upto joinNoneSpec)

/-- 'catchmentlaw17.JoinRows', WHERE WHAT IT READS IS OF BULK AT MOST 1048576: true; the input reads as it did. -/
def joinRowsUptoRow : OpenClaim := { program := "ytcidijjbcebcbaa", sum := "7d344124b333f43162ff22b92510fc17298f84fbf8c6348642827d1b215ed2ef", func := "catchment/catchmentlaw17.JoinRows", spec := "joinRows", unfollowed := true, recurses := true, apart := false, narrowed := true }
def JoinRowsUptoSaid : Prop := joinRowsUptoRow.holds Try.pinned (OpenSpec.upto joinRowsSpec)

end Rows
end Go.Proofs.Ytcidijjbcebcbaa
