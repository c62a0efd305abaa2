/-
  No cell of these rows narrows 'for every input' (looked for: loops, veiled, ifaces, maps, wideKeys, modest, calm, conditions, laid).
  DERIVED. THE GIVEN ROWS OF THIS SEAT. 7 by the template 'for every input the law returns true; each argument reads behind the call as it read before'; 0 by the template 'total and deterministic' (their statements: YtjekpclbedbaoaaTotals.lean).
  GIVEN WITH THE SEED: the statements are not yours to turn. If you find one false, say at which input.
  Laid BY PROGRAM, IN A SANDBOX (cutbox-rows.mjs): the forced cells as the released guide's own fill.sh prints them over the translation ebadf0a5296bc195… (all of the seat's roots in one cut). By AI agents, Wed Nov 11 2026. No macro, syntax, notation, axiom, sorry.
-/
import Derived.Test.YtjekpclbedbaoaaChecked
import GoSem.Claim
import GoSem.ClaimJoined
import GoSem.ClaimMapViews
import Derived.JoinedTies
import Derived.KernelRfl
namespace Go.Proofs.Ytjekpclbedbaoaa
/- THE CELL 'sum', in the pinned program and in every row, IS THE sha256 OF THE DUMP (.gsa) THAT YtjekpclbedbaoaaProg.lean LOADS. Nothing in Lean hashes anything: it is a label: what it is worth is what the hold of that sum in a sandbox is worth. -/
noncomputable def Try.pinned : Pinned := { name := "ytjekpclbedbaoaa", sum := "ebadf0a5296bc1953aa238f2465c349f74c4775c1a115f1e884c5484b135cefb", checked := Try.checked }
namespace Rows
def none {H : Type} : Left H := { results := [], args := [] }

/-- 'catchmentlaw15.PredNot': WHATEVER THE INPUT: true; the input reads as it did. -/
def predNotSpec : ChangeSpec := { name := "predNot", fn := fun _ => fun
  | [d1, d2] => { results := [.lit (.bool true)], args := [d1, d2] }
  | _ => none }
def predNotRow : OpenClaim := { program := "ytjekpclbedbaoaa", sum := "ebadf0a5296bc1953aa238f2465c349f74c4775c1a115f1e884c5484b135cefb", func := "catchment/catchmentlaw15.PredNot", spec := "predNot", inPlace := ["internal/bytealg.IndexByteString", "internal/bytealg.IndexString"], unfollowed := true, recurses := true, named := ["internal/bytealg.MaxLen"], apart := false }
def PredNotSaid : Prop := predNotRow.holds Try.pinned (OpenSpec.ofChange predNotSpec)

/-- ITS FALSE NEIGHBOUR: 'it returns false'. Refute it at one input. -/
def predNotWrong : ChangeSpec := { name := "predNot", fn := fun _ => fun
  | [d1, d2] => { results := [.lit (.bool false)], args := [d1, d2] }
  | _ => none }
def PredNotWrongFalsely : Prop := predNotRow.holds Try.pinned (OpenSpec.ofChange predNotWrong)

/-- 'catchmentlaw15.PredMorgan': WHATEVER THE INPUT: true; the input reads as it did. -/
def predMorganSpec : ChangeSpec := { name := "predMorgan", fn := fun _ => fun
  | [d1, d2, d3] => { results := [.lit (.bool true)], args := [d1, d2, d3] }
  | _ => none }
def predMorganRow : OpenClaim := { program := "ytjekpclbedbaoaa", sum := "ebadf0a5296bc1953aa238f2465c349f74c4775c1a115f1e884c5484b135cefb", func := "catchment/catchmentlaw15.PredMorgan", spec := "predMorgan", inPlace := ["internal/bytealg.IndexByteString", "internal/bytealg.IndexString"], unfollowed := true, recurses := true, named := ["internal/bytealg.MaxLen"], apart := false }
def PredMorganSaid : Prop := predMorganRow.holds Try.pinned (OpenSpec.ofChange predMorganSpec)

/-- ITS FALSE NEIGHBOUR: 'it returns false'. Refute it at one input. -/
def predMorganWrong : ChangeSpec := { name := "predMorgan", fn := fun _ => fun
  | [d1, d2, d3] => { results := [.lit (.bool false)], args := [d1, d2, d3] }
  | _ => none }
def PredMorganWrongFalsely : Prop := predMorganRow.holds Try.pinned (OpenSpec.ofChange predMorganWrong)

/-- 'catchmentlaw15.PredSides': WHATEVER THE INPUT: true; the input reads as it did. -/
def predSidesSpec : ChangeSpec := { name := "predSides", fn := fun _ => fun
  | [d1, d2, d3] => { results := [.lit (.bool true)], args := [d1, d2, d3] }
  | _ => none }
def predSidesRow : OpenClaim := { program := "ytjekpclbedbaoaa", sum := "ebadf0a5296bc1953aa238f2465c349f74c4775c1a115f1e884c5484b135cefb", func := "catchment/catchmentlaw15.PredSides", spec := "predSides", inPlace := ["internal/bytealg.IndexByteString", "internal/bytealg.IndexString"], unfollowed := true, recurses := true, named := ["internal/bytealg.MaxLen"], apart := false }
def PredSidesSaid : Prop := predSidesRow.holds Try.pinned (OpenSpec.ofChange predSidesSpec)

/-- ITS FALSE NEIGHBOUR: 'it returns false'. Refute it at one input. -/
def predSidesWrong : ChangeSpec := { name := "predSides", fn := fun _ => fun
  | [d1, d2, d3] => { results := [.lit (.bool false)], args := [d1, d2, d3] }
  | _ => none }
def PredSidesWrongFalsely : Prop := predSidesRow.holds Try.pinned (OpenSpec.ofChange predSidesWrong)

/-- 'catchmentlaw17.JoinSides': WHATEVER THE INPUT: true; the input reads as it did. -/
def joinSidesSpec : ChangeSpec := { name := "joinSides", fn := fun _ => fun
  | [d1, d2] => { results := [.lit (.bool true)], args := [d1, d2] }
  | _ => none }
def joinSidesRow : OpenClaim := { program := "ytjekpclbedbaoaa", sum := "ebadf0a5296bc1953aa238f2465c349f74c4775c1a115f1e884c5484b135cefb", func := "catchment/catchmentlaw17.JoinSides", spec := "joinSides", unfollowed := true, recurses := true, apart := false }
def JoinSidesSaid : Prop := joinSidesRow.holds Try.pinned (OpenSpec.ofChange joinSidesSpec)

/-- ITS FALSE NEIGHBOUR: 'it returns false'. Refute it at one input. -/
def joinSidesWrong : ChangeSpec := { name := "joinSides", fn := fun _ => fun
  | [d1, d2] => { results := [.lit (.bool false)], args := [d1, d2] }
  | _ => none }
def JoinSidesWrongFalsely : Prop := joinSidesRow.holds Try.pinned (OpenSpec.ofChange joinSidesWrong)

/-- 'catchmentlaw17.JoinParts': WHATEVER THE INPUT: true; the input reads as it did. -/
def joinPartsSpec : ChangeSpec := { name := "joinParts", fn := fun _ => fun
  | [d1, d2, d3] => { results := [.lit (.bool true)], args := [d1, d2, d3] }
  | _ => none }
def joinPartsRow : OpenClaim := { program := "ytjekpclbedbaoaa", sum := "ebadf0a5296bc1953aa238f2465c349f74c4775c1a115f1e884c5484b135cefb", func := "catchment/catchmentlaw17.JoinParts", spec := "joinParts", unfollowed := true, recurses := true, apart := false }
def JoinPartsSaid : Prop := joinPartsRow.holds Try.pinned (OpenSpec.ofChange joinPartsSpec)

/-- ITS FALSE NEIGHBOUR: 'it returns false'. Refute it at one input. -/
def joinPartsWrong : ChangeSpec := { name := "joinParts", fn := fun _ => fun
  | [d1, d2, d3] => { results := [.lit (.bool false)], args := [d1, d2, d3] }
  | _ => none }
def JoinPartsWrongFalsely : Prop := joinPartsRow.holds Try.pinned (OpenSpec.ofChange joinPartsWrong)

/-- 'catchmentlaw17.JoinNone': WHATEVER THE INPUT: true; the input reads as it did. -/
def joinNoneSpec : ChangeSpec := { name := "joinNone", fn := fun _ => fun
  | [d] => { results := [.lit (.bool true)], args := [d] }
  | _ => none }
def joinNoneRow : OpenClaim := { program := "ytjekpclbedbaoaa", sum := "ebadf0a5296bc1953aa238f2465c349f74c4775c1a115f1e884c5484b135cefb", func := "catchment/catchmentlaw17.JoinNone", spec := "joinNone", unfollowed := true, recurses := true, apart := false }
def JoinNoneSaid : Prop := joinNoneRow.holds Try.pinned (OpenSpec.ofChange joinNoneSpec)

/-- ITS FALSE NEIGHBOUR: 'it returns false'. Refute it at one input. -/
def joinNoneWrong : ChangeSpec := { name := "joinNone", fn := fun _ => fun
  | [d] => { results := [.lit (.bool false)], args := [d] }
  | _ => none }
def JoinNoneWrongFalsely : Prop := joinNoneRow.holds Try.pinned (OpenSpec.ofChange joinNoneWrong)

/-- 'catchmentlaw17.JoinRows': WHATEVER THE INPUT: true; the input reads as it did. -/
def joinRowsSpec : ChangeSpec := { name := "joinRows", fn := fun _ => fun
  | [d1, d2] => { results := [.lit (.bool true)], args := [d1, d2] }
  | _ => none }
def joinRowsRow : OpenClaim := { program := "ytjekpclbedbaoaa", sum := "ebadf0a5296bc1953aa238f2465c349f74c4775c1a115f1e884c5484b135cefb", func := "catchment/catchmentlaw17.JoinRows", spec := "joinRows", unfollowed := true, recurses := true, apart := false }
def JoinRowsSaid : Prop := joinRowsRow.holds Try.pinned (OpenSpec.ofChange joinRowsSpec)

/-- ITS FALSE NEIGHBOUR: 'it returns false'. Refute it at one input. -/
def joinRowsWrong : ChangeSpec := { name := "joinRows", fn := fun _ => fun
  | [d1, d2] => { results := [.lit (.bool false)], args := [d1, d2] }
  | _ => none }
def JoinRowsWrongFalsely : Prop := joinRowsRow.holds Try.pinned (OpenSpec.ofChange joinRowsWrong)

/- THE SECOND FORM. 'bulk': how many values and letters a reading holds, each counted each time it is reached (what is shared counts as often as it is met; a slice's spare places count too). A statement '..UptoSaid' is the law's where the arguments, and the package variables that the reading takes, are together of bulk at most 1048576: NARROWER than '..Said'. Prove '..Said' where nothing that the law and all that it calls make is longer than what came in: it says more and counts as full. Else prove '..UptoSaid'. A law counts once. -/
mutual
def uptoBulk {H : Type} : DataW H → Nat
  | .lit (.string bytes) => bytes.length + 1
  | .lit _ => 1
  | .nil => 1
  | .ptr d => uptoBulk d + 1
  | .slice elems spare => uptoBulkAll elems + uptoBulkAll spare + 1
  | .agg parts => uptoBulkAll parts + 1
  | .iface _ d => uptoBulk d + 1
  | .map entries => uptoBulkEntries entries + 1
  | .held _ => 1
def uptoBulkAll {H : Type} : List (DataW H) → Nat
  | [] => 0
  | d :: r => uptoBulk d + uptoBulkAll r
def uptoBulkEntries {H : Type} : List (Lit × DataW H) → Nat
  | [] => 0
  | x :: r => uptoBulkEntry x + uptoBulkEntries r
def uptoBulkEntry {H : Type} : Lit × DataW H → Nat
  | (.string bytes, d) => bytes.length + uptoBulk d + 1
  | (_, d) => uptoBulk d + 1
 end
def uptoSmall : (H : Type) → List (DataW H) → Bool := fun _ ds => decide (uptoBulkAll ds ≤ 1048576)
def OpenSpec.upto (s : _root_.Go.ChangeSpec) : _root_.Go.OpenSpec := { _root_.Go.OpenSpec.ofChange s with cond := some uptoSmall }

/-- 'catchmentlaw15.PredNot', WHERE WHAT IT READS IS OF BULK AT MOST 1048576: true; the input reads as it did. -/
def predNotUptoRow : OpenClaim := { program := "ytjekpclbedbaoaa", sum := "ebadf0a5296bc1953aa238f2465c349f74c4775c1a115f1e884c5484b135cefb", func := "catchment/catchmentlaw15.PredNot", spec := "predNot", inPlace := ["internal/bytealg.IndexByteString", "internal/bytealg.IndexString"], unfollowed := true, recurses := true, named := ["internal/bytealg.MaxLen"], apart := false, narrowed := true }
def PredNotUptoSaid : Prop := predNotUptoRow.holds Try.pinned (OpenSpec.upto predNotSpec)

/-- 'catchmentlaw15.PredMorgan', WHERE WHAT IT READS IS OF BULK AT MOST 1048576: true; the input reads as it did. -/
def predMorganUptoRow : OpenClaim := { program := "ytjekpclbedbaoaa", sum := "ebadf0a5296bc1953aa238f2465c349f74c4775c1a115f1e884c5484b135cefb", func := "catchment/catchmentlaw15.PredMorgan", spec := "predMorgan", inPlace := ["internal/bytealg.IndexByteString", "internal/bytealg.IndexString"], unfollowed := true, recurses := true, named := ["internal/bytealg.MaxLen"], apart := false, narrowed := true }
def PredMorganUptoSaid : Prop := predMorganUptoRow.holds Try.pinned (OpenSpec.upto predMorganSpec)

/-- 'catchmentlaw15.PredSides', WHERE WHAT IT READS IS OF BULK AT MOST 1048576: true; the input reads as it did. -/
def predSidesUptoRow : OpenClaim := { program := "ytjekpclbedbaoaa", sum := "ebadf0a5296bc1953aa238f2465c349f74c4775c1a115f1e884c5484b135cefb", func := "catchment/catchmentlaw15.PredSides", spec := "predSides", inPlace := ["internal/bytealg.IndexByteString", "internal/bytealg.IndexString"], unfollowed := true, recurses := true, named := ["internal/bytealg.MaxLen"], apart := false, narrowed := true }
def PredSidesUptoSaid : Prop := predSidesUptoRow.holds Try.pinned (OpenSpec.upto predSidesSpec)

/-- 'catchmentlaw17.JoinSides', WHERE WHAT IT READS IS OF BULK AT MOST 1048576: true; the input reads as it did. -/
def joinSidesUptoRow : OpenClaim := { program := "ytjekpclbedbaoaa", sum := "ebadf0a5296bc1953aa238f2465c349f74c4775c1a115f1e884c5484b135cefb", func := "catchment/catchmentlaw17.JoinSides", spec := "joinSides", unfollowed := true, recurses := true, apart := false, narrowed := true }
def JoinSidesUptoSaid : Prop := joinSidesUptoRow.holds Try.pinned (OpenSpec.upto joinSidesSpec)

/-- 'catchmentlaw17.JoinParts', WHERE WHAT IT READS IS OF BULK AT MOST 1048576: true; the input reads as it did. -/
def joinPartsUptoRow : OpenClaim := { program := "ytjekpclbedbaoaa", sum := "ebadf0a5296bc1953aa238f2465c349f74c4775c1a115f1e884c5484b135cefb", func := "catchment/catchmentlaw17.JoinParts", spec := "joinParts", unfollowed := true, recurses := true, apart := false, narrowed := true }
def JoinPartsUptoSaid : Prop := joinPartsUptoRow.holds Try.pinned (OpenSpec.upto joinPartsSpec)

/-- 'catchmentlaw17.JoinNone', WHERE WHAT IT READS IS OF BULK AT MOST 1048576: true; the input reads as it did. -/
def joinNoneUptoRow : OpenClaim := { program := "ytjekpclbedbaoaa", sum := "ebadf0a5296bc1953aa238f2465c349f74c4775c1a115f1e884c5484b135cefb", func := "catchment/catchmentlaw17.JoinNone", spec := "joinNone", unfollowed := true, recurses := true, apart := false, narrowed := true }
def JoinNoneUptoSaid : Prop := joinNoneUptoRow.holds Try.pinned (OpenSpec.upto joinNoneSpec)

/-- 'catchmentlaw17.JoinRows', WHERE WHAT IT READS IS OF BULK AT MOST 1048576: true; the input reads as it did. -/
def joinRowsUptoRow : OpenClaim := { program := "ytjekpclbedbaoaa", sum := "ebadf0a5296bc1953aa238f2465c349f74c4775c1a115f1e884c5484b135cefb", func := "catchment/catchmentlaw17.JoinRows", spec := "joinRows", unfollowed := true, recurses := true, apart := false, narrowed := true }
def JoinRowsUptoSaid : Prop := joinRowsUptoRow.holds Try.pinned (OpenSpec.upto joinRowsSpec)

end Rows
end Go.Proofs.Ytjekpclbedbaoaa
