/-
  No cell of these rows narrows 'for every input' (looked for: loops, veiled, ifaces, maps, wideKeys, modest, calm, conditions, laid).
  DERIVED. THE GIVEN ROWS OF THIS SEAT. 4 by the template 'for every input the law returns true; each argument reads behind the call as it read before'; 0 by the template 'total and deterministic' (their statements: YtnjeocjachmbkaaTotals.lean).
  GIVEN WITH THE SEED: the statements are not yours to turn. If you find one false, say at which input.
  Laid BY PROGRAM, IN A SANDBOX (cutbox-rows.mjs): the forced cells as the released guide's own fill.sh prints them over the translation f5706e62e6b9471e… (all of the seat's roots in one cut). By AI agents, Wed Nov 11 2026. No macro, syntax, notation, axiom, sorry.
-/
import Derived.Test.YtnjeocjachmbkaaChecked
import GoSem.Claim
import GoSem.ClaimJoined
import GoSem.ClaimMapViews
import Derived.JoinedTies
import Derived.KernelRfl
namespace Go.Proofs.Ytnjeocjachmbkaa
/- THE CELL 'sum', in the pinned program and in every row, IS THE sha256 OF THE DUMP (.gsa) THAT YtnjeocjachmbkaaProg.lean LOADS. Nothing in Lean hashes anything: it is a label: what it is worth is what the hold of that sum in a sandbox is worth. -/
noncomputable def Try.pinned : Pinned := { name := "ytnjeocjachmbkaa", sum := "f5706e62e6b9471e1240303d10954d9de3fef52e96b870a8e14c23226c4b1557", checked := Try.checked }
namespace Rows
def none {H : Type} : Left H := { results := [], args := [] }

/-- 'catchmentlaw04.WireValues': WHATEVER THE INPUT: true; the input reads as it did. -/
def wireValuesSpec : ChangeSpec := { name := "wireValues", fn := fun _ => fun
  | [d1, d2, d3] => { results := [.lit (.bool true)], args := [d1, d2, d3] }
  | _ => none }
def wireValuesRow : OpenClaim := { program := "ytnjeocjachmbkaa", sum := "f5706e62e6b9471e1240303d10954d9de3fef52e96b870a8e14c23226c4b1557", func := "catchment/catchmentlaw04.WireValues", spec := "wireValues", unfollowed := true, recurses := true, apart := false }
def WireValuesSaid : Prop := wireValuesRow.holds Try.pinned (OpenSpec.ofChange wireValuesSpec)

/-- ITS FALSE NEIGHBOUR: 'it returns false'. Refute it at one input. -/
def wireValuesWrong : ChangeSpec := { name := "wireValues", fn := fun _ => fun
  | [d1, d2, d3] => { results := [.lit (.bool false)], args := [d1, d2, d3] }
  | _ => none }
def WireValuesWrongFalsely : Prop := wireValuesRow.holds Try.pinned (OpenSpec.ofChange wireValuesWrong)

/-- 'catchmentlaw06.StreamsPlays': WHATEVER THE INPUT: true; the input reads as it did. -/
def streamsPlaysSpec : ChangeSpec := { name := "streamsPlays", fn := fun _ => fun
  | [d1, d2] => { results := [.lit (.bool true)], args := [d1, d2] }
  | _ => none }
def streamsPlaysRow : OpenClaim := { program := "ytnjeocjachmbkaa", sum := "f5706e62e6b9471e1240303d10954d9de3fef52e96b870a8e14c23226c4b1557", func := "catchment/catchmentlaw06.StreamsPlays", spec := "streamsPlays", inPlace := ["maps.clone"], apart := false }
def StreamsPlaysSaid : Prop := streamsPlaysRow.holds Try.pinned (OpenSpec.ofChange streamsPlaysSpec)

/-- ITS FALSE NEIGHBOUR: 'it returns false'. Refute it at one input. -/
def streamsPlaysWrong : ChangeSpec := { name := "streamsPlays", fn := fun _ => fun
  | [d1, d2] => { results := [.lit (.bool false)], args := [d1, d2] }
  | _ => none }
def StreamsPlaysWrongFalsely : Prop := streamsPlaysRow.holds Try.pinned (OpenSpec.ofChange streamsPlaysWrong)

/-- 'catchmentlaw06.StreamsStay': WHATEVER THE INPUT: true; the input reads as it did. -/
def streamsStaySpec : ChangeSpec := { name := "streamsStay", fn := fun _ => fun
  | [d] => { results := [.lit (.bool true)], args := [d] }
  | _ => none }
def streamsStayRow : OpenClaim := { program := "ytnjeocjachmbkaa", sum := "f5706e62e6b9471e1240303d10954d9de3fef52e96b870a8e14c23226c4b1557", func := "catchment/catchmentlaw06.StreamsStay", spec := "streamsStay", apart := false }
def StreamsStaySaid : Prop := streamsStayRow.holds Try.pinned (OpenSpec.ofChange streamsStaySpec)

/-- ITS FALSE NEIGHBOUR: 'it returns false'. Refute it at one input. -/
def streamsStayWrong : ChangeSpec := { name := "streamsStay", fn := fun _ => fun
  | [d] => { results := [.lit (.bool false)], args := [d] }
  | _ => none }
def StreamsStayWrongFalsely : Prop := streamsStayRow.holds Try.pinned (OpenSpec.ofChange streamsStayWrong)

/-- 'catchmentlaw06.StreamsRoom': WHATEVER THE INPUT: true; the input reads as it did. -/
def streamsRoomSpec : ChangeSpec := { name := "streamsRoom", fn := fun _ => fun
  | [d1, d2] => { results := [.lit (.bool true)], args := [d1, d2] }
  | _ => none }
def streamsRoomRow : OpenClaim := { program := "ytnjeocjachmbkaa", sum := "f5706e62e6b9471e1240303d10954d9de3fef52e96b870a8e14c23226c4b1557", func := "catchment/catchmentlaw06.StreamsRoom", spec := "streamsRoom", apart := false }
def StreamsRoomSaid : Prop := streamsRoomRow.holds Try.pinned (OpenSpec.ofChange streamsRoomSpec)

/-- ITS FALSE NEIGHBOUR: 'it returns false'. Refute it at one input. -/
def streamsRoomWrong : ChangeSpec := { name := "streamsRoom", fn := fun _ => fun
  | [d1, d2] => { results := [.lit (.bool false)], args := [d1, d2] }
  | _ => none }
def StreamsRoomWrongFalsely : Prop := streamsRoomRow.holds Try.pinned (OpenSpec.ofChange streamsRoomWrong)

/- THE SECOND FORM. 'bulk': how many values and letters a reading holds, each counted each time it is reached (what is shared counts as often as it is met; a slice's spare places count too). A statement '..UptoSaid' is the law's where the arguments, and the package variables that the reading takes, are together of bulk at most 1048576: NARROWER than '..Said'. Prove '..Said' where nothing that the law and all that it calls make is longer than what came in: it says more and counts as full. Else prove '..UptoSaid'. A law counts once. -/
mutual
def uptoBulk {H : Type} : DataW H → Nat
  | .lit (.string bytes) => bytes.length + 1
  | .lit _ => 1
  | .nil => 1
  | .ptr d => uptoBulk d + 1
  | .slice elems spare => uptoBulkAll elems + uptoBulkAll spare + 1
  | .agg parts => uptoBulkAll parts + 1
  | .iface _ d => uptoBulk d + 1
  | .map entries => uptoBulkEntries entries + 1
  | .held _ => 1
def uptoBulkAll {H : Type} : List (DataW H) → Nat
  | [] => 0
  | d :: r => uptoBulk d + uptoBulkAll r
def uptoBulkEntries {H : Type} : List (Lit × DataW H) → Nat
  | [] => 0
  | x :: r => uptoBulkEntry x + uptoBulkEntries r
def uptoBulkEntry {H : Type} : Lit × DataW H → Nat
  | (.string bytes, d) => bytes.length + uptoBulk d + 1
  | (_, d) => uptoBulk d + 1
 end
def uptoSmall : (H : Type) → List (DataW H) → Bool := fun _ ds => decide (uptoBulkAll ds ≤ 1048576)
def OpenSpec.upto (s : _root_.Go.ChangeSpec) : _root_.Go.OpenSpec := { _root_.Go.OpenSpec.ofChange s with cond := some uptoSmall }

/-- 'catchmentlaw04.WireValues', WHERE WHAT IT READS IS OF BULK AT MOST 1048576: true; the input reads as it did. -/
def wireValuesUptoRow : OpenClaim := { program := "ytnjeocjachmbkaa", sum := "f5706e62e6b9471e1240303d10954d9de3fef52e96b870a8e14c23226c4b1557", func := "catchment/catchmentlaw04.WireValues", spec := "wireValues", unfollowed := true, recurses := true, apart := false, narrowed := true }
def WireValuesUptoSaid : Prop := wireValuesUptoRow.holds Try.pinned (OpenSpec.upto wireValuesSpec)

/-- 'catchmentlaw06.StreamsPlays', WHERE WHAT IT READS IS OF BULK AT MOST 1048576: true; the input reads as it did. -/
def streamsPlaysUptoRow : OpenClaim := { program := "ytnjeocjachmbkaa", sum := "f5706e62e6b9471e1240303d10954d9de3fef52e96b870a8e14c23226c4b1557", func := "catchment/catchmentlaw06.StreamsPlays", spec := "streamsPlays", inPlace := ["maps.clone"], apart := false, narrowed := true }
def StreamsPlaysUptoSaid : Prop := streamsPlaysUptoRow.holds Try.pinned (OpenSpec.upto streamsPlaysSpec)

/-- 'catchmentlaw06.StreamsStay', WHERE WHAT IT READS IS OF BULK AT MOST 1048576: true; the input reads as it did. -/
def streamsStayUptoRow : OpenClaim := { program := "ytnjeocjachmbkaa", sum := "f5706e62e6b9471e1240303d10954d9de3fef52e96b870a8e14c23226c4b1557", func := "catchment/catchmentlaw06.StreamsStay", spec := "streamsStay", apart := false, narrowed := true }
def StreamsStayUptoSaid : Prop := streamsStayUptoRow.holds Try.pinned (OpenSpec.upto streamsStaySpec)

/-- 'catchmentlaw06.StreamsRoom', WHERE WHAT IT READS IS OF BULK AT MOST 1048576: true; the input reads as it did. -/
def streamsRoomUptoRow : OpenClaim := { program := "ytnjeocjachmbkaa", sum := "f5706e62e6b9471e1240303d10954d9de3fef52e96b870a8e14c23226c4b1557", func := "catchment/catchmentlaw06.StreamsRoom", spec := "streamsRoom", apart := false, narrowed := true }
def StreamsRoomUptoSaid : Prop := streamsRoomUptoRow.holds Try.pinned (OpenSpec.upto streamsRoomSpec)

end Rows
end Go.Proofs.Ytnjeocjachmbkaa
