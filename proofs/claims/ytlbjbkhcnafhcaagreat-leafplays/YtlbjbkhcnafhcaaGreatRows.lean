/-
  No cell of these rows narrows 'for every input' (looked for: loops, veiled, ifaces, maps, wideKeys, modest, calm, conditions, laid).
  DERIVED. THE GIVEN ROWS OF THIS SEAT. 4 by the template 'for every input the law returns true; each argument reads behind the call as it read before'; 0 by the template 'total and deterministic' (their statements: YtlbjbkhcnafhcaaGreatTotals.lean).
  GIVEN WITH THE SEED: the statements are not yours to turn. If you find one false, say at which input.
  Laid BY PROGRAM, IN A SANDBOX (cutbox-rows.mjs): the forced cells as the released guide's own fill.sh prints them over the translation ce10b93031c04686… (all of the seat's roots in one cut). By AI agents, Wed Nov 11 2026. No macro, syntax, notation, axiom, sorry.
-/
import Derived.Test.YtlbjbkhcnafhcaaGreatChecked
import GoSem.Claim
import GoSem.ClaimJoined
import GoSem.ClaimMapViews
import Derived.JoinedTies
import Derived.KernelRfl
namespace Go.Proofs.YtlbjbkhcnafhcaaGreat
/- THE CELL 'sum', in the pinned program and in every row, IS THE sha256 OF THE DUMP (.gsa) THAT YtlbjbkhcnafhcaaGreatProg.lean LOADS. Nothing in Lean hashes anything: it is a label: what it is worth is what the hold of that sum in a sandbox is worth. -/
noncomputable def Tryz.pinned : Pinned := { name := "ytlbjbkhcnafhcaagreat", sum := "ce10b93031c046862573ce50efb389c5abec049db085548c7a032b0189447b63", checked := Tryz.checked }
namespace Rows
def none {H : Type} : Left H := { results := [], args := [] }

/-- 'catchmentlaw08.LeafPlays': WHATEVER THE INPUT: true; the input reads as it did. -/
def leafPlaysSpec : ChangeSpec := { name := "leafPlays", fn := fun _ => fun
  | [d1, d2, d3] => { results := [.lit (.bool true)], args := [d1, d2, d3] }
  | _ => none }
def leafPlaysRow : OpenClaim := { program := "ytlbjbkhcnafhcaagreat", sum := "ce10b93031c046862573ce50efb389c5abec049db085548c7a032b0189447b63", func := "catchment/catchmentlaw08.LeafPlays", spec := "leafPlays", inPlace := ["internal/bytealg.IndexByteString", "internal/bytealg.IndexString", "slices.overlaps[catchment/api.Sample]", "slices.overlaps[[]catchment/api.Sample]", "maps.clone"], unfollowed := true, recurses := true, named := ["internal/bytealg.MaxLen"], apart := false }
def LeafPlaysSaid : Prop := leafPlaysRow.holds Tryz.pinned (OpenSpec.ofChange leafPlaysSpec)

/-- ITS FALSE NEIGHBOUR: 'it returns false'. Refute it at one input. -/
def leafPlaysWrong : ChangeSpec := { name := "leafPlays", fn := fun _ => fun
  | [d1, d2, d3] => { results := [.lit (.bool false)], args := [d1, d2, d3] }
  | _ => none }
def LeafPlaysWrongFalsely : Prop := leafPlaysRow.holds Tryz.pinned (OpenSpec.ofChange leafPlaysWrong)

/-- 'catchmentlaw08.LeafOnce': WHATEVER THE INPUT: true; the input reads as it did. -/
def leafOnceSpec : ChangeSpec := { name := "leafOnce", fn := fun _ => fun
  | [d1, d2, d3] => { results := [.lit (.bool true)], args := [d1, d2, d3] }
  | _ => none }
def leafOnceRow : OpenClaim := { program := "ytlbjbkhcnafhcaagreat", sum := "ce10b93031c046862573ce50efb389c5abec049db085548c7a032b0189447b63", func := "catchment/catchmentlaw08.LeafOnce", spec := "leafOnce", inPlace := ["internal/bytealg.IndexByteString", "internal/bytealg.IndexString", "slices.overlaps[catchment/api.Sample]", "slices.overlaps[[]catchment/api.Sample]"], unfollowed := true, recurses := true, named := ["internal/bytealg.MaxLen"], apart := false }
def LeafOnceSaid : Prop := leafOnceRow.holds Tryz.pinned (OpenSpec.ofChange leafOnceSpec)

/-- ITS FALSE NEIGHBOUR: 'it returns false'. Refute it at one input. -/
def leafOnceWrong : ChangeSpec := { name := "leafOnce", fn := fun _ => fun
  | [d1, d2, d3] => { results := [.lit (.bool false)], args := [d1, d2, d3] }
  | _ => none }
def LeafOnceWrongFalsely : Prop := leafOnceRow.holds Tryz.pinned (OpenSpec.ofChange leafOnceWrong)

/-- 'catchmentlaw08.LeafRoom': WHATEVER THE INPUT: true; the input reads as it did. -/
def leafRoomSpec : ChangeSpec := { name := "leafRoom", fn := fun _ => fun
  | [d1, d2] => { results := [.lit (.bool true)], args := [d1, d2] }
  | _ => none }
def leafRoomRow : OpenClaim := { program := "ytlbjbkhcnafhcaagreat", sum := "ce10b93031c046862573ce50efb389c5abec049db085548c7a032b0189447b63", func := "catchment/catchmentlaw08.LeafRoom", spec := "leafRoom", inPlace := ["internal/bytealg.IndexByteString", "internal/bytealg.IndexString", "slices.overlaps[catchment/api.Sample]", "slices.overlaps[[]catchment/api.Sample]"], unfollowed := true, recurses := true, named := ["internal/bytealg.MaxLen"], apart := false }
def LeafRoomSaid : Prop := leafRoomRow.holds Tryz.pinned (OpenSpec.ofChange leafRoomSpec)

/-- ITS FALSE NEIGHBOUR: 'it returns false'. Refute it at one input. -/
def leafRoomWrong : ChangeSpec := { name := "leafRoom", fn := fun _ => fun
  | [d1, d2] => { results := [.lit (.bool false)], args := [d1, d2] }
  | _ => none }
def LeafRoomWrongFalsely : Prop := leafRoomRow.holds Tryz.pinned (OpenSpec.ofChange leafRoomWrong)

/-- 'catchmentlaw08.LeafTimes': WHATEVER THE INPUT: true; the input reads as it did. -/
def leafTimesSpec : ChangeSpec := { name := "leafTimes", fn := fun _ => fun
  | [d1, d2, d3] => { results := [.lit (.bool true)], args := [d1, d2, d3] }
  | _ => none }
def leafTimesRow : OpenClaim := { program := "ytlbjbkhcnafhcaagreat", sum := "ce10b93031c046862573ce50efb389c5abec049db085548c7a032b0189447b63", func := "catchment/catchmentlaw08.LeafTimes", spec := "leafTimes", inPlace := ["internal/bytealg.IndexByteString", "internal/bytealg.IndexString", "slices.overlaps[catchment/api.Sample]", "slices.overlaps[[]catchment/api.Sample]"], unfollowed := true, recurses := true, named := ["internal/bytealg.MaxLen"], apart := false }
def LeafTimesSaid : Prop := leafTimesRow.holds Tryz.pinned (OpenSpec.ofChange leafTimesSpec)

/-- ITS FALSE NEIGHBOUR: 'it returns false'. Refute it at one input. -/
def leafTimesWrong : ChangeSpec := { name := "leafTimes", fn := fun _ => fun
  | [d1, d2, d3] => { results := [.lit (.bool false)], args := [d1, d2, d3] }
  | _ => none }
def LeafTimesWrongFalsely : Prop := leafTimesRow.holds Tryz.pinned (OpenSpec.ofChange leafTimesWrong)

/- THE SECOND FORM. 'bulk': how many values and letters a reading holds, each counted each time it is reached (what is shared counts as often as it is met; a slice's spare places count too). A statement '..UptoSaid' is the law's where the arguments, and the package variables that the reading takes, are together of bulk at most 1048576: NARROWER than '..Said'. Prove '..Said' where nothing that the law and all that it calls make is longer than what came in: it says more and counts as full. Else prove '..UptoSaid'. A law counts once. -/
mutual
def uptoBulk {H : Type} : DataW H → Nat
  | .lit (.string bytes) => bytes.length + 1
  | .lit _ => 1
  | .nil => 1
  | .ptr d => uptoBulk d + 1
  | .slice elems spare => uptoBulkAll elems + uptoBulkAll spare + 1
  | .agg parts => uptoBulkAll parts + 1
  | .iface _ d => uptoBulk d + 1
  | .map entries => uptoBulkEntries entries + 1
  | .held _ => 1
def uptoBulkAll {H : Type} : List (DataW H) → Nat
  | [] => 0
  | d :: r => uptoBulk d + uptoBulkAll r
def uptoBulkEntries {H : Type} : List (Lit × DataW H) → Nat
  | [] => 0
  | x :: r => uptoBulkEntry x + uptoBulkEntries r
def uptoBulkEntry {H : Type} : Lit × DataW H → Nat
  | (.string bytes, d) => bytes.length + uptoBulk d + 1
  | (_, d) => uptoBulk d + 1
 end
def uptoSmall : (H : Type) → List (DataW H) → Bool := fun _ ds => decide (uptoBulkAll ds ≤ 1048576)
def OpenSpec.upto (s : _root_.Go.ChangeSpec) : _root_.Go.OpenSpec := { _root_.Go.OpenSpec.ofChange s with cond := some uptoSmall }

/-- 'catchmentlaw08.LeafPlays', WHERE WHAT IT READS IS OF BULK AT MOST 1048576: true; the input reads as it did. -/
def leafPlaysUptoRow : OpenClaim := { program := "ytlbjbkhcnafhcaagreat", sum := "ce10b93031c046862573ce50efb389c5abec049db085548c7a032b0189447b63", func := "catchment/catchmentlaw08.LeafPlays", spec := "leafPlays", inPlace := ["internal/bytealg.IndexByteString", "internal/bytealg.IndexString", "slices.overlaps[catchment/api.Sample]", "slices.overlaps[[]catchment/api.Sample]", "maps.clone"], unfollowed := true, recurses := true, named := ["internal/bytealg.MaxLen"], apart := false, narrowed := true }
def LeafPlaysUptoSaid : Prop := leafPlaysUptoRow.holds Tryz.pinned (OpenSpec.upto leafPlaysSpec)

/-- 'catchmentlaw08.LeafOnce', WHERE WHAT IT READS IS OF BULK AT MOST 1048576: true; the input reads as it did. -/
def leafOnceUptoRow : OpenClaim := { program := "ytlbjbkhcnafhcaagreat", sum := "ce10b93031c046862573ce50efb389c5abec049db085548c7a032b0189447b63", func := "catchment/catchmentlaw08.LeafOnce", spec := "leafOnce", inPlace := ["internal/bytealg.IndexByteString", "internal/bytealg.IndexString", "slices.overlaps[catchment/api.Sample]", "slices.overlaps[[]catchment/api.Sample]"], unfollowed := true, recurses := true, named := ["internal/bytealg.MaxLen"], apart := false, narrowed := true }
def LeafOnceUptoSaid : Prop := leafOnceUptoRow.holds Tryz.pinned (OpenSpec.upto leafOnceSpec)

/-- 'catchmentlaw08.LeafRoom', WHERE WHAT IT READS IS OF BULK AT MOST 1048576: true; the input reads as it did. -/
def leafRoomUptoRow : OpenClaim := { program := "ytlbjbkhcnafhcaagreat", sum := "ce10b93031c046862573ce50efb389c5abec049db085548c7a032b0189447b63", func := "catchment/catchmentlaw08.LeafRoom", spec := "leafRoom", inPlace := ["internal/bytealg.IndexByteString", "internal/bytealg.IndexString", "slices.overlaps[catchment/api.Sample]", "slices.overlaps[[]catchment/api.Sample]"], unfollowed := true, recurses := true, named := ["internal/bytealg.MaxLen"], apart := false, narrowed := true }
def LeafRoomUptoSaid : Prop := leafRoomUptoRow.holds Tryz.pinned (OpenSpec.upto leafRoomSpec)

/-- 'catchmentlaw08.LeafTimes', WHERE WHAT IT READS IS OF BULK AT MOST 1048576: true; the input reads as it did. -/
def leafTimesUptoRow : OpenClaim := { program := "ytlbjbkhcnafhcaagreat", sum := "ce10b93031c046862573ce50efb389c5abec049db085548c7a032b0189447b63", func := "catchment/catchmentlaw08.LeafTimes", spec := "leafTimes", inPlace := ["internal/bytealg.IndexByteString", "internal/bytealg.IndexString", "slices.overlaps[catchment/api.Sample]", "slices.overlaps[[]catchment/api.Sample]"], unfollowed := true, recurses := true, named := ["internal/bytealg.MaxLen"], apart := false, narrowed := true }
def LeafTimesUptoSaid : Prop := leafTimesUptoRow.holds Tryz.pinned (OpenSpec.upto leafTimesSpec)

end Rows
end Go.Proofs.YtlbjbkhcnafhcaaGreat
