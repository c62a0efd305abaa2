/-
  No cell of these rows narrows 'for every input' (looked for: loops, veiled, ifaces, maps, wideKeys, modest, calm, conditions, laid).
  DERIVED. THE GIVEN ROWS OF THIS SEAT. 3 by the template 'for every input the law returns true; each argument reads behind the call as it read before'; 0 by the template 'total and deterministic' (their statements: YtmkilckoeaekkaaTotals.lean).
  GIVEN WITH THE SEED: the statements are not yours to turn. If you find one false, say at which input.
  Laid BY PROGRAM, IN A SANDBOX (cutbox-rows.mjs): the forced cells as the released guide's own fill.sh prints them over the translation 8adceb77f64f88aa… (all of the seat's roots in one cut). By AI agents, Wed Nov 11 2026. No macro, syntax, notation, axiom, sorry.
-/
import Derived.Test.YtmkilckoeaekkaaChecked
import GoSem.Claim
import GoSem.ClaimJoined
import GoSem.ClaimMapViews
import Derived.JoinedTies
import Derived.KernelRfl
namespace Go.Proofs.Ytmkilckoeaekkaa
/- THE CELL 'sum', in the pinned program and in every row, IS THE sha256 OF THE DUMP (.gsa) THAT YtmkilckoeaekkaaProg.lean LOADS. Nothing in Lean hashes anything: it is a label: what it is worth is what the hold of that sum in a sandbox is worth. -/
noncomputable def Try.pinned : Pinned := { name := "ytmkilckoeaekkaa", sum := "8adceb77f64f88aabd750b8f99a52be57ce1a183722b93e1ebb8d62b4f796469", checked := Try.checked }
namespace Rows
def none {H : Type} : Left H := { results := [], args := [] }

/-- 'catchmentlaw10.HintsPlays': WHATEVER THE INPUT: true; the input reads as it did. -/
def hintsPlaysSpec : ChangeSpec := { name := "hintsPlays", fn := fun _ => fun
  | [d1, d2, d3] => { results := [.lit (.bool true)], args := [d1, d2, d3] }
  | _ => none }
def hintsPlaysRow : OpenClaim := { program := "ytmkilckoeaekkaa", sum := "8adceb77f64f88aabd750b8f99a52be57ce1a183722b93e1ebb8d62b4f796469", func := "catchment/catchmentlaw10.HintsPlays", spec := "hintsPlays", apart := false }
def HintsPlaysSaid : Prop := hintsPlaysRow.holds Try.pinned (OpenSpec.ofChange hintsPlaysSpec)

/-- ITS FALSE NEIGHBOUR: 'it returns false'. Refute it at one input. -/
def hintsPlaysWrong : ChangeSpec := { name := "hintsPlays", fn := fun _ => fun
  | [d1, d2, d3] => { results := [.lit (.bool false)], args := [d1, d2, d3] }
  | _ => none }
def HintsPlaysWrongFalsely : Prop := hintsPlaysRow.holds Try.pinned (OpenSpec.ofChange hintsPlaysWrong)

/-- 'catchmentlaw10.HintsSure': WHATEVER THE INPUT: true; the input reads as it did. -/
def hintsSureSpec : ChangeSpec := { name := "hintsSure", fn := fun _ => fun
  | [d1, d2, d3] => { results := [.lit (.bool true)], args := [d1, d2, d3] }
  | _ => none }
def hintsSureRow : OpenClaim := { program := "ytmkilckoeaekkaa", sum := "8adceb77f64f88aabd750b8f99a52be57ce1a183722b93e1ebb8d62b4f796469", func := "catchment/catchmentlaw10.HintsSure", spec := "hintsSure", apart := false }
def HintsSureSaid : Prop := hintsSureRow.holds Try.pinned (OpenSpec.ofChange hintsSureSpec)

/-- ITS FALSE NEIGHBOUR: 'it returns false'. Refute it at one input. -/
def hintsSureWrong : ChangeSpec := { name := "hintsSure", fn := fun _ => fun
  | [d1, d2, d3] => { results := [.lit (.bool false)], args := [d1, d2, d3] }
  | _ => none }
def HintsSureWrongFalsely : Prop := hintsSureRow.holds Try.pinned (OpenSpec.ofChange hintsSureWrong)

/-- 'catchmentlaw10.HintsGrow': WHATEVER THE INPUT: true; the input reads as it did. -/
def hintsGrowSpec : ChangeSpec := { name := "hintsGrow", fn := fun _ => fun
  | [d1, d2, d3] => { results := [.lit (.bool true)], args := [d1, d2, d3] }
  | _ => none }
def hintsGrowRow : OpenClaim := { program := "ytmkilckoeaekkaa", sum := "8adceb77f64f88aabd750b8f99a52be57ce1a183722b93e1ebb8d62b4f796469", func := "catchment/catchmentlaw10.HintsGrow", spec := "hintsGrow", apart := false }
def HintsGrowSaid : Prop := hintsGrowRow.holds Try.pinned (OpenSpec.ofChange hintsGrowSpec)

/-- ITS FALSE NEIGHBOUR: 'it returns false'. Refute it at one input. -/
def hintsGrowWrong : ChangeSpec := { name := "hintsGrow", fn := fun _ => fun
  | [d1, d2, d3] => { results := [.lit (.bool false)], args := [d1, d2, d3] }
  | _ => none }
def HintsGrowWrongFalsely : Prop := hintsGrowRow.holds Try.pinned (OpenSpec.ofChange hintsGrowWrong)

/- THE SECOND FORM. 'bulk': how many values and letters a reading holds, each counted each time it is reached (what is shared counts as often as it is met; a slice's spare places count too). A statement '..UptoSaid' is the law's where the arguments, and the package variables that the reading takes, are together of bulk at most 1048576: NARROWER than '..Said'. Prove '..Said' where nothing that the law and all that it calls make is longer than what came in: it says more and counts as full. Else prove '..UptoSaid'. A law counts once. -/
mutual
def uptoBulk {H : Type} : DataW H → Nat
  | .lit (.string bytes) => bytes.length + 1
  | .lit _ => 1
  | .nil => 1
  | .ptr d => uptoBulk d + 1
  | .slice elems spare => uptoBulkAll elems + uptoBulkAll spare + 1
  | .agg parts => uptoBulkAll parts + 1
  | .iface _ d => uptoBulk d + 1
  | .map entries => uptoBulkEntries entries + 1
  | .held _ => 1
def uptoBulkAll {H : Type} : List (DataW H) → Nat
  | [] => 0
  | d :: r => uptoBulk d + uptoBulkAll r
def uptoBulkEntries {H : Type} : List (Lit × DataW H) → Nat
  | [] => 0
  | x :: r => uptoBulkEntry x + uptoBulkEntries r
def uptoBulkEntry {H : Type} : Lit × DataW H → Nat
  | (.string bytes, d) => bytes.length + uptoBulk d + 1
  | (_, d) => uptoBulk d + 1
 end
def uptoSmall : (H : Type) → List (DataW H) → Bool := fun _ ds => decide (uptoBulkAll ds ≤ 1048576)
def OpenSpec.upto (s : _root_.Go.ChangeSpec) : _root_.Go.OpenSpec := { _root_.Go.OpenSpec.ofChange s with cond := some uptoSmall }

/-- 'catchmentlaw10.HintsPlays', WHERE WHAT IT READS IS OF BULK AT MOST 1048576: true; the input reads as it did. -/
def hintsPlaysUptoRow : OpenClaim := { program := "ytmkilckoeaekkaa", sum := "8adceb77f64f88aabd750b8f99a52be57ce1a183722b93e1ebb8d62b4f796469", func := "catchment/catchmentlaw10.HintsPlays", spec := "hintsPlays", apart := false, narrowed := true }
def HintsPlaysUptoSaid : Prop := hintsPlaysUptoRow.holds Try.pinned (OpenSpec.upto hintsPlaysSpec)

/-- 'catchmentlaw10.HintsSure', WHERE WHAT IT READS IS OF BULK AT MOST 1048576: true; the input reads as it did. -/
def hintsSureUptoRow : OpenClaim := { program := "ytmkilckoeaekkaa", sum := "8adceb77f64f88aabd750b8f99a52be57ce1a183722b93e1ebb8d62b4f796469", func := "catchment/catchmentlaw10.HintsSure", spec := "hintsSure", apart := false, narrowed := true }
def HintsSureUptoSaid : Prop := hintsSureUptoRow.holds Try.pinned (OpenSpec.upto hintsSureSpec)

/-- 'catchmentlaw10.HintsGrow', WHERE WHAT IT READS IS OF BULK AT MOST 1048576: true; the input reads as it did. -/
def hintsGrowUptoRow : OpenClaim := { program := "ytmkilckoeaekkaa", sum := "8adceb77f64f88aabd750b8f99a52be57ce1a183722b93e1ebb8d62b4f796469", func := "catchment/catchmentlaw10.HintsGrow", spec := "hintsGrow", apart := false, narrowed := true }
def HintsGrowUptoSaid : Prop := hintsGrowUptoRow.holds Try.pinned (OpenSpec.upto hintsGrowSpec)

end Rows
end Go.Proofs.Ytmkilckoeaekkaa
