/-
  NARROWER THAN 'FOR EVERY INPUT', by the rows' own cells (each row's printed sentence says how): PrintNodes: laid · PrintTexts: laid · PrintConds: laid · CheckNodes: laid · CheckTexts: laid · CheckTables: laid · CheckSame: laid · CheckGroups: laid.
  DERIVED. THE GIVEN ROWS OF THIS SEAT. 8 by the template 'for every input the law returns true; each argument reads behind the call as it read before'; 0 by the template 'total and deterministic' (their statements: YtmpjmimhoikknaaGreatDoorTotals.lean).
  GIVEN WITH THE SEED: the statements are not yours to turn. If you find one false, say at which input.
  Laid BY PROGRAM, IN A SANDBOX (cutbox-rows.mjs): the forced cells as the released guide's own fill.sh prints them over the translation 709822f2ffa14526… (all of the seat's roots in one cut). By AI agents, Wed Nov 11 2026. No macro, syntax, notation, axiom, sorry.
-/
import Derived.Test.YtmpjmimhoikknaaGreatDoorChecked
import GoSem.Claim
import GoSem.ClaimJoined
import GoSem.ClaimMapViews
import Derived.JoinedTies
import Derived.KernelRfl
namespace Go.Proofs.YtmpjmimhoikknaaGreatDoor
/- THE CELL 'sum', in the pinned program and in every row, IS THE sha256 OF THE DUMP (.gsa) THAT YtmpjmimhoikknaaGreatDoorProg.lean LOADS. Nothing in Lean hashes anything: it is a label: what it is worth is what the hold of that sum in a sandbox is worth. -/
noncomputable def Tryz.pinned : Pinned := { name := "ytmpjmimhoikknaagreatdoor", sum := "709822f2ffa14526016e5aae641cc92688b6a82448f83612ea3170e8fbed43fd", checked := Tryz.checked }
namespace Rows
def none {H : Type} : Left H := { results := [], args := [] }

/- WHAT THE LISTED PACKAGE-LEVEL VARIABLES READ AS WHEN THE CALL BEGINS. Each datum BY PROGRAM (the guide's laid-datum.mjs) off the statement by which the dump's own 'gosem.cut.vars' lays the variable. In a bare row this is a premise. The card (YtmpjmimhoikknaaGreatDoorCards.lean) ties it to the program's text. -/
def laid_math_bits_deBruijn32tab {H : Type} : DataW H := .agg [.lit (.int .u8 0), .lit (.int .u8 1), .lit (.int .u8 28), .lit (.int .u8 2), .lit (.int .u8 29), .lit (.int .u8 14), .lit (.int .u8 24), .lit (.int .u8 3), .lit (.int .u8 30), .lit (.int .u8 22), .lit (.int .u8 20), .lit (.int .u8 15), .lit (.int .u8 25), .lit (.int .u8 17), .lit (.int .u8 4), .lit (.int .u8 8), .lit (.int .u8 31), .lit (.int .u8 27), .lit (.int .u8 13), .lit (.int .u8 23), .lit (.int .u8 21), .lit (.int .u8 19), .lit (.int .u8 16), .lit (.int .u8 7), .lit (.int .u8 26), .lit (.int .u8 12), .lit (.int .u8 18), .lit (.int .u8 6), .lit (.int .u8 11), .lit (.int .u8 5), .lit (.int .u8 10), .lit (.int .u8 9)]
def laid_math_bits_deBruijn64tab {H : Type} : DataW H := .agg [.lit (.int .u8 0), .lit (.int .u8 1), .lit (.int .u8 56), .lit (.int .u8 2), .lit (.int .u8 57), .lit (.int .u8 49), .lit (.int .u8 28), .lit (.int .u8 3), .lit (.int .u8 61), .lit (.int .u8 58), .lit (.int .u8 42), .lit (.int .u8 50), .lit (.int .u8 38), .lit (.int .u8 29), .lit (.int .u8 17), .lit (.int .u8 4), .lit (.int .u8 62), .lit (.int .u8 47), .lit (.int .u8 59), .lit (.int .u8 36), .lit (.int .u8 45), .lit (.int .u8 43), .lit (.int .u8 51), .lit (.int .u8 22), .lit (.int .u8 53), .lit (.int .u8 39), .lit (.int .u8 33), .lit (.int .u8 30), .lit (.int .u8 24), .lit (.int .u8 18), .lit (.int .u8 12), .lit (.int .u8 5), .lit (.int .u8 63), .lit (.int .u8 55), .lit (.int .u8 48), .lit (.int .u8 27), .lit (.int .u8 60), .lit (.int .u8 41), .lit (.int .u8 37), .lit (.int .u8 16), .lit (.int .u8 46), .lit (.int .u8 35), .lit (.int .u8 44), .lit (.int .u8 21), .lit (.int .u8 52), .lit (.int .u8 32), .lit (.int .u8 23), .lit (.int .u8 11), .lit (.int .u8 54), .lit (.int .u8 26), .lit (.int .u8 40), .lit (.int .u8 15), .lit (.int .u8 34), .lit (.int .u8 20), .lit (.int .u8 31), .lit (.int .u8 10), .lit (.int .u8 25), .lit (.int .u8 14), .lit (.int .u8 19), .lit (.int .u8 9), .lit (.int .u8 13), .lit (.int .u8 8), .lit (.int .u8 7), .lit (.int .u8 6)]
def laid_internal_strconv_uint64pow10 {H : Type} : DataW H := .agg [.lit (.int .u64 1), .lit (.int .u64 10), .lit (.int .u64 100), .lit (.int .u64 1000), .lit (.int .u64 10000), .lit (.int .u64 100000), .lit (.int .u64 1000000), .lit (.int .u64 10000000), .lit (.int .u64 100000000), .lit (.int .u64 1000000000), .lit (.int .u64 10000000000), .lit (.int .u64 100000000000), .lit (.int .u64 1000000000000), .lit (.int .u64 10000000000000), .lit (.int .u64 100000000000000), .lit (.int .u64 1000000000000000), .lit (.int .u64 10000000000000000), .lit (.int .u64 100000000000000000), .lit (.int .u64 1000000000000000000), .lit (.int .u64 10000000000000000000)]
def laid_strconv_ErrRange {H : Type} : DataW H := .iface "*errors.errorString" (.ptr (.agg [.lit (.string [118, 97, 108, 117, 101, 32, 111, 117, 116, 32, 111, 102, 32, 114, 97, 110, 103, 101])]))
def laid_strconv_ErrSyntax {H : Type} : DataW H := .iface "*errors.errorString" (.ptr (.agg [.lit (.string [105, 110, 118, 97, 108, 105, 100, 32, 115, 121, 110, 116, 97, 120])]))
def laid_catchment_lex_signs {H : Type} : DataW H := .agg [.lit (.string [33, 61]), .lit (.string [60, 61]), .lit (.string [62, 61]), .lit (.string [124]), .lit (.string [44]), .lit (.string [40]), .lit (.string [41]), .lit (.string [58]), .lit (.string [61]), .lit (.string [60]), .lit (.string [62])]
def laid_catchment_print_kindWords {H : Type} : DataW H := .agg [.lit (.string []), .lit (.string []), .lit (.string [119, 104, 101, 114, 101]), .lit (.string [107, 101, 101, 112]), .lit (.string [97, 108, 105, 103, 110]), .lit (.string [103, 114, 111, 117, 112]), .lit (.string [116, 111, 112]), .lit (.string [106, 111, 105, 110]), .lit (.string [117, 110, 105, 111, 110]), .lit (.string []), .lit (.string []), .lit (.string [97, 110, 100]), .lit (.string [111, 114])]
def laid_catchment_print_howWords {H : Type} : DataW H := .agg [.lit (.string []), .lit (.string [61]), .lit (.string [33, 61]), .lit (.string [60]), .lit (.string [60, 61]), .lit (.string [62]), .lit (.string [62, 61])]
def laid_catchment_print_aggWords {H : Type} : DataW H := .agg [.lit (.string []), .lit (.string [99, 111, 117, 110, 116]), .lit (.string [115, 117, 109]), .lit (.string [109, 105, 110]), .lit (.string [109, 97, 120]), .lit (.string [109, 101, 97, 110]), .lit (.string [109, 101, 114, 103, 101])]

/-- 'catchmentlaw13.PrintNodes': WHATEVER THE INPUT: true; the input reads as it did. -/
def printNodesSpec : ChangeSpec := { name := "printNodes", fn := fun _ => fun
  | [d1, d2] => { results := [.lit (.bool true)], args := [d1, d2] }
  | _ => none }
def printNodesRow : OpenClaim := { program := "ytmpjmimhoikknaagreatdoor", sum := "709822f2ffa14526016e5aae641cc92688b6a82448f83612ea3170e8fbed43fd", func := "catchment/catchmentlaw13.PrintNodes", spec := "printNodes", unfollowed := true, recurses := true, named := ["internal/strconv.uint64pow10", "math/bits.deBruijn32tab", "math/bits.deBruijn64tab", "catchment/print.kindWords", "catchment/print.howWords", "catchment/print.aggWords", "strconv.ErrSyntax", "strconv.ErrRange", "catchment/lex.signs"], apart := false, laid := [("math/bits.deBruijn32tab", laid_math_bits_deBruijn32tab), ("math/bits.deBruijn64tab", laid_math_bits_deBruijn64tab), ("internal/strconv.uint64pow10", laid_internal_strconv_uint64pow10), ("strconv.ErrRange", laid_strconv_ErrRange), ("strconv.ErrSyntax", laid_strconv_ErrSyntax), ("catchment/lex.signs", laid_catchment_lex_signs), ("catchment/print.kindWords", laid_catchment_print_kindWords), ("catchment/print.howWords", laid_catchment_print_howWords), ("catchment/print.aggWords", laid_catchment_print_aggWords)] }
def PrintNodesSaid : Prop := printNodesRow.holds Tryz.pinned (OpenSpec.ofChange printNodesSpec)

/-- ITS FALSE NEIGHBOUR: 'it returns false'. Refute it at one input. -/
def printNodesWrong : ChangeSpec := { name := "printNodes", fn := fun _ => fun
  | [d1, d2] => { results := [.lit (.bool false)], args := [d1, d2] }
  | _ => none }
def PrintNodesWrongFalsely : Prop := printNodesRow.holds Tryz.pinned (OpenSpec.ofChange printNodesWrong)

/-- 'catchmentlaw13.PrintTexts': WHATEVER THE INPUT: true; the input reads as it did. -/
def printTextsSpec : ChangeSpec := { name := "printTexts", fn := fun _ => fun
  | [d] => { results := [.lit (.bool true)], args := [d] }
  | _ => none }
def printTextsRow : OpenClaim := { program := "ytmpjmimhoikknaagreatdoor", sum := "709822f2ffa14526016e5aae641cc92688b6a82448f83612ea3170e8fbed43fd", func := "catchment/catchmentlaw13.PrintTexts", spec := "printTexts", unfollowed := true, recurses := true, named := ["internal/strconv.uint64pow10", "math/bits.deBruijn32tab", "math/bits.deBruijn64tab", "catchment/print.kindWords", "catchment/print.howWords", "catchment/print.aggWords", "strconv.ErrSyntax", "strconv.ErrRange", "catchment/lex.signs"], apart := false, laid := [("math/bits.deBruijn32tab", laid_math_bits_deBruijn32tab), ("math/bits.deBruijn64tab", laid_math_bits_deBruijn64tab), ("internal/strconv.uint64pow10", laid_internal_strconv_uint64pow10), ("strconv.ErrRange", laid_strconv_ErrRange), ("strconv.ErrSyntax", laid_strconv_ErrSyntax), ("catchment/lex.signs", laid_catchment_lex_signs), ("catchment/print.kindWords", laid_catchment_print_kindWords), ("catchment/print.howWords", laid_catchment_print_howWords), ("catchment/print.aggWords", laid_catchment_print_aggWords)] }
def PrintTextsSaid : Prop := printTextsRow.holds Tryz.pinned (OpenSpec.ofChange printTextsSpec)

/-- ITS FALSE NEIGHBOUR: 'it returns false'. Refute it at one input. -/
def printTextsWrong : ChangeSpec := { name := "printTexts", fn := fun _ => fun
  | [d] => { results := [.lit (.bool false)], args := [d] }
  | _ => none }
def PrintTextsWrongFalsely : Prop := printTextsRow.holds Tryz.pinned (OpenSpec.ofChange printTextsWrong)

/-- 'catchmentlaw13.PrintConds': WHATEVER THE INPUT: true; the input reads as it did. -/
def printCondsSpec : ChangeSpec := { name := "printConds", fn := fun _ => fun
  | [d1, d2] => { results := [.lit (.bool true)], args := [d1, d2] }
  | _ => none }
def printCondsRow : OpenClaim := { program := "ytmpjmimhoikknaagreatdoor", sum := "709822f2ffa14526016e5aae641cc92688b6a82448f83612ea3170e8fbed43fd", func := "catchment/catchmentlaw13.PrintConds", spec := "printConds", unfollowed := true, recurses := true, named := ["internal/strconv.uint64pow10", "math/bits.deBruijn32tab", "math/bits.deBruijn64tab", "catchment/print.kindWords", "catchment/print.howWords", "catchment/print.aggWords", "strconv.ErrSyntax", "strconv.ErrRange", "catchment/lex.signs"], apart := false, laid := [("math/bits.deBruijn32tab", laid_math_bits_deBruijn32tab), ("math/bits.deBruijn64tab", laid_math_bits_deBruijn64tab), ("internal/strconv.uint64pow10", laid_internal_strconv_uint64pow10), ("strconv.ErrRange", laid_strconv_ErrRange), ("strconv.ErrSyntax", laid_strconv_ErrSyntax), ("catchment/lex.signs", laid_catchment_lex_signs), ("catchment/print.kindWords", laid_catchment_print_kindWords), ("catchment/print.howWords", laid_catchment_print_howWords), ("catchment/print.aggWords", laid_catchment_print_aggWords)] }
def PrintCondsSaid : Prop := printCondsRow.holds Tryz.pinned (OpenSpec.ofChange printCondsSpec)

/-- ITS FALSE NEIGHBOUR: 'it returns false'. Refute it at one input. -/
def printCondsWrong : ChangeSpec := { name := "printConds", fn := fun _ => fun
  | [d1, d2] => { results := [.lit (.bool false)], args := [d1, d2] }
  | _ => none }
def PrintCondsWrongFalsely : Prop := printCondsRow.holds Tryz.pinned (OpenSpec.ofChange printCondsWrong)

/-- 'catchmentlaw14.CheckNodes': WHATEVER THE INPUT: true; the input reads as it did. -/
def checkNodesSpec : ChangeSpec := { name := "checkNodes", fn := fun _ => fun
  | [d1, d2, d3] => { results := [.lit (.bool true)], args := [d1, d2, d3] }
  | _ => none }
def checkNodesRow : OpenClaim := { program := "ytmpjmimhoikknaagreatdoor", sum := "709822f2ffa14526016e5aae641cc92688b6a82448f83612ea3170e8fbed43fd", func := "catchment/catchmentlaw14.CheckNodes", spec := "checkNodes", unfollowed := true, recurses := true, named := ["internal/strconv.uint64pow10", "math/bits.deBruijn32tab", "math/bits.deBruijn64tab", "catchment/print.kindWords", "catchment/print.howWords", "catchment/print.aggWords", "strconv.ErrSyntax", "strconv.ErrRange", "catchment/lex.signs"], apart := false, laid := [("math/bits.deBruijn32tab", laid_math_bits_deBruijn32tab), ("math/bits.deBruijn64tab", laid_math_bits_deBruijn64tab), ("internal/strconv.uint64pow10", laid_internal_strconv_uint64pow10), ("strconv.ErrRange", laid_strconv_ErrRange), ("strconv.ErrSyntax", laid_strconv_ErrSyntax), ("catchment/lex.signs", laid_catchment_lex_signs), ("catchment/print.kindWords", laid_catchment_print_kindWords), ("catchment/print.howWords", laid_catchment_print_howWords), ("catchment/print.aggWords", laid_catchment_print_aggWords)] }
def CheckNodesSaid : Prop := checkNodesRow.holds Tryz.pinned (OpenSpec.ofChange checkNodesSpec)

/-- ITS FALSE NEIGHBOUR: 'it returns false'. Refute it at one input. -/
def checkNodesWrong : ChangeSpec := { name := "checkNodes", fn := fun _ => fun
  | [d1, d2, d3] => { results := [.lit (.bool false)], args := [d1, d2, d3] }
  | _ => none }
def CheckNodesWrongFalsely : Prop := checkNodesRow.holds Tryz.pinned (OpenSpec.ofChange checkNodesWrong)

/-- 'catchmentlaw14.CheckTexts': WHATEVER THE INPUT: true; the input reads as it did. -/
def checkTextsSpec : ChangeSpec := { name := "checkTexts", fn := fun _ => fun
  | [d1, d2] => { results := [.lit (.bool true)], args := [d1, d2] }
  | _ => none }
def checkTextsRow : OpenClaim := { program := "ytmpjmimhoikknaagreatdoor", sum := "709822f2ffa14526016e5aae641cc92688b6a82448f83612ea3170e8fbed43fd", func := "catchment/catchmentlaw14.CheckTexts", spec := "checkTexts", unfollowed := true, recurses := true, named := ["internal/strconv.uint64pow10", "math/bits.deBruijn32tab", "math/bits.deBruijn64tab", "catchment/print.kindWords", "catchment/print.howWords", "catchment/print.aggWords", "strconv.ErrSyntax", "strconv.ErrRange", "catchment/lex.signs"], apart := false, laid := [("math/bits.deBruijn32tab", laid_math_bits_deBruijn32tab), ("math/bits.deBruijn64tab", laid_math_bits_deBruijn64tab), ("internal/strconv.uint64pow10", laid_internal_strconv_uint64pow10), ("strconv.ErrRange", laid_strconv_ErrRange), ("strconv.ErrSyntax", laid_strconv_ErrSyntax), ("catchment/lex.signs", laid_catchment_lex_signs), ("catchment/print.kindWords", laid_catchment_print_kindWords), ("catchment/print.howWords", laid_catchment_print_howWords), ("catchment/print.aggWords", laid_catchment_print_aggWords)] }
def CheckTextsSaid : Prop := checkTextsRow.holds Tryz.pinned (OpenSpec.ofChange checkTextsSpec)

/-- ITS FALSE NEIGHBOUR: 'it returns false'. Refute it at one input. -/
def checkTextsWrong : ChangeSpec := { name := "checkTexts", fn := fun _ => fun
  | [d1, d2] => { results := [.lit (.bool false)], args := [d1, d2] }
  | _ => none }
def CheckTextsWrongFalsely : Prop := checkTextsRow.holds Tryz.pinned (OpenSpec.ofChange checkTextsWrong)

/-- 'catchmentlaw14.CheckTables': WHATEVER THE INPUT: true; the input reads as it did. -/
def checkTablesSpec : ChangeSpec := { name := "checkTables", fn := fun _ => fun
  | [d1, d2] => { results := [.lit (.bool true)], args := [d1, d2] }
  | _ => none }
def checkTablesRow : OpenClaim := { program := "ytmpjmimhoikknaagreatdoor", sum := "709822f2ffa14526016e5aae641cc92688b6a82448f83612ea3170e8fbed43fd", func := "catchment/catchmentlaw14.CheckTables", spec := "checkTables", unfollowed := true, recurses := true, named := ["internal/strconv.uint64pow10", "math/bits.deBruijn32tab", "math/bits.deBruijn64tab", "catchment/print.kindWords", "catchment/print.howWords", "catchment/print.aggWords", "strconv.ErrSyntax", "strconv.ErrRange", "catchment/lex.signs"], apart := false, laid := [("math/bits.deBruijn32tab", laid_math_bits_deBruijn32tab), ("math/bits.deBruijn64tab", laid_math_bits_deBruijn64tab), ("internal/strconv.uint64pow10", laid_internal_strconv_uint64pow10), ("strconv.ErrRange", laid_strconv_ErrRange), ("strconv.ErrSyntax", laid_strconv_ErrSyntax), ("catchment/lex.signs", laid_catchment_lex_signs), ("catchment/print.kindWords", laid_catchment_print_kindWords), ("catchment/print.howWords", laid_catchment_print_howWords), ("catchment/print.aggWords", laid_catchment_print_aggWords)] }
def CheckTablesSaid : Prop := checkTablesRow.holds Tryz.pinned (OpenSpec.ofChange checkTablesSpec)

/-- ITS FALSE NEIGHBOUR: 'it returns false'. Refute it at one input. -/
def checkTablesWrong : ChangeSpec := { name := "checkTables", fn := fun _ => fun
  | [d1, d2] => { results := [.lit (.bool false)], args := [d1, d2] }
  | _ => none }
def CheckTablesWrongFalsely : Prop := checkTablesRow.holds Tryz.pinned (OpenSpec.ofChange checkTablesWrong)

/-- 'catchmentlaw14.CheckSame': WHATEVER THE INPUT: true; the input reads as it did. -/
def checkSameSpec : ChangeSpec := { name := "checkSame", fn := fun _ => fun
  | [d1, d2, d3] => { results := [.lit (.bool true)], args := [d1, d2, d3] }
  | _ => none }
def checkSameRow : OpenClaim := { program := "ytmpjmimhoikknaagreatdoor", sum := "709822f2ffa14526016e5aae641cc92688b6a82448f83612ea3170e8fbed43fd", func := "catchment/catchmentlaw14.CheckSame", spec := "checkSame", unfollowed := true, recurses := true, named := ["internal/strconv.uint64pow10", "math/bits.deBruijn32tab", "math/bits.deBruijn64tab", "catchment/print.kindWords", "catchment/print.howWords", "catchment/print.aggWords", "strconv.ErrSyntax", "strconv.ErrRange", "catchment/lex.signs"], apart := false, laid := [("math/bits.deBruijn32tab", laid_math_bits_deBruijn32tab), ("math/bits.deBruijn64tab", laid_math_bits_deBruijn64tab), ("internal/strconv.uint64pow10", laid_internal_strconv_uint64pow10), ("strconv.ErrRange", laid_strconv_ErrRange), ("strconv.ErrSyntax", laid_strconv_ErrSyntax), ("catchment/lex.signs", laid_catchment_lex_signs), ("catchment/print.kindWords", laid_catchment_print_kindWords), ("catchment/print.howWords", laid_catchment_print_howWords), ("catchment/print.aggWords", laid_catchment_print_aggWords)] }
def CheckSameSaid : Prop := checkSameRow.holds Tryz.pinned (OpenSpec.ofChange checkSameSpec)

/-- ITS FALSE NEIGHBOUR: 'it returns false'. Refute it at one input. -/
def checkSameWrong : ChangeSpec := { name := "checkSame", fn := fun _ => fun
  | [d1, d2, d3] => { results := [.lit (.bool false)], args := [d1, d2, d3] }
  | _ => none }
def CheckSameWrongFalsely : Prop := checkSameRow.holds Tryz.pinned (OpenSpec.ofChange checkSameWrong)

/-- 'catchmentlaw14.CheckGroups': WHATEVER THE INPUT: true; the input reads as it did. -/
def checkGroupsSpec : ChangeSpec := { name := "checkGroups", fn := fun _ => fun
  | [d1, d2] => { results := [.lit (.bool true)], args := [d1, d2] }
  | _ => none }
def checkGroupsRow : OpenClaim := { program := "ytmpjmimhoikknaagreatdoor", sum := "709822f2ffa14526016e5aae641cc92688b6a82448f83612ea3170e8fbed43fd", func := "catchment/catchmentlaw14.CheckGroups", spec := "checkGroups", unfollowed := true, recurses := true, named := ["internal/strconv.uint64pow10", "math/bits.deBruijn32tab", "math/bits.deBruijn64tab", "catchment/print.kindWords", "catchment/print.howWords", "catchment/print.aggWords", "strconv.ErrSyntax", "strconv.ErrRange", "catchment/lex.signs"], apart := false, laid := [("math/bits.deBruijn32tab", laid_math_bits_deBruijn32tab), ("math/bits.deBruijn64tab", laid_math_bits_deBruijn64tab), ("internal/strconv.uint64pow10", laid_internal_strconv_uint64pow10), ("strconv.ErrRange", laid_strconv_ErrRange), ("strconv.ErrSyntax", laid_strconv_ErrSyntax), ("catchment/lex.signs", laid_catchment_lex_signs), ("catchment/print.kindWords", laid_catchment_print_kindWords), ("catchment/print.howWords", laid_catchment_print_howWords), ("catchment/print.aggWords", laid_catchment_print_aggWords)] }
def CheckGroupsSaid : Prop := checkGroupsRow.holds Tryz.pinned (OpenSpec.ofChange checkGroupsSpec)

/-- ITS FALSE NEIGHBOUR: 'it returns false'. Refute it at one input. -/
def checkGroupsWrong : ChangeSpec := { name := "checkGroups", fn := fun _ => fun
  | [d1, d2] => { results := [.lit (.bool false)], args := [d1, d2] }
  | _ => none }
def CheckGroupsWrongFalsely : Prop := checkGroupsRow.holds Tryz.pinned (OpenSpec.ofChange checkGroupsWrong)

/- THE SECOND FORM. 'bulk': how many values and letters a reading holds, each counted each time it is reached (what is shared counts as often as it is met; a slice's spare places count too). A statement '..UptoSaid' is the law's where the arguments, and the package variables that the reading takes, are together of bulk at most 1048576: NARROWER than '..Said'. Prove '..Said' where nothing that the law and all that it calls make is longer than what came in: it says more and counts as full. Else prove '..UptoSaid'. A law counts once. -/
mutual
def uptoBulk {H : Type} : DataW H → Nat
  | .lit (.string bytes) => bytes.length + 1
  | .lit _ => 1
  | .nil => 1
  | .ptr d => uptoBulk d + 1
  | .slice elems spare => uptoBulkAll elems + uptoBulkAll spare + 1
  | .agg parts => uptoBulkAll parts + 1
  | .iface _ d => uptoBulk d + 1
  | .map entries => uptoBulkEntries entries + 1
  | .held _ => 1
def uptoBulkAll {H : Type} : List (DataW H) → Nat
  | [] => 0
  | d :: r => uptoBulk d + uptoBulkAll r
def uptoBulkEntries {H : Type} : List (Lit × DataW H) → Nat
  | [] => 0
  | x :: r => uptoBulkEntry x + uptoBulkEntries r
def uptoBulkEntry {H : Type} : Lit × DataW H → Nat
  | (.string bytes, d) => bytes.length + uptoBulk d + 1
  | (_, d) => uptoBulk d + 1
 end
def uptoSmall : (H : Type) → List (DataW H) → Bool := fun _ ds => decide (uptoBulkAll ds ≤ 1048576)
def OpenSpec.upto (s : _root_.Go.ChangeSpec) : _root_.Go.OpenSpec := { _root_.Go.OpenSpec.ofChange s with cond := some uptoSmall }

/-- 'catchmentlaw13.PrintNodes', WHERE WHAT IT READS IS OF BULK AT MOST 1048576: true; the input reads as it did. -/
def printNodesUptoRow : OpenClaim := { program := "ytmpjmimhoikknaagreatdoor", sum := "709822f2ffa14526016e5aae641cc92688b6a82448f83612ea3170e8fbed43fd", func := "catchment/catchmentlaw13.PrintNodes", spec := "printNodes", unfollowed := true, recurses := true, named := ["internal/strconv.uint64pow10", "math/bits.deBruijn32tab", "math/bits.deBruijn64tab", "catchment/print.kindWords", "catchment/print.howWords", "catchment/print.aggWords", "strconv.ErrSyntax", "strconv.ErrRange", "catchment/lex.signs"], apart := false, laid := [("math/bits.deBruijn32tab", laid_math_bits_deBruijn32tab), ("math/bits.deBruijn64tab", laid_math_bits_deBruijn64tab), ("internal/strconv.uint64pow10", laid_internal_strconv_uint64pow10), ("strconv.ErrRange", laid_strconv_ErrRange), ("strconv.ErrSyntax", laid_strconv_ErrSyntax), ("catchment/lex.signs", laid_catchment_lex_signs), ("catchment/print.kindWords", laid_catchment_print_kindWords), ("catchment/print.howWords", laid_catchment_print_howWords), ("catchment/print.aggWords", laid_catchment_print_aggWords)], narrowed := true }
def PrintNodesUptoSaid : Prop := printNodesUptoRow.holds Tryz.pinned (OpenSpec.upto printNodesSpec)

/-- 'catchmentlaw13.PrintTexts', WHERE WHAT IT READS IS OF BULK AT MOST 1048576: true; the input reads as it did. -/
def printTextsUptoRow : OpenClaim := { program := "ytmpjmimhoikknaagreatdoor", sum := "709822f2ffa14526016e5aae641cc92688b6a82448f83612ea3170e8fbed43fd", func := "catchment/catchmentlaw13.PrintTexts", spec := "printTexts", unfollowed := true, recurses := true, named := ["internal/strconv.uint64pow10", "math/bits.deBruijn32tab", "math/bits.deBruijn64tab", "catchment/print.kindWords", "catchment/print.howWords", "catchment/print.aggWords", "strconv.ErrSyntax", "strconv.ErrRange", "catchment/lex.signs"], apart := false, laid := [("math/bits.deBruijn32tab", laid_math_bits_deBruijn32tab), ("math/bits.deBruijn64tab", laid_math_bits_deBruijn64tab), ("internal/strconv.uint64pow10", laid_internal_strconv_uint64pow10), ("strconv.ErrRange", laid_strconv_ErrRange), ("strconv.ErrSyntax", laid_strconv_ErrSyntax), ("catchment/lex.signs", laid_catchment_lex_signs), ("catchment/print.kindWords", laid_catchment_print_kindWords), ("catchment/print.howWords", laid_catchment_print_howWords), ("catchment/print.aggWords", laid_catchment_print_aggWords)], narrowed := true }
def PrintTextsUptoSaid : Prop := printTextsUptoRow.holds Tryz.pinned (OpenSpec.upto printTextsSpec)

/-- 'catchmentlaw13.PrintConds', WHERE WHAT IT READS IS OF BULK AT MOST 1048576: true; the input reads as it did. -/
def printCondsUptoRow : OpenClaim := { program := "ytmpjmimhoikknaagreatdoor", sum := "709822f2ffa14526016e5aae641cc92688b6a82448f83612ea3170e8fbed43fd", func := "catchment/catchmentlaw13.PrintConds", spec := "printConds", unfollowed := true, recurses := true, named := ["internal/strconv.uint64pow10", "math/bits.deBruijn32tab", "math/bits.deBruijn64tab", "catchment/print.kindWords", "catchment/print.howWords", "catchment/print.aggWords", "strconv.ErrSyntax", "strconv.ErrRange", "catchment/lex.signs"], apart := false, laid := [("math/bits.deBruijn32tab", laid_math_bits_deBruijn32tab), ("math/bits.deBruijn64tab", laid_math_bits_deBruijn64tab), ("internal/strconv.uint64pow10", laid_internal_strconv_uint64pow10), ("strconv.ErrRange", laid_strconv_ErrRange), ("strconv.ErrSyntax", laid_strconv_ErrSyntax), ("catchment/lex.signs", laid_catchment_lex_signs), ("catchment/print.kindWords", laid_catchment_print_kindWords), ("catchment/print.howWords", laid_catchment_print_howWords), ("catchment/print.aggWords", laid_catchment_print_aggWords)], narrowed := true }
def PrintCondsUptoSaid : Prop := printCondsUptoRow.holds Tryz.pinned (OpenSpec.upto printCondsSpec)

/-- 'catchmentlaw14.CheckNodes', WHERE WHAT IT READS IS OF BULK AT MOST 1048576: true; the input reads as it did. -/
def checkNodesUptoRow : OpenClaim := { program := "ytmpjmimhoikknaagreatdoor", sum := "709822f2ffa14526016e5aae641cc92688b6a82448f83612ea3170e8fbed43fd", func := "catchment/catchmentlaw14.CheckNodes", spec := "checkNodes", unfollowed := true, recurses := true, named := ["internal/strconv.uint64pow10", "math/bits.deBruijn32tab", "math/bits.deBruijn64tab", "catchment/print.kindWords", "catchment/print.howWords", "catchment/print.aggWords", "strconv.ErrSyntax", "strconv.ErrRange", "catchment/lex.signs"], apart := false, laid := [("math/bits.deBruijn32tab", laid_math_bits_deBruijn32tab), ("math/bits.deBruijn64tab", laid_math_bits_deBruijn64tab), ("internal/strconv.uint64pow10", laid_internal_strconv_uint64pow10), ("strconv.ErrRange", laid_strconv_ErrRange), ("strconv.ErrSyntax", laid_strconv_ErrSyntax), ("catchment/lex.signs", laid_catchment_lex_signs), ("catchment/print.kindWords", laid_catchment_print_kindWords), ("catchment/print.howWords", laid_catchment_print_howWords), ("catchment/print.aggWords", laid_catchment_print_aggWords)], narrowed := true }
def CheckNodesUptoSaid : Prop := checkNodesUptoRow.holds Tryz.pinned (OpenSpec.upto checkNodesSpec)

/-- 'catchmentlaw14.CheckTexts', WHERE WHAT IT READS IS OF BULK AT MOST 1048576: true; the input reads as it did. -/
def checkTextsUptoRow : OpenClaim := { program := "ytmpjmimhoikknaagreatdoor", sum := "709822f2ffa14526016e5aae641cc92688b6a82448f83612ea3170e8fbed43fd", func := "catchment/catchmentlaw14.CheckTexts", spec := "checkTexts", unfollowed := true, recurses := true, named := ["internal/strconv.uint64pow10", "math/bits.deBruijn32tab", "math/bits.deBruijn64tab", "catchment/print.kindWords", "catchment/print.howWords", "catchment/print.aggWords", "strconv.ErrSyntax", "strconv.ErrRange", "catchment/lex.signs"], apart := false, laid := [("math/bits.deBruijn32tab", laid_math_bits_deBruijn32tab), ("math/bits.deBruijn64tab", laid_math_bits_deBruijn64tab), ("internal/strconv.uint64pow10", laid_internal_strconv_uint64pow10), ("strconv.ErrRange", laid_strconv_ErrRange), ("strconv.ErrSyntax", laid_strconv_ErrSyntax), ("catchment/lex.signs", laid_catchment_lex_signs), ("catchment/print.kindWords", laid_catchment_print_kindWords), ("catchment/print.howWords", laid_catchment_print_howWords), ("catchment/print.aggWords", laid_catchment_print_aggWords)], narrowed := true }
def CheckTextsUptoSaid : Prop := checkTextsUptoRow.holds Tryz.pinned (OpenSpec.upto checkTextsSpec)

/-- 'catchmentlaw14.CheckTables', WHERE WHAT IT READS IS OF BULK AT MOST 1048576: true; the input reads as it did. -/
def checkTablesUptoRow : OpenClaim := { program := "ytmpjmimhoikknaagreatdoor", sum := "709822f2ffa14526016e5aae641cc92688b6a82448f83612ea3170e8fbed43fd", func := "catchment/catchmentlaw14.CheckTables", spec := "checkTables", unfollowed := true, recurses := true, named := ["internal/strconv.uint64pow10", "math/bits.deBruijn32tab", "math/bits.deBruijn64tab", "catchment/print.kindWords", "catchment/print.howWords", "catchment/print.aggWords", "strconv.ErrSyntax", "strconv.ErrRange", "catchment/lex.signs"], apart := false, laid := [("math/bits.deBruijn32tab", laid_math_bits_deBruijn32tab), ("math/bits.deBruijn64tab", laid_math_bits_deBruijn64tab), ("internal/strconv.uint64pow10", laid_internal_strconv_uint64pow10), ("strconv.ErrRange", laid_strconv_ErrRange), ("strconv.ErrSyntax", laid_strconv_ErrSyntax), ("catchment/lex.signs", laid_catchment_lex_signs), ("catchment/print.kindWords", laid_catchment_print_kindWords), ("catchment/print.howWords", laid_catchment_print_howWords), ("catchment/print.aggWords", laid_catchment_print_aggWords)], narrowed := true }
def CheckTablesUptoSaid : Prop := checkTablesUptoRow.holds Tryz.pinned (OpenSpec.upto checkTablesSpec)

/-- 'catchmentlaw14.CheckSame', WHERE WHAT IT READS IS OF BULK AT MOST 1048576: true; the input reads as it did. -/
def checkSameUptoRow : OpenClaim := { program := "ytmpjmimhoikknaagreatdoor", sum := "709822f2ffa14526016e5aae641cc92688b6a82448f83612ea3170e8fbed43fd", func := "catchment/catchmentlaw14.CheckSame", spec := "checkSame", unfollowed := true, recurses := true, named := ["internal/strconv.uint64pow10", "math/bits.deBruijn32tab", "math/bits.deBruijn64tab", "catchment/print.kindWords", "catchment/print.howWords", "catchment/print.aggWords", "strconv.ErrSyntax", "strconv.ErrRange", "catchment/lex.signs"], apart := false, laid := [("math/bits.deBruijn32tab", laid_math_bits_deBruijn32tab), ("math/bits.deBruijn64tab", laid_math_bits_deBruijn64tab), ("internal/strconv.uint64pow10", laid_internal_strconv_uint64pow10), ("strconv.ErrRange", laid_strconv_ErrRange), ("strconv.ErrSyntax", laid_strconv_ErrSyntax), ("catchment/lex.signs", laid_catchment_lex_signs), ("catchment/print.kindWords", laid_catchment_print_kindWords), ("catchment/print.howWords", laid_catchment_print_howWords), ("catchment/print.aggWords", laid_catchment_print_aggWords)], narrowed := true }
def CheckSameUptoSaid : Prop := checkSameUptoRow.holds Tryz.pinned (OpenSpec.upto checkSameSpec)

/-- 'catchmentlaw14.CheckGroups', WHERE WHAT IT READS IS OF BULK AT MOST 1048576: true; the input reads as it did. -/
def checkGroupsUptoRow : OpenClaim := { program := "ytmpjmimhoikknaagreatdoor", sum := "709822f2ffa14526016e5aae641cc92688b6a82448f83612ea3170e8fbed43fd", func := "catchment/catchmentlaw14.CheckGroups", spec := "checkGroups", unfollowed := true, recurses := true, named := ["internal/strconv.uint64pow10", "math/bits.deBruijn32tab", "math/bits.deBruijn64tab", "catchment/print.kindWords", "catchment/print.howWords", "catchment/print.aggWords", "strconv.ErrSyntax", "strconv.ErrRange", "catchment/lex.signs"], apart := false, laid := [("math/bits.deBruijn32tab", laid_math_bits_deBruijn32tab), ("math/bits.deBruijn64tab", laid_math_bits_deBruijn64tab), ("internal/strconv.uint64pow10", laid_internal_strconv_uint64pow10), ("strconv.ErrRange", laid_strconv_ErrRange), ("strconv.ErrSyntax", laid_strconv_ErrSyntax), ("catchment/lex.signs", laid_catchment_lex_signs), ("catchment/print.kindWords", laid_catchment_print_kindWords), ("catchment/print.howWords", laid_catchment_print_howWords), ("catchment/print.aggWords", laid_catchment_print_aggWords)], narrowed := true }
def CheckGroupsUptoSaid : Prop := checkGroupsUptoRow.holds Tryz.pinned (OpenSpec.upto checkGroupsSpec)

end Rows
end Go.Proofs.YtmpjmimhoikknaaGreatDoor
