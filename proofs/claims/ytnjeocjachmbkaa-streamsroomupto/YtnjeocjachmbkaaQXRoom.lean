/-
  What StreamsRoom returns, for any room and any streams.
-/
import Derived.Test.YtnjeocjachmbkaaQXRoomA
import Derived.Test.YtnjeocjachmbkaaQXRoomB
import Derived.Test.YtnjeocjachmbkaaQXRoomC
namespace Go.Proofs.Ytnjeocjachmbkaa
open Go.RowKit Go.Sort Go.Maps Go.Shelf

theorem room_any {v : Value} {most : Int} {L : List Sm} {w : World} (_hm : (Lit.int .i64 most).wf = true) (h : LsAt w v L) : Calls Try.prog 6 #[.int .i64 most, v] w fun e w' => e = .returned (.bool true) ∧ Below w.heap.size w w' := by
  by_cases h1 : 100 < most
  · exact room_A h1 h
  · by_cases h2 : 0 < most
    · exact room_B (by omega) h2 h
    · exact room_C (by omega) h
end Go.Proofs.Ytnjeocjachmbkaa
