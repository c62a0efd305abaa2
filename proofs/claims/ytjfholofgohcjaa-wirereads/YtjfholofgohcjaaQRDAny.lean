/-
  The reference's Decode, for any bytes.
-/
import Derived.Test.YtjfholofgohcjaaQRDec
namespace Go.Proofs.Ytjfholofgohcjaa
open Go.RowKit Go.Sort Go.Shelf

theorem rdec_any {v : Value} {xs : List UInt8} {w : World} (hv : BAt w v xs) (hl : xs.length ≤ 140737488351232) : Calls Try.prog 29 #[v] w (RDPost xs w) := by
  by_cases h9 : xs.length < 9
  · exact rdec_short hv h9
  · by_cases h : numB (xs.take 4) = (xs.length : Int) - 8
    · exact rdec_long hv hl (by omega) h
    · exact rdec_head hv (by omega) h
end Go.Proofs.Ytjfholofgohcjaa
