/-
  symMerge, where one of the two stretches has one element.
  symMerge, where the second of the two stretches has one element.
-/
import Derived.Test.YtjekpclbedbaoaaKS28
namespace Go.Proofs.Ytjekpclbedbaoaa.SS
open Go.RowKit Go.Joins Go.Sort

theorem half_fdiv {i j h : Nat} (hh : h = (i + j) / 2) : ((i : Int) + (j : Int)).fdiv (2 ^ min (Int.toNat 1) IntKind.u64.bits) = (h : Int) := by show Int.fdiv _ 2 = _; rw [Int.fdiv_eq_ediv_of_nonneg _ (by omega)]; omega
end Go.Proofs.Ytjekpclbedbaoaa.SS
namespace Go.Proofs.Ytjekpclbedbaoaa.SS
open Go.RowKit Go.Joins Go.Sort

end Go.Proofs.Ytjekpclbedbaoaa.SS
