/-
  symMerge, where the first stretch is not the longer one; and whole.
-/
import Derived.Test.YtjekpclbedbaoaaKS30
namespace Go.Proofs.Ytjekpclbedbaoaa.SS
open Go.RowKit Go.Joins Go.Sort

end Go.Proofs.Ytjekpclbedbaoaa.SS
