/-
  slices.Clone of a tree; rectoref14.Same.
-/
import Derived.Test.YtapcnmnnichamaaDoorFApp
import Derived.Lib.SliceRun
namespace Go.Proofs.YtapcnmnnichamaaDoor
open Go.RowKit

end Go.Proofs.YtapcnmnnichamaaDoor
