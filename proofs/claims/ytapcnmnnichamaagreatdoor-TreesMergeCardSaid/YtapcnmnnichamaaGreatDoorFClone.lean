/-
  slices.Clone of a tree; rectoref14.Same.
-/
import Derived.Test.YtapcnmnnichamaaGreatDoorFApp
import Derived.Lib.SliceRun
namespace Go.Proofs.YtapcnmnnichamaaGreatDoor
open Go.RowKit

end Go.Proofs.YtapcnmnnichamaaGreatDoor
