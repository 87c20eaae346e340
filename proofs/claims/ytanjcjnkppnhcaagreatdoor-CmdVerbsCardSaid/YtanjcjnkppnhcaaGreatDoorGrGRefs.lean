/-
  The reference's rising, Ancestors, Is, Only.
-/
import Derived.Test.YtanjcjnkppnhcaaGreatDoorGrGMarks
namespace Go.Proofs.YtanjcjnkppnhcaaGreatDoor.G
open Go.RowKit

/-- Marks from 1 on. -/
abbrev up (h : Nat → Bool) : Nat → Bool := fun i => h (i + 1)

end Go.Proofs.YtanjcjnkppnhcaaGreatDoor.G
