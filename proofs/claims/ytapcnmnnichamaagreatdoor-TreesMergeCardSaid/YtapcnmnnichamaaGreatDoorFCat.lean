/-
  slices.Concat of trees.
-/
import Derived.Test.YtapcnmnnichamaaGreatDoorFApp
namespace Go.Proofs.YtapcnmnnichamaaGreatDoor
open Go.RowKit

/-- The files of trees, one after the other. -/
def catR (rs : List (Value × List Fl)) : List Fl := rs.flatMap (·.2)
theorem catR_snoc (rs : List (Value × List Fl)) (r : Value × List Fl) : catR (rs ++ [r]) = catR rs ++ r.2 := by simp [catR]
theorem catR_take (rs : List (Value × List Fl)) (i : Nat) : (catR (rs.take i)).length ≤ (catR rs).length := by
  conv => rhs; rw [← List.take_append_drop i rs]
  unfold catR
  rw [List.flatMap_append, List.length_append]
  omega

end Go.Proofs.YtapcnmnnichamaaGreatDoor
