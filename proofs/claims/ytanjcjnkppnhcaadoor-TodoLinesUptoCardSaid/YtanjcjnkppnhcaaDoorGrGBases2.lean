/-
  Bases, Base.
-/
import Derived.Test.YtanjcjnkppnhcaaDoorGrGBases
namespace Go.Proofs.YtanjcjnkppnhcaaDoor.G
open Go.RowKit

theorem flat_len {gs : List (List Int)} (h2 : ∀ l ∈ gs, l.length ≤ 2) : ∀ (R : List Int), (R.flatMap (par gs)).length ≤ 2 * R.length
  | [] => by simp
  | x :: R => by
    have := flat_len h2 R
    have hp : (par gs x).length ≤ 2 := by
      unfold par
      rw [List.getD_eq_getElem?_getD]
      cases e : gs[x.toNat - 1]? with
      | none => simp
      | some l => exact h2 l (List.mem_of_getElem? e)
    simp only [List.flatMap_cons, List.length_append, List.length_cons]
    omega
theorem flat_take {gs : List (List Int)} {R : List Int} {k : Nat} {x : Int} (h : R[k]? = some x) : (R.take (k + 1)).flatMap (par gs) = (R.take k).flatMap (par gs) ++ par gs x := by
  rw [List.take_add_one, h]
  simp

/-- A number; nothing that was there has changed. -/
def Says (w : World) (x : Int) (e : Ending) (w' : World) : Prop := e = .returned (.int .i64 x) ∧ Below w.heap.size w w'

end Go.Proofs.YtanjcjnkppnhcaaDoor.G
