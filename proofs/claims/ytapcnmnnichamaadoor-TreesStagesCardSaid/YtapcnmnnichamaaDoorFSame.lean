/-
  (Row).Same: whether two trees are one.
-/
import Derived.Test.YtapcnmnnichamaaDoorFGen
import Derived.Test.YtapcnmnnichamaaDoorRP
namespace Go.Proofs.YtapcnmnnichamaaDoor
open Go.RowKit

def BoolTo (b : Bool) (w : World) (e : Ending) (w' : World) : Prop := e = .returned (.bool b) ∧ ∃ q, w' = w.drewN q

theorem prefix_all {α : Type} {a b : List α} {n : Nat} (h : ∀ i, i < n → a[i]? = b[i]?) (ha : a.length = n) (hb : b.length = n) : a = b := by
  apply List.ext_getElem?
  intro i
  by_cases hi : i < n
  · exact h i hi
  · rw [List.getElem?_eq_none (by omega), List.getElem?_eq_none (by omega)]

end Go.Proofs.YtapcnmnnichamaaDoor
