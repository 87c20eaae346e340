/-
  index.Of, index.Stage: a tree as entries, and the entries of a stage as a tree.
-/
import Derived.Test.YtanjcjnkppnhcaaDoorSApp
namespace Go.Proofs.YtanjcjnkppnhcaaDoor
open Go.RowKit

/-- A file as an entry that is next. -/
def toE (f : Fl) : En := (f.1, 0, f.2.1, f.2.2, 0, 0)
/-- An entry's file. -/
def toF (e : En) : Fl := (e.1, e.2.2.1, e.2.2.2.1)
def stageE (l : List En) (n : Int) : List Fl := (l.filter fun e => decide (e.2.1 = n)).map toF
theorem flat_snoc {α : Type} (enc : α → List Value) (l : List α) (x : α) : (l ++ [x]).flatMap enc = l.flatMap enc ++ enc x := by simp
/-- A row of the call's own. -/
def OwnTo {α : Type} (ty : TypeId) (k : Nat) (enc : α → List Value) (l : List α) (w : World) (e : Ending) (w' : World) : Prop :=
  ∃ u, e = .returned u ∧ w'.ownsRow w.heap.size ty k u l.length (l.flatMap enc) ∧ Below w.heap.size w w'
theorem take_snoc {α : Type} {l : List α} {i : Nat} {x : α} (h : l[i]? = some x) : l.take (i + 1) = l.take i ++ [x] := by
  obtain ⟨hi, rfl⟩ := List.getElem?_eq_some_iff.1 h
  exact List.take_succ_eq_append_getElem hi

end Go.Proofs.YtanjcjnkppnhcaaDoor
