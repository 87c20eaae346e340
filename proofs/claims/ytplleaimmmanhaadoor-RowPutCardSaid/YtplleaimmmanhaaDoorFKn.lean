/-
  rectolaw14.known is true.
-/
import Derived.Test.YtplleaimmmanhaaDoorFCheck
import Derived.Test.YtplleaimmmanhaaDoorFCut
import Derived.Test.YtplleaimmmanhaaDoorFPutW
import Derived.Test.YtplleaimmmanhaaDoorFDiff
import Derived.Test.YtplleaimmmanhaaDoorFSame
namespace Go.Proofs.YtplleaimmmanhaaDoor
open Go Go.RowKit

def YesTo (w : World) (e : Ending) (w' : World) : Prop := e = .returned (.bool true) ∧ Below w.heap.size w w'
def pa : ByteArray := ⟨#[97]⟩
def pb : ByteArray := ⟨#[98]⟩
def fB : Fl := (⟨#[98]⟩, 1, ⟨#[120]⟩)
def fA : Fl := (⟨#[97]⟩, 1, ⟨#[]⟩)
def fC : Fl := (⟨#[98]⟩, 2, ⟨#[120]⟩)
theorem pab : cb pa pb < 0 := by decide
theorem kn_put1 : putF [] fB = [fB] := by decide
theorem kn_put2 : putF [fB] fA = [fA, fB] := by decide
theorem kn_put3 : putF [fA, fB] fC = [fA, fC] := by decide
theorem kn_rise1 : RiseF [fB] := List.pairwise_singleton _ _
theorem kn_rise2 : RiseF [fA, fB] := List.pairwise_pair.2 pab
theorem kn_rise3 : RiseF [fA, fC] := List.pairwise_pair.2 pab
theorem kn_get : getF [fA, fB] ⟨#[98]⟩ = some fB := by decide
theorem kn_paths : paths2 [fA, fB] [fA, fC] = [pa, pb] := rise_unique (nrm_rise _) (List.pairwise_pair.2 pab) fun s => by
  unfold paths2
  rw [nrm_mem]
  simp only [fA, fB, fC, pa, pb, List.map_cons, List.map_nil, List.cons_append, List.nil_append, List.mem_cons, List.not_mem_nil, or_false]
  constructor
  · rintro (h | h | h | h) <;> simp [h]
  · rintro (h | h) <;> simp [h]
theorem kn_diff : diffF [fA, fB] [fA, fC] = [(⟨#[98]⟩, 77)] := by
  unfold diffF
  rw [kn_paths]
  decide
theorem kn_check : chkF [fA, fB] = none := by decide
theorem kn_cut : cutF [fA, fB] ⟨#[97]⟩ = [fB] := by decide
theorem kn_clear : clearF [fA, fB] ⟨#[97, 47, 120]⟩ = [fB] := by decide
theorem kn_same : decide ([fA, fB] = [fA, fC]) = false := by decide
theorem kn_sized : SizedD [fA, fB] := fun x hx => by
  simp only [List.mem_cons, List.not_mem_nil, or_false] at hx
  rcases hx with rfl | rfl <;> exact ⟨by decide, by decide⟩
end Go.Proofs.YtplleaimmmanhaaDoor
