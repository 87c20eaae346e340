/-
  An argument that is a slice of slices of numbers, read as rows.
-/
import Derived.Test.YtanjcjnkppnhcaaDoorGrGWords
import Derived.Test.YtanjcjnkppnhcaaDoorRows
import Derived.ProofKit
import Derived.ChangeSame
import Derived.Deep.Matrix
namespace Go.Proofs.YtanjcjnkppnhcaaDoor.G
open Go.ChangeShapes Go.WideShapes Go.ChangeAt Go.RowKit Go.Deep

theorem cells30 : Tryd.prog.cellsOf 42 = 1 := by kernel_rfl
theorem cells3' : Tryd.prog.cellsOf 3 = 1 := by kernel_rfl

set_option maxRecDepth 100000 in
theorem rows_of_trod {H : Type} {enc : TypeId × Value → H} {W : World} {base : Nat} {v : Value} {d : DataW H} {p : List MemPlace} (hv : Value.okWide Tryd.prog W .any base 23 v) (h : DataW.Trod enc Tryd.prog W 0 (fun _ => true) true 23 v d p) :
    ∃ gs : List (List Int), Rows W v gs := by
  obtain ⟨A0, n0, c0, rfl⟩ := okWide_slice Tryd.underlying23 hv
  obtain ⟨fuel, hf⟩ := h
  rcases open_int_rows Tryd.underlying23 Tryd.underlying42 Tryd.underlying3 cells30 cells3' hf with ⟨hcs, hx⟩ | ⟨a, len, cap, A, L, C, Z, hcs, _, hl, hm, hx, hcell⟩
  · simp [Value.cells] at hcs
    obtain ⟨rfl, rfl, rfl⟩ := hcs
    exact ⟨[], Rows.nil W⟩
  · simp [Value.cells] at hcs
    obtain ⟨rfl, rfl, rfl⟩ := hcs
    refine ⟨(List.range n0).map fun r => (Z r).take (L r), some a, c0, by simp, by simpa using hl, hm, (fun h => by cases h), ?_⟩
    intro ad ha i l hi
    obtain rfl := Option.some.inj ha
    have hin : i < n0 := by have := (List.getElem?_eq_some_iff.1 hi).1; simpa using this
    have hil : (Z i).take (L i) = l := by simpa [hin] using hi
    obtain ⟨k1, k2, k3, k4, k5, k6, k7⟩ := hcell i (by omega)
    refine ⟨_, k1, ?_⟩
    have hll : l.length = L i := by rw [← hil, List.length_take]; omega
    refine ⟨A i, C i, by rw [hll], by omega, k3, k6, fun ad' ha' j x hx' => ?_⟩
    have hj : j < L i := by have := (List.getElem?_eq_some_iff.1 hx').1; omega
    have := (k7 ad' ha').2 j (by omega)
    rw [this]
    rw [← hil, List.getElem?_take_of_lt hj] at hx'
    rw [List.getD, hx']
    rfl

end Go.Proofs.YtanjcjnkppnhcaaDoor.G
