/-
  Arguments that are rows of texts.
-/
import Derived.Test.YtdpoeagmeiedcaaDoorBase
import Derived.Test.YtdpoeagmeiedcaaDoorRows
import Derived.ProofKit
import Derived.SliceStrings
import Derived.Carry
namespace Go.Proofs.YtdpoeagmeiedcaaDoor
open Go.ChangeShapes Go.WideShapes Go.ChangeAt Go.RowKit

theorem Tryd.laidOut : laidOutB Tryd.prog = true := by kernel_rfl
theorem Tryd.cellsS' : Tryd.prog.cellsOf 9 = 1 := by kernel_rfl
set_option maxRecDepth 100000 in
theorem strs_of_trod {H : Type} {enc : TypeId × Value → H} {W : World} {base : Nat} {v : Value} {d : DataW H} {p : List MemPlace} (hv : Value.okWide Tryd.prog W .any base 22 v) (h : DataW.Trod enc Tryd.prog W 0 (fun _ => true) true 22 v d p) :
    ∃ (A : Option Addr) (n c : Nat) (xs : List ByteArray), v = .slice A n c ∧ Strs W (.slice A n c) xs ∧ n ≤ 9223372036854775807 ∧
      (d = .nil ∧ xs = [] ∨ ∃ ys, d = .slice (strs xs) (strs ys)) := by
  obtain ⟨A, n, c, rfl⟩ := okWide_slice Tryd.underlying22 hv
  obtain ⟨fuel, hf⟩ := h
  rcases open_strings Tryd.underlying22 Tryd.underlying9 Tryd.cellsS' hf with ⟨hcs, hx⟩ | ⟨a, n', c', ss, hcs, _, hl, hm, hz, hx, hcell, _⟩
  · simp [Value.cells] at hcs
    obtain ⟨rfl, rfl, rfl⟩ := hcs
    simp only [Prod.mk.injEq] at hx
    obtain ⟨rfl, rfl⟩ := hx
    exact ⟨_, _, _, [], rfl, Strs.nil W, by omega, .inl ⟨rfl, rfl⟩⟩
  · simp [Value.cells] at hcs
    obtain ⟨rfl, rfl, rfl⟩ := hcs
    simp only [Prod.mk.injEq] at hx
    obtain ⟨rfl, rfl⟩ := hx
    simp only [if_true] at hz
    have hlen : (ss.take n).length = n := by rw [List.length_take]; omega
    refine ⟨_, _, _, ss.take n, rfl, ⟨some a, c, by rw [hlen], by omega, hm, (fun h => by cases h), ?_⟩, by unfold maxLen at hm; omega, .inr ⟨_, rfl⟩⟩
    intro ad ha i s hs
    obtain rfl := Option.some.inj ha
    have hi : i < n := by have := (List.getElem?_eq_some_iff.1 hs).1; omega
    have := hcell i (by omega)
    rw [List.getElem?_take_of_lt hi] at hs
    rw [this, List.getD, hs]
    rfl
end Go.Proofs.YtdpoeagmeiedcaaDoor
