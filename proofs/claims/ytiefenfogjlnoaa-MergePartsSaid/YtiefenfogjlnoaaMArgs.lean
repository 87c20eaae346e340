/-
  Arguments that are slices of strings, read as lists; how much they hold.
-/
import Derived.Test.YtiefenfogjlnoaaMPlain
import Derived.Test.YtiefenfogjlnoaaRows
import Derived.ProofKit
import Derived.SliceStrings
import Derived.Carry
namespace Go.Proofs.Ytiefenfogjlnoaa
open Go.ChangeShapes Go.WideShapes Go.ChangeAt Go.RowKit

theorem Try.laidOut : laidOutB Try.prog = true := by kernel_rfl
theorem Try.cells9' : Try.prog.cellsOf 9 = 1 := by kernel_rfl

/-- What an argument of type []string is. -/
theorem strs_of_trod {H : Type} {enc : TypeId × Value → H} {W : World} {base : Nat} {v : Value} {d : DataW H} {p : List MemPlace} (hv : Value.okWide Try.prog W .any base 28 v) (h : DataW.Trod enc Try.prog W 0 (fun _ => true) true 28 v d p) :
    ∃ (A : Option Addr) (n c : Nat) (xs : List ByteArray), v = .slice A n c ∧ Strs W (.slice A n c) xs ∧ n ≤ 9223372036854775807 ∧
      (d = .nil ∧ xs = [] ∨ ∃ ys, d = .slice (strs xs) (strs ys)) := by
  obtain ⟨A, n, c, rfl⟩ := okWide_slice Try.underlying28 hv
  obtain ⟨fuel, hf⟩ := h
  rcases open_strings Try.underlying28 Try.underlying9 Try.cells9' hf with ⟨hcs, hx⟩ | ⟨a, n', c', ss, hcs, _, hl, hm, hz, hx, hcell, _⟩
  · simp [Value.cells] at hcs
    obtain ⟨rfl, rfl, rfl⟩ := hcs
    simp only [Prod.mk.injEq] at hx
    obtain ⟨rfl, rfl⟩ := hx
    exact ⟨_, _, _, [], rfl, Strs.nil W, by omega, .inl ⟨rfl, rfl⟩⟩
  · simp [Value.cells] at hcs
    obtain ⟨rfl, rfl, rfl⟩ := hcs
    simp only [Prod.mk.injEq] at hx
    obtain ⟨rfl, rfl⟩ := hx
    simp only [if_true] at hz
    have hlen : (ss.take n).length = n := by rw [List.length_take]; omega
    refine ⟨_, _, _, ss.take n, rfl, ⟨some a, c, by rw [hlen], by omega, hm, (fun h => by cases h), ?_⟩, by unfold maxLen at hm; omega, .inr ⟨_, rfl⟩⟩
    intro ad ha i s hs
    obtain rfl := Option.some.inj ha
    have hi : i < n := by have := (List.getElem?_eq_some_iff.1 hs).1; omega
    have := hcell i (by omega)
    rw [List.getElem?_take_of_lt hi] at hs
    rw [this, List.getD, hs]
    rfl

end Go.Proofs.Ytiefenfogjlnoaa
