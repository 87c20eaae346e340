/-
  Arguments that are slices of strings, read as lists; how much they hold.
-/
import Derived.Test.YtojjhnjkibpfeaaTwoWalk
import Derived.Test.YtojjhnjkibpfeaaRows
import Derived.ProofKit
import Derived.SliceStrings
import Derived.Carry
namespace Go.Proofs.Ytojjhnjkibpfeaa
open Go.ChangeShapes Go.WideShapes Go.ChangeAt Go.RowKit

theorem Try.laidOut : laidOutB Try.prog = true := by kernel_rfl
theorem Try.cells9' : Try.prog.cellsOf 9 = 1 := by kernel_rfl

/-- What an argument of type []string is. -/
theorem strs_of_trod {H : Type} {enc : TypeId × Value → H} {W : World} {base : Nat} {v : Value} {d : DataW H} {p : List MemPlace} (hv : Value.okWide Try.prog W .any base 23 v) (h : DataW.Trod enc Try.prog W 0 (fun _ => true) true 23 v d p) :
    ∃ (A : Option Addr) (n c : Nat) (xs : List ByteArray), v = .slice A n c ∧ Strs W (.slice A n c) xs ∧ n ≤ 9223372036854775807 ∧
      (d = .nil ∧ xs = [] ∨ ∃ ys, d = .slice (strs xs) (strs ys)) := by
  obtain ⟨A, n, c, rfl⟩ := okWide_slice Try.underlying23 hv
  obtain ⟨fuel, hf⟩ := h
  rcases open_strings Try.underlying23 Try.underlying9 Try.cells9' hf with ⟨hcs, hx⟩ | ⟨a, n', c', ss, hcs, _, hl, hm, hz, hx, hcell, _⟩
  · simp [Value.cells] at hcs
    obtain ⟨rfl, rfl, rfl⟩ := hcs
    simp only [Prod.mk.injEq] at hx
    obtain ⟨rfl, rfl⟩ := hx
    exact ⟨_, _, _, [], rfl, Strs.nil W, by omega, .inl ⟨rfl, rfl⟩⟩
  · simp [Value.cells] at hcs
    obtain ⟨rfl, rfl, rfl⟩ := hcs
    simp only [Prod.mk.injEq] at hx
    obtain ⟨rfl, rfl⟩ := hx
    simp only [if_true] at hz
    have hlen : (ss.take n).length = n := by rw [List.length_take]; omega
    refine ⟨_, _, _, ss.take n, rfl, ⟨some a, c, by rw [hlen], by omega, hm, (fun h => by cases h), ?_⟩, by unfold maxLen at hm; omega, .inr ⟨_, rfl⟩⟩
    intro ad ha i s hs
    obtain rfl := Option.some.inj ha
    have hi : i < n := by have := (List.getElem?_eq_some_iff.1 hs).1; omega
    have := hcell i (by omega)
    rw [List.getElem?_take_of_lt hi] at hs
    rw [this, List.getD, hs]
    rfl

theorem bulk_part {H : Type} {d : DataW H} : ∀ {l : List (DataW H)}, d ∈ l → Rows.uptoBulk d ≤ Rows.uptoBulkAll l
  | [], h => by cases h
  | e :: l, h => by
    rw [Rows.uptoBulkAll]
    rcases List.mem_cons.1 h with rfl | h
    · omega
    · have := bulk_part h; omega

theorem bulk_strs {H : Type} : ∀ xs : List ByteArray, (cat xs).length + xs.length ≤ Rows.uptoBulkAll (strs (H := H) xs)
  | [] => by simp [cat]
  | x :: xs => by
    have := bulk_strs (H := H) xs
    have e : strs (H := H) (x :: xs) = .lit (.string x.data.toList) :: strs xs := rfl
    rw [e, Rows.uptoBulkAll, Rows.uptoBulk]
    simp only [cat, List.map_cons, List.flatten_cons, List.length_append, List.length_cons] at this ⊢
    omega

theorem bulk_arg {H : Type} {d : DataW H} {xs : List ByteArray} (h : d = .nil ∧ xs = [] ∨ ∃ ys, d = .slice (strs xs) (strs ys)) : (cat xs).length + xs.length ≤ Rows.uptoBulk d := by
  rcases h with ⟨rfl, rfl⟩ | ⟨ys, rfl⟩
  · simp [cat]
  · rw [Rows.uptoBulk]
    have := bulk_strs (H := H) xs
    omega

end Go.Proofs.Ytojjhnjkibpfeaa
