/-
  An argument of bytes, read in cells.
-/
import Derived.Test.YtpkikibcfkdodaaHAgain
import Derived.Test.YtpkikibcfkdodaaRows
import Derived.ProofKit
import Derived.ChangeSame
import Derived.Deep.Slices
import Derived.Lib.SmallJoins
namespace Go.Proofs.Ytpkikibcfkdodaa
open Go.ChangeShapes Go.WideShapes Go.ChangeAt Go.RowKit Go.Deep Go.Joins
theorem Try.laidOut : laidOutB Try.prog = true := by kernel_rfl
theorem Try.cells5' : Try.prog.cellsOf 5 = 1 := by kernel_rfl
theorem list_of {α : Type} {P : Nat → α → Prop} : ∀ n : Nat, (∀ i, i < n → ∃ x, P i x) → ∃ l : List α, l.length = n ∧ ∀ i x, l[i]? = some x → P i x
  | 0, _ => ⟨[], rfl, fun i x h => by simp at h⟩
  | n + 1, h => by
    obtain ⟨l, hl, hp⟩ := list_of n (fun i hi => h i (by omega))
    obtain ⟨x, hx⟩ := h n (by omega)
    refine ⟨l ++ [x], by simp [hl], fun i y hy => ?_⟩
    rcases Nat.lt_or_ge i n with hi | hi
    · rw [List.getElem?_append_left (by omega)] at hy
      exact hp i y hy
    · rw [List.getElem?_append_right (by omega), hl] at hy
      have : i - n = 0 := by
        have := (List.getElem?_eq_some_iff.1 hy).1
        simp at this; omega
      rw [this] at hy
      simp at hy
      rw [show i = n by omega, ← hy]; exact hx
theorem bytes_of_trod {H : Type} {enc : TypeId × Value → H} {W : World} {base : Nat} {v : Value} {d : DataW H} {p : List MemPlace} (hv : Value.okWide Try.prog W .any base 22 v) (h : DataW.Trod enc Try.prog W 0 (fun _ => true) true 22 v d p) :
    ∃ (A : Option Addr) (l : List UInt8) (c : Nat), v = .slice A l.length c ∧ BytesAt W A l ∧ l.length ≤ c ∧ l.length ≤ 9223372036854775807 := by
  obtain ⟨A, n, c, rfl⟩ := okWide_slice Try.underlying22 hv
  obtain ⟨fuel, hf⟩ := h
  rcases open_ints Try.underlying22 Try.underlying5 Try.cells5' hf with ⟨hcs, hx⟩ | ⟨a, n', c', zs, hcs, _, hl, hm, hz, hx, hcell, hwf⟩
  · simp [Value.cells] at hcs
    obtain ⟨rfl, rfl, rfl⟩ := hcs
    exact ⟨_, [], _, rfl, ⟨fun _ => rfl, fun a e => by cases e⟩, by simp, by simp⟩
  · simp [Value.cells] at hcs
    obtain ⟨rfl, rfl, rfl⟩ := hcs
    simp only [if_true] at hz
    unfold maxLen at hm
    have each : ∀ i, i < n → ∃ b : UInt8, W.cell? (a.add i) = some (.int .u8 (b.toNat : Int)) := fun i hi => by
      have h1 : i < zs.length := by omega
      have hw := bounds_u8 (hwf (zs.getD i 0) (by rw [List.getD, List.getElem?_eq_getElem h1]; exact List.getElem_mem h1))
      refine ⟨UInt8.ofNat (zs.getD i 0).toNat, ?_⟩
      rw [hcell i h1, UInt8.toNat_ofNat']
      congr 2
      omega
    obtain ⟨l, hll, hp⟩ := list_of n each
    refine ⟨some a, l, c, by rw [hll], ⟨fun e => (by cases e), fun b e j hj => ?_⟩, by omega, by omega⟩
    injection e with e
    subst e
    exact hp j _ (List.getElem?_eq_getElem hj)
end Go.Proofs.Ytpkikibcfkdodaa
