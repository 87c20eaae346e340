/-
  (Row).Put: a file put into a tree that rises.
-/
import Derived.Test.YtapcnmnnichamaaGreatDoorFCat
import Derived.Test.YtapcnmnnichamaaGreatDoorFThy
import Derived.Deep.RegionHeld3
namespace Go.Proofs.YtapcnmnnichamaaGreatDoor
open Go.RowKit

section
variable {α : Type} {k : Nat} {enc : α → List Value} {w : World} {A : Option Addr} {n c : Nat} {l : List α}
theorem Reads.front (h : Reads k enc w (.slice A n c) l) {i : Nat} (hi : i ≤ n) : Reads k enc w (.slice A i c) (l.take i) := by
  obtain ⟨hn, hnc, hcm⟩ := h.len
  obtain ⟨A', c', hv, h1, h2, h3, h4⟩ := h
  injection hv with e1 e2 e3
  subst e1; subst e3
  refine ⟨A, c, by rw [List.length_take, Nat.min_eq_left (by omega)], by rw [List.length_take]; omega, hcm, h3, fun ad ha j x hx => h4 ad ha j x ?_⟩
  rw [List.getElem?_take] at hx
  split at hx
  · exact hx
  · cases hx
theorem Reads.cut (h : Reads k enc w (.slice A n c) l) {i : Nat} (hi : i ≤ n) : Reads k enc w (.slice (if c = i then A else A.map (·.add (i * k))) (n - i) (c - i)) (l.drop i) := by
  obtain ⟨hn, hnc, hcm⟩ := h.len
  obtain ⟨A', c', hv, h1, h2, h3, h4⟩ := h
  injection hv with e1 e2 e3
  subst e1; subst e3
  refine ⟨_, c - i, by rw [List.length_drop, hn], by rw [List.length_drop]; omega, by omega, ?_, ?_⟩
  · intro hA
    by_cases hc : c = i
    · omega
    · rw [if_neg hc] at hA
      have : A = none := by cases A with | none => rfl | some a => simp at hA
      have := h3 this
      omega
  · intro ad ha j x hx u v hv
    rw [List.getElem?_drop] at hx
    have hj := (List.getElem?_eq_some_iff.1 hx).1
    by_cases hc : c = i
    · omega
    · rw [if_neg hc] at ha
      cases A with
      | none => simp at ha
      | some a =>
        simp at ha
        subst ha
        have := h4 a rfl (i + j) x hx u v hv
        rw [adr_flat] at this ⊢
        have e : (a.add (i * k)).add (j * k + u) = a.add ((i + j) * k + u) := by
          rw [Nat.add_mul, Nat.add_assoc]
          generalize i * k = p
          generalize j * k + u = q
          unfold Addr.add
          by_cases hp : p = 0
          · subst hp; simp
          · by_cases hq : q = 0
            · subst hq; simp [hp]
            · simp [hp, hq, Nat.add_assoc]
        rw [e]
        exact this
end

end Go.Proofs.YtapcnmnnichamaaGreatDoor
