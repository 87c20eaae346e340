/-
  Check, of both kinds.
-/
import Derived.Test.YtanjcjnkppnhcaaDoorGrGBases2
import Derived.Outline
namespace Go.Proofs.YtanjcjnkppnhcaaDoor.G
open Go.RowKit

/-- What is wrong with a commit's parents first. -/
def bad (i : Nat) (l : List Int) : Int := if (∃ p ∈ l, p < 1 ∨ (i : Int) < p) ∨ 2 < l.length then 1 else if l.length = 2 ∧ l[0]? = l[1]? then 6 else 0
def chkR : Nat → List (List Int) → Int
  | _, [] => 0
  | i, l :: r => if bad i l = 0 then chkR (i + 1) r else bad i l
def chk (gs : List (List Int)) : Int := if 1024 < gs.length then 4 else chkR 0 gs

theorem chkR_at {gs : List (List Int)} {k : Nat} {l : List Int} (h : gs[k]? = some l) : chkR k (gs.drop k) = if bad k l = 0 then chkR (k + 1) (gs.drop (k + 1)) else bad k l := by
  have hlt := (List.getElem?_eq_some_iff.1 h).1
  rw [List.drop_eq_getElem_cons hlt]
  have : gs[k] = l := (List.getElem?_eq_some_iff.1 h).2
  rw [this]
  rfl

theorem chk_ok {gs : List (List Int)} (h : chk gs = 0) : gs.length ≤ 1024 ∧ Ok gs ∧ ∀ l ∈ gs, l.length ≤ 2 := by
  unfold chk at h
  by_cases hl : 1024 < gs.length
  · rw [if_pos hl] at h; cases h
  · rw [if_neg hl] at h
    have key : ∀ (r : List (List Int)) (i : Nat), chkR i r = 0 → ∀ j l, r[j]? = some l → bad (i + j) l = 0 := by
      intro r
      induction r with
      | nil => intro i _ j l hl; simp at hl
      | cons a r ih =>
        intro i h j l hl
        unfold chkR at h
        by_cases hb : bad i a = 0
        · rw [if_pos hb] at h
          cases j with
          | zero => simp at hl; subst hl; exact hb
          | succ j =>
            have := ih (i + 1) h j l (by simpa using hl)
            rwa [show i + 1 + j = i + (j + 1) by omega] at this
        · rw [if_neg hb] at h; exact absurd h hb
    have fine : ∀ (j : Nat) (l : List Int), gs[j]? = some l → (∀ p ∈ l, 1 ≤ p ∧ p ≤ (j : Int)) ∧ l.length ≤ 2 := by
      intro j l hj
      have hb := key gs 0 h j l hj
      rw [Nat.zero_add] at hb
      unfold bad at hb
      by_cases hc : (∃ p ∈ l, p < 1 ∨ (j : Int) < p) ∨ 2 < l.length
      · rw [if_pos hc] at hb; cases hb
      · rw [not_or] at hc
        refine ⟨fun p hp => ?_, by omega⟩
        exact ⟨Int.not_lt.1 fun h => hc.1 ⟨p, hp, .inl (by omega)⟩, Int.not_lt.1 fun h => hc.1 ⟨p, hp, .inr h⟩⟩
    refine ⟨by omega, fun i l hi p hp => (fine i l hi).1 p hp, fun l hl => ?_⟩
    obtain ⟨i, hi⟩ := List.getElem?_of_mem hl
    exact (fine i l hi).2

theorem bad_first {i : Nat} {l : List Int} {p : Int} (hp : p ∈ l) (h : p < 1 ∨ (i : Int) < p) : bad i l = 1 := by
  unfold bad; rw [if_pos (.inl ⟨p, hp, h⟩)]
theorem bad_long {i : Nat} {l : List Int} (h : 2 < l.length) : bad i l = 1 := by
  unfold bad; rw [if_pos (.inr h)]
theorem bad_rest {i : Nat} {l : List Int} (h1 : ∀ x ∈ l, 1 ≤ x ∧ x ≤ (i : Int)) (h2 : l.length ≤ 2) : bad i l = if l.length = 2 ∧ l[0]? = l[1]? then 6 else 0 := by
  unfold bad
  rw [if_neg]
  rintro (⟨p, hp, h⟩ | h)
  · have := h1 p hp; omega
  · omega

theorem take_all {l : List Int} {P : Int → Prop} {j : Nat} {x : Int} (h : ∀ y ∈ l.take j, P y) (hx : l[j]? = some x) (hp : P x) : ∀ y ∈ l.take (j + 1), P y := by
  intro y hy
  rw [List.take_add_one, hx] at hy
  simp only [Option.toList_some, List.mem_append, List.mem_singleton] at hy
  rcases hy with hy | rfl
  · exact h y hy
  · exact hp

end Go.Proofs.YtanjcjnkppnhcaaDoor.G
