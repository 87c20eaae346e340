/-
  The table of the longest common rows, as far as it has been filled.
-/
import Derived.Test.YtdpoeagmeiedcaaDoorLcs
namespace Go.Proofs.YtdpoeagmeiedcaaDoor
variable {α : Type} [DecidableEq α]

def plc (nb i j : Nat) : Nat := i * (nb + 1) + j

theorem plc_inj {nb i j p q : Nat} (hj : j ≤ nb) (hq : q ≤ nb) (h : plc nb i j = plc nb p q) : i = p ∧ j = q := by
  unfold plc at h
  have h1 : (i * (nb + 1) + j) / (nb + 1) = i := by
    rw [Nat.mul_comm, Nat.mul_add_div (by omega), Nat.div_eq_of_lt (by omega)]; omega
  have h2 : (p * (nb + 1) + q) / (nb + 1) = p := by
    rw [Nat.mul_comm, Nat.mul_add_div (by omega), Nat.div_eq_of_lt (by omega)]; omega
  have : i = p := by rw [← h1, ← h2, h]
  subst this
  exact ⟨rfl, by omega⟩

theorem plc_lt {na nb i j : Nat} (hi : i ≤ na) (hj : j ≤ nb) : plc nb i j < (na + 1) * (nb + 1) := by
  unfold plc
  have : (i + 1) * (nb + 1) ≤ (na + 1) * (nb + 1) := Nat.mul_le_mul_right _ (by omega)
  rw [Nat.add_mul] at this
  omega

/-- Rows from k on are filled, of the row ahead of k the columns from m on; the last column is. -/
def Tab (xs ys : List α) (k m : Nat) (cs : List Nat) : Prop :=
  cs.length = (xs.length + 1) * (ys.length + 1) ∧
  ∀ i j, i ≤ xs.length → j ≤ ys.length → (k ≤ i ∨ j = ys.length ∨ (i + 1 = k ∧ m ≤ j)) → cs[plc ys.length i j]? = some (lc (xs.drop i) (ys.drop j))

theorem Tab.init (xs ys : List α) : Tab xs ys xs.length ys.length (List.replicate ((xs.length + 1) * (ys.length + 1)) 0) := by
  refine ⟨List.length_replicate, fun i j hi hj h => ?_⟩
  rw [List.getElem?_replicate, if_pos (plc_lt hi hj)]
  rcases h with h | h | ⟨_, h⟩
  · obtain rfl : i = xs.length := by omega
    rw [List.drop_length, lc_nil_left]
  · subst h
    rw [List.drop_length, lc_nil_right]
  · obtain rfl : j = ys.length := by omega
    rw [List.drop_length, lc_nil_right]

theorem Tab.step {xs ys : List α} {p q : Nat} {cs : List Nat} (h : Tab xs ys (p + 1) (q + 1) cs) (hp : p < xs.length) (hq : q < ys.length) :
    Tab xs ys (p + 1) q (cs.set (plc ys.length p q) (lc (xs.drop p) (ys.drop q))) := by
  refine ⟨by rw [List.length_set]; exact h.1, fun i j hi hj hh => ?_⟩
  by_cases e : plc ys.length p q = plc ys.length i j
  · obtain ⟨rfl, rfl⟩ := plc_inj (by omega) hj e
    rw [List.getElem?_set_self (by rw [h.1]; exact plc_lt hi hj)]
  · rw [List.getElem?_set_ne e]
    refine h.2 i j hi hj ?_
    rcases hh with hh | hh | ⟨h1, h2⟩
    · exact .inl hh
    · exact .inr (.inl hh)
    · refine .inr (.inr ⟨h1, ?_⟩)
      obtain rfl : i = p := by omega
      by_cases hjq : j = q
      · subst hjq; exact absurd rfl e
      · omega

theorem Tab.row {xs ys : List α} {p : Nat} {cs : List Nat} (h : Tab xs ys (p + 1) 0 cs) : Tab xs ys p ys.length cs := by
  refine ⟨h.1, fun i j hi hj hh => h.2 i j hi hj ?_⟩
  rcases hh with hh | hh | ⟨_, h2⟩
  · by_cases e : i = p
    · exact .inr (.inr ⟨by omega, Nat.zero_le _⟩)
    · exact .inl (by omega)
  · exact .inr (.inl hh)
  · exact .inr (.inl (by omega))

theorem Tab.at {xs ys : List α} {cs : List Nat} (h : Tab xs ys 0 ys.length cs) {i j : Nat} (hi : i ≤ xs.length) (hj : j ≤ ys.length) : cs[plc ys.length i j]? = some (lc (xs.drop i) (ys.drop j)) :=
  h.2 i j hi hj (.inl (Nat.zero_le _))

end Go.Proofs.YtdpoeagmeiedcaaDoor
