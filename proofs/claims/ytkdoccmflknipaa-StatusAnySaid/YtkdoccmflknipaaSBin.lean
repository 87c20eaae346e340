/-
  slices.BinarySearch at paths that rise: is a path there.
-/
import Derived.Test.YtkdoccmflknipaaSAll
import Derived.Shelf.Spec.SearchS
namespace Go.Proofs.Ytkdoccmflknipaa
open Go.RowKit Go.Lib

theorem less_cmp : ∀ a b : List UInt8, Op.bytesLess a b = decide (compareBytes a b < 0)
  | [], [] => rfl
  | _ :: _, [] => by simp [Op.bytesLess, compareBytes]
  | [], _ :: _ => by simp [Op.bytesLess, compareBytes]
  | x :: a, y :: b => by
    unfold Op.bytesLess compareBytes
    rw [less_cmp a b]
    by_cases h1 : x < y
    · simp [h1]
    · by_cases h2 : y < x
      · have : ¬ x = y := fun e => by rw [e] at h2; exact absurd h2 (UInt8.lt_irrefl _)
        simp [h1, h2, this]
      · have : x = y := UInt8.le_antisymm (UInt8.not_lt.1 h2) (UInt8.not_lt.1 h1)
        simp [this]
theorem less_cb (a b : ByteArray) : Op.bytesLess a.toList b.toList = decide (cb a b < 0) := by
  rw [ByteArray.toList_eq, ByteArray.toList_eq, less_cmp]
  rfl
theorem rise_split : ∀ (ss : List ByteArray) (p : ByteArray), RiseP ss → ∃ k, k ≤ ss.length ∧ (∀ t, t < k → cb (ss.getD t p) p < 0) ∧ (∀ t, k ≤ t → ¬ cb (ss.getD t p) p < 0)
  | [], p, _ => ⟨0, Nat.le_refl _, fun t h => absurd h (Nat.not_lt_zero _), fun t _ => by simp [cb_self]⟩
  | a :: l, p, h => by
    have hp := List.pairwise_cons.1 h
    by_cases ha : cb a p < 0
    · obtain ⟨k, hk, h1, h2⟩ := rise_split l p hp.2
      refine ⟨k + 1, by simpa using hk, fun t ht => ?_, fun t ht => ?_⟩
      · cases t with
        | zero => simpa using ha
        | succ t => simpa using h1 t (by omega)
      · cases t with
        | zero => omega
        | succ t => simpa using h2 t (by omega)
    · refine ⟨0, Nat.zero_le _, fun t ht => absurd ht (Nat.not_lt_zero _), fun t _ => ?_⟩
      cases t with
      | zero => simpa using ha
      | succ t =>
        intro hc
        rw [List.getD_cons_succ] at hc
        by_cases htl : t < l.length
        · have hx : l.getD t p ∈ l := by rw [List.getD_eq_getElem?_getD, List.getElem?_eq_getElem htl]; simp
          exact ha (cb_trans (hp.1 _ hx) hc)
        · rw [List.getD_eq_getElem?_getD, List.getElem?_eq_none (by omega)] at hc
          simp [cb_self] at hc
theorem rise_mem {ss : List ByteArray} {p : ByteArray} (hr : RiseP ss) {k : Nat} (h1 : ∀ t, t < k → cb (ss.getD t p) p < 0) (h2 : ∀ t, k ≤ t → ¬ cb (ss.getD t p) p < 0) : (k < ss.length ∧ ss.getD k p = p) ↔ p ∈ ss := by
  constructor
  · rintro ⟨hk, he⟩
    rw [List.getD_eq_getElem?_getD, List.getElem?_eq_getElem hk] at he
    simp at he
    rw [← he]
    exact List.getElem_mem hk
  · intro hm
    obtain ⟨t, ht, e⟩ := List.getElem_of_mem hm
    have et : ss.getD t p = p := by rw [List.getD_eq_getElem?_getD, List.getElem?_eq_getElem ht]; simpa using e
    have hkt : k ≤ t := by
      rcases Nat.lt_or_ge t k with h | h
      · have := h1 t h
        rw [et, cb_self] at this
        omega
      · exact h
    rcases Nat.eq_or_lt_of_le hkt with e1 | e1
    · subst e1
      exact ⟨ht, et⟩
    · exfalso
      have hk : k < ss.length := by omega
      have hlt := List.pairwise_iff_getElem.1 hr k t hk ht e1
      rw [e] at hlt
      refine h2 k (Nat.le_refl _) ?_
      rw [List.getD_eq_getElem?_getD, List.getElem?_eq_getElem hk]
      simpa using hlt

/-- Whether the path is there. -/
def hasP (ss : List ByteArray) (p : ByteArray) : Bool := ss.any fun x => decide (x = p)
theorem hasP_iff {ss : List ByteArray} {p : ByteArray} : hasP ss p = true ↔ p ∈ ss := by
  unfold hasP
  rw [List.any_eq_true]
  constructor
  · rintro ⟨x, hx, e⟩
    rw [← of_decide_eq_true e]
    exact hx
  · intro h
    exact ⟨p, h, decide_eq_true rfl⟩
theorem hasP_eq {ss : List ByteArray} {p : ByteArray} {q : Prop} [Decidable q] (h : q ↔ p ∈ ss) : decide q = hasP ss p := by
  rw [Bool.eq_iff_iff, decide_eq_true_iff, hasP_iff]
  exact h
/-- The answer of a search. -/
def HasTo (ss : List ByteArray) (p : ByteArray) (w : World) (e : Ending) (w' : World) : Prop := ∃ i : Int, e = .returned (.tuple #[.int .i64 i, .bool (hasP ss p)]) ∧ Below w.heap.size w w'
theorem has_any (w : World) (B : Nat) (v : Value) (ss : List ByteArray) (p : ByteArray) (h : w.ownsRow B 9 1 v ss.length (ss.map Value.string)) (hr : RiseP ss) (hl : ss.length ≤ 1000000) :
    Calls Try.prog 30 #[v, .string p] w (HasTo ss p w) := by
  obtain ⟨k, hk, h1, h2⟩ := rise_split ss p hr
  rcases h.2 with ⟨rfl, h0⟩ | ⟨g, cap, cur, rfl, hB, hb, hn, hm, hs, ht⟩
  · have e : ss = [] := List.eq_nil_of_length_eq_zero h0
    subst e
    exact (Any2.slices_BinarySearch_string_empty Try.laysNm226 none 0 p w).mono fun e w' ⟨he, hw⟩ => ⟨0, by rw [he]; rfl, by rw [hw]; exact Below.refl _ _⟩
  · have hc : ∀ j, j < ss.length → w.cell? ⟨g, 0 + j, none⟩ = some (.string (ss.getD j p)) := fun j hj => by
      rw [Nat.zero_add, h.cellAt j (by omega)]
      simp [List.getD_eq_getElem?_getD, List.getElem?_eq_getElem hj]
    have hI : Lib.bsGo (fun t => Op.bytesLess (ss.getD t p).toList p.toList) ss.length 0 ss.length = k := by
      refine Lib.bsGo_spec _ k (fun t ht => ?_) (fun t ht => ?_) _ _ _ (by omega) (Nat.zero_le _) hk
      · rw [less_cb]; exact decide_eq_true (h1 t ht)
      · rw [less_cb]; exact decide_eq_false (h2 t ht)
    have := Any2.slices_BinarySearch_string Try.laysNm226 g 0 ss.length cap (fun j => ss.getD j p) p w (by omega) hc
    rw [hI] at this
    refine this.mono fun e w' ⟨he, q, hw⟩ => ⟨k, ?_, by rw [hw]; exact below_drewN (Below.refl _ _) q⟩
    rw [he]
    rw [← hasP_eq (rise_mem hr h1 h2)]
end Go.Proofs.Ytkdoccmflknipaa
