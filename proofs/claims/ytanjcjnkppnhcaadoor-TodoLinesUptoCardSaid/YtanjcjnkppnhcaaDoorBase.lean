/-
  Plain lemmas for the seat: a slice value that reads as a list of strings ('Strs'), kept below a block number.
-/
import Derived.Test.YtanjcjnkppnhcaaDoorProg
import Derived.WalkKit
import Derived.WalkSpells
import Derived.Laws.OwnMore
import Derived.Lib.Hide
import Derived.Deep.Draws
namespace Go.Proofs.YtanjcjnkppnhcaaDoor
open Go.RowKit

/-- The slice value v has the strings ss, one a cell; it is nil only without room. -/
def Strs (w : World) (v : Value) (ss : List ByteArray) : Prop :=
  ∃ (A : Option Addr) (c : Nat), v = .slice A ss.length c ∧ ss.length ≤ c ∧ c ≤ maxLen ∧ (A = none → c = 0) ∧
    ∀ ad : Addr, A = some ad → ∀ (i : Nat) (s : ByteArray), ss[i]? = some s → w.cell? (ad.add i) = some (.string s)

theorem Strs.nil (w : World) : Strs w (.slice none 0 0) [] :=
  ⟨none, 0, rfl, Nat.le_refl _, Nat.zero_le _, fun _ => rfl, fun _ h => by cases h⟩

theorem Strs.keep {w w' : World} {v : Value} {ss : List ByteArray} (h : Strs w v ss) (hk : ∀ p : Addr, p.block < w.heap.size → w'.cell? p = w.cell? p) : Strs w' v ss := by
  obtain ⟨A, c, hv, h1, h2, h3, h4⟩ := h
  refine ⟨A, c, hv, h1, h2, h3, fun ad ha i s hs => ?_⟩
  have hc := h4 ad ha i s hs
  rw [hk _ (World.block_lt_of_cell? w _ hc)]
  exact hc

theorem Strs.below {w w' : World} {v : Value} {ss : List ByteArray} (h : Strs w v ss) (hb : Below w.heap.size w w') : Strs w' v ss := h.keep fun _ hp => hb.cell hp
theorem Strs.alloc {w : World} {v : Value} {ss : List ByteArray} (h : Strs w v ss) (o : Obj) : Strs (w.alloc o) v ss := h.keep fun p hp => World.cell?_alloc_lt w o p hp
theorem Strs.drew {w : World} {v : Value} {ss : List ByteArray} (h : Strs w v ss) : Strs w.drew v ss := h
theorem Strs.drewN {w : World} {v : Value} {ss : List ByteArray} (h : Strs w v ss) (n : Nat) : Strs (w.drewN n) v ss := h

/-- A store into a cell that holds no string. -/
theorem Strs.setCell {w : World} {v : Value} {ss : List ByteArray} (h : Strs w v ss) {p : Addr} {u : Value} (hu : w.cell? p = some u) (hs : ∀ s, u ≠ .string s) (x : Value) : Strs (w.setCell p x) v ss := by
  obtain ⟨A, c, hv, h1, h2, h3, h4⟩ := h
  refine ⟨A, c, hv, h1, h2, h3, fun ad ha i s hi => ?_⟩
  have hc := h4 ad ha i s hi
  rw [World.cell?_setCell_other w p _ x (fun e => by rw [← e, hu] at hc; exact hs s (Option.some.inj hc))]
  exact hc

/-- A row of the call's own reads so. -/
theorem Strs.of_own {w : World} {base : Nat} {e : TypeId} {v : Value} {n : Nat} {ss : List ByteArray} (h : w.ownsRow base e 1 v n (ss.map Value.string)) (hn : n = ss.length) : Strs w v ss := by
  subst hn
  rcases h.2 with ⟨rfl, h0⟩ | ⟨g, cap, cur, hv, hb, hg, hnc, hm, hcs, ht⟩
  · have : ss = [] := List.eq_nil_of_length_eq_zero h0
    subst this
    exact Strs.nil w
  · refine ⟨some ⟨g, 0, none⟩, cap, hv, hnc, hm, (fun h => by cases h), fun ad ha i s hs => ?_⟩
    obtain rfl := Option.some.inj ha
    exact h.cells (g := g) (by rw [hv]; rfl) i (.string s) (by simp [hs])

/-- A piece of a slice from k on, as the model spells it. -/
theorem Strs.cut {w : World} {A : Option Addr} {n c : Nat} {ss : List ByteArray} (h : Strs w (.slice A n c) ss) {k : Nat} (hk : k ≤ n) :
    Strs w (.slice (if c = k then A else A.map (·.add k)) (n - k) (c - k)) (ss.drop k) := by
  obtain ⟨A', c', hv, h1, h2, h3, h4⟩ := h
  injection hv with e1 e2 e3
  subst e1; subst e3
  have hl : (ss.drop k).length = n - k := by rw [List.length_drop, e2]
  refine ⟨_, c - k, by rw [hl], by rw [hl]; omega, by omega, ?_, ?_⟩
  · intro hA
    by_cases hc : c = k
    · omega
    · rw [if_neg hc] at hA
      have : A = none := by cases A with | none => rfl | some a => simp at hA
      have := h3 this
      omega
  · intro ad ha i s hs
    have hi : i < (ss.drop k).length := (List.getElem?_eq_some_iff.1 hs).1
    by_cases hc : c = k
    · omega
    · rw [if_neg hc] at ha
      cases A with
      | none => simp at ha
      | some a =>
        simp at ha
        subst ha
        rw [List.getElem?_drop] at hs
        have := h4 a rfl (k + i) s hs
        have e : (a.add k).add i = a.add (k + i) := by
          unfold Addr.add
          by_cases h0 : k = 0 <;> by_cases h1 : i = 0 <;> simp [h0, h1, Nat.add_assoc]
        rw [e]; exact this

/-- The first k of a slice. -/
theorem Strs.take {w : World} {A : Option Addr} {n c : Nat} {ss : List ByteArray} (h : Strs w (.slice A n c) ss) {k : Nat} (hk : k ≤ n) :
    Strs w (.slice A k c) (ss.take k) := by
  obtain ⟨A', c', hv, h1, h2, h3, h4⟩ := h
  injection hv with e1 e2 e3
  subst e1; subst e3
  have hl : (ss.take k).length = k := by rw [List.length_take]; omega
  refine ⟨A, c, by rw [hl], by omega, h2, h3, fun ad ha i s hs => h4 ad ha i s ?_⟩
  rw [List.getElem?_take] at hs
  split at hs
  · exact hs
  · cases hs

end Go.Proofs.YtanjcjnkppnhcaaDoor
