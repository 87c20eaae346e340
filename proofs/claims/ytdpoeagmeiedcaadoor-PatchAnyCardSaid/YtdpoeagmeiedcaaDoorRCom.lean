/-
  rectoref11.common: the document's own table of the longest common rows.
-/
import Derived.Test.YtdpoeagmeiedcaaDoorKMem
import Derived.Test.YtdpoeagmeiedcaaDoorMade
import Derived.Test.YtdpoeagmeiedcaaDoorLcs
import Derived.StillTailTactics
import Derived.BigRegion
namespace Go.Proofs.YtdpoeagmeiedcaaDoor
open Go Go.RowKit

/-- What the table has at a place. -/
def cT (xs ys : List ByteArray) (i j : Nat) : Nat := lc (xs.drop i) (ys.drop j)
theorem cT_end_a (xs ys : List ByteArray) (j : Nat) : cT xs ys xs.length j = 0 := by unfold cT; rw [List.drop_length]; rfl
theorem cT_end_b (xs ys : List ByteArray) (i : Nat) : cT xs ys i ys.length = 0 := by unfold cT; rw [List.drop_length, lc_nil_right]
theorem cT_le (xs ys : List ByteArray) (i j : Nat) : cT xs ys i j ≤ ys.length := by
  unfold cT
  refine Nat.le_trans (lc_le_right _ _) ?_
  rw [List.length_drop]; omega
theorem lc_near {α : Type} [DecidableEq α] : ∀ (n : Nat) (xs ys : List α), xs.length + ys.length ≤ n → (∀ y, lc xs ys ≤ lc xs (y :: ys)) ∧ (∀ x, lc (x :: xs) ys ≤ lc xs ys + 1) := by
  intro n
  induction n with
  | zero =>
    intro xs ys h
    have h1 : xs = [] := List.eq_nil_of_length_eq_zero (by omega)
    have h2 : ys = [] := List.eq_nil_of_length_eq_zero (by omega)
    subst h1; subst h2
    exact ⟨fun y => Nat.zero_le _, fun x => by rw [lc_nil_right]; omega⟩
  | succ n ih =>
    intro xs ys h
    constructor
    · intro y
      cases xs with
      | nil => exact Nat.zero_le _
      | cons z xs =>
        rw [lc_cons]
        split
        · exact (ih xs ys (by simp only [List.length_cons] at h; omega)).2 z
        · exact Nat.le_max_right _ _
    · intro x
      cases ys with
      | nil => rw [lc_nil_right]; omega
      | cons y ys =>
        have hi := ih xs ys (by simp only [List.length_cons] at h; omega)
        have h1 := hi.1 y
        have h2 := hi.2 x
        rw [lc_cons]
        split
        · omega
        · exact Nat.max_le.2 ⟨by omega, by omega⟩
/-- What the table's rule makes of its neighbours. -/
theorem cT_step {xs ys : List ByteArray} {i j : Nat} {x y : ByteArray} (hx : xs[i]? = some x) (hy : ys[j]? = some y) :
    cT xs ys i j = if x = y ∧ max (cT xs ys (i + 1) j) (cT xs ys i (j + 1)) < cT xs ys (i + 1) (j + 1) + 1 then cT xs ys (i + 1) (j + 1) + 1 else max (cT xs ys (i + 1) j) (cT xs ys i (j + 1)) := by
  have hs := lc_step hx hy
  obtain ⟨hi, rfl⟩ := List.getElem?_eq_some_iff.1 hx
  obtain ⟨hj, rfl⟩ := List.getElem?_eq_some_iff.1 hy
  have n1 := (lc_near _ (xs.drop (i + 1)) (ys.drop (j + 1)) (Nat.le_refl _)).2 xs[i]
  have n2 := (lc_near _ (ys.drop (j + 1)) (xs.drop (i + 1)) (Nat.le_refl _)).2 ys[j]
  rw [← List.drop_eq_getElem_cons hi] at n1
  rw [← List.drop_eq_getElem_cons hj, lc_symm, lc_symm (ys.drop (j + 1))] at n2
  unfold cT
  rw [hs]
  by_cases e : xs[i] = ys[j]
  · rw [if_pos e]
    by_cases h : max (lc (xs.drop (i + 1)) (ys.drop j)) (lc (xs.drop i) (ys.drop (j + 1))) < lc (xs.drop (i + 1)) (ys.drop (j + 1)) + 1
    · rw [if_pos ⟨e, h⟩]
    · rw [if_neg (fun c => h c.2)]
      have := Nat.max_le.2 ⟨n2, n1⟩
      omega
  · rw [if_neg e, if_neg (fun c => e c.1)]

/-- A row of the table, told by a function. -/
def RowF (w : World) (g M : Nat) (F : Nat → Nat) : Prop := ∃ cs : Array Value, Blk w g 3 cs ∧ cs.size = M ∧ ∀ t, t < M → cs[t]? = some (.int .i64 (F t : Int))
theorem RowF.below {w w' : World} {g M : Nat} {F : Nat → Nat} (h : RowF w g M F) (hb : Below w.heap.size w w') : RowF w' g M F := by
  obtain ⟨cs, hc, h1, h2⟩ := h
  exact ⟨cs, hc.below hb hc.lt, h1, h2⟩
theorem RowF.cell {w : World} {g M : Nat} {F : Nat → Nat} (h : RowF w g M F) {t : Nat} (ht : t < M) : w.cell? ⟨g, t, none⟩ = some (.int .i64 (F t : Int)) := by
  obtain ⟨cs, hc, _, h2⟩ := h
  rw [hc.cell]; exact h2 t ht
/-- All but block g stands. -/
structure But (wi w : World) (g : Nat) : Prop where
  os : w.os = wi.os
  tape : w.tape = wi.tape
  output : w.output = wi.output
  size : w.heap.size = wi.heap.size
  oth : ∀ k, k ≠ g → w.heap[k]? = wi.heap[k]?
theorem But.refl (w : World) (g : Nat) : But w w g := ⟨rfl, rfl, rfl, rfl, fun _ _ => rfl⟩
theorem But.drewN {wi w : World} {g : Nat} (h : But wi w g) (n : Nat) : But wi (w.drewN n) g := ⟨h.os, h.tape, h.output, h.size, h.oth⟩
theorem But.drew {wi w : World} {g : Nat} (h : But wi w g) : But wi w.drew g := ⟨h.os, h.tape, h.output, h.size, h.oth⟩
theorem But.set_ {wi w : World} {g : Nat} (h : But wi w g) (i : Nat) (v : Value) : But wi (w.setCell ⟨g, i, none⟩ v) g :=
  ⟨h.os, h.tape, h.output, by rw [← h.size]; simp, fun k hk => (Below.heap_setCell w _ v k hk).trans (h.oth k hk)⟩
theorem But.cell {wi w : World} {g : Nat} (h : But wi w g) {p : Addr} (hp : p.block ≠ g) : w.cell? p = wi.cell? p := by
  simp only [World.cell?]
  rw [h.oth _ hp]
theorem But.blk {wi w : World} {g k : Nat} {t : TypeId} {cs : Array Value} (h : But wi w g) (hb : Blk wi k t cs) (hk : k ≠ g) : Blk w k t cs := (h.oth k hk).trans hb
theorem But.below {wi w : World} {g B : Nat} (h : But wi w g) (hB : B ≤ g) : Below B wi w := ⟨h.os, h.tape, h.output, by rw [h.size]; exact Nat.le_refl _, fun k hk => h.oth k (by omega)⟩
end Go.Proofs.YtdpoeagmeiedcaaDoor
