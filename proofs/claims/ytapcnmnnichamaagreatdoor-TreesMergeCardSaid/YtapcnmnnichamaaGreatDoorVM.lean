/-
  diff.Common, diff.Cost.
  The rows of lines that are kept, by plain lists.
  diff.Matches: the rows of lines that are kept.
-/
import Derived.Test.YtapcnmnnichamaaGreatDoorVA

namespace Go.Proofs.YtapcnmnnichamaaGreatDoor.Mg
open Go.RowKit

/-- How much is the same. -/
def Counted (w : World) (n : Nat) (e : Ending) (w' : World) : Prop := e = .returned (.tuple #[.int .i64 (n : Int), .nilIface]) ∧ Below w.heap.size w w'

theorem edCells_at {l : List (Nat × ByteArray)} : ∀ {i k : Nat} {s : ByteArray}, l[i]? = some (k, s) → (edCells l)[i * 2]? = some (.int .i64 (k : Int)) ∧ (edCells l)[i * 2 + 1]? = some (.string s) := by
  induction l with
  | nil => intro i k s h; simp at h
  | cons x l ih =>
    intro i k s h
    have hc : edCells (x :: l) = .int .i64 (x.1 : Int) :: .string x.2 :: edCells l := rfl
    rw [hc]
    cases i with
    | zero => simp at h; subst h; exact ⟨rfl, rfl⟩
    | succ i =>
      rw [show (i + 1) * 2 = i * 2 + 1 + 1 by omega]
      simp only [List.getElem?_cons_succ] at h ⊢
      exact ih h

/-- Edits in a row of the call's own. -/
theorem own2_at {w : World} {base g cap : Nat} {e : TypeId} {n : Nat} {xs : List Value} (h : w.ownsRow base e 2 (.slice (some ⟨g, 0, none⟩) n cap) n xs) {i : Nat} {x : Value} (hi : xs[i]? = some x) : w.cell? ⟨g, i, none⟩ = some x := by
  rw [h.cellAt i (by rw [← h.1]; exact (List.getElem?_eq_some_iff.1 hi).1)]
  exact hi

/-- An int; what was there stands. -/
def Costs (w : World) (n : Nat) (e : Ending) (w' : World) : Prop := e = .returned (.int .i64 (n : Int)) ∧ Below w.heap.size w w'

theorem edCost_take (l : List (Nat × ByteArray)) (k : Nat) {op : Nat} {s : ByteArray} (h : l[k]? = some (op, s)) : edCost (l.take (k + 1)) = edCost (l.take k) + (if op = 1 then 0 else 1) := by
  rw [List.take_add_one, h]
  unfold edCost
  rw [List.filter_append, List.length_append]
  congr 1
  by_cases e : op = 1 <;> simp [e]

end Go.Proofs.YtapcnmnnichamaaGreatDoor.Mg

namespace Go.Proofs.YtapcnmnnichamaaGreatDoor.Mg
open Go.RowKit

abbrev Mt := Nat × Nat × Nat
def bump (l : List Mt) : List Mt := match l.getLast? with
  | none => l
  | some x => l.dropLast ++ [(x.1, x.2.1, x.2.2 + 1)]
theorem bump_snoc (l : List Mt) (x : Mt) : bump (l ++ [x]) = l ++ [(x.1, x.2.1, x.2.2 + 1)] := by simp [bump]

/-- One edit more: the matches so far, both places, whether a row goes on. -/
def mstep (st : List Mt × Nat × Nat × Bool) (op : Nat) : List Mt × Nat × Nat × Bool :=
  (if op = 1 then (if st.2.2.2 = true then bump st.1 else st.1 ++ [(st.2.1, st.2.2.1, 1)]) else st.1, if op = 3 then st.2.1 else st.2.1 + 1, if op = 2 then st.2.2.1 else st.2.2.1 + 1, op == 1)
def mrun (l : List (Nat × ByteArray)) : List Mt × Nat × Nat × Bool := (l.map (·.1)).foldl mstep ([], 0, 0, false)

theorem mrun_take (l : List (Nat × ByteArray)) (k : Nat) {op : Nat} {s : ByteArray} (h : l[k]? = some (op, s)) : mrun (l.take (k + 1)) = mstep (mrun (l.take k)) op := by
  rw [List.take_add_one, h]
  simp [mrun]

/-- What holds of the state behind k edits. -/
structure MGood (k : Nat) (st : List Mt × Nat × Nat × Bool) : Prop where
  i : st.2.1 ≤ k
  j : st.2.2.1 ≤ k
  l : st.1.length ≤ k
  n : ∀ x ∈ st.1, x.2.2 ≤ k
  r : st.2.2.2 = true → st.1 ≠ []

theorem MGood.step {k : Nat} {st : List Mt × Nat × Nat × Bool} (h : MGood k st) (op : Nat) : MGood (k + 1) (mstep st op) := by
  obtain ⟨out, i, j, b⟩ := st
  obtain ⟨h1, h2, h3, h4, h5⟩ := h
  simp only at h1 h2 h3 h4 h5
  by_cases e : op = 1
  · cases b with
    | true =>
      obtain ⟨pre, x, rfl⟩ : ∃ p x, out = p ++ [x] := ⟨out.dropLast, out.getLast (h5 rfl), (List.dropLast_concat_getLast (h5 rfl)).symm⟩
      refine ⟨?_, ?_, ?_, ?_, ?_⟩ <;> simp only [mstep, e, if_true, bump_snoc]
      · simp; omega
      · simp; omega
      · simp at h3 ⊢; omega
      · intro y hy
        rw [List.mem_append, List.mem_singleton] at hy
        rcases hy with hy | rfl
        · have := h4 y (by simp [hy]); omega
        · have := h4 x (by simp); simp; omega
      · intro _; simp
    | false =>
      refine ⟨?_, ?_, ?_, ?_, ?_⟩ <;> simp only [mstep, e, if_true]
      · simp; omega
      · simp; omega
      · simp; omega
      · intro y hy
        rw [if_neg (by simp), List.mem_append, List.mem_singleton] at hy
        rcases hy with hy | rfl
        · have := h4 y hy; omega
        · simp
      · intro _; simp
  · refine ⟨?_, ?_, ?_, ?_, ?_⟩ <;> simp only [mstep, if_neg e]
    · split <;> omega
    · split <;> omega
    · omega
    · intro y hy; have := h4 y hy; omega
    · intro hh; simp [e] at hh

theorem MGood.run (l : List (Nat × ByteArray)) (k : Nat) (hk : k ≤ l.length) : MGood k (mrun (l.take k)) := by
  induction k with
  | zero => exact ⟨by simp [mrun], by simp [mrun], by simp [mrun], by simp [mrun], by simp [mrun]⟩
  | succ k ih =>
    obtain ⟨⟨op, s⟩, hs⟩ : ∃ x, l[k]? = some x := ⟨_, List.getElem?_eq_getElem (by omega)⟩
    rw [mrun_take l k hs]
    exact (ih (by omega)).step op

def mcells (l : List Mt) : List Value := l.flatMap fun x => [.int .i64 (x.1 : Int), .int .i64 (x.2.1 : Int), .int .i64 (x.2.2 : Int)]
theorem mcells_snoc (l : List Mt) (a b n : Nat) : mcells (l ++ [(a, b, n)]) = mcells l ++ [.int .i64 (a : Int), .int .i64 (b : Int), .int .i64 (n : Int)] := by simp [mcells]
theorem mcells_len (l : List Mt) : (mcells l).length = l.length * 3 := by
  induction l with
  | nil => rfl
  | cons x l ih => rw [show mcells (x :: l) = .int .i64 (x.1 : Int) :: .int .i64 (x.2.1 : Int) :: .int .i64 (x.2.2 : Int) :: mcells l from rfl]; simp only [List.length_cons, ih]; omega
theorem mcells_last (l : List Mt) (a b n : Nat) : (mcells (l ++ [(a, b, n)]))[l.length * 3 + 2]? = some (.int .i64 (n : Int)) := by
  rw [mcells_snoc, List.getElem?_append_right (by rw [mcells_len]; omega), mcells_len, Nat.add_sub_cancel_left]
  rfl
theorem mcells_set (l : List Mt) (a b n m : Nat) : (mcells (l ++ [(a, b, n)])).set (l.length * 3 + 2) (.int .i64 (m : Int)) = mcells (l ++ [(a, b, m)]) := by
  rw [mcells_snoc, mcells_snoc, List.set_append_right _ _ (by rw [mcells_len]; omega), mcells_len, Nat.add_sub_cancel_left]
  rfl

theorem ed_ops {α : Type} [DecidableEq α] (xs : List α) : ∀ ys : List α, ∀ e ∈ ed xs ys, e.1 = 1 ∨ e.1 = 2 ∨ e.1 = 3 := by
  induction xs with
  | nil => intro ys e he; simp [ed] at he; obtain ⟨_, _, rfl⟩ := he; exact .inr (.inr rfl)
  | cons x xs ih =>
    intro ys
    induction ys with
    | nil =>
      intro e he
      rw [ed_cons_nil, List.mem_cons] at he
      rcases he with rfl | he
      · exact .inr (.inl rfl)
      · exact ih [] e he
    | cons y ys ih2 =>
      intro e he
      rw [ed_cons] at he
      split at he
      · rw [List.mem_cons] at he
        rcases he with rfl | he
        · exact .inl rfl
        · exact ih ys e he
      · split at he
        · rw [List.mem_cons] at he
          rcases he with rfl | he
          · exact .inr (.inl rfl)
          · exact ih _ e he
        · rw [List.mem_cons] at he
          rcases he with rfl | he
          · exact .inr (.inr rfl)
          · exact ih2 e he

end Go.Proofs.YtapcnmnnichamaaGreatDoor.Mg

namespace Go.Proofs.YtapcnmnnichamaaGreatDoor.Mg
open Go.RowKit

end Go.Proofs.YtapcnmnnichamaaGreatDoor.Mg
