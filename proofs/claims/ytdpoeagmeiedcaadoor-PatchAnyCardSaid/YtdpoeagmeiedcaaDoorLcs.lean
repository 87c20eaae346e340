/-
  The longest common row of two lists, by plain lists; the edits that lead from one to the other.
-/
namespace Go.Proofs.YtdpoeagmeiedcaaDoor
variable {α : Type} [DecidableEq α]

def lcRow (x : α) (f : List α → Nat) : List α → Nat
  | [] => 0
  | y :: ys => if x = y then f ys + 1 else max (f (y :: ys)) (lcRow x f ys)

/-- How long the longest row is that both have in order. -/
def lc : List α → List α → Nat
  | [] => fun _ => 0
  | x :: xs => lcRow x (lc xs)

theorem lc_nil_left (ys : List α) : lc [] ys = 0 := rfl
theorem lc_nil_right (xs : List α) : lc xs [] = 0 := by cases xs <;> rfl
theorem lc_cons (x y : α) (xs ys : List α) : lc (x :: xs) (y :: ys) = if x = y then lc xs ys + 1 else max (lc xs (y :: ys)) (lc (x :: xs) ys) := rfl

theorem lc_le_left (xs : List α) : ∀ ys : List α, lc xs ys ≤ xs.length := by
  induction xs with
  | nil => intro ys; exact Nat.le_refl _
  | cons x xs ih =>
    intro ys
    induction ys with
    | nil => rw [lc_nil_right]; omega
    | cons y ys ih2 =>
      rw [lc_cons]
      have := ih ys
      have := ih (y :: ys)
      simp only [List.length_cons] at *
      split <;> omega

theorem lc_symm (xs : List α) : ∀ ys : List α, lc xs ys = lc ys xs := by
  induction xs with
  | nil => intro ys; rw [lc_nil_left, lc_nil_right]
  | cons x xs ih =>
    intro ys
    induction ys with
    | nil => rw [lc_nil_left, lc_nil_right]
    | cons y ys ih2 =>
      rw [lc_cons, lc_cons, ih ys, ih (y :: ys), ih2]
      by_cases h : x = y
      · rw [if_pos h, if_pos h.symm]
      · rw [if_neg h, if_neg (fun e => h e.symm), Nat.max_comm]

theorem lc_le_right (xs ys : List α) : lc xs ys ≤ ys.length := by rw [lc_symm]; exact lc_le_left ys xs

/-- Whatever is in order in both is no longer. -/
theorem lc_ge (c : List α) (xs : List α) : ∀ ys : List α, c.Sublist xs → c.Sublist ys → c.length ≤ lc xs ys := by
  induction xs generalizing c with
  | nil => intro ys h _; rw [List.sublist_nil.1 h]; exact Nat.zero_le _
  | cons x xs ih =>
    intro ys
    induction ys generalizing c with
    | nil => intro _ h; rw [List.sublist_nil.1 h]; exact Nat.zero_le _
    | cons y ys ih2 =>
      intro h k
      rw [lc_cons]
      cases h with
      | cons _ h =>
        by_cases e : x = y
        · rw [if_pos e]
          cases k with
          | cons _ k => have := ih c ys h k; omega
          | cons_cons _ k => have := ih _ ys ((List.sublist_cons_self _ _).trans h) k; simp only [List.length_cons]; omega
        · rw [if_neg e]
          have := ih c (y :: ys) h k
          omega
      | cons_cons _ h =>
        rename_i c'
        by_cases e : x = y
        · rw [if_pos e]
          subst e
          have := ih c' ys h (by cases k with
            | cons _ k => exact (List.sublist_cons_self _ _).trans k
            | cons_cons _ k => exact k)
          simp only [List.length_cons]; omega
        · rw [if_neg e]
          cases k with
          | cons _ k => have := ih2 (x :: c') (h.cons_cons x) k; omega
          | cons_cons _ k => exact absurd rfl e

/-- An edit: 1 keeps a line, 2 takes it out, 3 puts it in. -/
def edRow (x : α) (xs : List α) (f : List α → List (Nat × α)) : List α → List (Nat × α)
  | [] => (2, x) :: f []
  | y :: ys => if x = y then (1, x) :: f ys else if lc (x :: xs) ys ≤ lc xs (y :: ys) then (2, x) :: f (y :: ys) else (3, y) :: edRow x xs f ys

def ed : List α → List α → List (Nat × α)
  | [] => fun ys => ys.map fun y => (3, y)
  | x :: xs => edRow x xs (ed xs)

theorem ed_nil_cons (y : α) (ys : List α) : ed [] (y :: ys) = (3, y) :: ed [] ys := rfl
theorem ed_cons_nil (x : α) (xs : List α) : ed (x :: xs) [] = (2, x) :: ed xs [] := rfl
theorem ed_cons (x y : α) (xs ys : List α) : ed (x :: xs) (y :: ys) = if x = y then (1, x) :: ed xs ys else if lc (x :: xs) ys ≤ lc xs (y :: ys) then (2, x) :: ed xs (y :: ys) else (3, y) :: ed (x :: xs) ys := rfl

/-- What is kept or taken out; what is kept or put in; how many do something. -/
def edA (l : List (Nat × α)) : List α := (l.filter fun e => e.1 != 3).map (·.2)
def edB (l : List (Nat × α)) : List α := (l.filter fun e => e.1 != 2).map (·.2)
def edCost (l : List (Nat × α)) : Nat := (l.filter fun e => e.1 != 1).length

omit [DecidableEq α] in
theorem edA_cons (k : Nat) (x : α) (l : List (Nat × α)) : edA ((k, x) :: l) = if k = 3 then edA l else x :: edA l := by
  unfold edA
  rw [List.filter_cons]
  by_cases h : k = 3 <;> simp [h]
omit [DecidableEq α] in
theorem edB_cons (k : Nat) (x : α) (l : List (Nat × α)) : edB ((k, x) :: l) = if k = 2 then edB l else x :: edB l := by
  unfold edB
  rw [List.filter_cons]
  by_cases h : k = 2 <;> simp [h]
omit [DecidableEq α] in
theorem edCost_cons (k : Nat) (x : α) (l : List (Nat × α)) : edCost ((k, x) :: l) = (if k = 1 then 0 else 1) + edCost l := by
  unfold edCost
  rw [List.filter_cons]
  by_cases h : k = 1 <;> simp [h]
  omega

theorem ed_all (xs : List α) : ∀ ys : List α, edA (ed xs ys) = xs ∧ edB (ed xs ys) = ys ∧ edCost (ed xs ys) + 2 * lc xs ys = xs.length + ys.length := by
  induction xs with
  | nil =>
    intro ys
    induction ys with
    | nil => exact ⟨rfl, rfl, rfl⟩
    | cons y ys ih =>
      obtain ⟨h1, h2, h3⟩ := ih
      rw [ed_nil_cons, edA_cons, edB_cons, edCost_cons, h1, h2, lc_nil_left]
      rw [lc_nil_left] at h3
      exact ⟨rfl, rfl, by simp at *; omega⟩
  | cons x xs ih =>
    intro ys
    induction ys with
    | nil =>
      obtain ⟨h1, h2, h3⟩ := ih []
      rw [ed_cons_nil, edA_cons, edB_cons, edCost_cons, h1, h2, lc_nil_right]
      rw [lc_nil_right] at h3
      exact ⟨rfl, rfl, by simp at *; omega⟩
    | cons y ys ih2 =>
      rw [ed_cons, lc_cons]
      by_cases e : x = y
      · rw [if_pos e, if_pos e]
        subst e
        obtain ⟨h1, h2, h3⟩ := ih ys
        rw [edA_cons, edB_cons, edCost_cons, h1, h2]
        exact ⟨rfl, rfl, by simp at *; omega⟩
      · rw [if_neg e, if_neg e]
        split
        · obtain ⟨h1, h2, h3⟩ := ih (y :: ys)
          rw [edA_cons, edB_cons, edCost_cons, h1, h2]
          exact ⟨rfl, rfl, by simp at *; omega⟩
        · obtain ⟨h1, h2, h3⟩ := ih2
          rw [edA_cons, edB_cons, edCost_cons, h1, h2]
          exact ⟨rfl, rfl, by simp at *; omega⟩

/-- All is the same just if nothing is done. -/
theorem ed_cost_zero (xs ys : List α) : edCost (ed xs ys) = 0 ↔ xs = ys := by
  obtain ⟨h1, h2, h3⟩ := ed_all xs ys
  constructor
  · intro h
    have hall : ∀ e ∈ ed xs ys, e.1 = 1 := by
      intro e he
      unfold edCost at h
      have := List.eq_nil_of_length_eq_zero h
      rw [List.filter_eq_nil_iff] at this
      have := this e he
      simpa using this
    unfold edA at h1
    unfold edB at h2
    rw [List.filter_eq_self.2 (fun e he => by simp [hall e he])] at h1 h2
    exact h1.symm.trans h2
  · rintro rfl
    have := lc_ge xs xs xs (List.Sublist.refl _) (List.Sublist.refl _)
    have := lc_le_left xs xs
    omega

/-- Behind what has been done so far, at the places i and j. -/
theorem ed_keep {xs ys : List α} {i j : Nat} {x y : α} (hx : xs[i]? = some x) (hy : ys[j]? = some y) (e : x = y) : ed (xs.drop i) (ys.drop j) = (1, x) :: ed (xs.drop (i + 1)) (ys.drop (j + 1)) := by
  obtain ⟨hi, rfl⟩ := List.getElem?_eq_some_iff.1 hx
  obtain ⟨hj, rfl⟩ := List.getElem?_eq_some_iff.1 hy
  rw [List.drop_eq_getElem_cons hi, List.drop_eq_getElem_cons hj, ed_cons, if_pos e]
theorem ed_else {xs ys : List α} {i j : Nat} {x y : α} (hx : xs[i]? = some x) (hy : ys[j]? = some y) (e : x ≠ y) :
    ed (xs.drop i) (ys.drop j) = if lc (xs.drop i) (ys.drop (j + 1)) ≤ lc (xs.drop (i + 1)) (ys.drop j) then (2, x) :: ed (xs.drop (i + 1)) (ys.drop j) else (3, y) :: ed (xs.drop i) (ys.drop (j + 1)) := by
  obtain ⟨hi, rfl⟩ := List.getElem?_eq_some_iff.1 hx
  obtain ⟨hj, rfl⟩ := List.getElem?_eq_some_iff.1 hy
  rw [List.drop_eq_getElem_cons hi, List.drop_eq_getElem_cons hj, ed_cons, if_neg e]
theorem ed_end_a {xs ys : List α} {j : Nat} {y : α} (hy : ys[j]? = some y) : ed (xs.drop xs.length) (ys.drop j) = (3, y) :: ed (xs.drop xs.length) (ys.drop (j + 1)) := by
  obtain ⟨hj, rfl⟩ := List.getElem?_eq_some_iff.1 hy
  rw [List.drop_length, List.drop_eq_getElem_cons hj, ed_nil_cons]
theorem ed_end_b {xs ys : List α} {i : Nat} {x : α} (hx : xs[i]? = some x) : ed (xs.drop i) (ys.drop ys.length) = (2, x) :: ed (xs.drop (i + 1)) (ys.drop ys.length) := by
  obtain ⟨hi, rfl⟩ := List.getElem?_eq_some_iff.1 hx
  rw [List.drop_length, List.drop_eq_getElem_cons hi, ed_cons_nil]
theorem lc_step {xs ys : List α} {i j : Nat} {x y : α} (hx : xs[i]? = some x) (hy : ys[j]? = some y) :
    lc (xs.drop i) (ys.drop j) = if x = y then lc (xs.drop (i + 1)) (ys.drop (j + 1)) + 1 else max (lc (xs.drop (i + 1)) (ys.drop j)) (lc (xs.drop i) (ys.drop (j + 1))) := by
  obtain ⟨hi, rfl⟩ := List.getElem?_eq_some_iff.1 hx
  obtain ⟨hj, rfl⟩ := List.getElem?_eq_some_iff.1 hy
  rw [List.drop_eq_getElem_cons hi, List.drop_eq_getElem_cons hj, lc_cons]

end Go.Proofs.YtdpoeagmeiedcaaDoor
