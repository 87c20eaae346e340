/-
  Three texts cut into pieces, by plain lists.
-/
import Derived.Test.YtiefenfogjlnoaaLcs
namespace Go.Proofs.Ytiefenfogjlnoaa
variable {α : Type}

/-- Of each line of the one text where it is kept in the other. -/
def pls : List (Nat × α) → Nat → List (Option Nat)
  | [], _ => []
  | e :: l, at0 => if e.1 = 1 then some at0 :: pls l (at0 + 1) else if e.1 = 2 then none :: pls l at0 else pls l (at0 + 1)

theorem pls_len (l : List (Nat × α)) (h : ∀ e ∈ l, e.1 = 1 ∨ e.1 = 2 ∨ e.1 = 3) : ∀ a, (pls l a).length = (edA l).length := by
  induction l with
  | nil => intro a; rfl
  | cons e l ih =>
    intro a
    obtain ⟨k, x⟩ := e
    have ih := ih (fun e he => h e (List.mem_cons_of_mem _ he))
    have hk := h (k, x) (List.mem_cons_self ..)
    simp only at hk
    rw [edA_cons]
    simp only [pls]
    rcases hk with rfl | rfl | rfl <;> simp [ih]

/-- A line that is kept is the same line, in the other text. -/
theorem pls_at (l : List (Nat × α)) (h : ∀ e ∈ l, e.1 = 1 ∨ e.1 = 2 ∨ e.1 = 3) : ∀ (a i j : Nat), (pls l a)[i]? = some (some j) → a ≤ j ∧ ∃ x, (edA l)[i]? = some x ∧ (edB l)[j - a]? = some x := by
  induction l with
  | nil => intro a i j hh; simp [pls] at hh
  | cons e l ih =>
    intro a i j hh
    obtain ⟨k, x⟩ := e
    have ih := ih (fun e he => h e (List.mem_cons_of_mem _ he))
    have hk := h (k, x) (List.mem_cons_self ..)
    simp only at hk
    rw [edA_cons, edB_cons]
    simp only [pls] at hh
    rcases hk with rfl | rfl | rfl
    · simp only [if_true] at hh
      cases i with
      | zero =>
        simp at hh
        subst hh
        exact ⟨Nat.le_refl _, x, by simp, by simp⟩
      | succ i =>
        simp only [List.getElem?_cons_succ] at hh
        obtain ⟨h1, y, h2, h3⟩ := ih _ _ _ hh
        refine ⟨by omega, y, by simpa using h2, ?_⟩
        rw [if_neg (by omega), show j - a = (j - (a + 1)) + 1 by omega, List.getElem?_cons_succ]
        exact h3
    · simp only [if_true] at hh
      cases i with
      | zero => simp at hh
      | succ i =>
        rw [if_neg (by omega), List.getElem?_cons_succ] at hh
        obtain ⟨h1, y, h2, h3⟩ := ih _ _ _ hh
        exact ⟨h1, y, by simpa using h2, by simpa using h3⟩
    · rw [if_neg (by omega), if_neg (by omega)] at hh
      obtain ⟨h1, y, h2, h3⟩ := ih _ _ _ hh
      refine ⟨by omega, y, by simpa using h2, ?_⟩
      rw [if_neg (by omega), show j - a = (j - (a + 1)) + 1 by omega, List.getElem?_cons_succ]
      exact h3

/-- What is kept later lies later. -/
theorem pls_mono (l : List (Nat × α)) (h : ∀ e ∈ l, e.1 = 1 ∨ e.1 = 2 ∨ e.1 = 3) : ∀ (a i j i' j' : Nat), (pls l a)[i]? = some (some j) → (pls l a)[i']? = some (some j') → i < i' → j < j' := by
  induction l with
  | nil => intro a i j i' j' hh; simp [pls] at hh
  | cons e l ih =>
    intro a i j i' j' hh hh' hlt
    obtain ⟨k, x⟩ := e
    have hl := fun e he => h e (List.mem_cons_of_mem (k, x) he)
    have ih := ih hl
    have hk := h (k, x) (List.mem_cons_self ..)
    simp only at hk
    simp only [pls] at hh hh'
    rcases hk with rfl | rfl | rfl
    · simp only [if_true] at hh hh'
      obtain ⟨i', rfl⟩ : ∃ q, i' = q + 1 := ⟨i' - 1, by omega⟩
      simp only [List.getElem?_cons_succ] at hh'
      cases i with
      | zero =>
        simp at hh
        subst hh
        have := (pls_at l hl _ _ _ hh').1
        omega
      | succ i =>
        simp only [List.getElem?_cons_succ] at hh
        exact ih _ _ _ _ _ hh hh' (by omega)
    · rw [if_neg (by omega)] at hh hh'
      simp only [if_true] at hh hh'
      obtain ⟨i', rfl⟩ : ∃ q, i' = q + 1 := ⟨i' - 1, by omega⟩
      cases i with
      | zero => simp at hh
      | succ i =>
        simp only [List.getElem?_cons_succ] at hh hh'
        exact ih _ _ _ _ _ hh hh' (by omega)
    · rw [if_neg (by omega), if_neg (by omega)] at hh hh'
      exact ih _ _ _ _ _ hh hh' hlt

/-- Places in the other text, as they come of edits. -/
structure Places (p : List (Option Nat)) (b o : List α) : Prop where
  len : p.length = b.length
  eq : ∀ i j : Nat, p[i]? = some (some j) → ∃ x, b[i]? = some x ∧ o[j]? = some x
  mono : ∀ i j i' j' : Nat, p[i]? = some (some j) → p[i']? = some (some j') → i < i' → j < j'

theorem Places.lt {p : List (Option Nat)} {b o : List α} (h : Places p b o) {i j : Nat} (hi : p[i]? = some (some j)) : i < b.length ∧ j < o.length := by
  obtain ⟨x, h1, h2⟩ := h.eq i j hi
  exact ⟨(List.getElem?_eq_some_iff.1 h1).1, (List.getElem?_eq_some_iff.1 h2).1⟩

variable [DecidableEq α]

structure Ck (α : Type) where
  base : List α
  ours : List α
  theirs : List α
  clash : Bool
  out : List α

def decideC (x y z : List α) : Ck α := if y = x then ⟨x, y, z, false, z⟩ else if z = x ∨ y = z then ⟨x, y, z, false, y⟩ else ⟨x, y, z, true, []⟩
def cutL2 (l : List α) (i j : Nat) : List α := (l.drop i).take (j - i)

def isSome2 : Option (Option Nat) → Bool
  | some (some _) => true
  | _ => false
def isK (p q : List (Option Nat)) (i : Nat) : Bool := isSome2 p[i]? && isSome2 q[i]?
/-- The next place where k holds, in f steps at most. -/
def nx (k : Nat → Bool) : Nat → Nat → Nat
  | 0, i => i
  | f + 1, i => if k i = true then i else nx k f (i + 1)
/-- How far k holds on. -/
def rn (k : Nat → Bool) : Nat → Nat → Nat
  | 0, n => n
  | f + 1, n => if k n = true then rn k f (n + 1) else n
def atD (p : List (Option Nat)) (i d : Nat) : Nat := match p[i]? with
  | some (some j) => j
  | _ => d
def isRun (p q : List (Option Nat)) (i j k n : Nat) : Bool := decide (p[i + n]? = some (some (j + n))) && decide (q[i + n]? = some (some (k + n)))

def firstC (b o t : List α) (i j k n j1 k1 : Nat) : List (Ck α) := if i < n ∨ j < j1 ∨ k < k1 then [decideC (cutL2 b i n) (cutL2 o j j1) (cutL2 t k k1)] else []
def keptC (b o t : List α) (i j k m : Nat) : List (Ck α) := if 0 < m then [⟨cutL2 b i (i + m), cutL2 o j (j + m), cutL2 t k (k + m), false, cutL2 b i (i + m)⟩] else []

def chunks (p q : List (Option Nat)) (b o t : List α) : Nat → Nat → Nat → Nat → List (Ck α)
  | 0, _, _, _ => []
  | f + 1, i, j, k =>
    if i = b.length ∧ j = o.length ∧ k = t.length then [] else
      firstC b o t i j k (nx (isK p q) (b.length - i) i) (atD p (nx (isK p q) (b.length - i) i) o.length) (atD q (nx (isK p q) (b.length - i) i) t.length) ++
      (keptC b o t (nx (isK p q) (b.length - i) i) (atD p (nx (isK p q) (b.length - i) i) o.length) (atD q (nx (isK p q) (b.length - i) i) t.length)
        (rn (isRun p q (nx (isK p q) (b.length - i) i) (atD p (nx (isK p q) (b.length - i) i) o.length) (atD q (nx (isK p q) (b.length - i) i) t.length)) (b.length - nx (isK p q) (b.length - i) i) 0) ++
      chunks p q b o t f (nx (isK p q) (b.length - i) i + rn (isRun p q (nx (isK p q) (b.length - i) i) (atD p (nx (isK p q) (b.length - i) i) o.length) (atD q (nx (isK p q) (b.length - i) i) t.length)) (b.length - nx (isK p q) (b.length - i) i) 0)
        (atD p (nx (isK p q) (b.length - i) i) o.length + rn (isRun p q (nx (isK p q) (b.length - i) i) (atD p (nx (isK p q) (b.length - i) i) o.length) (atD q (nx (isK p q) (b.length - i) i) t.length)) (b.length - nx (isK p q) (b.length - i) i) 0)
        (atD q (nx (isK p q) (b.length - i) i) t.length + rn (isRun p q (nx (isK p q) (b.length - i) i) (atD p (nx (isK p q) (b.length - i) i) o.length) (atD q (nx (isK p q) (b.length - i) i) t.length)) (b.length - nx (isK p q) (b.length - i) i) 0))

/-- One step: n the next line that both keep, m how many from there on. -/
structure Step (p q : List (Option Nat)) (b o t : List α) (i j k n j1 k1 m : Nat) : Prop where
  le : i ≤ n
  nb : n ≤ b.length
  no : ∀ x, i ≤ x → x < n → isK p q x = false
  yes : n < b.length → p[n]? = some (some j1) ∧ q[n]? = some (some k1)
  fin : n = b.length → j1 = o.length ∧ k1 = t.length ∧ m = 0
  pos : n < b.length → 0 < m
  run : ∀ x, x < m → p[n + x]? = some (some (j1 + x)) ∧ q[n + x]? = some (some (k1 + x))
  nm : n + m ≤ b.length

theorem nx_ge (k : Nat → Bool) : ∀ f i, i ≤ nx k f i ∧ nx k f i ≤ i + f ∧ (∀ x, i ≤ x → x < nx k f i → k x = false) ∧ (nx k f i < i + f → k (nx k f i) = true)
  | 0, i => ⟨Nat.le_refl _, Nat.le_refl _, fun x h1 h2 => by simp [nx] at h2; omega, fun h => by simp [nx] at h⟩
  | f + 1, i => by
    unfold nx
    cases hk : k i with
    | true => rw [if_pos rfl]; exact ⟨Nat.le_refl _, by omega, fun x h1 h2 => by omega, fun _ => hk⟩
    | false =>
      rw [if_neg (by simp)]
      obtain ⟨h1, h2, h3, h4⟩ := nx_ge k f (i + 1)
      refine ⟨by omega, by omega, fun x hx1 hx2 => ?_, fun h => h4 (by omega)⟩
      by_cases e : x = i
      · rw [e]; exact hk
      · exact h3 x (by omega) hx2

theorem rn_ge (k : Nat → Bool) : ∀ f n, n ≤ rn k f n ∧ rn k f n ≤ n + f ∧ (∀ x, n ≤ x → x < rn k f n → k x = true) ∧ (rn k f n < n + f → k (rn k f n) = false)
  | 0, n => ⟨Nat.le_refl _, Nat.le_refl _, fun x h1 h2 => by simp [rn] at h2; omega, fun h => by simp [rn] at h⟩
  | f + 1, n => by
    unfold rn
    cases hk : k n with
    | false => rw [if_neg (by simp)]; exact ⟨Nat.le_refl _, by omega, fun x h1 h2 => by omega, fun _ => hk⟩
    | true =>
      rw [if_pos rfl]
      obtain ⟨h1, h2, h3, h4⟩ := rn_ge k f (n + 1)
      refine ⟨by omega, by omega, fun x hx1 hx2 => ?_, fun h => h4 (by omega)⟩
      by_cases e : x = n
      · rw [e]; exact hk
      · exact h3 x (by omega) hx2

theorem isSome2_iff {x : Option (Option Nat)} : isSome2 x = true ↔ ∃ j, x = some (some j) := by
  match x with
  | none => simp [isSome2]
  | some none => simp [isSome2]
  | some (some j) => simp [isSome2]

/-- What the cut is, by its steps. -/
theorem chunks_step (p q : List (Option Nat)) (b o t : List α) (f i j k n j1 k1 m : Nat) (hn : n = nx (isK p q) (b.length - i) i) (hj : j1 = atD p n o.length) (hk : k1 = atD q n t.length) (hm : m = rn (isRun p q n j1 k1) (b.length - n) 0)
    (he : ¬(i = b.length ∧ j = o.length ∧ k = t.length)) : chunks p q b o t (f + 1) i j k = firstC b o t i j k n j1 k1 ++ (keptC b o t n j1 k1 m ++ chunks p q b o t f (n + m) (j1 + m) (k1 + m)) := by
  subst hn; subst hj; subst hk; subst hm
  rw [chunks, if_neg he]
theorem chunks_end (p q : List (Option Nat)) (b o t : List α) (f i j k : Nat) (he : i = b.length ∧ j = o.length ∧ k = t.length) : chunks p q b o t f i j k = [] := by
  cases f with
  | zero => rfl
  | succ f => rw [chunks, if_pos he]

omit [DecidableEq α] in
theorem step_any (p q : List (Option Nat)) (b o t : List α) (hp : p.length = b.length) (hq : q.length = b.length) (i j k : Nat) (hi : i ≤ b.length) :
    ∃ n j1 k1 m, Step p q b o t i j k n j1 k1 m ∧ n = nx (isK p q) (b.length - i) i ∧ j1 = atD p n o.length ∧ k1 = atD q n t.length ∧ m = rn (isRun p q n j1 k1) (b.length - n) 0 := by
  refine ⟨_, _, _, _, ?_, rfl, rfl, rfl, rfl⟩
  obtain ⟨h1, h2, h3, h4⟩ := nx_ge (isK p q) (b.length - i) i
  generalize nx (isK p q) (b.length - i) i = n at *
  have hyes : n < b.length → p[n]? = some (some (atD p n o.length)) ∧ q[n]? = some (some (atD q n t.length)) := fun h => by
    have hk := h4 (by omega)
    unfold isK at hk
    rw [Bool.and_eq_true, isSome2_iff, isSome2_iff] at hk
    obtain ⟨⟨x, hx⟩, y, hy⟩ := hk
    unfold atD
    rw [hx, hy]
    exact ⟨rfl, rfl⟩
  obtain ⟨r1, r2, r3, r4⟩ := rn_ge (isRun p q n (atD p n o.length) (atD q n t.length)) (b.length - n) 0
  have hrun : ∀ x, isRun p q n (atD p n o.length) (atD q n t.length) x = true ↔ (p[n + x]? = some (some (atD p n o.length + x)) ∧ q[n + x]? = some (some (atD q n t.length + x))) := fun x => by
    unfold isRun; rw [Bool.and_eq_true, decide_eq_true_iff, decide_eq_true_iff]
  refine ⟨h1, by omega, h3, hyes, fun e => ⟨?_, ?_, by omega⟩, fun h => ?_, fun x hx => (hrun x).1 (r3 x (by omega) hx), by omega⟩
  · unfold atD
    have : p[n]? = none := List.getElem?_eq_none (by omega)
    rw [this]
  · unfold atD
    have : q[n]? = none := List.getElem?_eq_none (by omega)
    rw [this]
  · by_cases e : rn (isRun p q n (atD p n o.length) (atD q n t.length)) (b.length - n) 0 = 0
    · have := r4 (by omega)
      rw [e] at this
      have h0 := (hrun 0).2 (by simpa using hyes h)
      rw [h0] at this
      cases this
    · omega

end Go.Proofs.Ytiefenfogjlnoaa
