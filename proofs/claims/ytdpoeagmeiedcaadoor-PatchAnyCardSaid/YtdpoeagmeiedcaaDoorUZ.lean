/-
  Three texts cut into pieces, by plain lists.
  What the cut of three texts is, by plain lists: the parts, the sides, turned.
  The cut of three texts: where a side is as it was; turned; two changes far from each other.
  rectoref11.kept: of each line of base where it is kept.
  rectoref11.between: a piece that is not kept.
  rectoref11.Chunks: the row of pieces, and how far a run goes.
-/
import Derived.Test.YtdpoeagmeiedcaaDoorLcs
import Derived.Test.YtdpoeagmeiedcaaDoorRLin
import Derived.Test.YtdpoeagmeiedcaaDoorMatch
import Derived.Deep.AppendLies

namespace Go.Proofs.YtdpoeagmeiedcaaDoor
variable {α : Type}

/-- Of each line of the one text where it is kept in the other. -/
def pls : List (Nat × α) → Nat → List (Option Nat)
  | [], _ => []
  | e :: l, at0 => if e.1 = 1 then some at0 :: pls l (at0 + 1) else if e.1 = 2 then none :: pls l at0 else pls l (at0 + 1)

theorem pls_len (l : List (Nat × α)) (h : ∀ e ∈ l, e.1 = 1 ∨ e.1 = 2 ∨ e.1 = 3) : ∀ a, (pls l a).length = (edA l).length := by
  induction l with
  | nil => intro a; rfl
  | cons e l ih =>
    intro a
    obtain ⟨k, x⟩ := e
    have ih := ih (fun e he => h e (List.mem_cons_of_mem _ he))
    have hk := h (k, x) (List.mem_cons_self ..)
    simp only at hk
    rw [edA_cons]
    simp only [pls]
    rcases hk with rfl | rfl | rfl <;> simp [ih]

/-- A line that is kept is the same line, in the other text. -/
theorem pls_at (l : List (Nat × α)) (h : ∀ e ∈ l, e.1 = 1 ∨ e.1 = 2 ∨ e.1 = 3) : ∀ (a i j : Nat), (pls l a)[i]? = some (some j) → a ≤ j ∧ ∃ x, (edA l)[i]? = some x ∧ (edB l)[j - a]? = some x := by
  induction l with
  | nil => intro a i j hh; simp [pls] at hh
  | cons e l ih =>
    intro a i j hh
    obtain ⟨k, x⟩ := e
    have ih := ih (fun e he => h e (List.mem_cons_of_mem _ he))
    have hk := h (k, x) (List.mem_cons_self ..)
    simp only at hk
    rw [edA_cons, edB_cons]
    simp only [pls] at hh
    rcases hk with rfl | rfl | rfl
    · simp only [if_true] at hh
      cases i with
      | zero =>
        simp at hh
        subst hh
        exact ⟨Nat.le_refl _, x, by simp, by simp⟩
      | succ i =>
        simp only [List.getElem?_cons_succ] at hh
        obtain ⟨h1, y, h2, h3⟩ := ih _ _ _ hh
        refine ⟨by omega, y, by simpa using h2, ?_⟩
        rw [if_neg (by omega), show j - a = (j - (a + 1)) + 1 by omega, List.getElem?_cons_succ]
        exact h3
    · simp only [if_true] at hh
      cases i with
      | zero => simp at hh
      | succ i =>
        rw [if_neg (by omega), List.getElem?_cons_succ] at hh
        obtain ⟨h1, y, h2, h3⟩ := ih _ _ _ hh
        exact ⟨h1, y, by simpa using h2, by simpa using h3⟩
    · rw [if_neg (by omega), if_neg (by omega)] at hh
      obtain ⟨h1, y, h2, h3⟩ := ih _ _ _ hh
      refine ⟨by omega, y, by simpa using h2, ?_⟩
      rw [if_neg (by omega), show j - a = (j - (a + 1)) + 1 by omega, List.getElem?_cons_succ]
      exact h3

/-- What is kept later lies later. -/
theorem pls_mono (l : List (Nat × α)) (h : ∀ e ∈ l, e.1 = 1 ∨ e.1 = 2 ∨ e.1 = 3) : ∀ (a i j i' j' : Nat), (pls l a)[i]? = some (some j) → (pls l a)[i']? = some (some j') → i < i' → j < j' := by
  induction l with
  | nil => intro a i j i' j' hh; simp [pls] at hh
  | cons e l ih =>
    intro a i j i' j' hh hh' hlt
    obtain ⟨k, x⟩ := e
    have hl := fun e he => h e (List.mem_cons_of_mem (k, x) he)
    have ih := ih hl
    have hk := h (k, x) (List.mem_cons_self ..)
    simp only at hk
    simp only [pls] at hh hh'
    rcases hk with rfl | rfl | rfl
    · simp only [if_true] at hh hh'
      obtain ⟨i', rfl⟩ : ∃ q, i' = q + 1 := ⟨i' - 1, by omega⟩
      simp only [List.getElem?_cons_succ] at hh'
      cases i with
      | zero =>
        simp at hh
        subst hh
        have := (pls_at l hl _ _ _ hh').1
        omega
      | succ i =>
        simp only [List.getElem?_cons_succ] at hh
        exact ih _ _ _ _ _ hh hh' (by omega)
    · rw [if_neg (by omega)] at hh hh'
      simp only [if_true] at hh hh'
      obtain ⟨i', rfl⟩ : ∃ q, i' = q + 1 := ⟨i' - 1, by omega⟩
      cases i with
      | zero => simp at hh
      | succ i =>
        simp only [List.getElem?_cons_succ] at hh hh'
        exact ih _ _ _ _ _ hh hh' (by omega)
    · rw [if_neg (by omega), if_neg (by omega)] at hh hh'
      exact ih _ _ _ _ _ hh hh' hlt

/-- Places in the other text, as they come of edits. -/
structure Places (p : List (Option Nat)) (b o : List α) : Prop where
  len : p.length = b.length
  eq : ∀ i j : Nat, p[i]? = some (some j) → ∃ x, b[i]? = some x ∧ o[j]? = some x
  mono : ∀ i j i' j' : Nat, p[i]? = some (some j) → p[i']? = some (some j') → i < i' → j < j'

theorem Places.lt {p : List (Option Nat)} {b o : List α} (h : Places p b o) {i j : Nat} (hi : p[i]? = some (some j)) : i < b.length ∧ j < o.length := by
  obtain ⟨x, h1, h2⟩ := h.eq i j hi
  exact ⟨(List.getElem?_eq_some_iff.1 h1).1, (List.getElem?_eq_some_iff.1 h2).1⟩

variable [DecidableEq α]

structure Ck (α : Type) where
  base : List α
  ours : List α
  theirs : List α
  clash : Bool
  out : List α

def decideC (x y z : List α) : Ck α := if y = x then ⟨x, y, z, false, z⟩ else if z = x ∨ y = z then ⟨x, y, z, false, y⟩ else ⟨x, y, z, true, []⟩
def cutL2 (l : List α) (i j : Nat) : List α := (l.drop i).take (j - i)

def isSome2 : Option (Option Nat) → Bool
  | some (some _) => true
  | _ => false
def isK (p q : List (Option Nat)) (i : Nat) : Bool := isSome2 p[i]? && isSome2 q[i]?
/-- The next place where k holds, in f steps at most. -/
def nx (k : Nat → Bool) : Nat → Nat → Nat
  | 0, i => i
  | f + 1, i => if k i = true then i else nx k f (i + 1)
/-- How far k holds on. -/
def rn (k : Nat → Bool) : Nat → Nat → Nat
  | 0, n => n
  | f + 1, n => if k n = true then rn k f (n + 1) else n
def atD (p : List (Option Nat)) (i d : Nat) : Nat := match p[i]? with
  | some (some j) => j
  | _ => d
def isRun (p q : List (Option Nat)) (i j k n : Nat) : Bool := decide (p[i + n]? = some (some (j + n))) && decide (q[i + n]? = some (some (k + n)))

def firstC (b o t : List α) (i j k n j1 k1 : Nat) : List (Ck α) := if i < n ∨ j < j1 ∨ k < k1 then [decideC (cutL2 b i n) (cutL2 o j j1) (cutL2 t k k1)] else []
def keptC (b o t : List α) (i j k m : Nat) : List (Ck α) := if 0 < m then [⟨cutL2 b i (i + m), cutL2 o j (j + m), cutL2 t k (k + m), false, cutL2 b i (i + m)⟩] else []

def chunks (p q : List (Option Nat)) (b o t : List α) : Nat → Nat → Nat → Nat → List (Ck α)
  | 0, _, _, _ => []
  | f + 1, i, j, k =>
    if i = b.length ∧ j = o.length ∧ k = t.length then [] else
      firstC b o t i j k (nx (isK p q) (b.length - i) i) (atD p (nx (isK p q) (b.length - i) i) o.length) (atD q (nx (isK p q) (b.length - i) i) t.length) ++
      (keptC b o t (nx (isK p q) (b.length - i) i) (atD p (nx (isK p q) (b.length - i) i) o.length) (atD q (nx (isK p q) (b.length - i) i) t.length)
        (rn (isRun p q (nx (isK p q) (b.length - i) i) (atD p (nx (isK p q) (b.length - i) i) o.length) (atD q (nx (isK p q) (b.length - i) i) t.length)) (b.length - nx (isK p q) (b.length - i) i) 0) ++
      chunks p q b o t f (nx (isK p q) (b.length - i) i + rn (isRun p q (nx (isK p q) (b.length - i) i) (atD p (nx (isK p q) (b.length - i) i) o.length) (atD q (nx (isK p q) (b.length - i) i) t.length)) (b.length - nx (isK p q) (b.length - i) i) 0)
        (atD p (nx (isK p q) (b.length - i) i) o.length + rn (isRun p q (nx (isK p q) (b.length - i) i) (atD p (nx (isK p q) (b.length - i) i) o.length) (atD q (nx (isK p q) (b.length - i) i) t.length)) (b.length - nx (isK p q) (b.length - i) i) 0)
        (atD q (nx (isK p q) (b.length - i) i) t.length + rn (isRun p q (nx (isK p q) (b.length - i) i) (atD p (nx (isK p q) (b.length - i) i) o.length) (atD q (nx (isK p q) (b.length - i) i) t.length)) (b.length - nx (isK p q) (b.length - i) i) 0))

/-- One step: n the next line that both keep, m how many from there on. -/
structure Step (p q : List (Option Nat)) (b o t : List α) (i j k n j1 k1 m : Nat) : Prop where
  le : i ≤ n
  nb : n ≤ b.length
  no : ∀ x, i ≤ x → x < n → isK p q x = false
  yes : n < b.length → p[n]? = some (some j1) ∧ q[n]? = some (some k1)
  fin : n = b.length → j1 = o.length ∧ k1 = t.length ∧ m = 0
  pos : n < b.length → 0 < m
  run : ∀ x, x < m → p[n + x]? = some (some (j1 + x)) ∧ q[n + x]? = some (some (k1 + x))
  nm : n + m ≤ b.length

theorem nx_ge (k : Nat → Bool) : ∀ f i, i ≤ nx k f i ∧ nx k f i ≤ i + f ∧ (∀ x, i ≤ x → x < nx k f i → k x = false) ∧ (nx k f i < i + f → k (nx k f i) = true)
  | 0, i => ⟨Nat.le_refl _, Nat.le_refl _, fun x h1 h2 => by simp [nx] at h2; omega, fun h => by simp [nx] at h⟩
  | f + 1, i => by
    unfold nx
    cases hk : k i with
    | true => rw [if_pos rfl]; exact ⟨Nat.le_refl _, by omega, fun x h1 h2 => by omega, fun _ => hk⟩
    | false =>
      rw [if_neg (by simp)]
      obtain ⟨h1, h2, h3, h4⟩ := nx_ge k f (i + 1)
      refine ⟨by omega, by omega, fun x hx1 hx2 => ?_, fun h => h4 (by omega)⟩
      by_cases e : x = i
      · rw [e]; exact hk
      · exact h3 x (by omega) hx2

theorem rn_ge (k : Nat → Bool) : ∀ f n, n ≤ rn k f n ∧ rn k f n ≤ n + f ∧ (∀ x, n ≤ x → x < rn k f n → k x = true) ∧ (rn k f n < n + f → k (rn k f n) = false)
  | 0, n => ⟨Nat.le_refl _, Nat.le_refl _, fun x h1 h2 => by simp [rn] at h2; omega, fun h => by simp [rn] at h⟩
  | f + 1, n => by
    unfold rn
    cases hk : k n with
    | false => rw [if_neg (by simp)]; exact ⟨Nat.le_refl _, by omega, fun x h1 h2 => by omega, fun _ => hk⟩
    | true =>
      rw [if_pos rfl]
      obtain ⟨h1, h2, h3, h4⟩ := rn_ge k f (n + 1)
      refine ⟨by omega, by omega, fun x hx1 hx2 => ?_, fun h => h4 (by omega)⟩
      by_cases e : x = n
      · rw [e]; exact hk
      · exact h3 x (by omega) hx2

theorem isSome2_iff {x : Option (Option Nat)} : isSome2 x = true ↔ ∃ j, x = some (some j) := by
  match x with
  | none => simp [isSome2]
  | some none => simp [isSome2]
  | some (some j) => simp [isSome2]

/-- What the cut is, by its steps. -/
theorem chunks_step (p q : List (Option Nat)) (b o t : List α) (f i j k n j1 k1 m : Nat) (hn : n = nx (isK p q) (b.length - i) i) (hj : j1 = atD p n o.length) (hk : k1 = atD q n t.length) (hm : m = rn (isRun p q n j1 k1) (b.length - n) 0)
    (he : ¬(i = b.length ∧ j = o.length ∧ k = t.length)) : chunks p q b o t (f + 1) i j k = firstC b o t i j k n j1 k1 ++ (keptC b o t n j1 k1 m ++ chunks p q b o t f (n + m) (j1 + m) (k1 + m)) := by
  subst hn; subst hj; subst hk; subst hm
  rw [chunks, if_neg he]
theorem chunks_end (p q : List (Option Nat)) (b o t : List α) (f i j k : Nat) (he : i = b.length ∧ j = o.length ∧ k = t.length) : chunks p q b o t f i j k = [] := by
  cases f with
  | zero => rfl
  | succ f => rw [chunks, if_pos he]

omit [DecidableEq α] in
theorem step_any (p q : List (Option Nat)) (b o t : List α) (hp : p.length = b.length) (hq : q.length = b.length) (i j k : Nat) (hi : i ≤ b.length) :
    ∃ n j1 k1 m, Step p q b o t i j k n j1 k1 m ∧ n = nx (isK p q) (b.length - i) i ∧ j1 = atD p n o.length ∧ k1 = atD q n t.length ∧ m = rn (isRun p q n j1 k1) (b.length - n) 0 := by
  refine ⟨_, _, _, _, ?_, rfl, rfl, rfl, rfl⟩
  obtain ⟨h1, h2, h3, h4⟩ := nx_ge (isK p q) (b.length - i) i
  generalize nx (isK p q) (b.length - i) i = n at *
  have hyes : n < b.length → p[n]? = some (some (atD p n o.length)) ∧ q[n]? = some (some (atD q n t.length)) := fun h => by
    have hk := h4 (by omega)
    unfold isK at hk
    rw [Bool.and_eq_true, isSome2_iff, isSome2_iff] at hk
    obtain ⟨⟨x, hx⟩, y, hy⟩ := hk
    unfold atD
    rw [hx, hy]
    exact ⟨rfl, rfl⟩
  obtain ⟨r1, r2, r3, r4⟩ := rn_ge (isRun p q n (atD p n o.length) (atD q n t.length)) (b.length - n) 0
  have hrun : ∀ x, isRun p q n (atD p n o.length) (atD q n t.length) x = true ↔ (p[n + x]? = some (some (atD p n o.length + x)) ∧ q[n + x]? = some (some (atD q n t.length + x))) := fun x => by
    unfold isRun; rw [Bool.and_eq_true, decide_eq_true_iff, decide_eq_true_iff]
  refine ⟨h1, by omega, h3, hyes, fun e => ⟨?_, ?_, by omega⟩, fun h => ?_, fun x hx => (hrun x).1 (r3 x (by omega) hx), by omega⟩
  · unfold atD
    have : p[n]? = none := List.getElem?_eq_none (by omega)
    rw [this]
  · unfold atD
    have : q[n]? = none := List.getElem?_eq_none (by omega)
    rw [this]
  · by_cases e : rn (isRun p q n (atD p n o.length) (atD q n t.length)) (b.length - n) 0 = 0
    · have := r4 (by omega)
      rw [e] at this
      have h0 := (hrun 0).2 (by simpa using hyes h)
      rw [h0] at this
      cases this
    · omega

end Go.Proofs.YtdpoeagmeiedcaaDoor

namespace Go.Proofs.YtdpoeagmeiedcaaDoor
variable {α : Type} [DecidableEq α]

omit [DecidableEq α] in
theorem cutL2_self (l : List α) (i : Nat) : cutL2 l i i = [] := by simp [cutL2]
omit [DecidableEq α] in
theorem cutL2_drop (l : List α) {i n : Nat} (h : i ≤ n) : cutL2 l i n ++ l.drop n = l.drop i := by
  have : l.drop n = (l.drop i).drop (n - i) := by rw [List.drop_drop]; congr 1; omega
  rw [this]
  exact List.take_append_drop _ _
omit [DecidableEq α] in
theorem cutL2_at (l : List α) (i n x : Nat) (h : x < n - i) : (cutL2 l i n)[x]? = l[i + x]? := by
  unfold cutL2
  rw [List.getElem?_take_of_lt h, List.getElem?_drop]
omit [DecidableEq α] in
theorem cutL2_len (l : List α) {i n : Nat} (h : n ≤ l.length) : (cutL2 l i n).length = n - i := by
  unfold cutL2
  rw [List.length_take, List.length_drop]
  omega

theorem decideC_base (x y z : List α) : (decideC x y z).base = x := by unfold decideC; split; rfl; split <;> rfl
theorem decideC_ours (x y z : List α) : (decideC x y z).ours = y := by unfold decideC; split; rfl; split <;> rfl
theorem decideC_theirs (x y z : List α) : (decideC x y z).theirs = z := by unfold decideC; split; rfl; split <;> rfl

/-- A place behind what has been cut. -/
structure Beh (p : List (Option Nat)) (o : List α) (i j : Nat) : Prop where
  le : j ≤ o.length
  ge : ∀ i' j' : Nat, i ≤ i' → p[i']? = some (some j') → j ≤ j'

omit [DecidableEq α] in
theorem Beh.zero (p : List (Option Nat)) (o : List α) : Beh p o 0 0 := ⟨Nat.zero_le _, fun _ _ _ _ => Nat.zero_le _⟩

omit [DecidableEq α] in
/-- A step in one of the two other texts. -/
theorem Beh.step {p q : List (Option Nat)} {b o t : List α} {i j k n j1 k1 m : Nat} (h : Beh p o i j) (hp : Places p b o) (s : Step p q b o t i j k n j1 k1 m) : j ≤ j1 ∧ j1 + m ≤ o.length ∧ Beh p o (n + m) (j1 + m) := by
  by_cases hn : n < b.length
  · have hy := (s.yes hn).1
    have hm := s.pos hn
    have hlast := (s.run (m - 1) (by omega)).1
    have hlt := (hp.lt hlast).2
    have hle := h.ge n j1 s.le hy
    refine ⟨hle, by omega, ⟨by omega, fun i' j' hi' hj' => ?_⟩⟩
    have := hp.mono (n + (m - 1)) (j1 + (m - 1)) i' j' hlast hj' (by omega)
    omega
  · have he : n = b.length := by have := s.nb; omega
    obtain ⟨h1, h2, h3⟩ := s.fin he
    have := h.le
    refine ⟨by omega, by omega, ⟨by omega, fun i' j' hi' hj' => ?_⟩⟩
    have := (hp.lt hj').1
    omega

omit [DecidableEq α] in
theorem Step.turn {p q : List (Option Nat)} {b o t : List α} {i j k n j1 k1 m : Nat} (s : Step p q b o t i j k n j1 k1 m) : Step q p b t o i k j n k1 j1 m :=
  ⟨s.le, s.nb, fun x h1 h2 => by have := s.no x h1 h2; unfold isK at *; rw [Bool.and_comm]; exact this, fun h => (s.yes h).symm, fun h => ⟨(s.fin h).2.1, (s.fin h).1, (s.fin h).2.2⟩, s.pos, fun x h => (s.run x h).symm, s.nm⟩

omit [DecidableEq α] in
/-- What is kept is the same in both. -/
theorem run_eq {p q : List (Option Nat)} {b o t : List α} {i j k n j1 k1 m : Nat} (hp : Places p b o) (s : Step p q b o t i j k n j1 k1 m) (ho : j1 + m ≤ o.length) : cutL2 b n (n + m) = cutL2 o j1 (j1 + m) := by
  apply List.ext_getElem?
  intro x
  by_cases hx : x < m
  · rw [cutL2_at _ _ _ _ (by omega), cutL2_at _ _ _ _ (by omega)]
    obtain ⟨y, h1, h2⟩ := hp.eq _ _ (s.run x hx).1
    rw [h1, h2]
  · rw [List.getElem?_eq_none (by rw [cutL2_len _ s.nm]; omega), List.getElem?_eq_none (by rw [cutL2_len _ ho]; omega)]

/-- Where something holds of each step's pieces, it holds of all: by induction over the steps. -/
theorem chunks_ind {p q : List (Option Nat)} {b o t : List α} (hp : Places p b o) (hq : Places q b t) (P : Nat → Nat → Nat → List (Ck α) → Prop)
    (fin : P b.length o.length t.length [])
    (step : ∀ i j k n j1 k1 m L, i ≤ b.length → Beh p o i j → Beh q t i k → Step p q b o t i j k n j1 k1 m → ¬(i = b.length ∧ j = o.length ∧ k = t.length) → P (n + m) (j1 + m) (k1 + m) L → P i j k (firstC b o t i j k n j1 k1 ++ (keptC b o t n j1 k1 m ++ L))) :
    ∀ f i j k, b.length < f + i ∨ (i = b.length ∧ j = o.length ∧ k = t.length) → i ≤ b.length → Beh p o i j → Beh q t i k → P i j k (chunks p q b o t f i j k) := by
  intro f
  induction f with
  | zero =>
    intro i j k hf hi _ _
    rcases hf with hf | ⟨rfl, rfl, rfl⟩
    · omega
    · exact fin
  | succ f ih =>
    intro i j k hf hi ha hb
    by_cases he : i = b.length ∧ j = o.length ∧ k = t.length
    · rw [chunks_end _ _ _ _ _ _ _ _ _ he]
      obtain ⟨rfl, rfl, rfl⟩ := he
      exact fin
    · obtain ⟨n, j1, k1, m, s, h1, h2, h3, h4⟩ := step_any p q b o t hp.len hq.len i j k hi
      rw [chunks_step p q b o t f i j k n j1 k1 m h1 h2 h3 h4 he]
      refine step i j k n j1 k1 m _ hi ha hb s he (ih _ _ _ ?_ s.nm (ha.step hp s).2.2 (hb.step hq s.turn).2.2)
      by_cases hn : n < b.length
      · have := s.pos hn
        have := s.le
        left
        rcases hf with hf | hf
        · omega
        · exact absurd hf he
      · have hne : n = b.length := by have := s.nb; omega
        obtain ⟨g1, g2, g3⟩ := s.fin hne
        right
        omega

/-- The pieces put together are the three texts. -/
theorem chunks_parts {p q : List (Option Nat)} {b o t : List α} (hp : Places p b o) (hq : Places q b t) (f i j k : Nat) (hf : b.length < f + i ∨ (i = b.length ∧ j = o.length ∧ k = t.length)) (hi : i ≤ b.length) (ha : Beh p o i j) (hb : Beh q t i k) :
    (chunks p q b o t f i j k).flatMap (·.base) = b.drop i ∧ (chunks p q b o t f i j k).flatMap (·.ours) = o.drop j ∧ (chunks p q b o t f i j k).flatMap (·.theirs) = t.drop k := by
  refine chunks_ind hp hq (fun i j k L => L.flatMap (·.base) = b.drop i ∧ L.flatMap (·.ours) = o.drop j ∧ L.flatMap (·.theirs) = t.drop k) ⟨by simp, by simp, by simp⟩ ?_ f i j k hf hi ha hb
  intro i j k n j1 k1 m L hi ha hb s he ⟨h1, h2, h3⟩
  have hj := (ha.step hp s).1
  have hk := (hb.step hq s.turn).1
  have hn := s.le
  simp only [List.flatMap_append, h1, h2, h3]
  have f1 : (firstC b o t i j k n j1 k1).flatMap (·.base) = cutL2 b i n ∧ (firstC b o t i j k n j1 k1).flatMap (·.ours) = cutL2 o j j1 ∧ (firstC b o t i j k n j1 k1).flatMap (·.theirs) = cutL2 t k k1 := by
    unfold firstC
    split
    · simp [decideC_base, decideC_ours, decideC_theirs]
    · have a1 : i = n := by omega
      have a2 : j = j1 := by omega
      have a3 : k = k1 := by omega
      subst a1; subst a2; subst a3
      simp [cutL2_self]
  have f2 : (keptC b o t n j1 k1 m).flatMap (·.base) = cutL2 b n (n + m) ∧ (keptC b o t n j1 k1 m).flatMap (·.ours) = cutL2 o j1 (j1 + m) ∧ (keptC b o t n j1 k1 m).flatMap (·.theirs) = cutL2 t k1 (k1 + m) := by
    unfold keptC
    split
    · simp
    · have a1 : m = 0 := by omega
      subst a1
      simp [cutL2_self]
  rw [f1.1, f1.2.1, f1.2.2, f2.1, f2.2.1, f2.2.2, cutL2_drop b (by omega), cutL2_drop o (by omega), cutL2_drop t (by omega), cutL2_drop b hn, cutL2_drop o hj, cutL2_drop t hk]
  exact ⟨rfl, rfl, rfl⟩

/-- What each piece is. -/
theorem chunks_all {p q : List (Option Nat)} {b o t : List α} (hp : Places p b o) (hq : Places q b t) (G : Ck α → Prop)
    (first : ∀ i j k n j1 k1 m, Beh p o i j → Beh q t i k → Step p q b o t i j k n j1 k1 m → j ≤ j1 → k ≤ k1 → G (decideC (cutL2 b i n) (cutL2 o j j1) (cutL2 t k k1)))
    (kept : ∀ x : List α, x ≠ [] → G ⟨x, x, x, false, x⟩) : ∀ c ∈ chunks p q b o t (b.length + 1) 0 0 0, G c := by
  have := chunks_ind hp hq (fun i j k L => ∀ c ∈ L, G c) (by simp) ?_ (b.length + 1) 0 0 0 (.inl (by omega)) (Nat.zero_le _) (Beh.zero _ _) (Beh.zero _ _)
  · exact this
  · intro i j k n j1 k1 m L hi ha hb s he hL c hc
    obtain ⟨a1, a2, _⟩ := ha.step hp s
    obtain ⟨b1, b2, _⟩ := hb.step hq s.turn
    rw [List.mem_append, List.mem_append] at hc
    rcases hc with hc | hc | hc
    · unfold firstC at hc
      split at hc
      · rw [List.mem_singleton] at hc
        rw [hc]
        exact first i j k n j1 k1 m ha hb s a1 b1
      · cases hc
    · unfold keptC at hc
      split at hc
      · rw [List.mem_singleton] at hc
        rw [hc, ← run_eq hp s a2, ← run_eq hq s.turn b2]
        refine kept _ fun e => ?_
        have := congrArg List.length e
        rw [cutL2_len _ s.nm] at this
        simp at this
        omega
      · cases hc
    · exact hL c hc

/-- Whether a piece clashes is told by what it is. -/
theorem chunks_clash {p q : List (Option Nat)} {b o t : List α} (hp : Places p b o) (hq : Places q b t) : ∀ c ∈ chunks p q b o t (b.length + 1) 0 0 0, c.clash = true ↔ (c.out = [] ∧ c.ours ≠ c.base ∧ c.theirs ≠ c.base ∧ c.ours ≠ c.theirs) := by
  refine chunks_all hp hq _ ?_ ?_
  · intro i j k n j1 k1 m _ _ _ _ _
    unfold decideC
    split
    · rename_i h; simp [h]
    · rename_i h
      split
      · rename_i h2
        simp
        intro _ _ h3
        rcases h2 with h2 | h2
        · exact absurd h2 h3
        · exact h2
      · rename_i h2
        rw [not_or] at h2
        simp [h, h2]
  · intro x hx
    simp

end Go.Proofs.YtdpoeagmeiedcaaDoor

namespace Go.Proofs.YtdpoeagmeiedcaaDoor
variable {α : Type} [DecidableEq α]

theorem ed_self (b : List α) : ed b b = b.map fun x => (1, x) := by
  induction b with
  | nil => rfl
  | cons x b ih => rw [ed_cons, if_pos rfl, ih]; rfl

/-- Pieces where the third text lies as the first one does. -/
theorem sides_theirs {p q : List (Option Nat)} {b o : List α} (hp : Places p b o) (hq : Places q b b) (hid : ∀ i j : Nat, q[i]? = some (some j) → j = i) : ∀ c ∈ chunks p q b o b (b.length + 1) 0 0 0, c.clash = false ∧ c.out = c.ours := by
  refine chunks_ind hp hq (fun i _ k L => k = i → ∀ c ∈ L, c.clash = false ∧ c.out = c.ours) (by simp) ?_ (b.length + 1) 0 0 0 (.inl (by omega)) (Nat.zero_le _) (Beh.zero _ _) (Beh.zero _ _) rfl
  intro i j k n j1 k1 m L hi ha hb s he hL hk c hc
  subst hk
  have hk1 : k1 = n := by
    by_cases hn : n < b.length
    · exact hid _ _ (s.yes hn).2
    · have := s.nb; have := (s.fin (by omega)).2.1; omega
  subst hk1
  obtain ⟨_, a2, _⟩ := ha.step hp s
  rw [List.mem_append, List.mem_append] at hc
  rcases hc with hc | hc | hc
  · unfold firstC at hc
    split at hc
    · rw [List.mem_singleton] at hc
      rw [hc]
      unfold decideC
      split
      · rename_i h; exact ⟨rfl, h.symm⟩
      · rw [if_pos (.inl rfl)]; exact ⟨rfl, rfl⟩
    · cases hc
  · unfold keptC at hc
    split at hc
    · rw [List.mem_singleton] at hc
      rw [hc]
      exact ⟨rfl, run_eq hp s a2⟩
    · cases hc
  · exact hL rfl c hc

theorem sides_ours {p q : List (Option Nat)} {b t : List α} (hp : Places p b b) (hq : Places q b t) (hid : ∀ i j : Nat, p[i]? = some (some j) → j = i) : ∀ c ∈ chunks p q b b t (b.length + 1) 0 0 0, c.clash = false ∧ c.out = c.theirs := by
  refine chunks_ind hp hq (fun i j _ L => j = i → ∀ c ∈ L, c.clash = false ∧ c.out = c.theirs) (by simp) ?_ (b.length + 1) 0 0 0 (.inl (by omega)) (Nat.zero_le _) (Beh.zero _ _) (Beh.zero _ _) rfl
  intro i j k n j1 k1 m L hi ha hb s he hL hk c hc
  subst hk
  have hk1 : j1 = n := by
    by_cases hn : n < b.length
    · exact hid _ _ (s.yes hn).1
    · have := s.nb; have := (s.fin (by omega)).1; omega
  subst hk1
  obtain ⟨_, b2, _⟩ := hb.step hq s.turn
  rw [List.mem_append, List.mem_append] at hc
  rcases hc with hc | hc | hc
  · unfold firstC at hc
    split at hc
    · rw [List.mem_singleton] at hc
      rw [hc]
      unfold decideC
      rw [if_pos rfl]
      exact ⟨rfl, rfl⟩
    · cases hc
  · unfold keptC at hc
    split at hc
    · rw [List.mem_singleton] at hc
      rw [hc]
      exact ⟨rfl, run_eq hq s.turn b2⟩
    · cases hc
  · exact hL rfl c hc

theorem sides_both {p : List (Option Nat)} {b o : List α} (hp : Places p b o) : ∀ c ∈ chunks p p b o o (b.length + 1) 0 0 0, c.clash = false ∧ c.out = c.ours := by
  refine chunks_ind hp hp (fun _ j k L => k = j → ∀ c ∈ L, c.clash = false ∧ c.out = c.ours) (by simp) ?_ (b.length + 1) 0 0 0 (.inl (by omega)) (Nat.zero_le _) (Beh.zero _ _) (Beh.zero _ _) rfl
  intro i j k n j1 k1 m L hi ha hb s he hL hk c hc
  subst hk
  have hk1 : k1 = j1 := by
    by_cases hn : n < b.length
    · have h1 := (s.yes hn).1
      have h2 := (s.yes hn).2
      rw [h1] at h2
      injection h2 with h2
      injection h2 with h2
      exact h2.symm
    · have := s.nb; have := s.fin (by omega); omega
  subst hk1
  obtain ⟨_, a2, _⟩ := ha.step hp s
  rw [List.mem_append, List.mem_append] at hc
  rcases hc with hc | hc | hc
  · unfold firstC at hc
    split at hc
    · rw [List.mem_singleton] at hc
      rw [hc]
      unfold decideC
      split
      · exact ⟨rfl, rfl⟩
      · rw [if_pos (.inr rfl)]; exact ⟨rfl, rfl⟩
    · cases hc
  · unfold keptC at hc
    split at hc
    · rw [List.mem_singleton] at hc
      rw [hc]
      exact ⟨rfl, run_eq hp s a2⟩
    · cases hc
  · exact hL rfl c hc

/-- A piece with its sides turned. -/
def turnC (c : Ck α) : Ck α := ⟨c.base, c.theirs, c.ours, c.clash, c.out⟩

theorem decideC_turn (x y z : List α) : decideC x z y = turnC (decideC x y z) := by
  unfold decideC turnC
  by_cases h1 : y = x
  · by_cases h2 : z = x
    · simp [h1, h2]
    · simp [h1, h2]
  · by_cases h2 : z = x
    · simp [h1, h2]
    · by_cases h3 : y = z
      · simp [h3, h2]
      · simp [h1, h2, h3]
        exact fun e => h3 e.symm

theorem chunks_turn (p q : List (Option Nat)) (b o t : List α) : ∀ f i j k, chunks q p b t o f i k j = (chunks p q b o t f i j k).map turnC := by
  have hK : isK q p = isK p q := by funext x; unfold isK; rw [Bool.and_comm]
  have hR : ∀ n j k, isRun q p n k j = isRun p q n j k := by intro n j k; funext x; unfold isRun; rw [Bool.and_comm]
  intro f
  induction f with
  | zero => intro i j k; rfl
  | succ f ih =>
    intro i j k
    by_cases he : i = b.length ∧ j = o.length ∧ k = t.length
    · rw [chunks_end _ _ _ _ _ _ _ _ _ he, chunks_end _ _ _ _ _ _ _ _ _ ⟨he.1, he.2.2, he.2.1⟩]
      rfl
    · rw [chunks_step p q b o t f i j k _ _ _ _ rfl rfl rfl rfl he, chunks_step q p b t o f i k j _ _ _ _ rfl rfl rfl rfl (fun h => he ⟨h.1, h.2.2, h.2.1⟩), hK, hR]
      rw [List.map_append, List.map_append, ih]
      congr 1
      · unfold firstC
        by_cases h : i < nx (isK p q) (b.length - i) i ∨ j < atD p (nx (isK p q) (b.length - i) i) o.length ∨ k < atD q (nx (isK p q) (b.length - i) i) t.length
        · rw [if_pos h, if_pos (by rcases h with h | h | h <;> simp [h]), decideC_turn]
          rfl
        · rw [if_neg h, if_neg (by intro h'; rcases h' with h' | h' | h' <;> simp [h'] at h)]
          rfl
      · congr 1
        unfold keptC
        split <;> rfl

/-! ### Two changes far from each other -/

theorem lc_self (b : List α) : lc b b = b.length := Nat.le_antisymm (lc_le_left b b) (lc_ge b b b (List.Sublist.refl _) (List.Sublist.refl _))

theorem ed_ahead {x a : α} {R : List α} (hx : x ≠ a) (hR : a ∉ R) : ed (x :: R) (a :: R) = (2, x) :: (3, a) :: R.map fun y => (1, y) := by
  rw [ed_cons, if_neg hx]
  have h1 := lc_le_right (x :: R) R
  have h2 := lc_ge R R (a :: R) (List.Sublist.refl _) (List.sublist_cons_self _ _)
  rw [if_pos (by omega)]
  congr 1
  cases R with
  | nil => rfl
  | cons r R =>
    have hr : r ≠ a := fun e => hR (by simp [e])
    have h3 := lc_self (r :: R)
    have h4 := lc_le_left R (a :: r :: R)
    simp only [List.length_cons] at h3
    rw [ed_cons, if_neg hr, if_neg (by omega), ed_self]

theorem ed_behind {y c : α} (hy : y ≠ c) (L : List α) : ed (L ++ [y]) (L ++ [c]) = (L.map fun x => (1, x)) ++ [(2, y), (3, c)] := by
  induction L with
  | nil =>
    simp only [List.nil_append, List.map_nil]
    rw [ed_cons, if_neg hy, lc_nil_right, if_pos (Nat.zero_le _)]
    rfl
  | cons x L ih =>
    simp only [List.cons_append, List.map_cons]
    rw [ed_cons, if_pos rfl, ih]

omit [DecidableEq α] in
theorem pls_keep (L : List α) (l : List (Nat × α)) : ∀ a i, (pls ((L.map fun x => (1, x)) ++ l) a)[i]? = if i < L.length then some (some (a + i)) else (pls l (a + L.length))[i - L.length]? := by
  induction L with
  | nil => intro a i; simp
  | cons x L ih =>
    intro a i
    simp only [List.map_cons, List.cons_append, pls, if_true]
    cases i with
    | zero => simp
    | succ i =>
      rw [List.getElem?_cons_succ, ih]
      simp only [List.length_cons]
      by_cases h : i < L.length
      · rw [if_pos h, if_pos (by omega)]; congr 2; omega
      · rw [if_neg h, if_neg (by omega), show a + 1 + L.length = a + (L.length + 1) by omega, show i + 1 - (L.length + 1) = i - L.length by omega]

/-- What comes of two changes, one ahead of the lines between and one behind them. -/
theorem far_out {x a y c : α} {mid : List α} (hm : mid ≠ []) {p q : List (Option Nat)} (hp : Places p (x :: (mid ++ [y])) (a :: (mid ++ [y]))) (hq : Places q (x :: (mid ++ [y])) (x :: (mid ++ [c])))
    (p1 : ∀ i, 1 ≤ i → i ≤ mid.length + 1 → p[i]? = some (some i)) (p0 : ∀ j : Nat, p[0]? ≠ some (some j))
    (q1 : ∀ i, i ≤ mid.length → q[i]? = some (some i)) (q0 : ∀ j : Nat, q[mid.length + 1]? ≠ some (some j)) :
    (∀ d ∈ chunks p q (x :: (mid ++ [y])) (a :: (mid ++ [y])) (x :: (mid ++ [c])) (mid.length + 3) 0 0 0, d.clash = false) ∧
    (chunks p q (x :: (mid ++ [y])) (a :: (mid ++ [y])) (x :: (mid ++ [c])) (mid.length + 3) 0 0 0).flatMap (·.out) = a :: (mid ++ [c]) := by
  have hlen : (x :: (mid ++ [y])).length = mid.length + 2 := by simp
  have hlo : (a :: (mid ++ [y])).length = mid.length + 2 := by simp
  have hlt : (x :: (mid ++ [c])).length = mid.length + 2 := by simp
  have hml : 0 < mid.length := List.length_pos_iff.2 hm
  have T1 : ∀ i, 1 ≤ i → (a :: (mid ++ [c]))[i]? = (x :: (mid ++ [c]))[i]? := by intro i hi; obtain ⟨i, rfl⟩ : ∃ z, i = z + 1 := ⟨i - 1, by omega⟩; rfl
  have O1 : ∀ i, 1 ≤ i → (a :: (mid ++ [y]))[i]? = (x :: (mid ++ [y]))[i]? := by intro i hi; obtain ⟨i, rfl⟩ : ∃ z, i = z + 1 := ⟨i - 1, by omega⟩; rfl
  have B1 : ∀ i, i ≤ mid.length → (x :: (mid ++ [c]))[i]? = (x :: (mid ++ [y]))[i]? := by
    intro i hi
    cases i with
    | zero => rfl
    | succ i => simp only [List.getElem?_cons_succ]; rw [List.getElem?_append_left (by omega), List.getElem?_append_left (by omega)]
  have main := chunks_ind hp hq (fun i j k L => j = i → k = i → (∀ d ∈ L, d.clash = false) ∧ L.flatMap (·.out) = (a :: (mid ++ [c])).drop i) (fun _ _ => ⟨by simp, by rw [hlen]; simp⟩) ?_ (mid.length + 3) 0 0 0 (.inl (by rw [hlen]; omega)) (Nat.zero_le _) (Beh.zero _ _) (Beh.zero _ _) rfl rfl
  · exact main
  · intro i j k n j1 k1 m L hi ha hb s he hL hj hk
    subst hj
    subst hk
    have hnb := s.nb
    rw [hlen] at hnb
    have hj1 : j1 = n := by
      by_cases hn : n < mid.length + 2
      · have h1 := (s.yes (by rw [hlen]; exact hn)).1
        by_cases h0 : n = 0
        · subst h0; exact absurd h1 (p0 _)
        · rw [p1 n (by omega) (by omega)] at h1
          injection h1 with h1
          injection h1 with h1
          exact h1.symm
      · have := (s.fin (by rw [hlen]; omega)).1; rw [hlo] at this; omega
    have hk1 : k1 = n := by
      by_cases hn : n < mid.length + 2
      · have h1 := (s.yes (by rw [hlen]; exact hn)).2
        by_cases h0 : n = mid.length + 1
        · subst h0; exact absurd h1 (q0 _)
        · rw [q1 n (by omega)] at h1
          injection h1 with h1
          injection h1 with h1
          exact h1.symm
      · have := (s.fin (by rw [hlen]; omega)).2.1; rw [hlt] at this; omega
    subst hj1
    subst hk1
    obtain ⟨l1, l2⟩ := hL rfl rfl
    have hin := s.le
    have hnm := s.nm
    rw [hlen] at hnm
    have hkept : ∀ z, 1 ≤ z → z ≤ mid.length → isK p q z = true := by
      intro z h1 h2
      unfold isK
      rw [p1 z h1 (by omega), q1 z h2]
      rfl
    -- the piece that is not kept
    have hfirst : (∀ d ∈ firstC (x :: (mid ++ [y])) (a :: (mid ++ [y])) (x :: (mid ++ [c])) k k k k1 k1 k1, d.clash = false) ∧ (firstC (x :: (mid ++ [y])) (a :: (mid ++ [y])) (x :: (mid ++ [c])) k k k k1 k1 k1).flatMap (·.out) = cutL2 (a :: (mid ++ [c])) k k1 := by
      by_cases hlt' : k < k1
      · have hno := s.no k (Nat.le_refl _) hlt'
        have hcase : k = 0 ∨ k = mid.length + 1 := by
          by_cases h0 : k = 0
          · exact .inl h0
          · by_cases h1 : k ≤ mid.length
            · have := hkept k (by omega) h1; rw [this] at hno; cases hno
            · right; omega
        unfold firstC
        rw [if_pos (.inl hlt')]
        rcases hcase with rfl | rfl
        · have hk1' : k1 = 1 := by
            by_cases h1 : k1 = 1
            · exact h1
            · have := s.no 1 (by omega) (by omega)
              rw [hkept 1 (by omega) (by omega)] at this
              cases this
          subst hk1'
          simp only [cutL2, decideC, List.drop_zero, Nat.sub_zero, List.take_succ_cons, List.take_zero]
          by_cases hax : a = x
          · simp [hax]
          · simp [hax]
        · have hk1' : k1 = mid.length + 2 := by omega
          subst hk1'
          have e1 : cutL2 (a :: (mid ++ [y])) (mid.length + 1) (mid.length + 2) = [y] := by simp [cutL2]
          have e2 : cutL2 (x :: (mid ++ [y])) (mid.length + 1) (mid.length + 2) = [y] := by simp [cutL2]
          have e3 : cutL2 (x :: (mid ++ [c])) (mid.length + 1) (mid.length + 2) = [c] := by simp [cutL2]
          have e4 : cutL2 (a :: (mid ++ [c])) (mid.length + 1) (mid.length + 2) = [c] := by simp [cutL2]
          rw [e1, e2, e3, e4]
          simp [decideC]
      · have : k = k1 := by omega
        subst this
        simp [firstC, cutL2_self]
    have hsecond : (∀ d ∈ keptC (x :: (mid ++ [y])) (a :: (mid ++ [y])) (x :: (mid ++ [c])) k1 k1 k1 m, d.clash = false) ∧ (keptC (x :: (mid ++ [y])) (a :: (mid ++ [y])) (x :: (mid ++ [c])) k1 k1 k1 m).flatMap (·.out) = cutL2 (a :: (mid ++ [c])) k1 (k1 + m) := by
      by_cases hm0 : 0 < m
      · unfold keptC
        rw [if_pos hm0]
        refine ⟨by simp, ?_⟩
        simp only [List.flatMap_cons, List.flatMap_nil, List.append_nil]
        apply List.ext_getElem?
        intro z
        by_cases hz : z < m
        · rw [cutL2_at _ _ _ _ (by omega), cutL2_at _ _ _ _ (by omega)]
          have hr := s.run z hz
          have hne0 : k1 + z ≠ 0 := fun e => by rw [e] at hr; exact p0 _ hr.1
          have hne1 : k1 + z ≠ mid.length + 1 := fun e => by rw [e] at hr; exact q0 _ hr.2
          rw [T1 _ (by omega), B1 _ (by omega)]
        · rw [List.getElem?_eq_none (by rw [cutL2_len _ s.nm]; omega), List.getElem?_eq_none (by rw [cutL2_len _ (by simp; omega)]; omega)]
      · have : m = 0 := by omega
        subst this
        simp [keptC, cutL2_self]
    refine ⟨fun d hd => ?_, ?_⟩
    · rw [List.mem_append, List.mem_append] at hd
      rcases hd with hd | hd | hd
      · exact hfirst.1 d hd
      · exact hsecond.1 d hd
      · exact l1 d hd
    · rw [List.flatMap_append, List.flatMap_append, hfirst.2, hsecond.2, l2, cutL2_drop _ (by omega), cutL2_drop _ hin]

end Go.Proofs.YtdpoeagmeiedcaaDoor

namespace Go.Proofs.YtdpoeagmeiedcaaDoor
open Go Go.RowKit

theorem edA_append (l m : List (Nat × ByteArray)) : edA (l ++ m) = edA l ++ edA m := by simp [edA]
theorem edB_append (l m : List (Nat × ByteArray)) : edB (l ++ m) = edB l ++ edB m := by simp [edB]
theorem edA_1 (s : ByteArray) : edA [((1 : Nat), s)] = [s] := by rw [edA_cons]; simp [edA]
theorem edB_1 (s : ByteArray) : edB [((1 : Nat), s)] = [s] := by rw [edB_cons]; simp [edB]
theorem edA_2 (s : ByteArray) : edA [((2 : Nat), s)] = [s] := by rw [edA_cons]; simp [edA]
theorem edB_2 (s : ByteArray) : edB [((2 : Nat), s)] = [] := by rw [edB_cons]; simp [edB]
theorem edA_3 (s : ByteArray) : edA [((3 : Nat), s)] = [] := by rw [edA_cons]; simp [edA]
theorem edB_3 (s : ByteArray) : edB [((3 : Nat), s)] = [s] := by rw [edB_cons]; simp [edB]
theorem pls_append (m : List (Nat × ByteArray)) : ∀ (l : List (Nat × ByteArray)) (_ : ∀ e ∈ l, e.1 = 1 ∨ e.1 = 2 ∨ e.1 = 3) (a : Nat), pls (l ++ m) a = pls l a ++ pls m (a + (edB l).length)
  | [], _, a => by simp [pls, edB]
  | (k, x) :: l, h, a => by
    have ih := pls_append m l (fun e he => h e (List.mem_cons_of_mem _ he))
    have hk := h (k, x) (List.mem_cons_self ..)
    simp only at hk
    rw [List.cons_append, edB_cons]
    simp only [pls]
    rcases hk with rfl | rfl | rfl
    · simp only [if_true]
      rw [ih, if_neg (by omega), List.cons_append, List.length_cons, show a + 1 + (edB l).length = a + ((edB l).length + 1) by omega]
    · simp only [if_true]
      rw [if_neg (by omega), if_neg (by omega), ih, List.cons_append]
    · rw [if_neg (by omega), if_neg (by omega), if_neg (by omega), if_neg (by omega), if_neg (by omega), ih, List.length_cons, show a + 1 + (edB l).length = a + ((edB l).length + 1) by omega]
/-- As the program writes a place. -/
def pzV : Option (Option Nat) → Value
  | some (some j) => .int .i64 (j : Int)
  | some none => .int .i64 (-1)
  | none => .int .i64 0
/-- How far the edits before the k-th have come. -/
structure KeptAt (l : List (Nat × ByteArray)) (k i j : Nat) : Prop where
  i : i = (edA (l.take k)).length
  j : j = (edB (l.take k)).length
theorem KeptAt.zero (l : List (Nat × ByteArray)) : KeptAt l 0 0 0 := ⟨by simp [edA], by simp [edB]⟩
theorem take_snocK {l : List (Nat × ByteArray)} {k : Nat} {e : Nat × ByteArray} (h : l[k]? = some e) : l.take (k + 1) = l.take k ++ [e] := by rw [List.take_add_one, h]; rfl
theorem KeptAt.split {l : List (Nat × ByteArray)} {k : Nat} {e : Nat × ByteArray} (h : l[k]? = some e) : l = l.take k ++ e :: l.drop (k + 1) := by
  obtain ⟨hk, rfl⟩ := List.getElem?_eq_some_iff.1 h
  rw [← List.drop_eq_getElem_cons hk, List.take_append_drop]
theorem KeptAt.one {l : List (Nat × ByteArray)} {k i j : Nat} {s : ByteArray} (hops : ∀ e ∈ l, e.1 = 1 ∨ e.1 = 2 ∨ e.1 = 3) (h : KeptAt l k i j) (hs : l[k]? = some (1, s)) : KeptAt l (k + 1) (i + 1) (j + 1) ∧ i < (edA l).length ∧ (pls l 0)[i]? = some (some j) := by
  have hspl := KeptAt.split hs
  have ht := fun e (he : e ∈ l.take k) => hops e (List.mem_of_mem_take he)
  refine ⟨⟨?_, ?_⟩, ?_, ?_⟩
  · rw [take_snocK hs, edA_append, h.i, edA_1]; simp
  · rw [take_snocK hs, edB_append, h.j, edB_1]; simp
  · rw [hspl, edA_append, edA_cons, h.i]; simp
  · rw [hspl, pls_append _ _ ht, h.i, ← (show (pls (l.take k) 0).length = (edA (l.take k)).length from pls_len _ ht 0), List.getElem?_append_right (Nat.le_refl _), Nat.sub_self, h.j]
    simp [pls]
theorem KeptAt.two {l : List (Nat × ByteArray)} {k i j : Nat} {s : ByteArray} (hops : ∀ e ∈ l, e.1 = 1 ∨ e.1 = 2 ∨ e.1 = 3) (h : KeptAt l k i j) (hs : l[k]? = some (2, s)) : KeptAt l (k + 1) (i + 1) j ∧ i < (edA l).length ∧ (pls l 0)[i]? = some none := by
  have hspl := KeptAt.split hs
  have ht := fun e (he : e ∈ l.take k) => hops e (List.mem_of_mem_take he)
  refine ⟨⟨?_, ?_⟩, ?_, ?_⟩
  · rw [take_snocK hs, edA_append, h.i, edA_2]; simp
  · rw [take_snocK hs, edB_append, h.j, edB_2]; simp
  · rw [hspl, edA_append, edA_cons, h.i]; simp
  · rw [hspl, pls_append _ _ ht, h.i, ← (show (pls (l.take k) 0).length = (edA (l.take k)).length from pls_len _ ht 0), List.getElem?_append_right (Nat.le_refl _), Nat.sub_self]
    simp [pls]
theorem KeptAt.three {l : List (Nat × ByteArray)} {k i j : Nat} {s : ByteArray} (h : KeptAt l k i j) (hs : l[k]? = some (3, s)) : KeptAt l (k + 1) i (j + 1) :=
  ⟨by rw [take_snocK hs, edA_append, h.i, edA_3]; simp, by rw [take_snocK hs, edB_append, h.j, edB_3]; simp⟩

/-- The places, in a row of the call's own. -/
def KeptTo (w : World) (p : List (Option Nat)) (n : Nat) (e : Ending) (w' : World) : Prop :=
  ∃ G, e = .returned (.slice (some ⟨G, 0, none⟩) n n) ∧ w.heap.size ≤ G ∧ w'.rowIs G 3 n (fun t => pzV p[t]?) ∧ Below w.heap.size w w'
/-- Filled up to i. -/
def keptV (p : List (Option Nat)) (i : Nat) : Nat → Value := fun t => if t < i then pzV p[t]? else .int .i64 0

set_option maxRecDepth 100000 in
set_option maxHeartbeats 2000000 in
theorem refKept_any (w : World) (base : Nat) (v : Value) (l : List (Nat × ByteArray)) (n : Nat) (h : w.ownsRow base 91 2 v l.length (edCells l)) (hops0 : ∀ x ∈ l, x.1 = 1 ∨ x.1 = 2 ∨ x.1 = 3) (hel : l.length ≤ 1000) (hn : n = (edA l).length) (hn1 : n ≤ 1000) :
    Calls Tryd.prog 69 #[v, .int .i64 (n : Int)] w (KeptTo w (pls l 0) n) := by
  have hops := Lib.hid hops0
  have HO := Lib.hid h
  have HN := Lib.hid hn
  obtain ⟨A, m, c, rfl⟩ : ∃ A m c, v = .slice A m c := by
    rcases h.2 with ⟨rfl, _⟩ | ⟨g, cap, cur, rfl, _⟩
    · exact ⟨_, _, _, rfl⟩
    · exact ⟨_, _, _, rfl⟩
  obtain rfl : m = l.length := by
    rcases h.2 with ⟨e, e2⟩ | ⟨g, cap, cur, e, _⟩
    · cases e; exact e2.symm
    · cases e; rfl
  have mk1 := fun W => run_make_row' (P := Tryd.prog) 82 3 (.int .i64 0) 8 Tryd.underlying82 intInfoC rfl .i64 .i64 n (by omega) (by omega) W
  have R0 := Lib.hid ((World.rowIs_made w (.int .i64 0) n 3).congr (g := keptV (pls l 0) 0) (fun i _ => by simp [keptV]))
  have S0 := Lib.hid ((Below.refl w.heap.size w).alloc (Nat.le_refl _) (.cells (madeCells #[.int .i64 0] n) 3))
  clear h hops0 hn
  go_enter Tryd.func69, Tryd.ntmps69
  go_wp2_with fail
  obtain ⟨G, hG⟩ : ∃ G, G = w.heap.size := ⟨_, rfl⟩
  rw [← hG] at R0 ⊢
  have HG := Lib.hid hG
  clear hG mk1
  go_loopw [6, 7, 8] (fun s6 s7 s8 wr => ∃ k i j : Nat, k ≤ l.length ∧ s8 = .int .i64 k ∧ s6 = .int .i64 i ∧ s7 = .int .i64 j ∧ Hid (KeptAt l k i j) ∧ Hid (wr.rowIs G 3 n (keptV (pls l 0) i)) ∧ Hid (Below w.heap.size w wr)) (fun _ _ s8 _ => l.length - (intOf s8).toNat)
  case atStart => exact ⟨0, 0, 0, Nat.zero_le _, rfl, rfl, rfl, KeptAt.zero l, R0, S0⟩
  case round =>
    clear R0 S0
    obtain ⟨k, i, j, hk, rfl, rfl, rfl, hka, hr, hb⟩ := hrel
    have k0 : (0 : Int) ≤ (k : Int) := Int.natCast_nonneg _
    have i0 : (0 : Int) ≤ (i : Int) := Int.natCast_nonneg _
    have hil : i ≤ l.length := by rw [hka.out.i]; unfold edA; rw [List.length_map]; exact Nat.le_trans (List.length_filter_le _ _) (by rw [List.length_take]; omega)
    have hjl : j ≤ l.length := by rw [hka.out.j]; unfold edB; rw [List.length_map]; exact Nat.le_trans (List.length_filter_le _ _) (by rw [List.length_take]; omega)
    by_cases hlt : k < l.length
    · obtain ⟨⟨op, s⟩, hs⟩ : ∃ x, l[k]? = some x := ⟨_, List.getElem?_eq_getElem hlt⟩
      have ho := own2_keep HO.out hb.out
      obtain ⟨g, rfl⟩ : ∃ g, A = some ⟨g, 0, none⟩ := by
        rcases ho.2 with ⟨_, e2⟩ | ⟨g, cap, cur, e, _⟩
        · omega
        · cases e; exact ⟨_, rfl⟩
      have k1 : (k : Int) < (l.length : Int) := by omega
      obtain ⟨x1, x2⟩ := edCells_at hs
      have c1 := own2_at ho x1
      have hop := hops.out _ (List.mem_of_getElem? hs)
      simp only at hop
      have HS := Lib.hid hs
      clear ho x1 x2 hs
      rcases hop with rfl | rfl | rfl
      · obtain ⟨K1, hi2, hpl⟩ := hka.out.one hops.out HS.out
        have hin : (i : Int) < (n : Int) := by have := HN.out; omega
        have r1 := hr.out.cell (i := i) (by omega)
        have r2 := hr.out.frozen i
        have R1 := Lib.hid ((hr.out.set i (.int .i64 (j : Int))).congr (g := keptV (pls l 0) (i + 1)) (fun t _ => by
          simp only [keptV]
          by_cases e : t = i
          · subst e; rw [if_pos rfl, if_pos (by omega), hpl]; rfl
          · rw [if_neg e]
            by_cases e2 : t < i
            · rw [if_pos e2, if_pos (by omega)]
            · rw [if_neg e2, if_neg (by omega)]))
        have B1 := Lib.hid (hb.out.setCell (p := ⟨G, i, none⟩) (by rw [HG.out]; exact Nat.le_refl _) (.int .i64 (j : Int)))
        have HK1 := Lib.hid K1
        clear K1 hi2 hpl hka
        go_wp2
        go_roundw
        case rel => exact ⟨k + 1, i + 1, j + 1, by omega, by go_num, by go_num, by go_num, HK1.out, R1.out, B1.out⟩
        case measure => simp [intOf]; omega
      · obtain ⟨K1, hi2, hpl⟩ := hka.out.two hops.out HS.out
        have hin : (i : Int) < (n : Int) := by have := HN.out; omega
        have r1 := hr.out.cell (i := i) (by omega)
        have r2 := hr.out.frozen i
        have R1 := Lib.hid ((hr.out.set i (.int .i64 (-1))).congr (g := keptV (pls l 0) (i + 1)) (fun t _ => by
          simp only [keptV]
          by_cases e : t = i
          · subst e; rw [if_pos rfl, if_pos (by omega), hpl]; rfl
          · rw [if_neg e]
            by_cases e2 : t < i
            · rw [if_pos e2, if_pos (by omega)]
            · rw [if_neg e2, if_neg (by omega)]))
        have B1 := Lib.hid (hb.out.setCell (p := ⟨G, i, none⟩) (by rw [HG.out]; exact Nat.le_refl _) (.int .i64 (-1)))
        have HK1 := Lib.hid K1
        clear K1 hi2 hpl hka
        go_wp2
        go_roundw
        case rel => exact ⟨k + 1, i + 1, j, by omega, by go_num, by go_num, rfl, HK1.out, R1.out, B1.out⟩
        case measure => simp [intOf]; omega
      · have HK1 := Lib.hid (hka.out.three HS.out)
        clear hka
        go_wp2
        go_roundw
        case rel => exact ⟨k + 1, i, j + 1, by omega, by go_num, rfl, by go_num, HK1.out, hr.out, hb.out⟩
        case measure => simp [intOf]; omega
    · obtain rfl : k = l.length := by omega
      have hin := Lib.hid (show i = n by rw [hka.out.i, List.take_length, HN.out])
      go_wp2
      go_ret
      refine ⟨G, rfl, by rw [HG.out]; exact Nat.le_refl _, hr.out.congr (fun t ht => ?_), hb.out⟩
      simp only [keptV]
      rw [if_pos (by have := hin.out; omega)]
end Go.Proofs.YtdpoeagmeiedcaaDoor

namespace Go.Proofs.YtdpoeagmeiedcaaDoor
open Go Go.RowKit

/-- A piece by value: its texts are the call's arguments. -/
def BetwTo (w : World) (v0 v1 v2 : Value) (xs ys zs : List ByteArray) (c : Ck ByteArray) (e : Ending) (w' : World) : Prop :=
  ∃ ve, e = .returned (.agg #[v0, v1, v2, .bool c.clash, ve]) ∧ (∀ W0, Strs W0 v0 xs → Strs W0 v1 ys → Strs W0 v2 zs → Strs W0 ve c.out) ∧ Below w.heap.size w w'

set_option maxHeartbeats 2000000 in
theorem refBetween_any (w : World) (v0 v1 v2 : Value) (xs ys zs : List ByteArray) (h0 : Strs w v0 xs) (h1 : Strs w v1 ys) (h2 : Strs w v2 zs) :
    Calls Tryd.prog 70 #[v0, v1, v2] w (BetwTo w v0 v1 v2 xs ys zs (decideC xs ys zs)) := by
  obtain ⟨A0, n0, c0, rfl⟩ := h0.form
  obtain ⟨A1, n1, c1, rfl⟩ := h1.form
  obtain ⟨A2, n2, c2, rfl⟩ := h2.form
  have B1 := (Below.refl w.heap.size w).alloc (Nat.le_refl _) (.cells #[.slice none 0 0, .slice none 0 0, .slice none 0 0, .bool false, .slice none 0 0] 80)
  have B2 := Lib.hid (B1.alloc B1.size (.cells #[.slice A0 n0 c0, .slice A1 n1 c1, .slice A2 n2 c2, .bool false, .slice none 0 0] 80))
  have K6 := (Blk.new w 80 #[.slice none 0 0, .slice none 0 0, .slice none 0 0, .bool false, .slice none 0 0]).alloc (.cells #[.slice A0 n0 c0, .slice A1 n1 c1, .slice A2 n2 c2, .bool false, .slice none 0 0] 80)
  have K7 := Blk.new (w.alloc (.cells #[.slice none 0 0, .slice none 0 0, .slice none 0 0, .bool false, .slice none 0 0] 80)) 80 #[.slice A0 n0 c0, .slice A1 n1 c1, .slice A2 n2 c2, .bool false, .slice none 0 0]
  have hz : (w.alloc (.cells #[.slice none 0 0, .slice none 0 0, .slice none 0 0, .bool false, .slice none 0 0] 80)).heap.size = w.heap.size + 1 := by simp
  rw [hz] at K7
  have H0 := Lib.hid h0
  have H1 := Lib.hid h1
  have H2 := Lib.hid h2
  clear B1 hz h0 h1 h2
  have EQ := Lib.hid fun W' (hb : Below w.heap.size w W') => refEqual_any W' _ _ ys xs (H1.out.below hb) (H0.out.below hb)
  have EQ2 := Lib.hid fun W' (hb : Below w.heap.size w W') => refEqual_any W' _ _ zs xs (H2.out.below hb) (H0.out.below hb)
  have EQ3 := Lib.hid fun W' (hb : Below w.heap.size w W') => refEqual_any W' _ _ ys zs (H1.out.below hb) (H2.out.below hb)
  obtain ⟨X, hX⟩ : ∃ X, X = w.heap.size := ⟨_, rfl⟩
  obtain ⟨Y, hY⟩ : ∃ Y, Y = w.heap.size + 1 := ⟨_, rfl⟩
  have hXY : X ≠ Y := by omega
  have hYX : Y ≠ X := by omega
  have HX := Lib.hid (show w.heap.size ≤ X by omega)
  have HY := Lib.hid (show w.heap.size ≤ Y by omega)
  by_cases e1 : ys = xs
  · have hd : decideC xs ys zs = ⟨xs, ys, zs, false, zs⟩ := by unfold decideC; rw [if_pos e1]
    rw [hd]
    clear hd
    have HE1 := Lib.hid e1
    clear e1
    go_enter Tryd.func70, Tryd.ntmps70
    go_wp2_with fail
    rw [← hY, ← hX]
    generalize (w.alloc (.cells #[.slice none 0 0, .slice none 0 0, .slice none 0 0, .bool false, .slice none 0 0] 80)).alloc (.cells #[.slice A0 n0 c0, .slice A1 n1 c1, .slice A2 n2 c2, .bool false, .slice none 0 0] 80) = W at *
    rw [← hX] at K6
    rw [← hY] at K7
    clear hX hY
    refine (EQ.out W B2.out).mono ?_
    rintro e w2 ⟨q1, rfl, hq1⟩
    rw [decide_eq_true HE1.out]
    have K61 : Blk w2 X 80 #[.slice none 0 0, .slice none 0 0, .slice none 0 0, .bool false, .slice none 0 0] := by rw [hq1]; exact K6
    have K71 : Blk w2 Y 80 #[.slice A0 n0 c0, .slice A1 n1 c1, .slice A2 n2 c2, .bool false, .slice none 0 0] := by rw [hq1]; exact K7
    have B3 := Lib.hid (show Below w.heap.size w w2 by rw [hq1]; exact below_drewN B2.out _)
    clear hq1 K6 K7
    have y0 := K71.cell 0
    have y1 := K71.cell 1
    have y2 := K71.cell 2
    have y3 := K71.cell 3
    have y4 := K71.cell 4
    have x0 := K61.cell 0
    have f0 := K61.frozen 0
    have x1 := K61.cell 1
    have f1 := K61.frozen 1
    have x2 := K61.cell 2
    have f2 := K61.frozen 2
    have x3 := K61.cell 3
    have f3 := K61.frozen 3
    have x4 := K61.cell 4
    have f4 := K61.frozen 4
    have g3 := K71.frozen 3
    have g4 := K71.frozen 4
    have KF := Lib.hid (((((((K61.far (p := ⟨Y, 4, none⟩) hXY (.slice A2 n2 c2)).set_ 0 (.slice A0 n0 c0)).set_ 1 (.slice A1 n1 c1)).set_ 2 (.slice A2 n2 c2)).set_ 3 (.bool false)).set_ 4 (.slice A2 n2 c2)))
    have BF := Lib.hid ((((((B3.out.setCell (p := ⟨Y, 4, none⟩) HY.out (.slice A2 n2 c2)).setCell (p := ⟨X, 0, none⟩) HX.out (.slice A0 n0 c0)).setCell (p := ⟨X, 1, none⟩) HX.out (.slice A1 n1 c1)).setCell (p := ⟨X, 2, none⟩) HX.out (.slice A2 n2 c2)).setCell (p := ⟨X, 3, none⟩) HX.out (.bool false)).setCell (p := ⟨X, 4, none⟩) HX.out (.slice A2 n2 c2))
    clear K61 K71
    go_wp2
    refine bodyPost_ret (results_cell_row (fn := Tryd.f70) rfl _ _ X 80 #[.slice A0 n0 c0, .slice A1 n1 c1, .slice A2 n2 c2, .bool false, .slice A2 n2 c2] (0, 0) _ rfl (by first | exact KF.out | simpa using KF.out) Tryd.underlying80 rfl (by kernel_rfl)) rfl ⟨.slice A2 n2 c2, rfl, ?_, ?_⟩
    · exact fun _ _ _ d => d
    · first | exact BF.out | simpa using BF.out
  · by_cases e2 : zs = xs
    · have hd : decideC xs ys zs = ⟨xs, ys, zs, false, ys⟩ := by unfold decideC; rw [if_neg e1, if_pos (.inl e2)]
      rw [hd]
      clear hd
      have HE1 := Lib.hid e1
      clear e1
      have HE2 := Lib.hid e2
      clear e2
      go_enter Tryd.func70, Tryd.ntmps70
      go_wp2_with fail
      rw [← hY, ← hX]
      generalize (w.alloc (.cells #[.slice none 0 0, .slice none 0 0, .slice none 0 0, .bool false, .slice none 0 0] 80)).alloc (.cells #[.slice A0 n0 c0, .slice A1 n1 c1, .slice A2 n2 c2, .bool false, .slice none 0 0] 80) = W at *
      rw [← hX] at K6
      rw [← hY] at K7
      clear hX hY
      refine (EQ.out W B2.out).mono ?_
      rintro e w2 ⟨q1, rfl, hq1⟩
      rw [decide_eq_false HE1.out]
      have K61 : Blk w2 X 80 #[.slice none 0 0, .slice none 0 0, .slice none 0 0, .bool false, .slice none 0 0] := by rw [hq1]; exact K6
      have K71 : Blk w2 Y 80 #[.slice A0 n0 c0, .slice A1 n1 c1, .slice A2 n2 c2, .bool false, .slice none 0 0] := by rw [hq1]; exact K7
      have B3 := Lib.hid (show Below w.heap.size w w2 by rw [hq1]; exact below_drewN B2.out _)
      clear hq1 K6 K7
      go_wp2_with fail
      refine (EQ2.out w2 B3.out).mono ?_
      rintro e w3 ⟨q2, rfl, hq2⟩
      rw [decide_eq_true HE2.out]
      have K62 : Blk w3 X 80 #[.slice none 0 0, .slice none 0 0, .slice none 0 0, .bool false, .slice none 0 0] := by rw [hq2]; exact K61
      have K72 : Blk w3 Y 80 #[.slice A0 n0 c0, .slice A1 n1 c1, .slice A2 n2 c2, .bool false, .slice none 0 0] := by rw [hq2]; exact K71
      have B4 := Lib.hid (show Below w.heap.size w w3 by rw [hq2]; exact below_drewN B3.out _)
      clear hq2 K61 K71
      have y0 := K72.cell 0
      have y1 := K72.cell 1
      have y2 := K72.cell 2
      have y3 := K72.cell 3
      have y4 := K72.cell 4
      have x0 := K62.cell 0
      have f0 := K62.frozen 0
      have x1 := K62.cell 1
      have f1 := K62.frozen 1
      have x2 := K62.cell 2
      have f2 := K62.frozen 2
      have x3 := K62.cell 3
      have f3 := K62.frozen 3
      have x4 := K62.cell 4
      have f4 := K62.frozen 4
      have g3 := K72.frozen 3
      have g4 := K72.frozen 4
      have KF := Lib.hid (((((((K62.far (p := ⟨Y, 4, none⟩) hXY (.slice A1 n1 c1)).set_ 0 (.slice A0 n0 c0)).set_ 1 (.slice A1 n1 c1)).set_ 2 (.slice A2 n2 c2)).set_ 3 (.bool false)).set_ 4 (.slice A1 n1 c1)))
      have BF := Lib.hid ((((((B4.out.setCell (p := ⟨Y, 4, none⟩) HY.out (.slice A1 n1 c1)).setCell (p := ⟨X, 0, none⟩) HX.out (.slice A0 n0 c0)).setCell (p := ⟨X, 1, none⟩) HX.out (.slice A1 n1 c1)).setCell (p := ⟨X, 2, none⟩) HX.out (.slice A2 n2 c2)).setCell (p := ⟨X, 3, none⟩) HX.out (.bool false)).setCell (p := ⟨X, 4, none⟩) HX.out (.slice A1 n1 c1))
      clear K62 K72
      go_wp2
      refine bodyPost_ret (results_cell_row (fn := Tryd.f70) rfl _ _ X 80 #[.slice A0 n0 c0, .slice A1 n1 c1, .slice A2 n2 c2, .bool false, .slice A1 n1 c1] (0, 0) _ rfl (by first | exact KF.out | simpa using KF.out) Tryd.underlying80 rfl (by kernel_rfl)) rfl ⟨.slice A1 n1 c1, rfl, ?_, ?_⟩
      · exact fun _ _ b _ => b
      · first | exact BF.out | simpa using BF.out
    · by_cases e3 : ys = zs
      · have hd : decideC xs ys zs = ⟨xs, ys, zs, false, ys⟩ := by unfold decideC; rw [if_neg e1, if_pos (.inr e3)]
        rw [hd]
        clear hd
        have HE1 := Lib.hid e1
        clear e1
        have HE2 := Lib.hid e2
        clear e2
        have HE3 := Lib.hid e3
        clear e3
        go_enter Tryd.func70, Tryd.ntmps70
        go_wp2_with fail
        rw [← hY, ← hX]
        generalize (w.alloc (.cells #[.slice none 0 0, .slice none 0 0, .slice none 0 0, .bool false, .slice none 0 0] 80)).alloc (.cells #[.slice A0 n0 c0, .slice A1 n1 c1, .slice A2 n2 c2, .bool false, .slice none 0 0] 80) = W at *
        rw [← hX] at K6
        rw [← hY] at K7
        clear hX hY
        refine (EQ.out W B2.out).mono ?_
        rintro e w2 ⟨q1, rfl, hq1⟩
        rw [decide_eq_false HE1.out]
        have K61 : Blk w2 X 80 #[.slice none 0 0, .slice none 0 0, .slice none 0 0, .bool false, .slice none 0 0] := by rw [hq1]; exact K6
        have K71 : Blk w2 Y 80 #[.slice A0 n0 c0, .slice A1 n1 c1, .slice A2 n2 c2, .bool false, .slice none 0 0] := by rw [hq1]; exact K7
        have B3 := Lib.hid (show Below w.heap.size w w2 by rw [hq1]; exact below_drewN B2.out _)
        clear hq1 K6 K7
        go_wp2_with fail
        refine (EQ2.out w2 B3.out).mono ?_
        rintro e w3 ⟨q2, rfl, hq2⟩
        rw [decide_eq_false HE2.out]
        have K62 : Blk w3 X 80 #[.slice none 0 0, .slice none 0 0, .slice none 0 0, .bool false, .slice none 0 0] := by rw [hq2]; exact K61
        have K72 : Blk w3 Y 80 #[.slice A0 n0 c0, .slice A1 n1 c1, .slice A2 n2 c2, .bool false, .slice none 0 0] := by rw [hq2]; exact K71
        have B4 := Lib.hid (show Below w.heap.size w w3 by rw [hq2]; exact below_drewN B3.out _)
        clear hq2 K61 K71
        go_wp2_with fail
        refine (EQ3.out w3 B4.out).mono ?_
        rintro e w4 ⟨q3, rfl, hq3⟩
        rw [decide_eq_true HE3.out]
        have K63 : Blk w4 X 80 #[.slice none 0 0, .slice none 0 0, .slice none 0 0, .bool false, .slice none 0 0] := by rw [hq3]; exact K62
        have K73 : Blk w4 Y 80 #[.slice A0 n0 c0, .slice A1 n1 c1, .slice A2 n2 c2, .bool false, .slice none 0 0] := by rw [hq3]; exact K72
        have B5 := Lib.hid (show Below w.heap.size w w4 by rw [hq3]; exact below_drewN B4.out _)
        clear hq3 K62 K72
        have y0 := K73.cell 0
        have y1 := K73.cell 1
        have y2 := K73.cell 2
        have y3 := K73.cell 3
        have y4 := K73.cell 4
        have x0 := K63.cell 0
        have f0 := K63.frozen 0
        have x1 := K63.cell 1
        have f1 := K63.frozen 1
        have x2 := K63.cell 2
        have f2 := K63.frozen 2
        have x3 := K63.cell 3
        have f3 := K63.frozen 3
        have x4 := K63.cell 4
        have f4 := K63.frozen 4
        have g3 := K73.frozen 3
        have g4 := K73.frozen 4
        have KF := Lib.hid (((((((K63.far (p := ⟨Y, 4, none⟩) hXY (.slice A1 n1 c1)).set_ 0 (.slice A0 n0 c0)).set_ 1 (.slice A1 n1 c1)).set_ 2 (.slice A2 n2 c2)).set_ 3 (.bool false)).set_ 4 (.slice A1 n1 c1)))
        have BF := Lib.hid ((((((B5.out.setCell (p := ⟨Y, 4, none⟩) HY.out (.slice A1 n1 c1)).setCell (p := ⟨X, 0, none⟩) HX.out (.slice A0 n0 c0)).setCell (p := ⟨X, 1, none⟩) HX.out (.slice A1 n1 c1)).setCell (p := ⟨X, 2, none⟩) HX.out (.slice A2 n2 c2)).setCell (p := ⟨X, 3, none⟩) HX.out (.bool false)).setCell (p := ⟨X, 4, none⟩) HX.out (.slice A1 n1 c1))
        clear K63 K73
        go_wp2
        refine bodyPost_ret (results_cell_row (fn := Tryd.f70) rfl _ _ X 80 #[.slice A0 n0 c0, .slice A1 n1 c1, .slice A2 n2 c2, .bool false, .slice A1 n1 c1] (0, 0) _ rfl (by first | exact KF.out | simpa using KF.out) Tryd.underlying80 rfl (by kernel_rfl)) rfl ⟨.slice A1 n1 c1, rfl, ?_, ?_⟩
        · exact fun _ _ b _ => b
        · first | exact BF.out | simpa using BF.out
      · have hd : decideC xs ys zs = ⟨xs, ys, zs, true, []⟩ := by unfold decideC; rw [if_neg e1, if_neg (by rintro (h | h) <;> contradiction)]
        rw [hd]
        clear hd
        have HE1 := Lib.hid e1
        clear e1
        have HE2 := Lib.hid e2
        clear e2
        have HE3 := Lib.hid e3
        clear e3
        go_enter Tryd.func70, Tryd.ntmps70
        go_wp2_with fail
        rw [← hY, ← hX]
        generalize (w.alloc (.cells #[.slice none 0 0, .slice none 0 0, .slice none 0 0, .bool false, .slice none 0 0] 80)).alloc (.cells #[.slice A0 n0 c0, .slice A1 n1 c1, .slice A2 n2 c2, .bool false, .slice none 0 0] 80) = W at *
        rw [← hX] at K6
        rw [← hY] at K7
        clear hX hY
        refine (EQ.out W B2.out).mono ?_
        rintro e w2 ⟨q1, rfl, hq1⟩
        rw [decide_eq_false HE1.out]
        have K61 : Blk w2 X 80 #[.slice none 0 0, .slice none 0 0, .slice none 0 0, .bool false, .slice none 0 0] := by rw [hq1]; exact K6
        have K71 : Blk w2 Y 80 #[.slice A0 n0 c0, .slice A1 n1 c1, .slice A2 n2 c2, .bool false, .slice none 0 0] := by rw [hq1]; exact K7
        have B3 := Lib.hid (show Below w.heap.size w w2 by rw [hq1]; exact below_drewN B2.out _)
        clear hq1 K6 K7
        go_wp2_with fail
        refine (EQ2.out w2 B3.out).mono ?_
        rintro e w3 ⟨q2, rfl, hq2⟩
        rw [decide_eq_false HE2.out]
        have K62 : Blk w3 X 80 #[.slice none 0 0, .slice none 0 0, .slice none 0 0, .bool false, .slice none 0 0] := by rw [hq2]; exact K61
        have K72 : Blk w3 Y 80 #[.slice A0 n0 c0, .slice A1 n1 c1, .slice A2 n2 c2, .bool false, .slice none 0 0] := by rw [hq2]; exact K71
        have B4 := Lib.hid (show Below w.heap.size w w3 by rw [hq2]; exact below_drewN B3.out _)
        clear hq2 K61 K71
        go_wp2_with fail
        refine (EQ3.out w3 B4.out).mono ?_
        rintro e w4 ⟨q3, rfl, hq3⟩
        rw [decide_eq_false HE3.out]
        have K63 : Blk w4 X 80 #[.slice none 0 0, .slice none 0 0, .slice none 0 0, .bool false, .slice none 0 0] := by rw [hq3]; exact K62
        have K73 : Blk w4 Y 80 #[.slice A0 n0 c0, .slice A1 n1 c1, .slice A2 n2 c2, .bool false, .slice none 0 0] := by rw [hq3]; exact K72
        have B5 := Lib.hid (show Below w.heap.size w w4 by rw [hq3]; exact below_drewN B4.out _)
        clear hq3 K62 K72
        have y0 := K73.cell 0
        have y1 := K73.cell 1
        have y2 := K73.cell 2
        have y3 := K73.cell 3
        have y4 := K73.cell 4
        have x0 := K63.cell 0
        have f0 := K63.frozen 0
        have x1 := K63.cell 1
        have f1 := K63.frozen 1
        have x2 := K63.cell 2
        have f2 := K63.frozen 2
        have x3 := K63.cell 3
        have f3 := K63.frozen 3
        have x4 := K63.cell 4
        have f4 := K63.frozen 4
        have g3 := K73.frozen 3
        have g4 := K73.frozen 4
        have KF := Lib.hid (((((((K63.far (p := ⟨Y, 3, none⟩) hXY (.bool true)).set_ 0 (.slice A0 n0 c0)).set_ 1 (.slice A1 n1 c1)).set_ 2 (.slice A2 n2 c2)).set_ 3 (.bool true)).set_ 4 (.slice none 0 0)))
        have BF := Lib.hid ((((((B5.out.setCell (p := ⟨Y, 3, none⟩) HY.out (.bool true)).setCell (p := ⟨X, 0, none⟩) HX.out (.slice A0 n0 c0)).setCell (p := ⟨X, 1, none⟩) HX.out (.slice A1 n1 c1)).setCell (p := ⟨X, 2, none⟩) HX.out (.slice A2 n2 c2)).setCell (p := ⟨X, 3, none⟩) HX.out (.bool true)).setCell (p := ⟨X, 4, none⟩) HX.out (.slice none 0 0))
        clear K63 K73
        go_wp2
        refine bodyPost_ret (results_cell_row (fn := Tryd.f70) rfl _ _ X 80 #[.slice A0 n0 c0, .slice A1 n1 c1, .slice A2 n2 c2, .bool true, .slice none 0 0] (0, 0) _ rfl (by first | exact KF.out | simpa using KF.out) Tryd.underlying80 rfl (by kernel_rfl)) rfl ⟨.slice none 0 0, rfl, ?_, ?_⟩
        · exact fun W0 _ _ _ => Strs.nil W0
        · first | exact BF.out | simpa using BF.out
end Go.Proofs.YtdpoeagmeiedcaaDoor

namespace Go.Proofs.YtdpoeagmeiedcaaDoor
open Go Go.RowKit

/-- Five values a piece; its texts may be any slices. -/
def CkS (w : World) : List Value → List (Ck ByteArray) → Prop
  | vals, [] => vals = []
  | vals, c :: cs => ∃ a b d e rest, vals = a :: b :: d :: .bool c.clash :: e :: rest ∧ Strs w a c.base ∧ Strs w b c.ours ∧ Strs w d c.theirs ∧ Strs w e c.out ∧ CkS w rest cs
theorem CkS.below {w w' : World} (hb : Below w.heap.size w w') : ∀ {cs : List (Ck ByteArray)} {vals : List Value}, CkS w vals cs → CkS w' vals cs
  | [], _, h => h
  | _ :: _, _, ⟨a, b, d, e, rest, hv, h1, h2, h3, h4, h5⟩ => ⟨a, b, d, e, rest, hv, h1.below hb, h2.below hb, h3.below hb, h4.below hb, CkS.below hb h5⟩
theorem CkS.snoc {w : World} {c : Ck ByteArray} {a b d e : Value} (h1 : Strs w a c.base) (h2 : Strs w b c.ours) (h3 : Strs w d c.theirs) (h4 : Strs w e c.out) : ∀ {cs : List (Ck ByteArray)} {vals : List Value}, CkS w vals cs → CkS w (vals ++ [a, b, d, .bool c.clash, e]) (cs ++ [c])
  | [], _, h => by rw [show _ = [] from h]; exact ⟨a, b, d, e, [], rfl, h1, h2, h3, h4, rfl⟩
  | _ :: _, _, ⟨a', b', d', e', rest, hv, g1, g2, g3, g4, g5⟩ => ⟨a', b', d', e', _, by rw [hv]; rfl, g1, g2, g3, g4, CkS.snoc h1 h2 h3 h4 g5⟩
theorem CkS.at {w : World} : ∀ {cs : List (Ck ByteArray)} {vals : List Value} {i : Nat} {c : Ck ByteArray}, CkS w vals cs → cs[i]? = some c →
    ∃ a b d e, vals[i * 5]? = some a ∧ vals[i * 5 + 1]? = some b ∧ vals[i * 5 + 2]? = some d ∧ vals[i * 5 + 3]? = some (.bool c.clash) ∧ vals[i * 5 + 4]? = some e ∧ Strs w a c.base ∧ Strs w b c.ours ∧ Strs w d c.theirs ∧ Strs w e c.out
  | [], _, _, _, _, hi => by simp at hi
  | c0 :: cs, _, 0, c, ⟨a, b, d, e, rest, hv, g1, g2, g3, g4, _⟩, hi => by
    simp at hi
    subst hi
    rw [hv]
    exact ⟨a, b, d, e, rfl, rfl, rfl, rfl, rfl, g1, g2, g3, g4⟩
  | c0 :: cs, _, i + 1, c, ⟨a, b, d, e, rest, hv, _, _, _, _, g5⟩, hi => by
    rw [List.getElem?_cons_succ] at hi
    obtain ⟨a', b', d', e', k0, k1, k2, k3, k4, r⟩ := CkS.at g5 hi
    rw [hv]
    refine ⟨a', b', d', e', ?_, ?_, ?_, ?_, ?_, r⟩
    · rw [show (i + 1) * 5 = i * 5 + 5 by omega]; exact k0
    · rw [show (i + 1) * 5 + 1 = i * 5 + 1 + 5 by omega]; exact k1
    · rw [show (i + 1) * 5 + 2 = i * 5 + 2 + 5 by omega]; exact k2
    · rw [show (i + 1) * 5 + 3 = i * 5 + 3 + 5 by omega]; exact k3
    · rw [show (i + 1) * 5 + 4 = i * 5 + 4 + 5 by omega]; exact k4
theorem rowIs_below {W w' : World} {g n : Nat} {t : TypeId} {f : Nat → Value} (h : W.rowIs g t n f) (hb : Below W.heap.size W w') : w'.rowIs g t n f := h.of_block (hb.block g h.lt)
/-- A step, and that its run goes no further. -/
structure StepM (p q : List (Option Nat)) (b o t : List ByteArray) (i j k n j1 k1 m : Nat) : Prop where
  s : Step p q b o t i j k n j1 k1 m
  max : n + m < b.length → ¬ (p[n + m]? = some (some (j1 + m)) ∧ q[n + m]? = some (some (k1 + m)))
theorem stepM_any (p q : List (Option Nat)) (b o t : List ByteArray) (hp : p.length = b.length) (hq : q.length = b.length) (i j k f : Nat) (hi : i ≤ b.length) (he : ¬(i = b.length ∧ j = o.length ∧ k = t.length)) :
    ∃ n j1 k1 m, StepM p q b o t i j k n j1 k1 m ∧ chunks p q b o t (f + 1) i j k = firstC b o t i j k n j1 k1 ++ (keptC b o t n j1 k1 m ++ chunks p q b o t f (n + m) (j1 + m) (k1 + m)) := by
  obtain ⟨n, j1, k1, m, s, h1, h2, h3, h4⟩ := step_any p q b o t hp hq i j k hi
  refine ⟨n, j1, k1, m, ⟨s, fun hlt hc => ?_⟩, chunks_step p q b o t f i j k n j1 k1 m h1 h2 h3 h4 he⟩
  have hr := (rn_ge (isRun p q n j1 k1) (b.length - n) 0).2.2.2 (by rw [← h4]; omega)
  rw [← h4] at hr
  unfold isRun at hr
  rw [decide_eq_true hc.1, decide_eq_true hc.2] at hr
  cases hr
/-- .. at the end too. -/
theorem stepM_all (p q : List (Option Nat)) (b o t : List ByteArray) (hp : p.length = b.length) (hq : q.length = b.length) (i j k f : Nat) (hi : i ≤ b.length) :
    ∃ n j1 k1 m, StepM p q b o t i j k n j1 k1 m ∧ chunks p q b o t (f + 1) i j k = firstC b o t i j k n j1 k1 ++ (keptC b o t n j1 k1 m ++ chunks p q b o t f (n + m) (j1 + m) (k1 + m)) := by
  by_cases he : i = b.length ∧ j = o.length ∧ k = t.length
  · obtain ⟨rfl, rfl, rfl⟩ := he
    refine ⟨b.length, o.length, t.length, 0, ⟨⟨Nat.le_refl _, Nat.le_refl _, fun x h1 h2 => by omega, fun h => by omega, fun _ => ⟨rfl, rfl, rfl⟩, fun h => by omega, fun x h => by omega, by omega⟩, fun h => by omega⟩, ?_⟩
    have e0 := chunks_end p q b o t f b.length o.length t.length ⟨rfl, rfl, rfl⟩
    simp only [Nat.add_zero]
    rw [chunks_end p q b o t (f + 1) b.length o.length t.length ⟨rfl, rfl, rfl⟩, e0]
    simp [firstC, keptC]
  · exact stepM_any p q b o t hp hq i j k f hi he
/-- The document's pieces; or whose lines are too many. -/
def RefChunked (w : World) (b o t : List ByteArray) (cs : List (Ck ByteArray)) (e : Ending) (w' : World) : Prop :=
  (b.length ≤ 256 ∧ o.length ≤ 256 ∧ t.length ≤ 256 ∧ ∃ v vals, e = .returned (.tuple #[v, wrong0]) ∧ w'.ownsRow w.heap.size 80 5 v cs.length vals ∧ CkS w' vals cs ∧ Below w.heap.size w w') ∨
  ∃ k g : Nat, (Over b.length o.length k ∨ (b.length ≤ 256 ∧ o.length ≤ 256 ∧ Over b.length t.length k)) ∧ e = .returned (.tuple #[.slice none 0 0, wrongG g 4]) ∧ Blk w' g 104 #[.string bLines, .int .i64 (k : Int)] ∧ Below w.heap.size w w'
/-- A piece of a text. -/
theorem Strs.piece {w : World} {A : Option Addr} {n c : Nat} {ss : List ByteArray} (h : Strs w (.slice A n c) ss) {i k : Nat} (hi : i ≤ k) (hk : k ≤ n) :
    Strs w (.slice (if c = i then A else A.map (·.add i)) (k - i) (c - i)) (cutL2 ss i k) := by
  have h2 := (h.take hk).cut hi
  have e : (ss.take k).drop i = cutL2 ss i k := by unfold cutL2; rw [List.drop_take]
  rw [e] at h2
  exact h2
end Go.Proofs.YtdpoeagmeiedcaaDoor
