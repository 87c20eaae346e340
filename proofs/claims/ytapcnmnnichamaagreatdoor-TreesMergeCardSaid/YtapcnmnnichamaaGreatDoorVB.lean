/-
  Three texts cut into pieces, by plain lists.
  What the cut of three texts is, by plain lists: the parts, the sides, turned.
  The cut of three texts: where a side is as it was; turned; two changes far from each other.
  The cutter of three texts: what it is in memory; the contracts of its readers.
  The cutter's other readers: ended, nextKept; places; Clone of any slice of texts; whole.
  places: of each line of the one text where it is kept in the other; Clone of any slice of texts; whole.
-/
import Derived.Test.YtapcnmnnichamaaGreatDoorVA
import Derived.Deep.AppendLies

namespace Go.Proofs.YtapcnmnnichamaaGreatDoor.Mg
variable {α : Type}

/-- Of each line of the one text where it is kept in the other. -/
def pls : List (Nat × α) → Nat → List (Option Nat)
  | [], _ => []
  | e :: l, at0 => if e.1 = 1 then some at0 :: pls l (at0 + 1) else if e.1 = 2 then none :: pls l at0 else pls l (at0 + 1)

theorem pls_len (l : List (Nat × α)) (h : ∀ e ∈ l, e.1 = 1 ∨ e.1 = 2 ∨ e.1 = 3) : ∀ a, (pls l a).length = (edA l).length := by
  induction l with
  | nil => intro a; rfl
  | cons e l ih =>
    intro a
    obtain ⟨k, x⟩ := e
    have ih := ih (fun e he => h e (List.mem_cons_of_mem _ he))
    have hk := h (k, x) (List.mem_cons_self ..)
    simp only at hk
    rw [edA_cons]
    simp only [pls]
    rcases hk with rfl | rfl | rfl <;> simp [ih]

/-- A line that is kept is the same line, in the other text. -/
theorem pls_at (l : List (Nat × α)) (h : ∀ e ∈ l, e.1 = 1 ∨ e.1 = 2 ∨ e.1 = 3) : ∀ (a i j : Nat), (pls l a)[i]? = some (some j) → a ≤ j ∧ ∃ x, (edA l)[i]? = some x ∧ (edB l)[j - a]? = some x := by
  induction l with
  | nil => intro a i j hh; simp [pls] at hh
  | cons e l ih =>
    intro a i j hh
    obtain ⟨k, x⟩ := e
    have ih := ih (fun e he => h e (List.mem_cons_of_mem _ he))
    have hk := h (k, x) (List.mem_cons_self ..)
    simp only at hk
    rw [edA_cons, edB_cons]
    simp only [pls] at hh
    rcases hk with rfl | rfl | rfl
    · simp only [if_true] at hh
      cases i with
      | zero =>
        simp at hh
        subst hh
        exact ⟨Nat.le_refl _, x, by simp, by simp⟩
      | succ i =>
        simp only [List.getElem?_cons_succ] at hh
        obtain ⟨h1, y, h2, h3⟩ := ih _ _ _ hh
        refine ⟨by omega, y, by simpa using h2, ?_⟩
        rw [if_neg (by omega), show j - a = (j - (a + 1)) + 1 by omega, List.getElem?_cons_succ]
        exact h3
    · simp only [if_true] at hh
      cases i with
      | zero => simp at hh
      | succ i =>
        rw [if_neg (by omega), List.getElem?_cons_succ] at hh
        obtain ⟨h1, y, h2, h3⟩ := ih _ _ _ hh
        exact ⟨h1, y, by simpa using h2, by simpa using h3⟩
    · rw [if_neg (by omega), if_neg (by omega)] at hh
      obtain ⟨h1, y, h2, h3⟩ := ih _ _ _ hh
      refine ⟨by omega, y, by simpa using h2, ?_⟩
      rw [if_neg (by omega), show j - a = (j - (a + 1)) + 1 by omega, List.getElem?_cons_succ]
      exact h3

/-- What is kept later lies later. -/
theorem pls_mono (l : List (Nat × α)) (h : ∀ e ∈ l, e.1 = 1 ∨ e.1 = 2 ∨ e.1 = 3) : ∀ (a i j i' j' : Nat), (pls l a)[i]? = some (some j) → (pls l a)[i']? = some (some j') → i < i' → j < j' := by
  induction l with
  | nil => intro a i j i' j' hh; simp [pls] at hh
  | cons e l ih =>
    intro a i j i' j' hh hh' hlt
    obtain ⟨k, x⟩ := e
    have hl := fun e he => h e (List.mem_cons_of_mem (k, x) he)
    have ih := ih hl
    have hk := h (k, x) (List.mem_cons_self ..)
    simp only at hk
    simp only [pls] at hh hh'
    rcases hk with rfl | rfl | rfl
    · simp only [if_true] at hh hh'
      obtain ⟨i', rfl⟩ : ∃ q, i' = q + 1 := ⟨i' - 1, by omega⟩
      simp only [List.getElem?_cons_succ] at hh'
      cases i with
      | zero =>
        simp at hh
        subst hh
        have := (pls_at l hl _ _ _ hh').1
        omega
      | succ i =>
        simp only [List.getElem?_cons_succ] at hh
        exact ih _ _ _ _ _ hh hh' (by omega)
    · rw [if_neg (by omega)] at hh hh'
      simp only [if_true] at hh hh'
      obtain ⟨i', rfl⟩ : ∃ q, i' = q + 1 := ⟨i' - 1, by omega⟩
      cases i with
      | zero => simp at hh
      | succ i =>
        simp only [List.getElem?_cons_succ] at hh hh'
        exact ih _ _ _ _ _ hh hh' (by omega)
    · rw [if_neg (by omega), if_neg (by omega)] at hh hh'
      exact ih _ _ _ _ _ hh hh' hlt

/-- Places in the other text, as they come of edits. -/
structure Places (p : List (Option Nat)) (b o : List α) : Prop where
  len : p.length = b.length
  eq : ∀ i j : Nat, p[i]? = some (some j) → ∃ x, b[i]? = some x ∧ o[j]? = some x
  mono : ∀ i j i' j' : Nat, p[i]? = some (some j) → p[i']? = some (some j') → i < i' → j < j'

theorem Places.lt {p : List (Option Nat)} {b o : List α} (h : Places p b o) {i j : Nat} (hi : p[i]? = some (some j)) : i < b.length ∧ j < o.length := by
  obtain ⟨x, h1, h2⟩ := h.eq i j hi
  exact ⟨(List.getElem?_eq_some_iff.1 h1).1, (List.getElem?_eq_some_iff.1 h2).1⟩

variable [DecidableEq α]

structure Ck (α : Type) where
  base : List α
  ours : List α
  theirs : List α
  clash : Bool
  out : List α

def decideC (x y z : List α) : Ck α := if y = x then ⟨x, y, z, false, z⟩ else if z = x ∨ y = z then ⟨x, y, z, false, y⟩ else ⟨x, y, z, true, []⟩
def cutL2 (l : List α) (i j : Nat) : List α := (l.drop i).take (j - i)

def isSome2 : Option (Option Nat) → Bool
  | some (some _) => true
  | _ => false
def isK (p q : List (Option Nat)) (i : Nat) : Bool := isSome2 p[i]? && isSome2 q[i]?
/-- The next place where k holds, in f steps at most. -/
def nx (k : Nat → Bool) : Nat → Nat → Nat
  | 0, i => i
  | f + 1, i => if k i = true then i else nx k f (i + 1)
/-- How far k holds on. -/
def rn (k : Nat → Bool) : Nat → Nat → Nat
  | 0, n => n
  | f + 1, n => if k n = true then rn k f (n + 1) else n
def atD (p : List (Option Nat)) (i d : Nat) : Nat := match p[i]? with
  | some (some j) => j
  | _ => d
def isRun (p q : List (Option Nat)) (i j k n : Nat) : Bool := decide (p[i + n]? = some (some (j + n))) && decide (q[i + n]? = some (some (k + n)))

def firstC (b o t : List α) (i j k n j1 k1 : Nat) : List (Ck α) := if i < n ∨ j < j1 ∨ k < k1 then [decideC (cutL2 b i n) (cutL2 o j j1) (cutL2 t k k1)] else []
def keptC (b o t : List α) (i j k m : Nat) : List (Ck α) := if 0 < m then [⟨cutL2 b i (i + m), cutL2 o j (j + m), cutL2 t k (k + m), false, cutL2 b i (i + m)⟩] else []

def chunks (p q : List (Option Nat)) (b o t : List α) : Nat → Nat → Nat → Nat → List (Ck α)
  | 0, _, _, _ => []
  | f + 1, i, j, k =>
    if i = b.length ∧ j = o.length ∧ k = t.length then [] else
      firstC b o t i j k (nx (isK p q) (b.length - i) i) (atD p (nx (isK p q) (b.length - i) i) o.length) (atD q (nx (isK p q) (b.length - i) i) t.length) ++
      (keptC b o t (nx (isK p q) (b.length - i) i) (atD p (nx (isK p q) (b.length - i) i) o.length) (atD q (nx (isK p q) (b.length - i) i) t.length)
        (rn (isRun p q (nx (isK p q) (b.length - i) i) (atD p (nx (isK p q) (b.length - i) i) o.length) (atD q (nx (isK p q) (b.length - i) i) t.length)) (b.length - nx (isK p q) (b.length - i) i) 0) ++
      chunks p q b o t f (nx (isK p q) (b.length - i) i + rn (isRun p q (nx (isK p q) (b.length - i) i) (atD p (nx (isK p q) (b.length - i) i) o.length) (atD q (nx (isK p q) (b.length - i) i) t.length)) (b.length - nx (isK p q) (b.length - i) i) 0)
        (atD p (nx (isK p q) (b.length - i) i) o.length + rn (isRun p q (nx (isK p q) (b.length - i) i) (atD p (nx (isK p q) (b.length - i) i) o.length) (atD q (nx (isK p q) (b.length - i) i) t.length)) (b.length - nx (isK p q) (b.length - i) i) 0)
        (atD q (nx (isK p q) (b.length - i) i) t.length + rn (isRun p q (nx (isK p q) (b.length - i) i) (atD p (nx (isK p q) (b.length - i) i) o.length) (atD q (nx (isK p q) (b.length - i) i) t.length)) (b.length - nx (isK p q) (b.length - i) i) 0))

/-- One step: n the next line that both keep, m how many from there on. -/
structure Step (p q : List (Option Nat)) (b o t : List α) (i j k n j1 k1 m : Nat) : Prop where
  le : i ≤ n
  nb : n ≤ b.length
  no : ∀ x, i ≤ x → x < n → isK p q x = false
  yes : n < b.length → p[n]? = some (some j1) ∧ q[n]? = some (some k1)
  fin : n = b.length → j1 = o.length ∧ k1 = t.length ∧ m = 0
  pos : n < b.length → 0 < m
  run : ∀ x, x < m → p[n + x]? = some (some (j1 + x)) ∧ q[n + x]? = some (some (k1 + x))
  nm : n + m ≤ b.length

theorem nx_ge (k : Nat → Bool) : ∀ f i, i ≤ nx k f i ∧ nx k f i ≤ i + f ∧ (∀ x, i ≤ x → x < nx k f i → k x = false) ∧ (nx k f i < i + f → k (nx k f i) = true)
  | 0, i => ⟨Nat.le_refl _, Nat.le_refl _, fun x h1 h2 => by simp [nx] at h2; omega, fun h => by simp [nx] at h⟩
  | f + 1, i => by
    unfold nx
    cases hk : k i with
    | true => rw [if_pos rfl]; exact ⟨Nat.le_refl _, by omega, fun x h1 h2 => by omega, fun _ => hk⟩
    | false =>
      rw [if_neg (by simp)]
      obtain ⟨h1, h2, h3, h4⟩ := nx_ge k f (i + 1)
      refine ⟨by omega, by omega, fun x hx1 hx2 => ?_, fun h => h4 (by omega)⟩
      by_cases e : x = i
      · rw [e]; exact hk
      · exact h3 x (by omega) hx2

theorem rn_ge (k : Nat → Bool) : ∀ f n, n ≤ rn k f n ∧ rn k f n ≤ n + f ∧ (∀ x, n ≤ x → x < rn k f n → k x = true) ∧ (rn k f n < n + f → k (rn k f n) = false)
  | 0, n => ⟨Nat.le_refl _, Nat.le_refl _, fun x h1 h2 => by simp [rn] at h2; omega, fun h => by simp [rn] at h⟩
  | f + 1, n => by
    unfold rn
    cases hk : k n with
    | false => rw [if_neg (by simp)]; exact ⟨Nat.le_refl _, by omega, fun x h1 h2 => by omega, fun _ => hk⟩
    | true =>
      rw [if_pos rfl]
      obtain ⟨h1, h2, h3, h4⟩ := rn_ge k f (n + 1)
      refine ⟨by omega, by omega, fun x hx1 hx2 => ?_, fun h => h4 (by omega)⟩
      by_cases e : x = n
      · rw [e]; exact hk
      · exact h3 x (by omega) hx2

theorem isSome2_iff {x : Option (Option Nat)} : isSome2 x = true ↔ ∃ j, x = some (some j) := by
  match x with
  | none => simp [isSome2]
  | some none => simp [isSome2]
  | some (some j) => simp [isSome2]

/-- What the cut is, by its steps. -/
theorem chunks_step (p q : List (Option Nat)) (b o t : List α) (f i j k n j1 k1 m : Nat) (hn : n = nx (isK p q) (b.length - i) i) (hj : j1 = atD p n o.length) (hk : k1 = atD q n t.length) (hm : m = rn (isRun p q n j1 k1) (b.length - n) 0)
    (he : ¬(i = b.length ∧ j = o.length ∧ k = t.length)) : chunks p q b o t (f + 1) i j k = firstC b o t i j k n j1 k1 ++ (keptC b o t n j1 k1 m ++ chunks p q b o t f (n + m) (j1 + m) (k1 + m)) := by
  subst hn; subst hj; subst hk; subst hm
  rw [chunks, if_neg he]
theorem chunks_end (p q : List (Option Nat)) (b o t : List α) (f i j k : Nat) (he : i = b.length ∧ j = o.length ∧ k = t.length) : chunks p q b o t f i j k = [] := by
  cases f with
  | zero => rfl
  | succ f => rw [chunks, if_pos he]

omit [DecidableEq α] in
theorem step_any (p q : List (Option Nat)) (b o t : List α) (hp : p.length = b.length) (hq : q.length = b.length) (i j k : Nat) (hi : i ≤ b.length) :
    ∃ n j1 k1 m, Step p q b o t i j k n j1 k1 m ∧ n = nx (isK p q) (b.length - i) i ∧ j1 = atD p n o.length ∧ k1 = atD q n t.length ∧ m = rn (isRun p q n j1 k1) (b.length - n) 0 := by
  refine ⟨_, _, _, _, ?_, rfl, rfl, rfl, rfl⟩
  obtain ⟨h1, h2, h3, h4⟩ := nx_ge (isK p q) (b.length - i) i
  generalize nx (isK p q) (b.length - i) i = n at *
  have hyes : n < b.length → p[n]? = some (some (atD p n o.length)) ∧ q[n]? = some (some (atD q n t.length)) := fun h => by
    have hk := h4 (by omega)
    unfold isK at hk
    rw [Bool.and_eq_true, isSome2_iff, isSome2_iff] at hk
    obtain ⟨⟨x, hx⟩, y, hy⟩ := hk
    unfold atD
    rw [hx, hy]
    exact ⟨rfl, rfl⟩
  obtain ⟨r1, r2, r3, r4⟩ := rn_ge (isRun p q n (atD p n o.length) (atD q n t.length)) (b.length - n) 0
  have hrun : ∀ x, isRun p q n (atD p n o.length) (atD q n t.length) x = true ↔ (p[n + x]? = some (some (atD p n o.length + x)) ∧ q[n + x]? = some (some (atD q n t.length + x))) := fun x => by
    unfold isRun; rw [Bool.and_eq_true, decide_eq_true_iff, decide_eq_true_iff]
  refine ⟨h1, by omega, h3, hyes, fun e => ⟨?_, ?_, by omega⟩, fun h => ?_, fun x hx => (hrun x).1 (r3 x (by omega) hx), by omega⟩
  · unfold atD
    have : p[n]? = none := List.getElem?_eq_none (by omega)
    rw [this]
  · unfold atD
    have : q[n]? = none := List.getElem?_eq_none (by omega)
    rw [this]
  · by_cases e : rn (isRun p q n (atD p n o.length) (atD q n t.length)) (b.length - n) 0 = 0
    · have := r4 (by omega)
      rw [e] at this
      have h0 := (hrun 0).2 (by simpa using hyes h)
      rw [h0] at this
      cases this
    · omega

end Go.Proofs.YtapcnmnnichamaaGreatDoor.Mg

namespace Go.Proofs.YtapcnmnnichamaaGreatDoor.Mg
variable {α : Type} [DecidableEq α]

omit [DecidableEq α] in
theorem cutL2_self (l : List α) (i : Nat) : cutL2 l i i = [] := by simp [cutL2]
omit [DecidableEq α] in
theorem cutL2_drop (l : List α) {i n : Nat} (h : i ≤ n) : cutL2 l i n ++ l.drop n = l.drop i := by
  have : l.drop n = (l.drop i).drop (n - i) := by rw [List.drop_drop]; congr 1; omega
  rw [this]
  exact List.take_append_drop _ _
omit [DecidableEq α] in
theorem cutL2_at (l : List α) (i n x : Nat) (h : x < n - i) : (cutL2 l i n)[x]? = l[i + x]? := by
  unfold cutL2
  rw [List.getElem?_take_of_lt h, List.getElem?_drop]
omit [DecidableEq α] in
theorem cutL2_len (l : List α) {i n : Nat} (h : n ≤ l.length) : (cutL2 l i n).length = n - i := by
  unfold cutL2
  rw [List.length_take, List.length_drop]
  omega

theorem decideC_base (x y z : List α) : (decideC x y z).base = x := by unfold decideC; split; rfl; split <;> rfl
theorem decideC_ours (x y z : List α) : (decideC x y z).ours = y := by unfold decideC; split; rfl; split <;> rfl
theorem decideC_theirs (x y z : List α) : (decideC x y z).theirs = z := by unfold decideC; split; rfl; split <;> rfl

/-- A place behind what has been cut. -/
structure Beh (p : List (Option Nat)) (o : List α) (i j : Nat) : Prop where
  le : j ≤ o.length
  ge : ∀ i' j' : Nat, i ≤ i' → p[i']? = some (some j') → j ≤ j'

omit [DecidableEq α] in
theorem Beh.zero (p : List (Option Nat)) (o : List α) : Beh p o 0 0 := ⟨Nat.zero_le _, fun _ _ _ _ => Nat.zero_le _⟩

omit [DecidableEq α] in
/-- A step in one of the two other texts. -/
theorem Beh.step {p q : List (Option Nat)} {b o t : List α} {i j k n j1 k1 m : Nat} (h : Beh p o i j) (hp : Places p b o) (s : Step p q b o t i j k n j1 k1 m) : j ≤ j1 ∧ j1 + m ≤ o.length ∧ Beh p o (n + m) (j1 + m) := by
  by_cases hn : n < b.length
  · have hy := (s.yes hn).1
    have hm := s.pos hn
    have hlast := (s.run (m - 1) (by omega)).1
    have hlt := (hp.lt hlast).2
    have hle := h.ge n j1 s.le hy
    refine ⟨hle, by omega, ⟨by omega, fun i' j' hi' hj' => ?_⟩⟩
    have := hp.mono (n + (m - 1)) (j1 + (m - 1)) i' j' hlast hj' (by omega)
    omega
  · have he : n = b.length := by have := s.nb; omega
    obtain ⟨h1, h2, h3⟩ := s.fin he
    have := h.le
    refine ⟨by omega, by omega, ⟨by omega, fun i' j' hi' hj' => ?_⟩⟩
    have := (hp.lt hj').1
    omega

omit [DecidableEq α] in
theorem Step.turn {p q : List (Option Nat)} {b o t : List α} {i j k n j1 k1 m : Nat} (s : Step p q b o t i j k n j1 k1 m) : Step q p b t o i k j n k1 j1 m :=
  ⟨s.le, s.nb, fun x h1 h2 => by have := s.no x h1 h2; unfold isK at *; rw [Bool.and_comm]; exact this, fun h => (s.yes h).symm, fun h => ⟨(s.fin h).2.1, (s.fin h).1, (s.fin h).2.2⟩, s.pos, fun x h => (s.run x h).symm, s.nm⟩

omit [DecidableEq α] in
/-- What is kept is the same in both. -/
theorem run_eq {p q : List (Option Nat)} {b o t : List α} {i j k n j1 k1 m : Nat} (hp : Places p b o) (s : Step p q b o t i j k n j1 k1 m) (ho : j1 + m ≤ o.length) : cutL2 b n (n + m) = cutL2 o j1 (j1 + m) := by
  apply List.ext_getElem?
  intro x
  by_cases hx : x < m
  · rw [cutL2_at _ _ _ _ (by omega), cutL2_at _ _ _ _ (by omega)]
    obtain ⟨y, h1, h2⟩ := hp.eq _ _ (s.run x hx).1
    rw [h1, h2]
  · rw [List.getElem?_eq_none (by rw [cutL2_len _ s.nm]; omega), List.getElem?_eq_none (by rw [cutL2_len _ ho]; omega)]

/-- Where something holds of each step's pieces, it holds of all: by induction over the steps. -/
theorem chunks_ind {p q : List (Option Nat)} {b o t : List α} (hp : Places p b o) (hq : Places q b t) (P : Nat → Nat → Nat → List (Ck α) → Prop)
    (fin : P b.length o.length t.length [])
    (step : ∀ i j k n j1 k1 m L, i ≤ b.length → Beh p o i j → Beh q t i k → Step p q b o t i j k n j1 k1 m → ¬(i = b.length ∧ j = o.length ∧ k = t.length) → P (n + m) (j1 + m) (k1 + m) L → P i j k (firstC b o t i j k n j1 k1 ++ (keptC b o t n j1 k1 m ++ L))) :
    ∀ f i j k, b.length < f + i ∨ (i = b.length ∧ j = o.length ∧ k = t.length) → i ≤ b.length → Beh p o i j → Beh q t i k → P i j k (chunks p q b o t f i j k) := by
  intro f
  induction f with
  | zero =>
    intro i j k hf hi _ _
    rcases hf with hf | ⟨rfl, rfl, rfl⟩
    · omega
    · exact fin
  | succ f ih =>
    intro i j k hf hi ha hb
    by_cases he : i = b.length ∧ j = o.length ∧ k = t.length
    · rw [chunks_end _ _ _ _ _ _ _ _ _ he]
      obtain ⟨rfl, rfl, rfl⟩ := he
      exact fin
    · obtain ⟨n, j1, k1, m, s, h1, h2, h3, h4⟩ := step_any p q b o t hp.len hq.len i j k hi
      rw [chunks_step p q b o t f i j k n j1 k1 m h1 h2 h3 h4 he]
      refine step i j k n j1 k1 m _ hi ha hb s he (ih _ _ _ ?_ s.nm (ha.step hp s).2.2 (hb.step hq s.turn).2.2)
      by_cases hn : n < b.length
      · have := s.pos hn
        have := s.le
        left
        rcases hf with hf | hf
        · omega
        · exact absurd hf he
      · have hne : n = b.length := by have := s.nb; omega
        obtain ⟨g1, g2, g3⟩ := s.fin hne
        right
        omega

/-- The pieces put together are the three texts. -/
theorem chunks_parts {p q : List (Option Nat)} {b o t : List α} (hp : Places p b o) (hq : Places q b t) (f i j k : Nat) (hf : b.length < f + i ∨ (i = b.length ∧ j = o.length ∧ k = t.length)) (hi : i ≤ b.length) (ha : Beh p o i j) (hb : Beh q t i k) :
    (chunks p q b o t f i j k).flatMap (·.base) = b.drop i ∧ (chunks p q b o t f i j k).flatMap (·.ours) = o.drop j ∧ (chunks p q b o t f i j k).flatMap (·.theirs) = t.drop k := by
  refine chunks_ind hp hq (fun i j k L => L.flatMap (·.base) = b.drop i ∧ L.flatMap (·.ours) = o.drop j ∧ L.flatMap (·.theirs) = t.drop k) ⟨by simp, by simp, by simp⟩ ?_ f i j k hf hi ha hb
  intro i j k n j1 k1 m L hi ha hb s he ⟨h1, h2, h3⟩
  have hj := (ha.step hp s).1
  have hk := (hb.step hq s.turn).1
  have hn := s.le
  simp only [List.flatMap_append, h1, h2, h3]
  have f1 : (firstC b o t i j k n j1 k1).flatMap (·.base) = cutL2 b i n ∧ (firstC b o t i j k n j1 k1).flatMap (·.ours) = cutL2 o j j1 ∧ (firstC b o t i j k n j1 k1).flatMap (·.theirs) = cutL2 t k k1 := by
    unfold firstC
    split
    · simp [decideC_base, decideC_ours, decideC_theirs]
    · have a1 : i = n := by omega
      have a2 : j = j1 := by omega
      have a3 : k = k1 := by omega
      subst a1; subst a2; subst a3
      simp [cutL2_self]
  have f2 : (keptC b o t n j1 k1 m).flatMap (·.base) = cutL2 b n (n + m) ∧ (keptC b o t n j1 k1 m).flatMap (·.ours) = cutL2 o j1 (j1 + m) ∧ (keptC b o t n j1 k1 m).flatMap (·.theirs) = cutL2 t k1 (k1 + m) := by
    unfold keptC
    split
    · simp
    · have a1 : m = 0 := by omega
      subst a1
      simp [cutL2_self]
  rw [f1.1, f1.2.1, f1.2.2, f2.1, f2.2.1, f2.2.2, cutL2_drop b (by omega), cutL2_drop o (by omega), cutL2_drop t (by omega), cutL2_drop b hn, cutL2_drop o hj, cutL2_drop t hk]
  exact ⟨rfl, rfl, rfl⟩

/-- What each piece is. -/
theorem chunks_all {p q : List (Option Nat)} {b o t : List α} (hp : Places p b o) (hq : Places q b t) (G : Ck α → Prop)
    (first : ∀ i j k n j1 k1 m, Beh p o i j → Beh q t i k → Step p q b o t i j k n j1 k1 m → j ≤ j1 → k ≤ k1 → G (decideC (cutL2 b i n) (cutL2 o j j1) (cutL2 t k k1)))
    (kept : ∀ x : List α, x ≠ [] → G ⟨x, x, x, false, x⟩) : ∀ c ∈ chunks p q b o t (b.length + 1) 0 0 0, G c := by
  have := chunks_ind hp hq (fun i j k L => ∀ c ∈ L, G c) (by simp) ?_ (b.length + 1) 0 0 0 (.inl (by omega)) (Nat.zero_le _) (Beh.zero _ _) (Beh.zero _ _)
  · exact this
  · intro i j k n j1 k1 m L hi ha hb s he hL c hc
    obtain ⟨a1, a2, _⟩ := ha.step hp s
    obtain ⟨b1, b2, _⟩ := hb.step hq s.turn
    rw [List.mem_append, List.mem_append] at hc
    rcases hc with hc | hc | hc
    · unfold firstC at hc
      split at hc
      · rw [List.mem_singleton] at hc
        rw [hc]
        exact first i j k n j1 k1 m ha hb s a1 b1
      · cases hc
    · unfold keptC at hc
      split at hc
      · rw [List.mem_singleton] at hc
        rw [hc, ← run_eq hp s a2, ← run_eq hq s.turn b2]
        refine kept _ fun e => ?_
        have := congrArg List.length e
        rw [cutL2_len _ s.nm] at this
        simp at this
        omega
      · cases hc
    · exact hL c hc

/-- Whether a piece clashes is told by what it is. -/
theorem chunks_clash {p q : List (Option Nat)} {b o t : List α} (hp : Places p b o) (hq : Places q b t) : ∀ c ∈ chunks p q b o t (b.length + 1) 0 0 0, c.clash = true ↔ (c.out = [] ∧ c.ours ≠ c.base ∧ c.theirs ≠ c.base ∧ c.ours ≠ c.theirs) := by
  refine chunks_all hp hq _ ?_ ?_
  · intro i j k n j1 k1 m _ _ _ _ _
    unfold decideC
    split
    · rename_i h; simp [h]
    · rename_i h
      split
      · rename_i h2
        simp
        intro _ _ h3
        rcases h2 with h2 | h2
        · exact absurd h2 h3
        · exact h2
      · rename_i h2
        rw [not_or] at h2
        simp [h, h2]
  · intro x hx
    simp

end Go.Proofs.YtapcnmnnichamaaGreatDoor.Mg

namespace Go.Proofs.YtapcnmnnichamaaGreatDoor.Mg
variable {α : Type} [DecidableEq α]

theorem ed_self (b : List α) : ed b b = b.map fun x => (1, x) := by
  induction b with
  | nil => rfl
  | cons x b ih => rw [ed_cons, if_pos rfl, ih]; rfl

/-- Pieces where the third text lies as the first one does. -/
theorem sides_theirs {p q : List (Option Nat)} {b o : List α} (hp : Places p b o) (hq : Places q b b) (hid : ∀ i j : Nat, q[i]? = some (some j) → j = i) : ∀ c ∈ chunks p q b o b (b.length + 1) 0 0 0, c.clash = false ∧ c.out = c.ours := by
  refine chunks_ind hp hq (fun i _ k L => k = i → ∀ c ∈ L, c.clash = false ∧ c.out = c.ours) (by simp) ?_ (b.length + 1) 0 0 0 (.inl (by omega)) (Nat.zero_le _) (Beh.zero _ _) (Beh.zero _ _) rfl
  intro i j k n j1 k1 m L hi ha hb s he hL hk c hc
  subst hk
  have hk1 : k1 = n := by
    by_cases hn : n < b.length
    · exact hid _ _ (s.yes hn).2
    · have := s.nb; have := (s.fin (by omega)).2.1; omega
  subst hk1
  obtain ⟨_, a2, _⟩ := ha.step hp s
  rw [List.mem_append, List.mem_append] at hc
  rcases hc with hc | hc | hc
  · unfold firstC at hc
    split at hc
    · rw [List.mem_singleton] at hc
      rw [hc]
      unfold decideC
      split
      · rename_i h; exact ⟨rfl, h.symm⟩
      · rw [if_pos (.inl rfl)]; exact ⟨rfl, rfl⟩
    · cases hc
  · unfold keptC at hc
    split at hc
    · rw [List.mem_singleton] at hc
      rw [hc]
      exact ⟨rfl, run_eq hp s a2⟩
    · cases hc
  · exact hL rfl c hc

theorem sides_ours {p q : List (Option Nat)} {b t : List α} (hp : Places p b b) (hq : Places q b t) (hid : ∀ i j : Nat, p[i]? = some (some j) → j = i) : ∀ c ∈ chunks p q b b t (b.length + 1) 0 0 0, c.clash = false ∧ c.out = c.theirs := by
  refine chunks_ind hp hq (fun i j _ L => j = i → ∀ c ∈ L, c.clash = false ∧ c.out = c.theirs) (by simp) ?_ (b.length + 1) 0 0 0 (.inl (by omega)) (Nat.zero_le _) (Beh.zero _ _) (Beh.zero _ _) rfl
  intro i j k n j1 k1 m L hi ha hb s he hL hk c hc
  subst hk
  have hk1 : j1 = n := by
    by_cases hn : n < b.length
    · exact hid _ _ (s.yes hn).1
    · have := s.nb; have := (s.fin (by omega)).1; omega
  subst hk1
  obtain ⟨_, b2, _⟩ := hb.step hq s.turn
  rw [List.mem_append, List.mem_append] at hc
  rcases hc with hc | hc | hc
  · unfold firstC at hc
    split at hc
    · rw [List.mem_singleton] at hc
      rw [hc]
      unfold decideC
      rw [if_pos rfl]
      exact ⟨rfl, rfl⟩
    · cases hc
  · unfold keptC at hc
    split at hc
    · rw [List.mem_singleton] at hc
      rw [hc]
      exact ⟨rfl, run_eq hq s.turn b2⟩
    · cases hc
  · exact hL rfl c hc

theorem sides_both {p : List (Option Nat)} {b o : List α} (hp : Places p b o) : ∀ c ∈ chunks p p b o o (b.length + 1) 0 0 0, c.clash = false ∧ c.out = c.ours := by
  refine chunks_ind hp hp (fun _ j k L => k = j → ∀ c ∈ L, c.clash = false ∧ c.out = c.ours) (by simp) ?_ (b.length + 1) 0 0 0 (.inl (by omega)) (Nat.zero_le _) (Beh.zero _ _) (Beh.zero _ _) rfl
  intro i j k n j1 k1 m L hi ha hb s he hL hk c hc
  subst hk
  have hk1 : k1 = j1 := by
    by_cases hn : n < b.length
    · have h1 := (s.yes hn).1
      have h2 := (s.yes hn).2
      rw [h1] at h2
      injection h2 with h2
      injection h2 with h2
      exact h2.symm
    · have := s.nb; have := s.fin (by omega); omega
  subst hk1
  obtain ⟨_, a2, _⟩ := ha.step hp s
  rw [List.mem_append, List.mem_append] at hc
  rcases hc with hc | hc | hc
  · unfold firstC at hc
    split at hc
    · rw [List.mem_singleton] at hc
      rw [hc]
      unfold decideC
      split
      · exact ⟨rfl, rfl⟩
      · rw [if_pos (.inr rfl)]; exact ⟨rfl, rfl⟩
    · cases hc
  · unfold keptC at hc
    split at hc
    · rw [List.mem_singleton] at hc
      rw [hc]
      exact ⟨rfl, run_eq hp s a2⟩
    · cases hc
  · exact hL rfl c hc

/-- A piece with its sides turned. -/
def turnC (c : Ck α) : Ck α := ⟨c.base, c.theirs, c.ours, c.clash, c.out⟩

theorem decideC_turn (x y z : List α) : decideC x z y = turnC (decideC x y z) := by
  unfold decideC turnC
  by_cases h1 : y = x
  · by_cases h2 : z = x
    · simp [h1, h2]
    · simp [h1, h2]
  · by_cases h2 : z = x
    · simp [h1, h2]
    · by_cases h3 : y = z
      · simp [h3, h2]
      · simp [h1, h2, h3]
        exact fun e => h3 e.symm

theorem chunks_turn (p q : List (Option Nat)) (b o t : List α) : ∀ f i j k, chunks q p b t o f i k j = (chunks p q b o t f i j k).map turnC := by
  have hK : isK q p = isK p q := by funext x; unfold isK; rw [Bool.and_comm]
  have hR : ∀ n j k, isRun q p n k j = isRun p q n j k := by intro n j k; funext x; unfold isRun; rw [Bool.and_comm]
  intro f
  induction f with
  | zero => intro i j k; rfl
  | succ f ih =>
    intro i j k
    by_cases he : i = b.length ∧ j = o.length ∧ k = t.length
    · rw [chunks_end _ _ _ _ _ _ _ _ _ he, chunks_end _ _ _ _ _ _ _ _ _ ⟨he.1, he.2.2, he.2.1⟩]
      rfl
    · rw [chunks_step p q b o t f i j k _ _ _ _ rfl rfl rfl rfl he, chunks_step q p b t o f i k j _ _ _ _ rfl rfl rfl rfl (fun h => he ⟨h.1, h.2.2, h.2.1⟩), hK, hR]
      rw [List.map_append, List.map_append, ih]
      congr 1
      · unfold firstC
        by_cases h : i < nx (isK p q) (b.length - i) i ∨ j < atD p (nx (isK p q) (b.length - i) i) o.length ∨ k < atD q (nx (isK p q) (b.length - i) i) t.length
        · rw [if_pos h, if_pos (by rcases h with h | h | h <;> simp [h]), decideC_turn]
          rfl
        · rw [if_neg h, if_neg (by intro h'; rcases h' with h' | h' | h' <;> simp [h'] at h)]
          rfl
      · congr 1
        unfold keptC
        split <;> rfl

/-! ### Two changes far from each other -/

theorem lc_self (b : List α) : lc b b = b.length := Nat.le_antisymm (lc_le_left b b) (lc_ge b b b (List.Sublist.refl _) (List.Sublist.refl _))

theorem ed_ahead {x a : α} {R : List α} (hx : x ≠ a) (hR : a ∉ R) : ed (x :: R) (a :: R) = (2, x) :: (3, a) :: R.map fun y => (1, y) := by
  rw [ed_cons, if_neg hx]
  have h1 := lc_le_right (x :: R) R
  have h2 := lc_ge R R (a :: R) (List.Sublist.refl _) (List.sublist_cons_self _ _)
  rw [if_pos (by omega)]
  congr 1
  cases R with
  | nil => rfl
  | cons r R =>
    have hr : r ≠ a := fun e => hR (by simp [e])
    have h3 := lc_self (r :: R)
    have h4 := lc_le_left R (a :: r :: R)
    simp only [List.length_cons] at h3
    rw [ed_cons, if_neg hr, if_neg (by omega), ed_self]

theorem ed_behind {y c : α} (hy : y ≠ c) (L : List α) : ed (L ++ [y]) (L ++ [c]) = (L.map fun x => (1, x)) ++ [(2, y), (3, c)] := by
  induction L with
  | nil =>
    simp only [List.nil_append, List.map_nil]
    rw [ed_cons, if_neg hy, lc_nil_right, if_pos (Nat.zero_le _)]
    rfl
  | cons x L ih =>
    simp only [List.cons_append, List.map_cons]
    rw [ed_cons, if_pos rfl, ih]

omit [DecidableEq α] in
theorem pls_keep (L : List α) (l : List (Nat × α)) : ∀ a i, (pls ((L.map fun x => (1, x)) ++ l) a)[i]? = if i < L.length then some (some (a + i)) else (pls l (a + L.length))[i - L.length]? := by
  induction L with
  | nil => intro a i; simp
  | cons x L ih =>
    intro a i
    simp only [List.map_cons, List.cons_append, pls, if_true]
    cases i with
    | zero => simp
    | succ i =>
      rw [List.getElem?_cons_succ, ih]
      simp only [List.length_cons]
      by_cases h : i < L.length
      · rw [if_pos h, if_pos (by omega)]; congr 2; omega
      · rw [if_neg h, if_neg (by omega), show a + 1 + L.length = a + (L.length + 1) by omega, show i + 1 - (L.length + 1) = i - L.length by omega]

/-- What comes of two changes, one ahead of the lines between and one behind them. -/
theorem far_out {x a y c : α} {mid : List α} (hm : mid ≠ []) {p q : List (Option Nat)} (hp : Places p (x :: (mid ++ [y])) (a :: (mid ++ [y]))) (hq : Places q (x :: (mid ++ [y])) (x :: (mid ++ [c])))
    (p1 : ∀ i, 1 ≤ i → i ≤ mid.length + 1 → p[i]? = some (some i)) (p0 : ∀ j : Nat, p[0]? ≠ some (some j))
    (q1 : ∀ i, i ≤ mid.length → q[i]? = some (some i)) (q0 : ∀ j : Nat, q[mid.length + 1]? ≠ some (some j)) :
    (∀ d ∈ chunks p q (x :: (mid ++ [y])) (a :: (mid ++ [y])) (x :: (mid ++ [c])) (mid.length + 3) 0 0 0, d.clash = false) ∧
    (chunks p q (x :: (mid ++ [y])) (a :: (mid ++ [y])) (x :: (mid ++ [c])) (mid.length + 3) 0 0 0).flatMap (·.out) = a :: (mid ++ [c]) := by
  have hlen : (x :: (mid ++ [y])).length = mid.length + 2 := by simp
  have hlo : (a :: (mid ++ [y])).length = mid.length + 2 := by simp
  have hlt : (x :: (mid ++ [c])).length = mid.length + 2 := by simp
  have hml : 0 < mid.length := List.length_pos_iff.2 hm
  have T1 : ∀ i, 1 ≤ i → (a :: (mid ++ [c]))[i]? = (x :: (mid ++ [c]))[i]? := by intro i hi; obtain ⟨i, rfl⟩ : ∃ z, i = z + 1 := ⟨i - 1, by omega⟩; rfl
  have O1 : ∀ i, 1 ≤ i → (a :: (mid ++ [y]))[i]? = (x :: (mid ++ [y]))[i]? := by intro i hi; obtain ⟨i, rfl⟩ : ∃ z, i = z + 1 := ⟨i - 1, by omega⟩; rfl
  have B1 : ∀ i, i ≤ mid.length → (x :: (mid ++ [c]))[i]? = (x :: (mid ++ [y]))[i]? := by
    intro i hi
    cases i with
    | zero => rfl
    | succ i => simp only [List.getElem?_cons_succ]; rw [List.getElem?_append_left (by omega), List.getElem?_append_left (by omega)]
  have main := chunks_ind hp hq (fun i j k L => j = i → k = i → (∀ d ∈ L, d.clash = false) ∧ L.flatMap (·.out) = (a :: (mid ++ [c])).drop i) (fun _ _ => ⟨by simp, by rw [hlen]; simp⟩) ?_ (mid.length + 3) 0 0 0 (.inl (by rw [hlen]; omega)) (Nat.zero_le _) (Beh.zero _ _) (Beh.zero _ _) rfl rfl
  · exact main
  · intro i j k n j1 k1 m L hi ha hb s he hL hj hk
    subst hj
    subst hk
    have hnb := s.nb
    rw [hlen] at hnb
    have hj1 : j1 = n := by
      by_cases hn : n < mid.length + 2
      · have h1 := (s.yes (by rw [hlen]; exact hn)).1
        by_cases h0 : n = 0
        · subst h0; exact absurd h1 (p0 _)
        · rw [p1 n (by omega) (by omega)] at h1
          injection h1 with h1
          injection h1 with h1
          exact h1.symm
      · have := (s.fin (by rw [hlen]; omega)).1; rw [hlo] at this; omega
    have hk1 : k1 = n := by
      by_cases hn : n < mid.length + 2
      · have h1 := (s.yes (by rw [hlen]; exact hn)).2
        by_cases h0 : n = mid.length + 1
        · subst h0; exact absurd h1 (q0 _)
        · rw [q1 n (by omega)] at h1
          injection h1 with h1
          injection h1 with h1
          exact h1.symm
      · have := (s.fin (by rw [hlen]; omega)).2.1; rw [hlt] at this; omega
    subst hj1
    subst hk1
    obtain ⟨l1, l2⟩ := hL rfl rfl
    have hin := s.le
    have hnm := s.nm
    rw [hlen] at hnm
    have hkept : ∀ z, 1 ≤ z → z ≤ mid.length → isK p q z = true := by
      intro z h1 h2
      unfold isK
      rw [p1 z h1 (by omega), q1 z h2]
      rfl
    -- the piece that is not kept
    have hfirst : (∀ d ∈ firstC (x :: (mid ++ [y])) (a :: (mid ++ [y])) (x :: (mid ++ [c])) k k k k1 k1 k1, d.clash = false) ∧ (firstC (x :: (mid ++ [y])) (a :: (mid ++ [y])) (x :: (mid ++ [c])) k k k k1 k1 k1).flatMap (·.out) = cutL2 (a :: (mid ++ [c])) k k1 := by
      by_cases hlt' : k < k1
      · have hno := s.no k (Nat.le_refl _) hlt'
        have hcase : k = 0 ∨ k = mid.length + 1 := by
          by_cases h0 : k = 0
          · exact .inl h0
          · by_cases h1 : k ≤ mid.length
            · have := hkept k (by omega) h1; rw [this] at hno; cases hno
            · right; omega
        unfold firstC
        rw [if_pos (.inl hlt')]
        rcases hcase with rfl | rfl
        · have hk1' : k1 = 1 := by
            by_cases h1 : k1 = 1
            · exact h1
            · have := s.no 1 (by omega) (by omega)
              rw [hkept 1 (by omega) (by omega)] at this
              cases this
          subst hk1'
          simp only [cutL2, decideC, List.drop_zero, Nat.sub_zero, List.take_succ_cons, List.take_zero]
          by_cases hax : a = x
          · simp [hax]
          · simp [hax]
        · have hk1' : k1 = mid.length + 2 := by omega
          subst hk1'
          have e1 : cutL2 (a :: (mid ++ [y])) (mid.length + 1) (mid.length + 2) = [y] := by simp [cutL2]
          have e2 : cutL2 (x :: (mid ++ [y])) (mid.length + 1) (mid.length + 2) = [y] := by simp [cutL2]
          have e3 : cutL2 (x :: (mid ++ [c])) (mid.length + 1) (mid.length + 2) = [c] := by simp [cutL2]
          have e4 : cutL2 (a :: (mid ++ [c])) (mid.length + 1) (mid.length + 2) = [c] := by simp [cutL2]
          rw [e1, e2, e3, e4]
          simp [decideC]
      · have : k = k1 := by omega
        subst this
        simp [firstC, cutL2_self]
    have hsecond : (∀ d ∈ keptC (x :: (mid ++ [y])) (a :: (mid ++ [y])) (x :: (mid ++ [c])) k1 k1 k1 m, d.clash = false) ∧ (keptC (x :: (mid ++ [y])) (a :: (mid ++ [y])) (x :: (mid ++ [c])) k1 k1 k1 m).flatMap (·.out) = cutL2 (a :: (mid ++ [c])) k1 (k1 + m) := by
      by_cases hm0 : 0 < m
      · unfold keptC
        rw [if_pos hm0]
        refine ⟨by simp, ?_⟩
        simp only [List.flatMap_cons, List.flatMap_nil, List.append_nil]
        apply List.ext_getElem?
        intro z
        by_cases hz : z < m
        · rw [cutL2_at _ _ _ _ (by omega), cutL2_at _ _ _ _ (by omega)]
          have hr := s.run z hz
          have hne0 : k1 + z ≠ 0 := fun e => by rw [e] at hr; exact p0 _ hr.1
          have hne1 : k1 + z ≠ mid.length + 1 := fun e => by rw [e] at hr; exact q0 _ hr.2
          rw [T1 _ (by omega), B1 _ (by omega)]
        · rw [List.getElem?_eq_none (by rw [cutL2_len _ s.nm]; omega), List.getElem?_eq_none (by rw [cutL2_len _ (by simp; omega)]; omega)]
      · have : m = 0 := by omega
        subst this
        simp [keptC, cutL2_self]
    refine ⟨fun d hd => ?_, ?_⟩
    · rw [List.mem_append, List.mem_append] at hd
      rcases hd with hd | hd | hd
      · exact hfirst.1 d hd
      · exact hsecond.1 d hd
      · exact l1 d hd
    · rw [List.flatMap_append, List.flatMap_append, hfirst.2, hsecond.2, l2, cutL2_drop _ (by omega), cutL2_drop _ hin]

end Go.Proofs.YtapcnmnnichamaaGreatDoor.Mg

namespace Go.Proofs.YtapcnmnnichamaaGreatDoor.Mg
open Go.RowKit

def pz : Option Nat → Value
  | some j => .int .i64 (j : Int)
  | none => .int .i64 (-1)
def Pl (w : World) (v : Value) (p : List (Option Nat)) : Prop := w.ownsRow 0 3 1 v p.length (p.map pz)

theorem Pl.cell {w : World} {v : Value} {p : List (Option Nat)} (h : Pl w v p) {i : Nat} {x : Option Nat} (hi : p[i]? = some x) : ∃ g c, v = .slice (some ⟨g, 0, none⟩) p.length c ∧ w.cell? ⟨g, i, none⟩ = some (pz x) := by
  have hl := (List.getElem?_eq_some_iff.1 hi).1
  rcases id h.2 with ⟨_, h0⟩ | ⟨g, cap, cur, rfl, _⟩
  · omega
  · refine ⟨g, cap, rfl, ?_⟩
    rw [World.ownsRow.cellAt h i (by omega)]
    simp [hi]
theorem Pl.below {w w' : World} {v : Value} {p : List (Option Nat)} (h : Pl w v p) (hb : Below w.heap.size w w') : Pl w' v p := own_keep h hb

/-- The type of a block's cells. -/
def Ty (w : World) (g : Nat) (t : TypeId) : Prop := ∃ cur, w.heap[g]? = some (.cells cur t (0, 0))
theorem Ty.same {w w' : World} {g : Nat} {t : TypeId} (h : Ty w g t) (hb : w'.heap[g]? = w.heap[g]?) : Ty w' g t := by
  obtain ⟨cur, hc⟩ := h
  exact ⟨cur, hb.trans hc⟩
theorem Ty.lt {w : World} {g : Nat} {t : TypeId} (h : Ty w g t) : g < w.heap.size := by
  obtain ⟨cur, hc⟩ := h
  exact (Array.getElem?_eq_some_iff.1 hc).1
theorem Ty.ne {w : World} {a b : Nat} {s t : TypeId} (h : Ty w a s) (k : Ty w b t) (hne : s ≠ t) : a ≠ b := by
  obtain ⟨cur, hc⟩ := h
  obtain ⟨cur', hc'⟩ := k
  rintro rfl
  rw [hc] at hc'
  injection hc' with e
  injection e with _ e2
  exact hne e2
theorem Ty.set {w : World} {g : Nat} {t : TypeId} (h : Ty w g t) (b k : Nat) (v : Value) : Ty (w.setCell ⟨b, k, none⟩ v) g t := by
  obtain ⟨cur, hc⟩ := h
  by_cases e : g = b
  · subst e
    exact ⟨cur.setIfInBounds k v, by simp [World.setCell, Array.getElem?_modify, hc]⟩
  · exact ⟨cur, (Below.heap_setCell _ _ _ _ e).trans hc⟩
theorem own_ty {w : World} {base : Nat} {e : TypeId} {size n : Nat} {v : Value} {xs : List Value} (h : w.ownsRow base e size v n xs) {g : Nat} (hg : v.ownBlock = some g) : Ty w g e := by
  rcases h.2 with ⟨rfl, _⟩ | ⟨g', cap, cur, rfl, _, hgg, _⟩
  · simp [Value.ownBlock] at hg
  · simp [Value.ownBlock] at hg
    subst hg
    exact ⟨cur, hgg⟩
theorem own_apart {w : World} {base : Nat} {e t : TypeId} {size n : Nat} {v : Value} {xs : List Value} (h : w.ownsRow base e size v n xs) {g : Nat} (k : Ty w g t) (hne : e ≠ t) : v.ownBlock ≠ some g := fun hg => (own_ty h hg).ne k hne rfl

/-- The cutter's nine cells. -/
structure Cutr (w : World) (C : Nat) (v0 v1 v2 v3 v4 v5 v6 v7 v8 : Value) : Prop where
  c0 : w.cell? ⟨C, 0, none⟩ = some v0
  c1 : w.cell? ⟨C, 1, none⟩ = some v1
  c2 : w.cell? ⟨C, 2, none⟩ = some v2
  c3 : w.cell? ⟨C, 3, none⟩ = some v3
  c4 : w.cell? ⟨C, 4, none⟩ = some v4
  c5 : w.cell? ⟨C, 5, none⟩ = some v5
  c6 : w.cell? ⟨C, 6, none⟩ = some v6
  c7 : w.cell? ⟨C, 7, none⟩ = some v7
  c8 : w.cell? ⟨C, 8, none⟩ = some v8
  z : ∀ k : Nat, w.frozen? ⟨C, k, none⟩ = false
  ty : Ty w C 190

theorem Cutr.lt {w : World} {C : Nat} {v0 v1 v2 v3 v4 v5 v6 v7 v8 : Value} (h : Cutr w C v0 v1 v2 v3 v4 v5 v6 v7 v8) : C < w.heap.size := World.block_lt_of_cell? w _ h.c0
theorem Cutr.below {w w' : World} {C : Nat} {v0 v1 v2 v3 v4 v5 v6 v7 v8 : Value} (h : Cutr w C v0 v1 v2 v3 v4 v5 v6 v7 v8) (hb : Below w.heap.size w w') : Cutr w' C v0 v1 v2 v3 v4 v5 v6 v7 v8 := by
  have hc : ∀ k : Nat, w'.cell? ⟨C, k, none⟩ = w.cell? ⟨C, k, none⟩ := fun k => hb.cell (p := ⟨C, k, none⟩) h.lt
  exact ⟨(hc 0).trans h.c0, (hc 1).trans h.c1, (hc 2).trans h.c2, (hc 3).trans h.c3, (hc 4).trans h.c4, (hc 5).trans h.c5, (hc 6).trans h.c6, (hc 7).trans h.c7, (hc 8).trans h.c8, fun k => (hb.frozen (p := ⟨C, k, none⟩) h.lt).trans (h.z k), h.ty.same (hb.block C h.lt)⟩

theorem pz_nowhere (x : Option Nat) : ∃ z : Int, pz x = .int .i64 z ∧ (z != -1) = isSome2 (some x) := by
  cases x with
  | none => exact ⟨-1, rfl, rfl⟩
  | some j => exact ⟨j, rfl, by rw [show isSome2 (some (some j)) = true from rfl, bne_iff_ne]; omega⟩

set_option maxHeartbeats 1000000 in
theorem isKept_any (w : World) (C n c i : Nat) (A : Option Addr) (vo vt vp vq v5 v6 v7 v8 : Value) (p q : List (Option Nat)) (h : Cutr w C (.slice A n c) vo vt vp vq v5 v6 v7 v8) (hp : Pl w vp p) (hq : Pl w vq q) (lp : p.length = n) (lq : q.length = n) :
    Calls Tryz.prog 130 #[.pointer (some ⟨C, 0, none⟩), .int .i64 i] w fun e w' => e = .returned (.bool (isK p q i)) ∧ w = w' := by
  have t0 := h.c0
  have t3 := h.c3
  have t4 := h.c4
  have i0 : (0 : Int) ≤ (i : Int) := Int.natCast_nonneg _
  clear h
  by_cases hi : i < n
  · obtain ⟨x, hx⟩ : ∃ x, p[i]? = some x := ⟨_, List.getElem?_eq_getElem (by omega)⟩
    obtain ⟨y, hy⟩ : ∃ y, q[i]? = some y := ⟨_, List.getElem?_eq_getElem (by omega)⟩
    obtain ⟨g1, d1, rfl, k1⟩ := hp.cell hx
    obtain ⟨g2, d2, rfl, k2⟩ := hq.cell hy
    have i1 : (i : Int) < (n : Int) := by omega
    have i2 : (i : Int) < (p.length : Int) := by omega
    have i3 : (i : Int) < (q.length : Int) := by omega
    obtain ⟨zx, ex, fx⟩ := pz_nowhere x
    obtain ⟨zy, ey, fy⟩ := pz_nowhere y
    rw [ex] at k1
    rw [ey] at k2
    have HK : Hid (isK p q i = (isSome2 (some x) && isSome2 (some y))) := by unfold isK; rw [hx, hy]; rfl
    have LP := Lib.hid lp
    have LQ := Lib.hid lq
    clear hx hy hp hq ex ey lp lq
    cases h1 : isSome2 (some x) with
    | false =>
      rw [h1] at fx HK
      clear h1 fy
      go_enter Tryz.func130, Tryz.ntmps130
      go_wp2
      go_ret
      exact ⟨by rw [HK.out]; rfl, rfl⟩
    | true =>
      rw [h1] at fx HK
      cases h2 : isSome2 (some y) with
      | false =>
        rw [h2] at fy HK
        clear h1 h2
        go_enter Tryz.func130, Tryz.ntmps130
        go_wp2
        go_ret
        exact ⟨by rw [HK.out]; rfl, rfl⟩
      | true =>
        rw [h2] at fy HK
        clear h1 h2
        go_enter Tryz.func130, Tryz.ntmps130
        go_wp2
        go_ret
        exact ⟨by rw [HK.out]; rfl, rfl⟩
  · have HK : Hid (isK p q i = false) := by
      unfold isK
      rw [List.getElem?_eq_none (by omega)]
      rfl
    clear hp hq lp lq
    go_enter Tryz.func130, Tryz.ntmps130
    go_wp2
    go_ret
    exact ⟨by rw [HK.out]; rfl, rfl⟩

end Go.Proofs.YtapcnmnnichamaaGreatDoor.Mg

namespace Go.Proofs.YtapcnmnnichamaaGreatDoor.Mg
open Go.RowKit

theorem nx_fix (k : Nat → Bool) (f i : Nat) (h : k i = true) : nx k f i = i := by
  cases f with
  | zero => rfl
  | succ f => rw [nx, if_pos h]
theorem nx_next (k : Nat → Bool) (f i : Nat) (h : k i = false) (hf : 0 < f) : nx k f i = nx k (f - 1) (i + 1) := by
  obtain ⟨f, rfl⟩ : ∃ g, f = g + 1 := ⟨f - 1, by omega⟩
  rw [nx, if_neg (by simp [h])]
  rfl

set_option maxHeartbeats 1000000 in
theorem nextKept_any (w : World) (C n c i : Nat) (A : Option Addr) (vo vt vp vq v6 v7 v8 : Value) (p q : List (Option Nat)) (h : Cutr w C (.slice A n c) vo vt vp vq (.int .i64 (i : Int)) v6 v7 v8) (hp : Pl w vp p) (hq : Pl w vq q) (lp : p.length = n) (lq : q.length = n) (hn : n ≤ 1000) (hi : i ≤ n) :
    Calls Tryz.prog 107 #[.pointer (some ⟨C, 0, none⟩)] w fun e w' => e = .returned (.int .i64 (nx (isK p q) (n - i) i : Nat)) ∧ w = w' := by
  have IK := fun (m : Nat) => isKept_any w C n c m A vo vt vp vq (.int .i64 (i : Int)) v6 v7 v8 p q h hp hq lp lq
  have HIK := Lib.hid IK
  have t0 := h.c0
  have t5 := h.c5
  clear h hp hq lp lq IK
  go_enter Tryz.func107, Tryz.ntmps107
  go_wp2
  go_loop [3] (fun s3 => ∃ m : Nat, m ≤ n ∧ s3 = .int .i64 m ∧ Hid (nx (isK p q) (n - m) m = nx (isK p q) (n - i) i)) (fun s3 => n - (intOf s3).toNat)
  case atStart => exact ⟨i, hi, rfl, rfl⟩
  case round =>
    obtain ⟨m, hm, rfl, hx⟩ := hrel
    have m0 : (0 : Int) ≤ (m : Int) := Int.natCast_nonneg _
    by_cases hlt : m < n
    · cases hk : isK p q m with
      | true =>
        have HF := Lib.hid (nx_fix (isK p q) (n - m) m hk)
        have IKm := HIK.out m
        rw [hk] at IKm
        have HIKm := Lib.hid IKm
        clear hk IKm
        go_wp2_with fail
        refine HIKm.out.mono ?_
        rintro e w' ⟨rfl, rfl⟩
        go_wp2
        go_ret
        exact ⟨congrArg (fun z : Nat => Ending.returned (.int .i64 (z : Int))) (HF.out.symm.trans hx.out), rfl⟩
      | false =>
        have HF := Lib.hid (nx_next (isK p q) (n - m) m hk (by omega))
        have IKm := HIK.out m
        rw [hk] at IKm
        have HIKm := Lib.hid IKm
        clear hk IKm
        go_wp2_with fail
        refine HIKm.out.mono ?_
        rintro e w' ⟨rfl, rfl⟩
        go_wp2
        go_round
        case rel => exact ⟨m + 1, by omega, by go_num, by have := HF.out.symm.trans hx.out; rw [show n - m - 1 = n - (m + 1) by omega] at this; exact this⟩
        case measure => simp [intOf]; omega
    · obtain rfl : m = n := by omega
      have HF : Hid (nx (isK p q) (m - m) m = m) := by rw [Nat.sub_self]; rfl
      go_wp2
      go_ret
      exact ⟨congrArg (fun z : Nat => Ending.returned (.int .i64 (z : Int))) (HF.out.symm.trans hx.out), rfl⟩

/-- A bool; at most draws. -/
def Says (b : Bool) (w : World) (e : Ending) (w' : World) : Prop := ∃ q, e = .returned (.bool b) ∧ w' = w.drewN q

set_option maxHeartbeats 1000000 in
theorem ended_any (w : World) (C n c m d r f i j k : Nat) (A B D : Option Addr) (vp vq v8 : Value) (h : Cutr w C (.slice A n c) (.slice B m d) (.slice D r f) vp vq (.int .i64 (i : Int)) (.int .i64 (j : Int)) (.int .i64 (k : Int)) v8) :
    Calls Tryz.prog 105 #[.pointer (some ⟨C, 0, none⟩)] w (Says (decide (i = n ∧ j = m ∧ k = r)) w) := by
  have t0 := h.c0
  have t1 := h.c1
  have t2 := h.c2
  have t5 := h.c5
  have t6 := h.c6
  have t7 := h.c7
  clear h
  by_cases h1 : i = n
  · have b1 : ((i : Int) == (n : Int)) = true := by rw [beq_iff_eq]; omega
    by_cases h2 : j = m
    · have b2 : ((j : Int) == (m : Int)) = true := by rw [beq_iff_eq]; omega
      by_cases h3 : k = r
      · have b3 : ((k : Int) == (r : Int)) = true := by rw [beq_iff_eq]; omega
        have HD := Lib.hid (decide_eq_true (show i = n ∧ j = m ∧ k = r from ⟨h1, h2, h3⟩))
        clear h1 h2 h3
        go_enter Tryz.func105, Tryz.ntmps105
        go_wp2_with fail
        go_quiet (fail)
        go_wp2
        go_ret
        exact ⟨_, by rw [HD.out]; rfl, rfl⟩
      · have b3 : ((k : Int) == (r : Int)) = false := by rw [beq_eq_false_iff_ne]; omega
        have HD := Lib.hid (decide_eq_false (show ¬(i = n ∧ j = m ∧ k = r) from fun e => h3 e.2.2))
        clear h1 h2 h3
        go_enter Tryz.func105, Tryz.ntmps105
        go_wp2_with fail
        go_quiet (fail)
        go_wp2
        go_ret
        exact ⟨_, by rw [HD.out]; rfl, rfl⟩
    · have b2 : ((j : Int) == (m : Int)) = false := by rw [beq_eq_false_iff_ne]; omega
      have HD := Lib.hid (decide_eq_false (show ¬(i = n ∧ j = m ∧ k = r) from fun e => h2 e.2.1))
      clear h1 h2
      go_enter Tryz.func105, Tryz.ntmps105
      go_wp2_with fail
      go_quiet (fail)
      go_wp2
      go_ret
      exact ⟨_, by rw [HD.out]; rfl, rfl⟩
  · have b1 : ((i : Int) == (n : Int)) = false := by rw [beq_eq_false_iff_ne]; omega
    have HD := Lib.hid (decide_eq_false (show ¬(i = n ∧ j = m ∧ k = r) from fun e => h1 e.1))
    clear h1
    go_enter Tryz.func105, Tryz.ntmps105
    go_wp2_with fail
    go_quiet (fail)
    go_wp2
    go_ret
    exact ⟨_, by rw [HD.out]; rfl, rfl⟩

end Go.Proofs.YtapcnmnnichamaaGreatDoor.Mg

namespace Go.Proofs.YtapcnmnnichamaaGreatDoor.Mg
open Go.RowKit

theorem pls_snoc {α : Type} (k : Nat) (x : α) : ∀ (l : List (Nat × α)) (a : Nat), (∀ e ∈ l, e.1 = 1 ∨ e.1 = 2 ∨ e.1 = 3) → pls (l ++ [(k, x)]) a = pls l a ++ (if k = 1 then [some (a + (edB l).length)] else if k = 2 then [none] else []) := by
  intro l
  induction l with
  | nil => intro a _; simp [pls, edB]
  | cons e l ih =>
    intro a h
    obtain ⟨op, y⟩ := e
    have ih := fun a => ih a (fun e he => h e (List.mem_cons_of_mem _ he))
    have hk := h (op, y) (List.mem_cons_self ..)
    simp only at hk
    have e1 : ∀ n : Nat, a + 1 + n = a + (n + 1) := fun n => by omega
    have e2 : ∀ n : Nat, a + (n + 1) = a + 1 + n := fun n => by omega
    clear e1
    rcases hk with rfl | rfl | rfl
    all_goals
      by_cases h1 : k = 1
      · subst h1
        simp [pls, edB_cons, ih]
        try exact (e2 _).symm
      · by_cases h2 : k = 2
        · subst h2
          simp [pls, ih]
        · simp [pls, ih, h1, h2]

theorem edB_take' (l : List (Nat × ByteArray)) (k : Nat) {op : Nat} {s : ByteArray} (h : l[k]? = some (op, s)) : (edB (l.take (k + 1))).length = (edB (l.take k)).length + (if op = 2 then 0 else 1) := by
  rw [List.take_add_one, h]
  unfold edB
  rw [List.filter_append, List.map_append, List.length_append]
  congr 1
  by_cases e : op = 2 <;> simp [e]

theorem pls_take (l : List (Nat × ByteArray)) (hops : ∀ e ∈ l, e.1 = 1 ∨ e.1 = 2 ∨ e.1 = 3) (k : Nat) {op : Nat} {s : ByteArray} (h : l[k]? = some (op, s)) :
    pls (l.take (k + 1)) 0 = pls (l.take k) 0 ++ (if op = 1 then [some (edB (l.take k)).length] else if op = 2 then [none] else []) := by
  rw [List.take_add_one, h]
  have := pls_snoc op s (l.take k) 0 (fun e he => hops e (List.mem_of_mem_take he))
  rw [Nat.zero_add] at this
  exact this

theorem edB_len' (l : List (Nat × ByteArray)) (k : Nat) : (edB (l.take k)).length ≤ k := by
  unfold edB
  rw [List.length_map]
  have := List.length_filter_le (fun e : Nat × ByteArray => e.1 != 2) (l.take k)
  rw [List.length_take] at this
  omega
theorem pls_len' (l : List (Nat × ByteArray)) : ∀ a, (pls l a).length ≤ l.length := by
  induction l with
  | nil => intro a; simp [pls]
  | cons e l ih =>
    intro a
    simp only [pls]
    split
    · simp only [List.length_cons]; have := ih (a + 1); omega
    · split
      · simp only [List.length_cons]; have := ih a; omega
      · have := ih (a + 1); simp only [List.length_cons]; omega

theorem edCells_at {l : List (Nat × ByteArray)} : ∀ {i k : Nat} {s : ByteArray}, l[i]? = some (k, s) → (edCells l)[i * 2]? = some (.int .i64 (k : Int)) ∧ (edCells l)[i * 2 + 1]? = some (.string s) := by
  induction l with
  | nil => intro i k s h; simp at h
  | cons x l ih =>
    intro i k s h
    have hc : edCells (x :: l) = .int .i64 (x.1 : Int) :: .string x.2 :: edCells l := rfl
    rw [hc]
    cases i with
    | zero => simp at h; subst h; exact ⟨rfl, rfl⟩
    | succ i =>
      rw [show (i + 1) * 2 = i * 2 + 1 + 1 by omega]
      simp only [List.getElem?_cons_succ] at h ⊢
      exact ih h

theorem own2_at {w : World} {base g cap : Nat} {e : TypeId} {n : Nat} {xs : List Value} (h : w.ownsRow base e 2 (.slice (some ⟨g, 0, none⟩) n cap) n xs) {i : Nat} {x : Value} (hi : xs[i]? = some x) : w.cell? ⟨g, i, none⟩ = some x := by
  rw [h.cellAt i (by rw [← h.1]; exact (List.getElem?_eq_some_iff.1 hi).1)]
  exact hi

theorem intInfo3 : (Tryz.prog.info? 3).map (fun i => (i.zero, i.size, i.bytes)) = some (some (.int .i64 0), 1, 8) := by kernel_rfl

/-- The places come back in a row of the call's own. -/
def Placed (w : World) (p : List (Option Nat)) (e : Ending) (w' : World) : Prop := ∃ v, e = .returned v ∧ w'.ownsRow w.heap.size 3 1 v p.length (p.map pz) ∧ Below w.heap.size w w'

set_option maxRecDepth 100000 in
set_option maxHeartbeats 4000000 in
theorem places_any (w : World) (base : Nat) (v : Value) (l : List (Nat × ByteArray)) (h : w.ownsRow base 216 2 v l.length (edCells l)) (hl : l.length ≤ 600) (hops : ∀ e ∈ l, e.1 = 1 ∨ e.1 = 2 ∨ e.1 = 3) :
    Calls Tryz.prog 104 #[v] w (Placed w (pls l 0)) := by
  have HH := Lib.hid h
  have HOP := Lib.hid hops
  obtain ⟨i0, hi, hz0, hz1, hz2⟩ := info_parts intInfo3
  obtain ⟨A, m, c, rfl⟩ : ∃ A m c, v = .slice A m c := by
    rcases h.2 with ⟨rfl, _⟩ | ⟨g, cap, cur, rfl, _⟩
    · exact ⟨_, _, _, rfl⟩
    · exact ⟨_, _, _, rfl⟩
  obtain rfl : m = l.length := by
    rcases h.2 with ⟨e, e2⟩ | ⟨g, cap, cur, e, _⟩
    · cases e; exact e2.symm
    · cases e; rfl
  clear h hops
  go_enter Tryz.func104, Tryz.ntmps104
  go_wp2
  go_loopw [3, 4, 9] (fun s3 s4 s9 wr => ∃ k : Nat, k ≤ l.length ∧ s9 = .int .i64 k ∧ s4 = .int .i64 ((edB (l.take k)).length : Nat) ∧ wr.ownsRow w.heap.size 3 1 s3 (pls (l.take k) 0).length ((pls (l.take k) 0).map pz) ∧ Below w.heap.size w wr) (fun _ _ s9 _ => l.length - (intOf s9).toNat)
  case atStart => exact ⟨0, Nat.zero_le _, rfl, rfl, World.ownsRow_nil _ _ _ _, Below.refl _ _⟩
  case round =>
    obtain ⟨k, hk, rfl, rfl, hown, hb⟩ := hrel
    have k0 : (0 : Int) ≤ (k : Int) := Int.natCast_nonneg _
    have lB := edB_len' l k
    have lP := pls_len' (l.take k) 0
    rw [List.length_take] at lP
    by_cases hlt : k < l.length
    · obtain ⟨⟨op, s⟩, hs⟩ : ∃ x, l[k]? = some x := ⟨_, List.getElem?_eq_getElem hlt⟩
      have ho := own2_keep HH.out hb
      obtain ⟨g, rfl⟩ : ∃ g, A = some ⟨g, 0, none⟩ := by
        rcases ho.2 with ⟨_, e2⟩ | ⟨g, cap, cur, e, _⟩
        · omega
        · cases e; exact ⟨_, rfl⟩
      have k1 : (k : Int) < (l.length : Int) := by omega
      obtain ⟨x1, x2⟩ := edCells_at hs
      have c1 := own2_at ho x1
      have c2 := own2_at ho x2
      have eB := Lib.hid (edB_take' l k hs)
      have eP := Lib.hid (pls_take l HOP.out k hs)
      have hop := HOP.out _ (List.mem_of_getElem? hs)
      simp only at hop
      clear ho x1 x2 hs
      generalize hq : (edB (l.take k)).length = q at *
      generalize hP : pls (l.take k) 0 = P at *
      clear hq hP
      rcases hop with rfl | rfl | rfl
      · have hown4 := (hown.alloc (.cells #[.int .i64 1, .string s] 216)).alloc (.cells #[.int .i64 (q : Int)] 3)
        have hnews := World.news_of_block (cs := #[.int .i64 (q : Int)]) (t := 3) (fr := (0, 0)) (heap_alloc_new (wr.alloc (.cells #[.int .i64 1, .string s] 216)) (.cells #[.int .i64 (q : Int)] 3))
        rw [show (wr.alloc (.cells #[.int .i64 1, .string s] 216)).heap.size = wr.heap.size + 1 from by simp] at hnews
        have hb4 := (hb.alloc hb.size (.cells #[.int .i64 1, .string s] 216)).alloc (by have := hb.size; simp; omega) (.cells #[.int .i64 (q : Int)] 3)
        have hsz4 := hb4.size
        go_wp2_with (at_builtin; refine wpList_append_own _ rfl _ _ 187 rfl w.heap.size 3 i0 (.int .i64 0) 1 8 Tryz.underlying187 hi hz0 hz1 hz2 rfl (by decide) _ _ _ rfl hown4 ⟨wr.heap.size + 1, 0, none⟩ 1 1 [.int .i64 (q : Int)] rfl rfl hnews (by simp [Value.oneCell']) (by unfold maxLen; omega) (by omega) hsz4 ?_; intro v5 w5 hown5 hg5 _; have hb5 : Below w.heap.size w w5 := hb4.grown hg5 hsz4 (fun z hz => (hown.lt z hz).1); clear hnews hown4 hg5 hb4)
        go_roundw
        case rel => exact ⟨k + 1, by omega, by go_num, by rw [eB.out, if_neg (by omega)]; go_num, by rw [eP.out, if_pos rfl, List.length_append, List.map_append]; exact hown5, hb5⟩
        case measure => simp [intOf]; omega
      · have hown4 := (hown.alloc (.cells #[.int .i64 2, .string s] 216)).alloc (.cells #[.int .i64 (-1)] 3)
        have hnews := World.news_of_block (cs := #[.int .i64 (-1)]) (t := 3) (fr := (0, 0)) (heap_alloc_new (wr.alloc (.cells #[.int .i64 2, .string s] 216)) (.cells #[.int .i64 (-1)] 3))
        rw [show (wr.alloc (.cells #[.int .i64 2, .string s] 216)).heap.size = wr.heap.size + 1 from by simp] at hnews
        have hb4 := (hb.alloc hb.size (.cells #[.int .i64 2, .string s] 216)).alloc (by have := hb.size; simp; omega) (.cells #[.int .i64 (-1)] 3)
        have hsz4 := hb4.size
        go_wp2_with (at_builtin; refine wpList_append_own _ rfl _ _ 187 rfl w.heap.size 3 i0 (.int .i64 0) 1 8 Tryz.underlying187 hi hz0 hz1 hz2 rfl (by decide) _ _ _ rfl hown4 ⟨wr.heap.size + 1, 0, none⟩ 1 1 [.int .i64 (-1)] rfl rfl hnews (by simp [Value.oneCell']) (by unfold maxLen; omega) (by omega) hsz4 ?_; intro v5 w5 hown5 hg5 _; have hb5 : Below w.heap.size w w5 := hb4.grown hg5 hsz4 (fun z hz => (hown.lt z hz).1); clear hnews hown4 hg5 hb4)
        go_roundw
        case rel => exact ⟨k + 1, by omega, by go_num, by rw [eB.out, if_pos rfl]; rfl, by rw [eP.out, if_neg (by omega), if_pos rfl, List.length_append, List.map_append]; exact hown5, hb5⟩
        case measure => simp [intOf]; omega
      · go_wp2
        go_roundw
        case rel => exact ⟨k + 1, by omega, by go_num, by rw [eB.out, if_neg (by omega)]; go_num, by rw [eP.out, if_neg (by omega), if_neg (by omega), List.append_nil]; exact hown.alloc _, hb.alloc hb.size _⟩
        case measure => simp [intOf]; omega
    · obtain rfl : k = l.length := by omega
      rw [List.take_length] at hown
      go_wp2
      go_ret
      exact ⟨u3, rfl, hown, hb⟩

end Go.Proofs.YtapcnmnnichamaaGreatDoor.Mg
