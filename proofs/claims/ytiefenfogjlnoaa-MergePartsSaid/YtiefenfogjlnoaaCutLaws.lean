/-
  What the cut of three texts is, by plain lists: the parts, the sides, turned.
-/
import Derived.Test.YtiefenfogjlnoaaCut
namespace Go.Proofs.Ytiefenfogjlnoaa
variable {α : Type} [DecidableEq α]

omit [DecidableEq α] in
theorem cutL2_self (l : List α) (i : Nat) : cutL2 l i i = [] := by simp [cutL2]
omit [DecidableEq α] in
theorem cutL2_drop (l : List α) {i n : Nat} (h : i ≤ n) : cutL2 l i n ++ l.drop n = l.drop i := by
  have : l.drop n = (l.drop i).drop (n - i) := by rw [List.drop_drop]; congr 1; omega
  rw [this]
  exact List.take_append_drop _ _
omit [DecidableEq α] in
theorem cutL2_at (l : List α) (i n x : Nat) (h : x < n - i) : (cutL2 l i n)[x]? = l[i + x]? := by
  unfold cutL2
  rw [List.getElem?_take_of_lt h, List.getElem?_drop]
omit [DecidableEq α] in
theorem cutL2_len (l : List α) {i n : Nat} (h : n ≤ l.length) : (cutL2 l i n).length = n - i := by
  unfold cutL2
  rw [List.length_take, List.length_drop]
  omega

theorem decideC_base (x y z : List α) : (decideC x y z).base = x := by unfold decideC; split; rfl; split <;> rfl
theorem decideC_ours (x y z : List α) : (decideC x y z).ours = y := by unfold decideC; split; rfl; split <;> rfl
theorem decideC_theirs (x y z : List α) : (decideC x y z).theirs = z := by unfold decideC; split; rfl; split <;> rfl

/-- A place behind what has been cut. -/
structure Beh (p : List (Option Nat)) (o : List α) (i j : Nat) : Prop where
  le : j ≤ o.length
  ge : ∀ i' j' : Nat, i ≤ i' → p[i']? = some (some j') → j ≤ j'

omit [DecidableEq α] in
theorem Beh.zero (p : List (Option Nat)) (o : List α) : Beh p o 0 0 := ⟨Nat.zero_le _, fun _ _ _ _ => Nat.zero_le _⟩

omit [DecidableEq α] in
/-- A step in one of the two other texts. -/
theorem Beh.step {p q : List (Option Nat)} {b o t : List α} {i j k n j1 k1 m : Nat} (h : Beh p o i j) (hp : Places p b o) (s : Step p q b o t i j k n j1 k1 m) : j ≤ j1 ∧ j1 + m ≤ o.length ∧ Beh p o (n + m) (j1 + m) := by
  by_cases hn : n < b.length
  · have hy := (s.yes hn).1
    have hm := s.pos hn
    have hlast := (s.run (m - 1) (by omega)).1
    have hlt := (hp.lt hlast).2
    have hle := h.ge n j1 s.le hy
    refine ⟨hle, by omega, ⟨by omega, fun i' j' hi' hj' => ?_⟩⟩
    have := hp.mono (n + (m - 1)) (j1 + (m - 1)) i' j' hlast hj' (by omega)
    omega
  · have he : n = b.length := by have := s.nb; omega
    obtain ⟨h1, h2, h3⟩ := s.fin he
    have := h.le
    refine ⟨by omega, by omega, ⟨by omega, fun i' j' hi' hj' => ?_⟩⟩
    have := (hp.lt hj').1
    omega

omit [DecidableEq α] in
theorem Step.turn {p q : List (Option Nat)} {b o t : List α} {i j k n j1 k1 m : Nat} (s : Step p q b o t i j k n j1 k1 m) : Step q p b t o i k j n k1 j1 m :=
  ⟨s.le, s.nb, fun x h1 h2 => by have := s.no x h1 h2; unfold isK at *; rw [Bool.and_comm]; exact this, fun h => (s.yes h).symm, fun h => ⟨(s.fin h).2.1, (s.fin h).1, (s.fin h).2.2⟩, s.pos, fun x h => (s.run x h).symm, s.nm⟩

omit [DecidableEq α] in
/-- What is kept is the same in both. -/
theorem run_eq {p q : List (Option Nat)} {b o t : List α} {i j k n j1 k1 m : Nat} (hp : Places p b o) (s : Step p q b o t i j k n j1 k1 m) (ho : j1 + m ≤ o.length) : cutL2 b n (n + m) = cutL2 o j1 (j1 + m) := by
  apply List.ext_getElem?
  intro x
  by_cases hx : x < m
  · rw [cutL2_at _ _ _ _ (by omega), cutL2_at _ _ _ _ (by omega)]
    obtain ⟨y, h1, h2⟩ := hp.eq _ _ (s.run x hx).1
    rw [h1, h2]
  · rw [List.getElem?_eq_none (by rw [cutL2_len _ s.nm]; omega), List.getElem?_eq_none (by rw [cutL2_len _ ho]; omega)]

/-- Where something holds of each step's pieces, it holds of all: by induction over the steps. -/
theorem chunks_ind {p q : List (Option Nat)} {b o t : List α} (hp : Places p b o) (hq : Places q b t) (P : Nat → Nat → Nat → List (Ck α) → Prop)
    (fin : P b.length o.length t.length [])
    (step : ∀ i j k n j1 k1 m L, i ≤ b.length → Beh p o i j → Beh q t i k → Step p q b o t i j k n j1 k1 m → ¬(i = b.length ∧ j = o.length ∧ k = t.length) → P (n + m) (j1 + m) (k1 + m) L → P i j k (firstC b o t i j k n j1 k1 ++ (keptC b o t n j1 k1 m ++ L))) :
    ∀ f i j k, b.length < f + i ∨ (i = b.length ∧ j = o.length ∧ k = t.length) → i ≤ b.length → Beh p o i j → Beh q t i k → P i j k (chunks p q b o t f i j k) := by
  intro f
  induction f with
  | zero =>
    intro i j k hf hi _ _
    rcases hf with hf | ⟨rfl, rfl, rfl⟩
    · omega
    · exact fin
  | succ f ih =>
    intro i j k hf hi ha hb
    by_cases he : i = b.length ∧ j = o.length ∧ k = t.length
    · rw [chunks_end _ _ _ _ _ _ _ _ _ he]
      obtain ⟨rfl, rfl, rfl⟩ := he
      exact fin
    · obtain ⟨n, j1, k1, m, s, h1, h2, h3, h4⟩ := step_any p q b o t hp.len hq.len i j k hi
      rw [chunks_step p q b o t f i j k n j1 k1 m h1 h2 h3 h4 he]
      refine step i j k n j1 k1 m _ hi ha hb s he (ih _ _ _ ?_ s.nm (ha.step hp s).2.2 (hb.step hq s.turn).2.2)
      by_cases hn : n < b.length
      · have := s.pos hn
        have := s.le
        left
        rcases hf with hf | hf
        · omega
        · exact absurd hf he
      · have hne : n = b.length := by have := s.nb; omega
        obtain ⟨g1, g2, g3⟩ := s.fin hne
        right
        omega

/-- The pieces put together are the three texts. -/
theorem chunks_parts {p q : List (Option Nat)} {b o t : List α} (hp : Places p b o) (hq : Places q b t) (f i j k : Nat) (hf : b.length < f + i ∨ (i = b.length ∧ j = o.length ∧ k = t.length)) (hi : i ≤ b.length) (ha : Beh p o i j) (hb : Beh q t i k) :
    (chunks p q b o t f i j k).flatMap (·.base) = b.drop i ∧ (chunks p q b o t f i j k).flatMap (·.ours) = o.drop j ∧ (chunks p q b o t f i j k).flatMap (·.theirs) = t.drop k := by
  refine chunks_ind hp hq (fun i j k L => L.flatMap (·.base) = b.drop i ∧ L.flatMap (·.ours) = o.drop j ∧ L.flatMap (·.theirs) = t.drop k) ⟨by simp, by simp, by simp⟩ ?_ f i j k hf hi ha hb
  intro i j k n j1 k1 m L hi ha hb s he ⟨h1, h2, h3⟩
  have hj := (ha.step hp s).1
  have hk := (hb.step hq s.turn).1
  have hn := s.le
  simp only [List.flatMap_append, h1, h2, h3]
  have f1 : (firstC b o t i j k n j1 k1).flatMap (·.base) = cutL2 b i n ∧ (firstC b o t i j k n j1 k1).flatMap (·.ours) = cutL2 o j j1 ∧ (firstC b o t i j k n j1 k1).flatMap (·.theirs) = cutL2 t k k1 := by
    unfold firstC
    split
    · simp [decideC_base, decideC_ours, decideC_theirs]
    · have a1 : i = n := by omega
      have a2 : j = j1 := by omega
      have a3 : k = k1 := by omega
      subst a1; subst a2; subst a3
      simp [cutL2_self]
  have f2 : (keptC b o t n j1 k1 m).flatMap (·.base) = cutL2 b n (n + m) ∧ (keptC b o t n j1 k1 m).flatMap (·.ours) = cutL2 o j1 (j1 + m) ∧ (keptC b o t n j1 k1 m).flatMap (·.theirs) = cutL2 t k1 (k1 + m) := by
    unfold keptC
    split
    · simp
    · have a1 : m = 0 := by omega
      subst a1
      simp [cutL2_self]
  rw [f1.1, f1.2.1, f1.2.2, f2.1, f2.2.1, f2.2.2, cutL2_drop b (by omega), cutL2_drop o (by omega), cutL2_drop t (by omega), cutL2_drop b hn, cutL2_drop o hj, cutL2_drop t hk]
  exact ⟨rfl, rfl, rfl⟩

/-- What each piece is. -/
theorem chunks_all {p q : List (Option Nat)} {b o t : List α} (hp : Places p b o) (hq : Places q b t) (G : Ck α → Prop)
    (first : ∀ i j k n j1 k1 m, Beh p o i j → Beh q t i k → Step p q b o t i j k n j1 k1 m → j ≤ j1 → k ≤ k1 → G (decideC (cutL2 b i n) (cutL2 o j j1) (cutL2 t k k1)))
    (kept : ∀ x : List α, x ≠ [] → G ⟨x, x, x, false, x⟩) : ∀ c ∈ chunks p q b o t (b.length + 1) 0 0 0, G c := by
  have := chunks_ind hp hq (fun i j k L => ∀ c ∈ L, G c) (by simp) ?_ (b.length + 1) 0 0 0 (.inl (by omega)) (Nat.zero_le _) (Beh.zero _ _) (Beh.zero _ _)
  · exact this
  · intro i j k n j1 k1 m L hi ha hb s he hL c hc
    obtain ⟨a1, a2, _⟩ := ha.step hp s
    obtain ⟨b1, b2, _⟩ := hb.step hq s.turn
    rw [List.mem_append, List.mem_append] at hc
    rcases hc with hc | hc | hc
    · unfold firstC at hc
      split at hc
      · rw [List.mem_singleton] at hc
        rw [hc]
        exact first i j k n j1 k1 m ha hb s a1 b1
      · cases hc
    · unfold keptC at hc
      split at hc
      · rw [List.mem_singleton] at hc
        rw [hc, ← run_eq hp s a2, ← run_eq hq s.turn b2]
        refine kept _ fun e => ?_
        have := congrArg List.length e
        rw [cutL2_len _ s.nm] at this
        simp at this
        omega
      · cases hc
    · exact hL c hc

/-- Whether a piece clashes is told by what it is. -/
theorem chunks_clash {p q : List (Option Nat)} {b o t : List α} (hp : Places p b o) (hq : Places q b t) : ∀ c ∈ chunks p q b o t (b.length + 1) 0 0 0, c.clash = true ↔ (c.out = [] ∧ c.ours ≠ c.base ∧ c.theirs ≠ c.base ∧ c.ours ≠ c.theirs) := by
  refine chunks_all hp hq _ ?_ ?_
  · intro i j k n j1 k1 m _ _ _ _ _
    unfold decideC
    split
    · rename_i h; simp [h]
    · rename_i h
      split
      · rename_i h2
        simp
        intro _ _ h3
        rcases h2 with h2 | h2
        · exact absurd h2 h3
        · exact h2
      · rename_i h2
        rw [not_or] at h2
        simp [h, h2]
  · intro x hx
    simp

end Go.Proofs.Ytiefenfogjlnoaa
