/-
  The cut of three texts: where a side is as it was; turned; two changes far from each other.
-/
import Derived.Test.YtiefenfogjlnoaaCutLaws
namespace Go.Proofs.Ytiefenfogjlnoaa
variable {α : Type} [DecidableEq α]

theorem ed_self (b : List α) : ed b b = b.map fun x => (1, x) := by
  induction b with
  | nil => rfl
  | cons x b ih => rw [ed_cons, if_pos rfl, ih]; rfl

/-- Pieces where the third text lies as the first one does. -/
theorem sides_theirs {p q : List (Option Nat)} {b o : List α} (hp : Places p b o) (hq : Places q b b) (hid : ∀ i j : Nat, q[i]? = some (some j) → j = i) : ∀ c ∈ chunks p q b o b (b.length + 1) 0 0 0, c.clash = false ∧ c.out = c.ours := by
  refine chunks_ind hp hq (fun i _ k L => k = i → ∀ c ∈ L, c.clash = false ∧ c.out = c.ours) (by simp) ?_ (b.length + 1) 0 0 0 (.inl (by omega)) (Nat.zero_le _) (Beh.zero _ _) (Beh.zero _ _) rfl
  intro i j k n j1 k1 m L hi ha hb s he hL hk c hc
  subst hk
  have hk1 : k1 = n := by
    by_cases hn : n < b.length
    · exact hid _ _ (s.yes hn).2
    · have := s.nb; have := (s.fin (by omega)).2.1; omega
  subst hk1
  obtain ⟨_, a2, _⟩ := ha.step hp s
  rw [List.mem_append, List.mem_append] at hc
  rcases hc with hc | hc | hc
  · unfold firstC at hc
    split at hc
    · rw [List.mem_singleton] at hc
      rw [hc]
      unfold decideC
      split
      · rename_i h; exact ⟨rfl, h.symm⟩
      · rw [if_pos (.inl rfl)]; exact ⟨rfl, rfl⟩
    · cases hc
  · unfold keptC at hc
    split at hc
    · rw [List.mem_singleton] at hc
      rw [hc]
      exact ⟨rfl, run_eq hp s a2⟩
    · cases hc
  · exact hL rfl c hc

theorem sides_ours {p q : List (Option Nat)} {b t : List α} (hp : Places p b b) (hq : Places q b t) (hid : ∀ i j : Nat, p[i]? = some (some j) → j = i) : ∀ c ∈ chunks p q b b t (b.length + 1) 0 0 0, c.clash = false ∧ c.out = c.theirs := by
  refine chunks_ind hp hq (fun i j _ L => j = i → ∀ c ∈ L, c.clash = false ∧ c.out = c.theirs) (by simp) ?_ (b.length + 1) 0 0 0 (.inl (by omega)) (Nat.zero_le _) (Beh.zero _ _) (Beh.zero _ _) rfl
  intro i j k n j1 k1 m L hi ha hb s he hL hk c hc
  subst hk
  have hk1 : j1 = n := by
    by_cases hn : n < b.length
    · exact hid _ _ (s.yes hn).1
    · have := s.nb; have := (s.fin (by omega)).1; omega
  subst hk1
  obtain ⟨_, b2, _⟩ := hb.step hq s.turn
  rw [List.mem_append, List.mem_append] at hc
  rcases hc with hc | hc | hc
  · unfold firstC at hc
    split at hc
    · rw [List.mem_singleton] at hc
      rw [hc]
      unfold decideC
      rw [if_pos rfl]
      exact ⟨rfl, rfl⟩
    · cases hc
  · unfold keptC at hc
    split at hc
    · rw [List.mem_singleton] at hc
      rw [hc]
      exact ⟨rfl, run_eq hq s.turn b2⟩
    · cases hc
  · exact hL rfl c hc

theorem sides_both {p : List (Option Nat)} {b o : List α} (hp : Places p b o) : ∀ c ∈ chunks p p b o o (b.length + 1) 0 0 0, c.clash = false ∧ c.out = c.ours := by
  refine chunks_ind hp hp (fun _ j k L => k = j → ∀ c ∈ L, c.clash = false ∧ c.out = c.ours) (by simp) ?_ (b.length + 1) 0 0 0 (.inl (by omega)) (Nat.zero_le _) (Beh.zero _ _) (Beh.zero _ _) rfl
  intro i j k n j1 k1 m L hi ha hb s he hL hk c hc
  subst hk
  have hk1 : k1 = j1 := by
    by_cases hn : n < b.length
    · have h1 := (s.yes hn).1
      have h2 := (s.yes hn).2
      rw [h1] at h2
      injection h2 with h2
      injection h2 with h2
      exact h2.symm
    · have := s.nb; have := s.fin (by omega); omega
  subst hk1
  obtain ⟨_, a2, _⟩ := ha.step hp s
  rw [List.mem_append, List.mem_append] at hc
  rcases hc with hc | hc | hc
  · unfold firstC at hc
    split at hc
    · rw [List.mem_singleton] at hc
      rw [hc]
      unfold decideC
      split
      · exact ⟨rfl, rfl⟩
      · rw [if_pos (.inr rfl)]; exact ⟨rfl, rfl⟩
    · cases hc
  · unfold keptC at hc
    split at hc
    · rw [List.mem_singleton] at hc
      rw [hc]
      exact ⟨rfl, run_eq hp s a2⟩
    · cases hc
  · exact hL rfl c hc

/-- A piece with its sides turned. -/
def turnC (c : Ck α) : Ck α := ⟨c.base, c.theirs, c.ours, c.clash, c.out⟩

theorem decideC_turn (x y z : List α) : decideC x z y = turnC (decideC x y z) := by
  unfold decideC turnC
  by_cases h1 : y = x
  · by_cases h2 : z = x
    · simp [h1, h2]
    · simp [h1, h2]
  · by_cases h2 : z = x
    · simp [h1, h2]
    · by_cases h3 : y = z
      · simp [h3, h2]
      · simp [h1, h2, h3]
        exact fun e => h3 e.symm

theorem chunks_turn (p q : List (Option Nat)) (b o t : List α) : ∀ f i j k, chunks q p b t o f i k j = (chunks p q b o t f i j k).map turnC := by
  have hK : isK q p = isK p q := by funext x; unfold isK; rw [Bool.and_comm]
  have hR : ∀ n j k, isRun q p n k j = isRun p q n j k := by intro n j k; funext x; unfold isRun; rw [Bool.and_comm]
  intro f
  induction f with
  | zero => intro i j k; rfl
  | succ f ih =>
    intro i j k
    by_cases he : i = b.length ∧ j = o.length ∧ k = t.length
    · rw [chunks_end _ _ _ _ _ _ _ _ _ he, chunks_end _ _ _ _ _ _ _ _ _ ⟨he.1, he.2.2, he.2.1⟩]
      rfl
    · rw [chunks_step p q b o t f i j k _ _ _ _ rfl rfl rfl rfl he, chunks_step q p b t o f i k j _ _ _ _ rfl rfl rfl rfl (fun h => he ⟨h.1, h.2.2, h.2.1⟩), hK, hR]
      rw [List.map_append, List.map_append, ih]
      congr 1
      · unfold firstC
        by_cases h : i < nx (isK p q) (b.length - i) i ∨ j < atD p (nx (isK p q) (b.length - i) i) o.length ∨ k < atD q (nx (isK p q) (b.length - i) i) t.length
        · rw [if_pos h, if_pos (by rcases h with h | h | h <;> simp [h]), decideC_turn]
          rfl
        · rw [if_neg h, if_neg (by intro h'; rcases h' with h' | h' | h' <;> simp [h'] at h)]
          rfl
      · congr 1
        unfold keptC
        split <;> rfl

/-! ### Two changes far from each other -/

theorem lc_self (b : List α) : lc b b = b.length := Nat.le_antisymm (lc_le_left b b) (lc_ge b b b (List.Sublist.refl _) (List.Sublist.refl _))

theorem ed_ahead {x a : α} {R : List α} (hx : x ≠ a) (hR : a ∉ R) : ed (x :: R) (a :: R) = (2, x) :: (3, a) :: R.map fun y => (1, y) := by
  rw [ed_cons, if_neg hx]
  have h1 := lc_le_right (x :: R) R
  have h2 := lc_ge R R (a :: R) (List.Sublist.refl _) (List.sublist_cons_self _ _)
  rw [if_pos (by omega)]
  congr 1
  cases R with
  | nil => rfl
  | cons r R =>
    have hr : r ≠ a := fun e => hR (by simp [e])
    have h3 := lc_self (r :: R)
    have h4 := lc_le_left R (a :: r :: R)
    simp only [List.length_cons] at h3
    rw [ed_cons, if_neg hr, if_neg (by omega), ed_self]

theorem ed_behind {y c : α} (hy : y ≠ c) (L : List α) : ed (L ++ [y]) (L ++ [c]) = (L.map fun x => (1, x)) ++ [(2, y), (3, c)] := by
  induction L with
  | nil =>
    simp only [List.nil_append, List.map_nil]
    rw [ed_cons, if_neg hy, lc_nil_right, if_pos (Nat.zero_le _)]
    rfl
  | cons x L ih =>
    simp only [List.cons_append, List.map_cons]
    rw [ed_cons, if_pos rfl, ih]

omit [DecidableEq α] in
theorem pls_keep (L : List α) (l : List (Nat × α)) : ∀ a i, (pls ((L.map fun x => (1, x)) ++ l) a)[i]? = if i < L.length then some (some (a + i)) else (pls l (a + L.length))[i - L.length]? := by
  induction L with
  | nil => intro a i; simp
  | cons x L ih =>
    intro a i
    simp only [List.map_cons, List.cons_append, pls, if_true]
    cases i with
    | zero => simp
    | succ i =>
      rw [List.getElem?_cons_succ, ih]
      simp only [List.length_cons]
      by_cases h : i < L.length
      · rw [if_pos h, if_pos (by omega)]; congr 2; omega
      · rw [if_neg h, if_neg (by omega), show a + 1 + L.length = a + (L.length + 1) by omega, show i + 1 - (L.length + 1) = i - L.length by omega]

/-- What comes of two changes, one ahead of the lines between and one behind them. -/
theorem far_out {x a y c : α} {mid : List α} (hm : mid ≠ []) {p q : List (Option Nat)} (hp : Places p (x :: (mid ++ [y])) (a :: (mid ++ [y]))) (hq : Places q (x :: (mid ++ [y])) (x :: (mid ++ [c])))
    (p1 : ∀ i, 1 ≤ i → i ≤ mid.length + 1 → p[i]? = some (some i)) (p0 : ∀ j : Nat, p[0]? ≠ some (some j))
    (q1 : ∀ i, i ≤ mid.length → q[i]? = some (some i)) (q0 : ∀ j : Nat, q[mid.length + 1]? ≠ some (some j)) :
    (∀ d ∈ chunks p q (x :: (mid ++ [y])) (a :: (mid ++ [y])) (x :: (mid ++ [c])) (mid.length + 3) 0 0 0, d.clash = false) ∧
    (chunks p q (x :: (mid ++ [y])) (a :: (mid ++ [y])) (x :: (mid ++ [c])) (mid.length + 3) 0 0 0).flatMap (·.out) = a :: (mid ++ [c]) := by
  have hlen : (x :: (mid ++ [y])).length = mid.length + 2 := by simp
  have hlo : (a :: (mid ++ [y])).length = mid.length + 2 := by simp
  have hlt : (x :: (mid ++ [c])).length = mid.length + 2 := by simp
  have hml : 0 < mid.length := List.length_pos_iff.2 hm
  have T1 : ∀ i, 1 ≤ i → (a :: (mid ++ [c]))[i]? = (x :: (mid ++ [c]))[i]? := by intro i hi; obtain ⟨i, rfl⟩ : ∃ z, i = z + 1 := ⟨i - 1, by omega⟩; rfl
  have O1 : ∀ i, 1 ≤ i → (a :: (mid ++ [y]))[i]? = (x :: (mid ++ [y]))[i]? := by intro i hi; obtain ⟨i, rfl⟩ : ∃ z, i = z + 1 := ⟨i - 1, by omega⟩; rfl
  have B1 : ∀ i, i ≤ mid.length → (x :: (mid ++ [c]))[i]? = (x :: (mid ++ [y]))[i]? := by
    intro i hi
    cases i with
    | zero => rfl
    | succ i => simp only [List.getElem?_cons_succ]; rw [List.getElem?_append_left (by omega), List.getElem?_append_left (by omega)]
  have main := chunks_ind hp hq (fun i j k L => j = i → k = i → (∀ d ∈ L, d.clash = false) ∧ L.flatMap (·.out) = (a :: (mid ++ [c])).drop i) (fun _ _ => ⟨by simp, by rw [hlen]; simp⟩) ?_ (mid.length + 3) 0 0 0 (.inl (by rw [hlen]; omega)) (Nat.zero_le _) (Beh.zero _ _) (Beh.zero _ _) rfl rfl
  · exact main
  · intro i j k n j1 k1 m L hi ha hb s he hL hj hk
    subst hj
    subst hk
    have hnb := s.nb
    rw [hlen] at hnb
    have hj1 : j1 = n := by
      by_cases hn : n < mid.length + 2
      · have h1 := (s.yes (by rw [hlen]; exact hn)).1
        by_cases h0 : n = 0
        · subst h0; exact absurd h1 (p0 _)
        · rw [p1 n (by omega) (by omega)] at h1
          injection h1 with h1
          injection h1 with h1
          exact h1.symm
      · have := (s.fin (by rw [hlen]; omega)).1; rw [hlo] at this; omega
    have hk1 : k1 = n := by
      by_cases hn : n < mid.length + 2
      · have h1 := (s.yes (by rw [hlen]; exact hn)).2
        by_cases h0 : n = mid.length + 1
        · subst h0; exact absurd h1 (q0 _)
        · rw [q1 n (by omega)] at h1
          injection h1 with h1
          injection h1 with h1
          exact h1.symm
      · have := (s.fin (by rw [hlen]; omega)).2.1; rw [hlt] at this; omega
    subst hj1
    subst hk1
    obtain ⟨l1, l2⟩ := hL rfl rfl
    have hin := s.le
    have hnm := s.nm
    rw [hlen] at hnm
    have hkept : ∀ z, 1 ≤ z → z ≤ mid.length → isK p q z = true := by
      intro z h1 h2
      unfold isK
      rw [p1 z h1 (by omega), q1 z h2]
      rfl
    -- the piece that is not kept
    have hfirst : (∀ d ∈ firstC (x :: (mid ++ [y])) (a :: (mid ++ [y])) (x :: (mid ++ [c])) k k k k1 k1 k1, d.clash = false) ∧ (firstC (x :: (mid ++ [y])) (a :: (mid ++ [y])) (x :: (mid ++ [c])) k k k k1 k1 k1).flatMap (·.out) = cutL2 (a :: (mid ++ [c])) k k1 := by
      by_cases hlt' : k < k1
      · have hno := s.no k (Nat.le_refl _) hlt'
        have hcase : k = 0 ∨ k = mid.length + 1 := by
          by_cases h0 : k = 0
          · exact .inl h0
          · by_cases h1 : k ≤ mid.length
            · have := hkept k (by omega) h1; rw [this] at hno; cases hno
            · right; omega
        unfold firstC
        rw [if_pos (.inl hlt')]
        rcases hcase with rfl | rfl
        · have hk1' : k1 = 1 := by
            by_cases h1 : k1 = 1
            · exact h1
            · have := s.no 1 (by omega) (by omega)
              rw [hkept 1 (by omega) (by omega)] at this
              cases this
          subst hk1'
          simp only [cutL2, decideC, List.drop_zero, Nat.sub_zero, List.take_succ_cons, List.take_zero]
          by_cases hax : a = x
          · simp [hax]
          · simp [hax]
        · have hk1' : k1 = mid.length + 2 := by omega
          subst hk1'
          have e1 : cutL2 (a :: (mid ++ [y])) (mid.length + 1) (mid.length + 2) = [y] := by simp [cutL2]
          have e2 : cutL2 (x :: (mid ++ [y])) (mid.length + 1) (mid.length + 2) = [y] := by simp [cutL2]
          have e3 : cutL2 (x :: (mid ++ [c])) (mid.length + 1) (mid.length + 2) = [c] := by simp [cutL2]
          have e4 : cutL2 (a :: (mid ++ [c])) (mid.length + 1) (mid.length + 2) = [c] := by simp [cutL2]
          rw [e1, e2, e3, e4]
          simp [decideC]
      · have : k = k1 := by omega
        subst this
        simp [firstC, cutL2_self]
    have hsecond : (∀ d ∈ keptC (x :: (mid ++ [y])) (a :: (mid ++ [y])) (x :: (mid ++ [c])) k1 k1 k1 m, d.clash = false) ∧ (keptC (x :: (mid ++ [y])) (a :: (mid ++ [y])) (x :: (mid ++ [c])) k1 k1 k1 m).flatMap (·.out) = cutL2 (a :: (mid ++ [c])) k1 (k1 + m) := by
      by_cases hm0 : 0 < m
      · unfold keptC
        rw [if_pos hm0]
        refine ⟨by simp, ?_⟩
        simp only [List.flatMap_cons, List.flatMap_nil, List.append_nil]
        apply List.ext_getElem?
        intro z
        by_cases hz : z < m
        · rw [cutL2_at _ _ _ _ (by omega), cutL2_at _ _ _ _ (by omega)]
          have hr := s.run z hz
          have hne0 : k1 + z ≠ 0 := fun e => by rw [e] at hr; exact p0 _ hr.1
          have hne1 : k1 + z ≠ mid.length + 1 := fun e => by rw [e] at hr; exact q0 _ hr.2
          rw [T1 _ (by omega), B1 _ (by omega)]
        · rw [List.getElem?_eq_none (by rw [cutL2_len _ s.nm]; omega), List.getElem?_eq_none (by rw [cutL2_len _ (by simp; omega)]; omega)]
      · have : m = 0 := by omega
        subst this
        simp [keptC, cutL2_self]
    refine ⟨fun d hd => ?_, ?_⟩
    · rw [List.mem_append, List.mem_append] at hd
      rcases hd with hd | hd | hd
      · exact hfirst.1 d hd
      · exact hsecond.1 d hd
      · exact l1 d hd
    · rw [List.flatMap_append, List.flatMap_append, hfirst.2, hsecond.2, l2, cutL2_drop _ (by omega), cutL2_drop _ hin]

end Go.Proofs.Ytiefenfogjlnoaa
