/-
  Two branches of one row of commits, by plain lists.
-/
import Derived.Test.YtgcgfflkhlehoaaGKnown
namespace Go.Proofs.Ytgcgfflkhlehoaa

def rowC (n x i : Nat) : List Int := if i = 1 then [] else if i = n + x + 1 then [(n : Int)] else [(i : Int) - 1]
def chain (n x k : Nat) : List (List Int) := (List.range k).map fun j => rowC n x (j + 1)

theorem chain_len (n x k : Nat) : (chain n x k).length = k := by simp [chain]
theorem chain_at {n x k j : Nat} (h : j < k) : (chain n x k)[j]? = some (rowC n x (j + 1)) := by simp [chain, h]
theorem chain_succ (n x k : Nat) : chain n x (k + 1) = chain n x k ++ [rowC n x (k + 1)] := by simp [chain, List.range_succ]
theorem chain_par {n x k z : Nat} (h1 : 1 ≤ z) (h2 : z ≤ k) : par (chain n x k) (z : Int) = rowC n x z := by
  unfold par
  rw [List.getD_eq_getElem?_getD, show ((z : Int)).toNat - 1 = z - 1 by omega, chain_at (by omega), show z - 1 + 1 = z by omega]
  rfl

theorem rowC_mem {n x i : Nat} {p : Int} (h : p ∈ rowC n x i) : (i = n + x + 1 ∧ i ≠ 1 ∧ p = n) ∨ (i ≠ 1 ∧ i ≠ n + x + 1 ∧ p = (i : Int) - 1) := by
  unfold rowC at h
  by_cases h1 : i = 1
  · rw [if_pos h1] at h; cases h
  · rw [if_neg h1] at h
    by_cases h2 : i = n + x + 1
    · rw [if_pos h2, List.mem_singleton] at h; exact .inl ⟨h2, h1, h⟩
    · rw [if_neg h2, List.mem_singleton] at h; exact .inr ⟨h1, h2, h⟩
theorem rowC_two (n x i : Nat) : (rowC n x i).length ≤ 1 := by
  unfold rowC
  split
  · simp
  · split <;> simp

section
variable {n x y : Nat}
theorem chain_ok (hn : 1 ≤ n) (k : Nat) : Ok (chain n x k) := by
  intro i l hi p hp
  have hlt := (List.getElem?_eq_some_iff.1 hi).1
  rw [chain_len] at hlt
  rw [chain_at hlt] at hi
  obtain rfl := Option.some.inj hi
  rcases rowC_mem hp with ⟨h1, h2, rfl⟩ | ⟨h1, h2, rfl⟩ <;> omega
theorem chain_two (k : Nat) : ∀ l ∈ chain n x k, l.length ≤ 2 := by
  intro l hl
  simp only [chain, List.mem_map] at hl
  obtain ⟨j, _, rfl⟩ := hl
  have := rowC_two n x (j + 1)
  omega

theorem chkR_zero {gs : List (List Int)} (ok : Ok gs) (h1 : ∀ l ∈ gs, l.length ≤ 1) : chkR 0 gs = 0 := by
  have key : ∀ (r : List (List Int)) (i : Nat), (∀ j l, r[j]? = some l → (∀ p ∈ l, 1 ≤ p ∧ p ≤ ((i + j : Nat) : Int)) ∧ l.length ≤ 1) → chkR i r = 0 := by
    intro r
    induction r with
    | nil => intro i _; rfl
    | cons a r ih =>
      intro i h
      obtain ⟨a1, a2⟩ := h 0 a rfl
      have hb : bad i a = 0 := by
        rw [bad_rest (by simpa using a1) (by omega), if_neg (by omega)]
      unfold chkR
      rw [if_pos hb]
      refine ih (i + 1) fun j l hj => ?_
      have := h (j + 1) l (by simpa using hj)
      rwa [show i + (j + 1) = i + 1 + j by omega] at this
  exact key gs 0 fun j l hj => ⟨fun p hp => by have := ok j l hj p hp; rwa [Nat.zero_add], h1 l (List.mem_of_getElem? hj)⟩

theorem chain_chk (hn : 1 ≤ n) {k : Nat} (hk : k ≤ 1024) : chk (chain n x k) = 0 := by
  unfold chk
  rw [if_neg (by rw [chain_len]; omega)]
  refine chkR_zero (chain_ok hn k) fun l hl => ?_
  simp only [chain, List.mem_map] at hl
  obtain ⟨j, _, rfl⟩ := hl
  exact rowC_two n x (j + 1)

/-- Down a row. -/
theorem down {k : Nat} {cs : List Int} {a b : Nat} (ha : 1 ≤ a) (hb : b ≤ k) (hf : b ≤ n + x ∨ n + x + 1 ≤ a) (h : Anc (chain n x k) cs (b : Int)) : ∀ z : Nat, a ≤ z → z ≤ b → Anc (chain n x k) cs (z : Int) := by
  have key : ∀ d z : Nat, b - z = d → a ≤ z → z ≤ b → Anc (chain n x k) cs (z : Int) := by
    intro d
    induction d with
    | zero => intro z hd h1 h2; obtain rfl : z = b := by omega
              exact h
    | succ d ih =>
      intro z hd h1 h2
      have hz := ih (z + 1) (by omega) (by omega) (by omega)
      refine .step hz ?_ (by omega) (by rw [chain_len]; omega)
      rw [chain_par (by omega) (by omega)]
      unfold rowC
      rw [if_neg (by omega), if_neg (by omega)]
      simp
  exact fun z => key _ z rfl

theorem anc_low (hn : 1 ≤ n) {k c : Nat} (h1 : 1 ≤ c) (h2 : c ≤ n + x) (h3 : c ≤ k) (z : Nat) : Anc (chain n x k) [(c : Int)] (z : Int) ↔ 1 ≤ z ∧ z ≤ c := by
  constructor
  · intro h
    have := h.le (chain_ok hn k)
    have := h.vld
    omega
  · rintro ⟨a, b⟩
    exact down (a := 1) (by omega) h3 (.inl h2) (.self (by omega) (by rw [chain_len]; omega)) z a b

theorem anc_high (hn : 1 ≤ n) (hy : 1 ≤ y) (z : Nat) : Anc (chain n x (n + x + y)) [((n + x + y : Nat) : Int)] (z : Int) ↔ (1 ≤ z ∧ z ≤ n) ∨ (n + x + 1 ≤ z ∧ z ≤ n + x + y) := by
  have top : ∀ z : Nat, n + x + 1 ≤ z → z ≤ n + x + y → Anc (chain n x (n + x + y)) [((n + x + y : Nat) : Int)] (z : Int) :=
    down (a := n + x + 1) (by omega) (Nat.le_refl _) (.inr (Nat.le_refl _)) (.self (by omega) (by rw [chain_len]; omega))
  constructor
  · intro h
    have key : ∀ u : Int, Anc (chain n x (n + x + y)) [((n + x + y : Nat) : Int)] u → (1 ≤ u ∧ u ≤ n) ∨ ((n : Int) + x + 1 ≤ u ∧ u ≤ n + x + y) := by
      intro u hu
      induction hu with
      | base h1 _ _ => rw [List.mem_singleton] at h1; omega
      | @step v p hv h1 h2 h3 ih =>
        have hvv := hv.vld
        obtain ⟨m, rfl⟩ : ∃ m : Nat, v = (m : Int) := ⟨v.toNat, by omega⟩
        rw [chain_len] at hvv
        rw [chain_par (by omega) (by omega)] at h1
        rcases rowC_mem h1 with ⟨a, b, rfl⟩ | ⟨a, b, rfl⟩ <;> omega
    have := key _ h
    omega
  · rintro (⟨a, b⟩ | ⟨a, b⟩)
    · have h1 := top (n + x + 1) (by omega) (by omega)
      have h2 : Anc (chain n x (n + x + y)) [((n + x + y : Nat) : Int)] (n : Int) := by
        refine .step h1 ?_ (by omega) (by rw [chain_len]; omega)
        rw [chain_par (by omega) (by omega)]
        unfold rowC
        rw [if_neg (by omega), if_pos rfl]
        simp
      exact down (a := 1) (by omega) (by omega) (.inl (by omega)) h2 z a b
    · exact top z a b
end

theorem iv_len (a b : Nat) : ∀ N, (rowF N fun i => decide (a ≤ i ∧ i ≤ b)).length = min N (b + 1) - a
  | 0 => by simp [rowF]
  | N + 1 => by
    rw [rowF_succ, List.length_append, iv_len a b N]
    by_cases h : a ≤ N ∧ N ≤ b
    · rw [if_pos (by simpa using h)]; simp; omega
    · rw [if_neg (by simpa using h)]; simp; omega
theorem or_len (f g : Nat → Bool) (hd : ∀ i, f i = true → g i = true → False) : ∀ N, (rowF N fun i => f i || g i).length = (rowF N f).length + (rowF N g).length
  | 0 => by simp [rowF]
  | N + 1 => by
    rw [rowF_succ, rowF_succ, rowF_succ, List.length_append, List.length_append, List.length_append, or_len f g hd N]
    cases hf : f N with
    | true =>
      cases hg : g N with
      | true => exact (hd N hf hg).elim
      | false => simp; omega
    | false =>
      cases hg : g N with
      | true => simp; omega
      | false => simp

theorem anc_eq {gs : List (List Int)} {cs : List Int} {f : Nat → Prop} [DecidablePred f] (h : ∀ z : Nat, Anc gs cs (z : Int) ↔ f z) : anc gs cs = fun z => decide (f z) := by
  funext z
  rw [Bool.eq_iff_iff, anc_iff, h z, decide_eq_true_iff]

section
variable {n x y : Nat} (hn : 1 ≤ n) (hx : 1 ≤ x) (hy : 1 ≤ y)
include hn hx hy
theorem len1 : (ancR (chain n x (n + x + y)) [((n + x : Nat) : Int)]).length = n + x := by
  unfold ancR
  rw [chain_len, anc_eq (anc_low hn (c := n + x) (by omega) (by omega) (by omega)), iv_len]
  omega
theorem len2 : (ancR (chain n x (n + x + y)) [((n + x + y : Nat) : Int)]).length = n + y := by
  unfold ancR
  rw [chain_len, anc_eq (anc_high hn hy)]
  have : (fun z : Nat => decide ((1 ≤ z ∧ z ≤ n) ∨ (n + x + 1 ≤ z ∧ z ≤ n + x + y))) = fun z => decide (1 ≤ z ∧ z ≤ n) || decide (n + x + 1 ≤ z ∧ z ≤ n + x + y) := by
    funext z; exact Bool.decide_or _ _
  rw [this, or_len (fun z => decide (1 ≤ z ∧ z ≤ n)) (fun z => decide (n + x + 1 ≤ z ∧ z ≤ n + x + y)) (fun i h1 h2 => by simp at h1 h2; omega), iv_len, iv_len]
  omega
theorem len3 : (onlL (chain n x (n + x + y)) ((n + x : Nat) : Int) ((n + x + y : Nat) : Int)).length = x := by
  unfold onlL onl
  rw [chain_len, anc_eq (anc_low hn (c := n + x) (by omega) (by omega) (by omega)), anc_eq (anc_high hn hy)]
  have : (fun i : Nat => decide (1 ≤ i ∧ i ≤ n + x) && !decide ((1 ≤ i ∧ i ≤ n) ∨ (n + x + 1 ≤ i ∧ i ≤ n + x + y))) = fun i => decide (n + 1 ≤ i ∧ i ≤ n + x) := by
    funext i
    rw [Bool.eq_iff_iff]
    simp only [Bool.and_eq_true, Bool.not_eq_true', decide_eq_true_iff, decide_eq_false_iff_not]
    omega
  rw [this, iv_len]
  omega
theorem len4 : (onlL (chain n x (n + x + y)) ((n + x + y : Nat) : Int) (n : Int)).length = y := by
  unfold onlL onl
  rw [chain_len, anc_eq (anc_high hn hy), anc_eq (anc_low hn (c := n) (by omega) (by omega) (by omega))]
  have : (fun i : Nat => decide ((1 ≤ i ∧ i ≤ n) ∨ (n + x + 1 ≤ i ∧ i ≤ n + x + y)) && !decide (1 ≤ i ∧ i ≤ n)) = fun i => decide (n + x + 1 ≤ i ∧ i ≤ n + x + y) := by
    funext i
    rw [Bool.eq_iff_iff]
    simp only [Bool.and_eq_true, Bool.not_eq_true', decide_eq_true_iff, decide_eq_false_iff_not]
    omega
  rw [this, iv_len]
  omega
theorem len5 : (basL (chain n x (n + x + y)) ((n + x : Nat) : Int) (n : Int)).length = 1 := by
  rw [bas_turn, bas_self (chain_ok hn _) ((anc_low hn (c := n + x) (by omega) (by omega) (by omega) n).2 (by omega))]
  rfl
theorem base_chain : base1 (chain n x (n + x + y)) ((n + x : Nat) : Int) ((n + x + y : Nat) : Int) = n := by
  have hmem : ∀ z : Nat, (z : Int) ∈ basL (chain n x (n + x + y)) ((n + x : Nat) : Int) ((n + x + y : Nat) : Int) ↔ z = n := by
    intro z
    rw [mem_basL, anc_low hn (c := n + x) (by omega) (by omega) (by omega), anc_high hn hy]
    constructor
    · rintro ⟨h1, h2, h3⟩
      have hz : 1 ≤ z ∧ z ≤ n := by omega
      refine Classical.byContradiction fun hne => h3 ?_
      have hm : ((n - 1 : Nat) : Int) ∈ pars (chain n x (n + x + y)) ((n + x : Nat) : Int) ((n + x + y : Nat) : Int) := by
        refine mem_pars.2 ⟨(n : Int), (anc_low hn (c := n + x) (by omega) (by omega) (by omega) n).2 (by omega), (anc_high hn hy n).2 (by omega), ?_⟩
        rw [chain_par (by omega) (by omega)]
        unfold rowC
        rw [if_neg (by omega), if_neg (by omega), List.mem_singleton]
        omega
      exact down (a := 1) (b := n - 1) (by omega) (by omega) (.inl (by omega)) (.base hm (by omega) (by rw [chain_len]; omega)) z (by omega) (by omega)
    · rintro rfl
      refine ⟨by omega, by omega, fun g => ?_⟩
      obtain ⟨p, hp, p1, p2, g⟩ := g.one
      obtain ⟨u, u1, u2, hu⟩ := mem_pars.1 hp
      have huv := u1.vld
      obtain ⟨m, rfl⟩ : ∃ m : Nat, u = (m : Int) := ⟨u.toNat, by omega⟩
      rw [anc_low hn (c := z + x) (by omega) (by omega) (by omega)] at u1
      rw [anc_high hn hy] at u2
      have := (chain_ok hn (z + x + y)).par (by omega) hu
      have := g.le (chain_ok hn _)
      omega
  have : basL (chain n x (n + x + y)) ((n + x : Nat) : Int) ((n + x + y : Nat) : Int) = [((n : Nat) : Int)] := by
    unfold basL
    refine rowF_single (by rw [chain_len]; omega) fun i hi => ?_
    have := hmem i
    unfold basL at this
    constructor
    · intro hf
      exact this.1 (mem_rowF.2 ⟨i, hi, hf, rfl⟩)
    · rintro rfl
      obtain ⟨j, _, hf, e⟩ := mem_rowF.1 (this.2 rfl)
      have : j = i := by omega
      rwa [this] at hf
  unfold base1
  rw [this]
  rfl
end

end Go.Proofs.Ytgcgfflkhlehoaa
