/-
  The plain theory of a row of names: the order of texts by their bytes; where a name stands; a name set, inserted, taken away.
-/
import Derived.Lib.Bytealg
namespace Go.Proofs.Ytkhdjlakclidoaa
open Go.Lib

theorem cmp_self : ∀ l : List UInt8, compareBytes l l = 0
  | [] => rfl
  | a :: l => by
    have h : ¬ a < a := UInt8.lt_irrefl a
    simp [compareBytes, cmp_self l]
theorem cmp_zero : ∀ a b : List UInt8, compareBytes a b = 0 → a = b
  | [], [], _ => rfl
  | [], _ :: _, h => by simp [compareBytes] at h
  | _ :: _, [], h => by simp [compareBytes] at h
  | x :: a, y :: b, h => by
    unfold compareBytes at h
    by_cases h1 : x < y
    · rw [if_pos h1] at h; omega
    · by_cases h2 : y < x
      · rw [if_neg h1, if_pos h2] at h; omega
      · rw [if_neg h1, if_neg h2] at h
        have hxy : x = y := UInt8.le_antisymm (UInt8.not_lt.1 h2) (UInt8.not_lt.1 h1)
        rw [hxy, cmp_zero a b h]
theorem cmp_swap : ∀ a b : List UInt8, compareBytes b a = - compareBytes a b
  | [], [] => rfl
  | [], _ :: _ => rfl
  | _ :: _, [] => rfl
  | x :: a, y :: b => by
    unfold compareBytes
    by_cases h1 : x < y
    · have h2 : ¬ y < x := UInt8.lt_asymm h1
      rw [if_pos h1, if_neg h2, if_pos h1]; rfl
    · by_cases h2 : y < x
      · simp [h1, h2]
      · simp only [h1, h2, if_false]
        exact cmp_swap a b
theorem cmp_trans : ∀ a b c : List UInt8, compareBytes a b < 0 → compareBytes b c < 0 → compareBytes a c < 0
  | [], [], _, h, _ => by simp [compareBytes] at h
  | _ :: _, [], _, h, _ => by simp [compareBytes] at h
  | [], _ :: _, [], _, h => by simp [compareBytes] at h
  | [], _ :: _, _ :: _, _, _ => by simp [compareBytes]
  | _ :: _, _ :: _, [], _, h => by simp [compareBytes] at h
  | x :: a, y :: b, z :: c, h, g => by
    unfold compareBytes at h g ⊢
    by_cases h1 : x < y
    · by_cases g1 : y < z
      · rw [if_pos (UInt8.lt_trans h1 g1)]; omega
      · by_cases g2 : z < y
        · rw [if_neg g1, if_pos g2] at g; omega
        · have : y = z := UInt8.le_antisymm (UInt8.not_lt.1 g2) (UInt8.not_lt.1 g1)
          subst this
          rw [if_pos h1]; omega
    · by_cases h2 : y < x
      · rw [if_neg h1, if_pos h2] at h; omega
      · have : x = y := UInt8.le_antisymm (UInt8.not_lt.1 h2) (UInt8.not_lt.1 h1)
        subst this
        rw [if_neg h1, if_neg h1] at h
        by_cases g1 : x < z
        · rw [if_pos g1]; omega
        · by_cases g2 : z < x
          · rw [if_neg g1, if_pos g2] at g; omega
          · rw [if_neg g1, if_neg g2] at g ⊢
            exact cmp_trans a b c h g

/-- The order of two names. -/
def cb (a b : ByteArray) : Int := compareBytes a.data.toList b.data.toList
theorem cb_self (a : ByteArray) : cb a a = 0 := cmp_self _
theorem cb_zero {a b : ByteArray} (h : cb a b = 0) : a = b := by
  have := cmp_zero _ _ h
  obtain ⟨⟨a⟩⟩ := a
  obtain ⟨⟨b⟩⟩ := b
  simpa using this
theorem cb_swap (a b : ByteArray) : cb b a = - cb a b := cmp_swap _ _
theorem cb_trans {a b c : ByteArray} (h : cb a b < 0) (g : cb b c < 0) : cb a c < 0 := cmp_trans _ _ _ h g

abbrev Rf := ByteArray × Int
/-- Names that rise. -/
def Rising (l : List Rf) : Prop := ∀ (i j : Nat) (x y : Rf), i < j → l[i]? = some x → l[j]? = some y → cb x.1 y.1 < 0
/-- How many names stand ahead of s. -/
def pos (l : List Rf) (s : ByteArray) : Nat := l.countP fun r => decide (cb r.1 s < 0)
/-- Is the name there? -/
def hasB (l : List Rf) (s : ByteArray) : Bool := l[pos l s]?.any fun r => decide (cb r.1 s = 0)
/-- A name's commit; 0: it is not there. -/
def getC (l : List Rf) (s : ByteArray) : Int := if hasB l s then (l[pos l s]?.map (·.2)).getD 0 else 0
def insR (l : List Rf) (k : Nat) (r : Rf) : List Rf := l.take k ++ r :: l.drop k
def delR (l : List Rf) (k : Nat) : List Rf := l.take k ++ l.drop (k + 1)
/-- A name set. -/
def setR (l : List Rf) (s : ByteArray) (c : Int) : List Rf := if hasB l s then l.set (pos l s) (s, c) else insR l (pos l s) (s, c)

theorem pos_le (l : List Rf) (s : ByteArray) : pos l s ≤ l.length := List.countP_le_length
theorem count_bound (p : Rf → Bool) : ∀ (l : List Rf) (i : Nat), i ≤ l.length → (∀ (t : Nat) (x : Rf), t < i → l[t]? = some x → p x = true) → (∀ (t : Nat) (x : Rf), i ≤ t → l[t]? = some x → p x = false) → l.countP p = i
  | [], i, hi, _, _ => by simp at hi; simp [hi]
  | a :: r, 0, _, _, h2 => by
    rw [List.countP_eq_zero]
    intro x hx
    obtain ⟨t, ht, hx⟩ := List.getElem_of_mem hx
    have := h2 t x (Nat.zero_le _) (by rw [List.getElem?_eq_getElem ht, hx])
    simp [this]
  | a :: r, i + 1, hi, h1, h2 => by
    have ha : p a = true := h1 0 a (Nat.succ_pos _) rfl
    rw [List.countP_cons_of_pos ha, count_bound p r i (by simpa using hi) (fun t x ht hx => h1 (t + 1) x (by omega) (by simpa using hx)) (fun t x ht hx => h2 (t + 1) x (by omega) (by simpa using hx))]
theorem Rising.tail {a : Rf} {l : List Rf} (h : Rising (a :: l)) : Rising l := fun i j x y hij hx hy => h (i + 1) (j + 1) x y (by omega) (by simpa using hx) (by simpa using hy)
/-- What stands ahead of 'pos' is less, what stands from there on is not. -/
theorem pos_split : ∀ (l : List Rf) (s : ByteArray), Rising l → (∀ (t : Nat) (x : Rf), t < pos l s → l[t]? = some x → cb x.1 s < 0) ∧ (∀ (t : Nat) (x : Rf), pos l s ≤ t → l[t]? = some x → 0 ≤ cb x.1 s)
  | [], s, _ => ⟨fun t x _ h => by simp at h, fun t x _ h => by simp at h⟩
  | a :: l, s, h => by
    have ih := pos_split l s h.tail
    by_cases ha : cb a.1 s < 0
    · have e : pos (a :: l) s = pos l s + 1 := by unfold pos; rw [List.countP_cons_of_pos (by simpa using ha)]
      rw [e]
      refine ⟨fun t x ht hx => ?_, fun t x ht hx => ?_⟩
      · cases t with
        | zero => simp at hx; subst hx; exact ha
        | succ t => exact ih.1 t x (by omega) (by simpa using hx)
      · cases t with
        | zero => omega
        | succ t => exact ih.2 t x (by omega) (by simpa using hx)
    · have hall : ∀ (t : Nat) (x : Rf), (a :: l)[t]? = some x → 0 ≤ cb x.1 s := by
        intro t x hx
        cases t with
        | zero => simp at hx; subst hx; omega
        | succ t =>
          have hax := h 0 (t + 1) a x (by omega) rfl hx
          rcases Int.lt_or_le (cb x.1 s) 0 with hlt | hge
          · exact absurd (cb_trans hax hlt) ha
          · exact hge
      have e : pos (a :: l) s = 0 := by
        unfold pos
        rw [List.countP_eq_zero]
        intro x hx
        obtain ⟨t, ht, hx⟩ := List.getElem_of_mem hx
        have := hall t x (by rw [List.getElem?_eq_getElem ht, hx])
        simp; omega
      rw [e]
      exact ⟨fun t x ht => by omega, fun t x _ hx => hall t x hx⟩
theorem pos_of {l : List Rf} {s : ByteArray} {i : Nat} (hi : i ≤ l.length) (h1 : ∀ t x, t < i → l[t]? = some x → cb x.1 s < 0) (h2 : ∀ t x, i ≤ t → l[t]? = some x → 0 ≤ cb x.1 s) : pos l s = i :=
  count_bound _ l i hi (fun t x ht hx => by simpa using h1 t x ht hx) (fun t x ht hx => by have := h2 t x ht hx; simp; omega)
theorem has_at {l : List Rf} {s : ByteArray} (h : hasB l s = true) : ∃ c, l[pos l s]? = some (s, c) := by
  unfold hasB at h
  cases hx : l[pos l s]? with
  | none => rw [hx] at h; simp at h
  | some x =>
    rw [hx] at h
    simp at h
    exact ⟨x.2, by rw [← cb_zero h]⟩
theorem has_lt {l : List Rf} {s : ByteArray} (h : hasB l s = true) : pos l s < l.length := by
  obtain ⟨c, hc⟩ := has_at h
  exact (List.getElem?_eq_some_iff.1 hc).1
theorem hasnt {l : List Rf} {s : ByteArray} (hr : Rising l) (h : hasB l s = false) : ∀ (t : Nat) (x : Rf), pos l s ≤ t → l[t]? = some x → cb s x.1 < 0 := by
  intro t x ht hx
  have h0 := (pos_split l s hr).2 t x ht hx
  have hne : cb x.1 s ≠ 0 := by
    intro e
    have hp : pos l s < l.length := by have := (List.getElem?_eq_some_iff.1 hx).1; omega
    have h1 := (pos_split l s hr).2 (pos l s) _ (Nat.le_refl _) (List.getElem?_eq_getElem hp)
    unfold hasB at h
    rw [List.getElem?_eq_getElem hp] at h
    simp at h
    rcases Nat.eq_or_lt_of_le ht with e2 | e2
    · rw [← e2, List.getElem?_eq_getElem hp] at hx
      have := Option.some.inj hx
      rw [this] at h
      exact h e
    · have h2 := hr (pos l s) t _ x e2 (List.getElem?_eq_getElem hp) hx
      rw [cb_zero e] at h2
      omega
  rw [cb_swap x.1 s]
  omega
theorem rising_ins {l : List Rf} {s : ByteArray} (c : Int) (hr : Rising l) (h : hasB l s = false) : Rising (insR l (pos l s) (s, c)) := by
  have hp := pos_le l s
  have hlen : (l.take (pos l s)).length = pos l s := by rw [List.length_take]; omega
  have hat : ∀ (i : Nat) (x : Rf), (insR l (pos l s) (s, c))[i]? = some x → (i < pos l s ∧ l[i]? = some x) ∨ (i = pos l s ∧ x = (s, c)) ∨ (pos l s < i ∧ l[i - 1]? = some x) := by
    intro i x hx
    unfold insR at hx
    rw [List.getElem?_append] at hx
    rw [hlen] at hx
    split at hx
    · rename_i hlt
      rw [List.getElem?_take, if_pos hlt] at hx
      exact .inl ⟨hlt, hx⟩
    · rename_i hge
      rcases Nat.eq_or_lt_of_le (Nat.not_lt.1 hge) with e | e
      · rw [← e, Nat.sub_self] at hx
        simp at hx
        exact .inr (.inl ⟨e.symm, hx.symm⟩)
      · obtain ⟨k, hk⟩ : ∃ k, i - pos l s = k + 1 := ⟨i - pos l s - 1, by omega⟩
        rw [hk, List.getElem?_cons_succ, List.getElem?_drop] at hx
        exact .inr (.inr ⟨e, by rw [show i - 1 = pos l s + k by omega]; exact hx⟩)
  have h1 := (pos_split l s hr).1
  have h2 := hasnt hr h
  intro i j x y hij hx hy
  rcases hat i x hx with ⟨a1, a2⟩ | ⟨a1, rfl⟩ | ⟨a1, a2⟩
  · rcases hat j y hy with ⟨b1, b2⟩ | ⟨b1, rfl⟩ | ⟨b1, b2⟩
    · exact hr i j x y hij a2 b2
    · exact h1 i x a1 a2
    · exact hr i (j - 1) x y (by omega) a2 b2
  · rcases hat j y hy with ⟨b1, b2⟩ | ⟨b1, rfl⟩ | ⟨b1, b2⟩
    · omega
    · omega
    · exact h2 (j - 1) y (by omega) b2
  · rcases hat j y hy with ⟨b1, b2⟩ | ⟨b1, rfl⟩ | ⟨b1, b2⟩
    · omega
    · omega
    · exact hr (i - 1) (j - 1) x y (by omega) a2 b2
theorem rising_set {l : List Rf} {s : ByteArray} (c : Int) (hr : Rising l) (h : hasB l s = true) : Rising (l.set (pos l s) (s, c)) := by
  obtain ⟨c0, h0⟩ := has_at h
  have hat : ∀ (i : Nat) (x : Rf), (l.set (pos l s) (s, c))[i]? = some x → ∃ x', l[i]? = some x' ∧ x'.1 = x.1 := by
    intro i x hx
    rw [List.getElem?_set] at hx
    split at hx
    · rename_i e
      subst e
      split at hx
      · have := Option.some.inj hx
        subst this
        exact ⟨_, h0, rfl⟩
      · cases hx
    · exact ⟨x, hx, rfl⟩
  intro i j x y hij hx hy
  obtain ⟨x', hx', e1⟩ := hat i x hx
  obtain ⟨y', hy', e2⟩ := hat j y hy
  rw [← e1, ← e2]
  exact hr i j x' y' hij hx' hy'
theorem rising_setR {l : List Rf} {s : ByteArray} (c : Int) (hr : Rising l) : Rising (setR l s c) := by
  unfold setR
  cases h : hasB l s with
  | true => exact rising_set c hr h
  | false => exact rising_ins c hr h
theorem rising_del {l : List Rf} (k : Nat) (hr : Rising l) : Rising (delR l k) := by
  have hat : ∀ (i : Nat) (x : Rf), (delR l k)[i]? = some x → ∃ i', l[i']? = some x ∧ (i < k → i' = i) ∧ (k ≤ i → i' = i + 1) := by
    intro i x hx
    unfold delR at hx
    rw [List.getElem?_append] at hx
    split at hx
    · rename_i hlt
      rw [List.length_take] at hlt
      rw [List.getElem?_take, if_pos (by omega)] at hx
      exact ⟨i, hx, fun _ => rfl, fun h => by omega⟩
    · rename_i hge
      rw [List.length_take] at hge hx
      rw [List.getElem?_drop] at hx
      have hl := (List.getElem?_eq_some_iff.1 hx).1
      exact ⟨_, hx, fun h => by omega, fun h => by omega⟩
  intro i j x y hij hx hy
  obtain ⟨i', a1, a2, a3⟩ := hat i x hx
  obtain ⟨j', b1, b2, b3⟩ := hat j y hy
  refine hr i' j' x y ?_ a1 b1
  rcases Nat.lt_or_ge i k with p | p <;> rcases Nat.lt_or_ge j k with q | q
  · rw [a2 p, b2 q]; exact hij
  · rw [a2 p, b3 q]; omega
  · omega
  · rw [a3 p, b3 q]; omega
theorem setR_length (l : List Rf) (s : ByteArray) (c : Int) : (setR l s c).length = if hasB l s then l.length else l.length + 1 := by
  unfold setR
  split
  · simp
  · unfold insR
    have := pos_le l s
    simp
    omega
theorem delR_length {l : List Rf} {k : Nat} (h : k < l.length) : (delR l k).length = l.length - 1 := by
  unfold delR
  simp
  omega
end Go.Proofs.Ytkhdjlakclidoaa
