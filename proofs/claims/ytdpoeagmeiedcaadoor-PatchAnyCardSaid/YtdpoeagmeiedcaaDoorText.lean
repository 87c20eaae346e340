/-
  Lines of bytes, by plain lists.
-/
namespace Go.Proofs.YtdpoeagmeiedcaaDoor

theorem snocRec {α : Type} {P : List α → Prop} (nil : P []) (snoc : ∀ l c, P l → P (l ++ [c])) (l : List α) : P l := by
  have h : ∀ r : List α, P r.reverse := fun r => by
    induction r with
    | nil => exact nil
    | cons c r ih => rw [List.reverse_cons]; exact snoc _ _ ih
  have := h l.reverse
  rwa [List.reverse_reverse] at this

/-- What has been cut, and the line that is not ended yet, behind one more byte. -/
def step (x : List (List UInt8) × List UInt8) (c : UInt8) : List (List UInt8) × List UInt8 :=
  if c = 10 then (x.1 ++ [x.2 ++ [10]], []) else (x.1, x.2 ++ [c])

def st (l : List UInt8) : List (List UInt8) × List UInt8 := l.foldl step ([], [])
def close (x : List (List UInt8) × List UInt8) : List (List UInt8) := if x.2 = [] then x.1 else x.1 ++ [x.2]
/-- The lines of a text. -/
def cutL (l : List UInt8) : List (List UInt8) := close (st l)
/-- Has the last line its end? -/
def wholeL (l : List UInt8) : Bool := l.getLast?.all (· == 10)

theorem st_snoc (l : List UInt8) (c : UInt8) : st (l ++ [c]) = step (st l) c := by simp [st]
theorem step_more (d : List (List UInt8)) (x : List (List UInt8) × List UInt8) (c : UInt8) : step (d ++ x.1, x.2) c = (d ++ (step x c).1, (step x c).2) := by
  unfold step
  split <;> simp
theorem fold_more (d : List (List UInt8)) : ∀ (l : List UInt8) (x : List (List UInt8) × List UInt8), l.foldl step (d ++ x.1, x.2) = (d ++ (l.foldl step x).1, (l.foldl step x).2)
  | [], x => rfl
  | c :: l, x => by
    simp only [List.foldl_cons]
    rw [step_more]
    exact fold_more d l (step x c)

theorem st_flat (l : List UInt8) : (st l).1.flatten ++ (st l).2 = l := by
  induction l using snocRec with
  | nil => rfl
  | snoc l c ih =>
    rw [st_snoc]
    unfold step
    split
    · rename_i h
      subst h
      simp only [List.flatten_append, List.flatten_cons, List.flatten_nil, List.append_nil]
      rw [← List.append_assoc, ih]
    · rw [← List.append_assoc, ih]

theorem st_open (l : List UInt8) : (10 : UInt8) ∉ (st l).2 := by
  induction l using snocRec with
  | nil => simp [st]
  | snoc l c ih =>
    rw [st_snoc]
    unfold step
    split
    · simp
    · rename_i h
      simp only [List.mem_append, List.mem_singleton, not_or]
      exact ⟨ih, fun e => h e.symm⟩

theorem st_whole (l : List UInt8) (h : wholeL l = true) : (st l).2 = [] := by
  induction l using snocRec with
  | nil => rfl
  | snoc l c _ =>
    have : c = 10 := by simpa [wholeL] using h
    rw [st_snoc]
    unfold step
    rw [if_pos this]

theorem cutL_append (a b : List UInt8) (h : wholeL a = true) : cutL (a ++ b) = cutL a ++ cutL b := by
  have e := st_whole a h
  have f : st (a ++ b) = ((st a).1 ++ (st b).1, (st b).2) := by
    have := fold_more (st a).1 b ([], [])
    simp only [List.append_nil] at this
    have e2 : a.foldl step ([], []) = ((st a).1, []) := Prod.ext rfl e
    show (a ++ b).foldl step ([], []) = _
    rw [List.foldl_append, e2, this]
    rfl
  unfold cutL close
  rw [f, e]
  simp only [if_true]
  split <;> simp

theorem cutL_flat (l : List UInt8) : (cutL l).flatten = l := by
  have := st_flat l
  unfold cutL close
  split
  · rename_i h; rw [h, List.append_nil] at this; exact this
  · simpa using this

/-- A line that is ended: its end stands at its end alone. -/
def Ended (x : List UInt8) : Prop := ∃ y, x = y ++ [10] ∧ (10 : UInt8) ∉ y

theorem st_ended (l : List UInt8) : ∀ x ∈ (st l).1, Ended x := by
  induction l using snocRec with
  | nil => simp [st]
  | snoc l c ih =>
    rw [st_snoc]
    unfold step
    split
    · intro x hx
      rw [List.mem_append, List.mem_singleton] at hx
      rcases hx with hx | rfl
      · exact ih x hx
      · exact ⟨_, rfl, st_open l⟩
    · exact ih

theorem st_clear (y : List UInt8) (h : (10 : UInt8) ∉ y) : st y = ([], y) := by
  induction y using snocRec with
  | nil => rfl
  | snoc y c ih =>
    simp only [List.mem_append, List.mem_singleton, not_or] at h
    rw [st_snoc, ih h.1]
    unfold step
    rw [if_neg (fun e => h.2 e.symm)]

theorem cutL_ended {x : List UInt8} (h : Ended x) : (cutL x).length = 1 := by
  obtain ⟨y, rfl, hy⟩ := h
  unfold cutL close
  rw [st_snoc, st_clear y hy]
  simp [step]
theorem cutL_clear {x : List UInt8} (h : (10 : UInt8) ∉ x) (h0 : x ≠ []) : (cutL x).length = 1 := by
  unfold cutL close
  rw [st_clear x h]
  simp [h0]

/-- Each line of a text is one line, and not empty; all but the last are ended. -/
theorem cutL_at (l : List UInt8) (i : Nat) (x : List UInt8) (h : (cutL l)[i]? = some x) : x ≠ [] ∧ (cutL x).length = 1 ∧ (i + 1 < (cutL l).length → wholeL x = true) := by
  have hm := List.mem_of_getElem? h
  have hE : ∀ y, Ended y → y ≠ [] ∧ (cutL y).length = 1 ∧ wholeL y = true := fun y hy => by
    refine ⟨?_, cutL_ended hy, ?_⟩
    · obtain ⟨z, rfl, _⟩ := hy; simp
    · obtain ⟨z, rfl, _⟩ := hy; simp [wholeL]
  unfold cutL close at h hm ⊢
  split at h
  · rename_i h0
    rw [if_pos h0] at hm
    have := hE x (st_ended l x hm)
    exact ⟨this.1, this.2.1, fun _ => this.2.2⟩
  · rename_i h0
    rw [if_neg h0] at hm
    rw [List.mem_append, List.mem_singleton] at hm
    by_cases hi : i < (st l).1.length
    · rw [List.getElem?_append_left hi] at h
      have := hE x (st_ended l x (List.mem_of_getElem? h))
      exact ⟨this.1, this.2.1, fun _ => this.2.2⟩
    · rw [List.getElem?_append_right (by omega)] at h
      have : i - (st l).1.length = 0 := by
        have := (List.getElem?_eq_some_iff.1 h).1
        simpa using this
      rw [this] at h
      simp at h
      subst h
      refine ⟨h0, cutL_clear (st_open l) h0, fun hl => ?_⟩
      simp [h0] at hl
      omega

theorem wholeL_def (l : List UInt8) : wholeL l = (l == [] || l.getLast? == some 10) := by
  induction l using snocRec with
  | nil => rfl
  | snoc l c _ => simp [wholeL]

end Go.Proofs.YtdpoeagmeiedcaaDoor
