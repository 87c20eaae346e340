/-
  The document's setting of a name: plain.
-/
import Derived.Test.YtkhdjlakclidoaaNDoc
namespace Go.Proofs.Ytkhdjlakclidoaa
open Go Go.RowKit Go.Lib

theorem less_cmp : ∀ a b : List UInt8, Op.bytesLess a b = decide (compareBytes a b < 0)
  | [], [] => rfl
  | _ :: _, [] => rfl
  | [], _ :: _ => rfl
  | x :: a, y :: b => by
    unfold Op.bytesLess compareBytes
    by_cases h1 : x < y
    · simp [h1]
    · by_cases h2 : y < x
      · have : (x == y) = false := by rw [beq_eq_false_iff_ne]; rintro rfl; exact h1 h2
        simp [h1, h2, this]
      · have : x = y := UInt8.le_antisymm (UInt8.not_lt.1 h2) (UInt8.not_lt.1 h1)
        subst this
        simp [h1, less_cmp a b]
/-- One round: what stands in the new row, and whether the name is put. -/
def dstep (s : ByteArray) (c : Int) (st : List Rf × Bool) (x : Rf) : List Rf × Bool :=
  let st' := if st.2 = false ∧ ¬ cb x.1 s < 0 then (st.1 ++ [(s, c)], true) else st
  if x.1 = s then st' else (st'.1 ++ [x], st'.2)
def dgo (s : ByteArray) (c : Int) (l : List Rf) : List Rf × Bool := l.foldl (dstep s c) ([], decide (c = 0))
def dend (s : ByteArray) (c : Int) (st : List Rf × Bool) : List Rf := if st.2 then st.1 else st.1 ++ [(s, c)]
/-- What the row is then. -/
def dsetL (l : List Rf) (s : ByteArray) (c : Int) : List Rf := dend s c (dgo s c l)

theorem dgo_snoc (s : ByteArray) (c : Int) (l : List Rf) (k : Nat) (x : Rf) (h : l[k]? = some x) : dgo s c (l.take (k + 1)) = dstep s c (dgo s c (l.take k)) x := by
  have hlt := (List.getElem?_eq_some_iff.1 h).1
  have e : l.take (k + 1) = l.take k ++ [x] := by
    rw [List.take_succ_eq_append_getElem hlt]
    congr 2
    exact (List.getElem?_eq_some_iff.1 h).2
  unfold dgo
  rw [e, List.foldl_append]; rfl

theorem dfold_put (s : ByteArray) (c : Int) : ∀ (xs out : List Rf), xs.foldl (dstep s c) (out, true) = (out ++ xs.filter (fun x => decide (x.1 ≠ s)), true)
  | [], out => by simp
  | x :: xs, out => by
    rw [List.foldl_cons]
    by_cases hx : x.1 = s
    · have e : dstep s c (out, true) x = (out, true) := by unfold dstep; simp [hx]
      rw [e, dfold_put s c xs out, List.filter_cons_of_neg (by simp [hx])]
    · have e : dstep s c (out, true) x = (out ++ [x], true) := by unfold dstep; simp [hx]
      rw [e, dfold_put s c xs _, List.filter_cons_of_pos (by simp [hx])]; simp
/-- The end of it, from a row whose name isn't put yet. -/
def dgoS (s : ByteArray) (c : Int) : List Rf → List Rf
  | [] => [(s, c)]
  | x :: xs => if cb x.1 s < 0 then x :: dgoS s c xs else (s, c) :: (x :: xs).filter (fun x => decide (x.1 ≠ s))
theorem dfold_not (s : ByteArray) (c : Int) : ∀ (xs out : List Rf), dend s c (xs.foldl (dstep s c) (out, false)) = out ++ dgoS s c xs
  | [], out => rfl
  | x :: xs, out => by
    rw [List.foldl_cons]
    by_cases hl : cb x.1 s < 0
    · have hne : x.1 ≠ s := fun e => by rw [e, cb_self] at hl; omega
      have e : dstep s c (out, false) x = (out ++ [x], false) := by unfold dstep; simp [hl, hne]
      rw [e, dfold_not s c xs _, dgoS, if_pos hl]; simp
    · rw [dgoS, if_neg hl]
      by_cases hx : x.1 = s
      · have e : dstep s c (out, false) x = (out ++ [(s, c)], true) := by unfold dstep; simp [hx, cb_self]
        rw [e, dfold_put, List.filter_cons_of_neg (by simp [hx])]
        unfold dend
        simp
      · have e : dstep s c (out, false) x = (out ++ [(s, c)] ++ [x], true) := by unfold dstep; simp [hl, hx]
        rw [e, dfold_put, List.filter_cons_of_pos (by simp [hx])]
        unfold dend
        simp

theorem filter_far {s : ByteArray} {a : Rf} {xs : List Rf} (h : Rising (a :: xs)) (ha : 0 ≤ cb a.1 s) : xs.filter (fun x => decide (x.1 ≠ s)) = xs := by
  rw [List.filter_eq_self]
  intro x hx
  obtain ⟨t, ht, rfl⟩ := List.getElem_of_mem hx
  have h2 : cb a.1 xs[t].1 < 0 := h 0 (t + 1) a xs[t] (by omega) rfl (by rw [List.getElem?_cons_succ]; exact List.getElem?_eq_getElem ht)
  rw [decide_eq_true_eq]
  intro e
  rw [e] at h2
  omega
theorem pos_less {s : ByteArray} {a : Rf} {xs : List Rf} (ha : cb a.1 s < 0) : pos (a :: xs) s = pos xs s + 1 ∧ hasB (a :: xs) s = hasB xs s := by
  have e : pos (a :: xs) s = pos xs s + 1 := by unfold pos; rw [List.countP_cons_of_pos (by simpa using ha)]
  refine ⟨e, ?_⟩
  unfold hasB
  rw [e, List.getElem?_cons_succ]
theorem pos_more {s : ByteArray} {a : Rf} {xs : List Rf} (h : Rising (a :: xs)) (ha : ¬ cb a.1 s < 0) : pos (a :: xs) s = 0 ∧ hasB (a :: xs) s = decide (a.1 = s) := by
  have e : pos (a :: xs) s = 0 := by
    refine pos_of (Nat.zero_le _) (fun t x ht => by omega) fun t x _ hx => ?_
    cases t with
    | zero => simp at hx; subst hx; omega
    | succ t =>
      have hax : cb a.1 x.1 < 0 := h 0 (t + 1) a x (by omega) rfl hx
      rcases Int.lt_or_le (cb x.1 s) 0 with hlt | hge
      · exact absurd (cb_trans hax hlt) ha
      · exact hge
  refine ⟨e, ?_⟩
  unfold hasB
  rw [e]
  show decide (cb a.1 s = 0) = decide (a.1 = s)
  rw [decide_eq_decide]
  exact ⟨cb_zero, fun e => by rw [e, cb_self]⟩
theorem dgoS_set (s : ByteArray) (c : Int) : ∀ (l : List Rf), Rising l → dgoS s c l = setR l s c
  | [], _ => rfl
  | a :: xs, h => by
    have ih := dgoS_set s c xs h.tail
    rw [dgoS]
    by_cases ha : cb a.1 s < 0
    · obtain ⟨h1, h2⟩ := pos_less (xs := xs) ha
      rw [if_pos ha, ih]
      unfold setR
      rw [h1, h2]
      split
      · rfl
      · unfold insR; rfl
    · obtain ⟨h1, h2⟩ := pos_more h ha
      rw [if_neg ha]
      unfold setR
      rw [h1, h2]
      by_cases e : a.1 = s
      · rw [if_pos (by simpa using e), List.filter_cons_of_neg (by simp [e]), filter_far h (by omega)]; rfl
      · rw [if_neg (by simpa using e), List.filter_cons_of_pos (by simp [e]), filter_far h (by omega)]; rfl
theorem filter_del (s : ByteArray) : ∀ (l : List Rf), Rising l → l.filter (fun x => decide (x.1 ≠ s)) = if hasB l s then delR l (pos l s) else l
  | [], _ => rfl
  | a :: xs, h => by
    have ih := filter_del s xs h.tail
    by_cases ha : cb a.1 s < 0
    · obtain ⟨h1, h2⟩ := pos_less (xs := xs) ha
      have hne : a.1 ≠ s := fun e => by rw [e, cb_self] at ha; omega
      rw [List.filter_cons_of_pos (by simp [hne]), ih, h1, h2]
      split
      · unfold delR; rfl
      · rfl
    · obtain ⟨h1, h2⟩ := pos_more h ha
      rw [h1, h2]
      by_cases e : a.1 = s
      · rw [if_pos (by simpa using e), List.filter_cons_of_neg (by simp [e]), filter_far h (by omega)]; rfl
      · rw [if_neg (by simpa using e), List.filter_cons_of_pos (by simp [e]), filter_far h (by omega)]
/-- What the row is: as the program's. -/
theorem dsetL_zero {l : List Rf} (s : ByteArray) (h : Rising l) : dsetL l s 0 = if hasB l s then delR l (pos l s) else l := by
  unfold dsetL dgo
  rw [decide_eq_true rfl, dfold_put, ← filter_del s l h]
  unfold dend
  simp
theorem dsetL_some {l : List Rf} (s : ByteArray) {c : Int} (hc : c ≠ 0) (h : Rising l) : dsetL l s c = setR l s c := by
  unfold dsetL dgo
  rw [decide_eq_false hc, dfold_not, dgoS_set s c l h, List.nil_append]
theorem dgo_len (s : ByteArray) (c : Int) (l : List Rf) : (dgo s c l).1.length ≤ l.length + (dgo s c l).2.toNat := by
  have one : ∀ (st : List Rf × Bool) (x : Rf), (dstep s c st x).1.length + st.2.toNat ≤ st.1.length + 1 + (dstep s c st x).2.toNat := by
    rintro ⟨o, b⟩ x
    by_cases hx : x.1 = s
    · cases b with
      | false => simp [dstep, hx, cb_self]
      | true => simp [dstep, hx]
    · by_cases hl : cb x.1 s < 0
      · cases b <;> simp [dstep, hx, hl]
      · cases b <;> simp [dstep, hx, hl]
  have key : ∀ (xs : List Rf) (st : List Rf × Bool), (xs.foldl (dstep s c) st).1.length + st.2.toNat ≤ st.1.length + xs.length + (xs.foldl (dstep s c) st).2.toNat := by
    intro xs
    induction xs with
    | nil => intro st; simp
    | cons x xs ih =>
      intro st
      have h1 := ih (dstep s c st x)
      have h2 := one st x
      rw [List.foldl_cons, List.length_cons]
      omega
  have := key l ([], decide (c = 0))
  unfold dgo
  simp only [List.length_nil] at this
  omega
end Go.Proofs.Ytkhdjlakclidoaa
