/-
  The plain theory of a file put, of a path cut, of what differs between two trees.
-/
import Derived.Test.YtapcnmnnichamaaGreatDoorFGen
namespace Go.Proofs.YtapcnmnnichamaaGreatDoor
open Go.RowKit

theorem nrm_congr {a b : List ByteArray} (h : ∀ s, s ∈ a ↔ s ∈ b) : nrm a = nrm b := nrm_of (nrm_rise b) fun s => by rw [nrm_mem]; exact h s
/-- A tree with a file, instead of what was at its path. -/
def putF (l : List Fl) (f : Fl) : List Fl := (l.filter fun x => decide (cb x.1 f.1 < 0)) ++ f :: (l.filter fun x => decide (0 < cb x.1 f.1))
/-- A tree without the file at a path. -/
def cutF (l : List Fl) (p : ByteArray) : List Fl := l.filter fun x => decide (x.1 ≠ p)

section
variable {l : List Fl} {s : ByteArray} {i : Nat}
theorem split_take (h : SplitF l s i) : l.take i = l.filter fun x => decide (cb x.1 s < 0) := by
  conv => rhs; rw [← List.take_append_drop i l, List.filter_append]
  rw [List.filter_eq_self.2 (fun x hx => ?_), List.filter_eq_nil_iff.2 (fun x hx => ?_), List.append_nil]
  · obtain ⟨t, ht, rfl⟩ := List.getElem_of_mem hx
    rw [List.getElem_drop]
    rw [List.length_drop] at ht
    have := h.2 (i + t) _ (by omega) (List.getElem?_eq_getElem (by omega))
    simp; omega
  · obtain ⟨t, ht, rfl⟩ := List.getElem_of_mem hx
    rw [List.getElem_take]
    rw [List.length_take] at ht
    exact decide_eq_true (h.1 t _ (by omega) (List.getElem?_eq_getElem (by omega)))
theorem split_drop (h : SplitF l s i) {j : Nat} (hij : i ≤ j) (h1 : ∀ t x, i ≤ t → t < j → l[t]? = some x → cb x.1 s = 0) (h2 : ∀ t x, j ≤ t → l[t]? = some x → cb x.1 s ≠ 0) : l.drop j = l.filter fun x => decide (0 < cb x.1 s) := by
  conv => rhs; rw [← List.take_append_drop j l, List.filter_append]
  rw [List.filter_eq_nil_iff.2 (fun x hx => ?_), List.filter_eq_self.2 (fun x hx => ?_), List.nil_append]
  · obtain ⟨t, ht, rfl⟩ := List.getElem_of_mem hx
    rw [List.getElem_drop]
    rw [List.length_drop] at ht
    have a := h.2 (j + t) _ (by omega) (List.getElem?_eq_getElem (by omega))
    have b := h2 (j + t) _ (by omega) (List.getElem?_eq_getElem (by omega))
    simp; omega
  · obtain ⟨t, ht, rfl⟩ := List.getElem_of_mem hx
    rw [List.getElem_take]
    rw [List.length_take] at ht
    rcases Nat.lt_or_ge t i with hti | hti
    · have := h.1 t _ hti (List.getElem?_eq_getElem (by omega))
      simp; omega
    · have := h1 t _ hti (by omega) (List.getElem?_eq_getElem (by omega))
      simp [this]
end
theorem put_none {l : List Fl} {f : Fl} {i : Nat} (h : SplitF l f.1 i) (hg : getF l f.1 = none) : putF l f = l.take i ++ f :: l.drop i := by
  unfold putF
  rw [split_take h, split_drop h (Nat.le_refl i) (fun t x h1 h2 => by omega) fun t x ht hx e => ?_]
  unfold getF at hg
  rw [List.find?_eq_none] at hg
  exact hg x (List.mem_of_getElem? hx) (by simpa using cb_zero e)
theorem put_some {l : List Fl} {f g : Fl} {i : Nat} (hr : RiseF l) (h : SplitF l f.1 i) (hx : l[i]? = some g) (hg : getF l f.1 = some g) : putF l f = l.take i ++ f :: l.drop (i + 1) := by
  unfold putF
  have hp := getF_path hg
  rw [split_take h, split_drop h (Nat.le_succ i) (fun t x h1 h2 hx2 => ?_) fun t x ht hx2 e => ?_]
  · obtain rfl : t = i := by omega
    rw [hx] at hx2
    rw [← Option.some.inj hx2, hp, cb_self]
  · obtain ⟨hi, e1⟩ := List.getElem?_eq_some_iff.1 hx
    obtain ⟨hj, e2⟩ := List.getElem?_eq_some_iff.1 hx2
    have := List.pairwise_iff_getElem.1 hr i t hi hj (by omega)
    rw [e1, e2, hp, ← cb_zero e, cb_self] at this
    omega
theorem put_rise {l : List Fl} (hr : RiseF l) (f : Fl) : RiseF (putF l f) := by
  unfold putF RiseF
  refine List.pairwise_append.2 ⟨hr.filter _, List.pairwise_cons.2 ⟨fun x hx => ?_, hr.filter _⟩, fun x hx y hy => ?_⟩
  · have := (List.mem_filter.1 hx).2
    have := of_decide_eq_true this
    rw [cb_swap x.1 f.1]
    omega
  · have h1 := of_decide_eq_true (List.mem_filter.1 hx).2
    rcases List.mem_cons.1 hy with rfl | hy
    · exact h1
    · have h2 := of_decide_eq_true (List.mem_filter.1 hy).2
      exact cb_trans h1 (by rw [cb_swap y.1 f.1]; omega)
theorem put_mem {l : List Fl} {f x : Fl} : x ∈ putF l f ↔ x = f ∨ (x ∈ l ∧ x.1 ≠ f.1) := by
  unfold putF
  rw [List.mem_append, List.mem_cons, List.mem_filter, List.mem_filter, decide_eq_true_iff, decide_eq_true_iff]
  constructor
  · rintro (⟨h1, h2⟩ | h | ⟨h1, h2⟩)
    · exact .inr ⟨h1, cb_ne h2⟩
    · exact .inl h
    · exact .inr ⟨h1, fun e => by rw [e, cb_self] at h2; omega⟩
  · rintro (h | ⟨h1, h2⟩)
    · exact .inr (.inl h)
    · have h0 : cb x.1 f.1 ≠ 0 := fun e => h2 (cb_zero e)
      rcases Int.lt_or_le (cb x.1 f.1) 0 with h | h
      · exact .inl ⟨h1, h⟩
      · exact .inr (.inr ⟨h1, by omega⟩)
theorem getF_iff {l : List Fl} (hr : RiseF l) {p : ByteArray} {f : Fl} : getF l p = some f ↔ f ∈ l ∧ f.1 = p := by
  constructor
  · intro h
    exact ⟨getF_mem h, getF_path h⟩
  · rintro ⟨h, rfl⟩
    exact mem_getF hr h
theorem opt_ext {a b : Option Fl} (h : ∀ f, a = some f ↔ b = some f) : a = b := by
  cases a with
  | none => cases b with
    | none => rfl
    | some g => exact absurd ((h g).2 rfl) (by simp)
  | some f => exact ((h f).1 rfl).symm
theorem get_put {l : List Fl} (hr : RiseF l) (f : Fl) (p : ByteArray) : getF (putF l f) p = if p = f.1 then some f else getF l p := by
  refine opt_ext fun g => ?_
  rw [getF_iff (put_rise hr f), put_mem]
  by_cases hp : p = f.1
  · rw [if_pos hp]
    constructor
    · rintro ⟨h | ⟨h1, h2⟩, h3⟩
      · rw [h]
      · exact absurd (h3.trans hp) h2
    · intro h
      rw [← Option.some.inj h]
      exact ⟨.inl rfl, hp.symm⟩
  · rw [if_neg hp, getF_iff hr]
    constructor
    · rintro ⟨h | ⟨h1, h2⟩, h3⟩
      · exact absurd (h3.symm.trans (by rw [h])) hp
      · exact ⟨h1, h3⟩
    · rintro ⟨h1, h2⟩
      exact ⟨.inr ⟨h1, fun e => hp (h2.symm.trans e)⟩, h2⟩
theorem cut_rise {l : List Fl} (hr : RiseF l) (p : ByteArray) : RiseF (cutF l p) := hr.filter _
theorem get_cut {l : List Fl} (hr : RiseF l) (p q : ByteArray) : getF (cutF l p) q = if q = p then none else getF l q := by
  refine opt_ext fun g => ?_
  rw [getF_iff (cut_rise hr p)]
  unfold cutF
  rw [List.mem_filter, decide_eq_true_iff]
  by_cases hq : q = p
  · rw [if_pos hq]
    constructor
    · rintro ⟨⟨h1, h2⟩, h3⟩
      exact absurd (h3.trans hq) h2
    · intro h; cases h
  · rw [if_neg hq, getF_iff hr]
    constructor
    · rintro ⟨⟨h1, h2⟩, h3⟩
      exact ⟨h1, h3⟩
    · rintro ⟨h1, h2⟩
      exact ⟨⟨h1, fun e => hq (h2.symm.trans e)⟩, h2⟩
theorem put_len (l : List Fl) (f : Fl) : (putF l f).length ≤ l.length + 1 := by
  unfold putF
  rw [List.length_append, List.length_cons]
  have h : ∀ l : List Fl, (l.filter fun x => decide (cb x.1 f.1 < 0)).length + (l.filter fun x => decide (0 < cb x.1 f.1)).length ≤ l.length := fun l => by
    induction l with
    | nil => simp
    | cons x l ih =>
      by_cases h1 : cb x.1 f.1 < 0
      · have h2 : ¬ 0 < cb x.1 f.1 := by omega
        simp only [List.filter_cons, h1, h2, decide_true, decide_false, if_true, List.length_cons]
        simp only [Bool.false_eq_true, if_false]
        omega
      · by_cases h2 : 0 < cb x.1 f.1
        · simp only [List.filter_cons, h1, h2, decide_true, decide_false, if_true, List.length_cons]
          simp only [Bool.false_eq_true, if_false]
          omega
        · simp only [List.filter_cons, h1, h2, decide_false, List.length_cons]
          simp only [Bool.false_eq_true, if_false]
          omega
  have := h l
  omega
theorem cut_len (l : List Fl) (p : ByteArray) : (cutF l p).length ≤ l.length := List.length_filter_le _ _

/-! ### What differs -/
abbrev Dl := ByteArray × Int
/-- The paths of two trees. -/
def paths2 (a b : List Fl) : List ByteArray := nrm (a.map (·.1) ++ b.map (·.1))
def diffOf (f : ByteArray → Int) (ps : List ByteArray) : List Dl := (ps.map fun p => (p, f p)).filter fun x => decide (x.2 ≠ 32)
def diffF (a b : List Fl) : List Dl := diffOf (fun p => unl (getF a p) (getF b p)) (paths2 a b)
theorem diffOf_snoc (f : ByteArray → Int) (ps : List ByteArray) (p : ByteArray) : diffOf f (ps ++ [p]) = diffOf f ps ++ (if f p ≠ 32 then [(p, f p)] else []) := by
  unfold diffOf
  rw [List.map_append, List.filter_append]
  congr 1
  by_cases h : f p = 32 <;> simp [h]
theorem diffOf_len (f : ByteArray → Int) (ps : List ByteArray) : (diffOf f ps).length ≤ ps.length := by
  unfold diffOf
  exact Nat.le_trans (List.length_filter_le _ _) (by rw [List.length_map]; exact Nat.le_refl _)
theorem paths2_len (a b : List Fl) : (paths2 a b).length ≤ a.length + b.length := by
  unfold paths2
  refine Nat.le_trans (nrm_len _) ?_
  rw [List.length_append, List.length_map, List.length_map]
  exact Nat.le_refl _
theorem paths2_mem (a b : List Fl) (p : ByteArray) : p ∈ paths2 a b ↔ p ∈ a.map (·.1) ∨ p ∈ b.map (·.1) := by unfold paths2; rw [nrm_mem, List.mem_append]
theorem diff_mem {a b : List Fl} {x : Dl} : x ∈ diffF a b ↔ x.2 = unl (getF a x.1) (getF b x.1) ∧ x.2 ≠ 32 := by
  unfold diffF diffOf
  rw [List.mem_filter, List.mem_map, decide_eq_true_iff]
  constructor
  · rintro ⟨⟨p, _, rfl⟩, h⟩
    exact ⟨rfl, h⟩
  · rintro ⟨h1, h2⟩
    refine ⟨⟨x.1, ?_, Prod.ext rfl h1.symm⟩, h2⟩
    rw [paths2_mem]
    by_cases h3 : hasP (a.map (·.1)) x.1 = true
    · exact .inl (hasP_iff.1 h3)
    · by_cases h4 : hasP (b.map (·.1)) x.1 = true
      · exact .inr (hasP_iff.1 h4)
      · rw [getF_none (fun e => h3 (hasP_iff.2 e)), getF_none (fun e => h4 (hasP_iff.2 e))] at h1
        exact absurd h1 h2
theorem diff_none {a b : List Fl} (ha : RiseF a) (hb : RiseF b) : diffF a b = [] ↔ a = b := by
  constructor
  · intro h
    refine tree_ext ha hb fun p => ?_
    refine Decidable.byContradiction fun hne => ?_
    have : (p, unl (getF a p) (getF b p)) ∈ diffF a b := diff_mem.2 ⟨rfl, fun e => hne (unl_eq e)⟩
    rw [h] at this
    cases this
  · rintro rfl
    refine List.eq_nil_iff_forall_not_mem.2 fun x hx => ?_
    obtain ⟨h1, h2⟩ := diff_mem.1 hx
    rw [unl_same] at h1
    exact h2 h1
theorem unl_turn (a b : Option Fl) : unl a b ≠ 32 ↔ unl b a ≠ 32 := by
  constructor
  · intro h e
    exact h (by rw [unl_eq e, unl_same])
  · intro h e
    exact h (by rw [unl_eq e, unl_same])
theorem diff_turn (a b : List Fl) : (diffF b a).length = (diffF a b).length := by
  have e : paths2 b a = paths2 a b := nrm_congr fun s => by rw [List.mem_append, List.mem_append, Or.comm]
  unfold diffF
  rw [e]
  generalize paths2 a b = ps
  have e2 : ∀ f g : ByteArray → Int, (∀ p, f p ≠ 32 ↔ g p ≠ 32) → (diffOf f ps).length = (diffOf g ps).length := fun f g h => by
    unfold diffOf
    induction ps with
    | nil => rfl
    | cons p ps ih =>
      rw [List.map_cons, List.map_cons, List.filter_cons, List.filter_cons]
      by_cases hf : f p ≠ 32
      · rw [if_pos (decide_eq_true hf), if_pos (decide_eq_true ((h p).1 hf)), List.length_cons, List.length_cons, ih]
      · rw [if_neg (by simpa using hf), if_neg (by have := fun e => hf ((h p).2 e); simpa using this), ih]
  exact e2 _ _ fun p => unl_turn _ _
/-- What is done of a difference: the tree has of b what was done, of a the rest. -/
def DoneTo (a b r : List Fl) (d : List Dl) : Prop := RiseF r ∧ ∀ p, getF r p = if hasP (d.map (·.1)) p = true then getF b p else getF a p
theorem done_start {a b : List Fl} (ha : RiseF a) : DoneTo a b a [] := ⟨ha, fun p => by simp [hasP]⟩
theorem hasP_snoc (d : List Dl) (x : Dl) (p : ByteArray) : hasP ((d ++ [x]).map (·.1)) p = true ↔ hasP (d.map (·.1)) p = true ∨ p = x.1 := by
  rw [hasP_iff, hasP_iff, List.map_append, List.mem_append, List.map_cons, List.map_nil, List.mem_singleton]
theorem done_cut {a b r : List Fl} {d : List Dl} {x : Dl} (h : DoneTo a b r d) (hx : getF b x.1 = none) : DoneTo a b (cutF r x.1) (d ++ [x]) := by
  refine ⟨cut_rise h.1 _, fun p => ?_⟩
  rw [get_cut h.1, h.2 p]
  by_cases hp : p = x.1
  · rw [if_pos hp, if_pos ((hasP_snoc d x p).2 (.inr hp)), hp, hx]
  · rw [if_neg hp]
    by_cases hd : hasP (d.map (·.1)) p = true
    · rw [if_pos hd, if_pos ((hasP_snoc d x p).2 (.inl hd))]
    · rw [if_neg hd, if_neg fun h => ((hasP_snoc d x p).1 h).elim hd hp]
theorem done_put {a b r : List Fl} {d : List Dl} {x : Dl} {f : Fl} (h : DoneTo a b r d) (hx : getF b x.1 = some f) : DoneTo a b (putF r f) (d ++ [x]) := by
  have hf := getF_path hx
  refine ⟨put_rise h.1 _, fun p => ?_⟩
  rw [get_put h.1, h.2 p]
  by_cases hp : p = x.1
  · rw [if_pos (by rw [hp, hf]), if_pos ((hasP_snoc d x p).2 (.inr hp)), hp, hx]
  · rw [if_neg (by rw [hf]; exact hp)]
    by_cases hd : hasP (d.map (·.1)) p = true
    · rw [if_pos hd, if_pos ((hasP_snoc d x p).2 (.inl hd))]
    · rw [if_neg hd, if_neg fun h => ((hasP_snoc d x p).1 h).elim hd hp]
theorem done_end {a b r : List Fl} (hb : RiseF b) (h : DoneTo a b r (diffF a b)) : r = b := by
  refine tree_ext h.1 hb fun p => ?_
  rw [h.2 p]
  by_cases hp : hasP ((diffF a b).map (·.1)) p = true
  · rw [if_pos hp]
  · rw [if_neg hp]
    refine Decidable.byContradiction fun hne => hp (hasP_iff.2 <| List.mem_map.2 ⟨(p, unl (getF a p) (getF b p)), diff_mem.2 ⟨rfl, fun e => hne (unl_eq e)⟩, rfl⟩)
end Go.Proofs.YtapcnmnnichamaaGreatDoor
