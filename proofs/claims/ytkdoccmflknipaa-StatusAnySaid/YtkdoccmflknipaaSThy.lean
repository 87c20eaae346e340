/-
  Nothing is told just where head, index and folder are alike: by plain lists.
-/
import Derived.Test.YtkdoccmflknipaaSIdx
import Derived.Test.YtkdoccmflknipaaSOne
namespace Go.Proofs.Ytkdoccmflknipaa
open Go.RowKit

/-- Entries in their order. -/
def le2 (x y : En) : Prop := cb x.1 y.1 < 0 ∨ (x.1 = y.1 ∧ x.2.1 < y.2.1)
theorem le2_trans {x y z : En} (h : le2 x y) (g : le2 y z) : le2 x z := by
  rcases h with h | ⟨h1, h2⟩
  · rcases g with g | ⟨g1, g2⟩
    · exact .inl (cb_trans h g)
    · exact .inl (by rw [← g1]; exact h)
  · rcases g with g | ⟨g1, g2⟩
    · exact .inl (by rw [h1]; exact g)
    · exact .inr ⟨h1.trans g1, by omega⟩
theorem pair_adj {α : Type} {R : α → α → Prop} (ht : ∀ x y z, R x y → R y z → R x z) : ∀ (l : List α), (∀ (t : Nat) (x y : α), l[t]? = some x → l[t + 1]? = some y → R x y) → l.Pairwise R
  | [], _ => List.Pairwise.nil
  | [x], _ => List.pairwise_singleton _ _
  | x :: y :: l, h => by
    have ih := pair_adj ht (y :: l) fun t a b ha hb => h (t + 1) a b (by simpa using ha) (by simpa using hb)
    have hxy : R x y := h 0 x y rfl rfl
    refine List.pairwise_cons.2 ⟨fun z hz => ?_, ih⟩
    rcases List.mem_cons.1 hz with rfl | hz
    · exact hxy
    · exact ht _ _ _ hxy ((List.pairwise_cons.1 ih).1 z hz)
theorem ok_pair {l : List En} (h : ∀ i, i < l.length → okAt l i) : l.Pairwise le2 := pair_adj (R := le2) (fun _ _ _ h g => le2_trans h g) l fun t x y hx hy => by
  have hlt := (List.getElem?_eq_some_iff.1 hy).1
  obtain ⟨_, _, h3⟩ := h (t + 1) hlt y hy
  obtain ⟨a, b⟩ := h3 t x rfl hx
  by_cases hc : cb x.1 y.1 < 0
  · exact .inl hc
  · rw [cb_swap x.1 y.1] at a
    have e := cb_zero (show cb x.1 y.1 = 0 by omega)
    exact .inr ⟨e, b e⟩
theorem stage_rise {l : List En} (n : Int) (h : l.Pairwise le2) : RiseF (stageE l n) := by
  unfold RiseF stageE
  refine List.pairwise_map.2 (List.Pairwise.imp_of_mem (R := le2) ?_ (h.filter _))
  intro x y hx hy hle
  have h1 : x.2.1 = n := by simpa using (List.mem_filter.1 hx).2
  have h2 : y.2.1 = n := by simpa using (List.mem_filter.1 hy).2
  rcases hle with hle | ⟨_, h3⟩
  · exact hle
  · omega

/-! ### A tree is what it has at its paths -/
theorem getF_mem {l : List Fl} {p : ByteArray} {f : Fl} (h : getF l p = some f) : f ∈ l := List.mem_of_find?_eq_some h
theorem mem_getF {l : List Fl} (hr : RiseF l) {f : Fl} (h : f ∈ l) : getF l f.1 = some f := by
  obtain ⟨t, ht, e⟩ := List.getElem_of_mem h
  have hx : l[t]? = some f := by rw [List.getElem?_eq_getElem ht, e]
  rw [getF_at (i := t) hr (fun s x hs hx' => ?_) (fun s x hs hx' => ?_), hx]
  · simp [cb_self]
  · obtain ⟨hs', rfl⟩ := List.getElem?_eq_some_iff.1 hx'
    have := List.pairwise_iff_getElem.1 hr s t hs' ht hs
    rw [e] at this
    exact this
  · obtain ⟨hs', rfl⟩ := List.getElem?_eq_some_iff.1 hx'
    rcases Nat.eq_or_lt_of_le hs with e2 | e2
    · subst e2
      rw [e, cb_self]
      exact Int.le_refl _
    · have := List.pairwise_iff_getElem.1 hr t s ht hs' e2
      rw [e] at this
      rw [cb_swap f.1]
      omega
theorem tree_ext {a b : List Fl} (ha : RiseF a) (hb : RiseF b) (h : ∀ p, getF a p = getF b p) : a = b := by
  have hn : ∀ {l : List Fl}, RiseF l → l.Nodup := fun hl => hl.imp fun {x y} h e => by rw [e, cb_self] at h; omega
  refine List.Perm.eq_of_pairwise (le := fun x y : Fl => cb x.1 y.1 < 0) (fun x y _ _ h1 h2 => ?_) ha hb ((List.perm_ext_iff_of_nodup (hn ha) (hn hb)).2 fun f => ?_)
  · rw [cb_swap x.1 y.1] at h2
    omega
  · constructor
    · intro hf
      have := mem_getF ha hf
      rw [h] at this
      exact getF_mem this
    · intro hf
      have := mem_getF hb hf
      rw [← h] at this
      exact getF_mem this
theorem getF_none {l : List Fl} {p : ByteArray} (h : p ∉ l.map (·.1)) : getF l p = none := by
  unfold getF
  rw [List.find?_eq_none]
  intro f hf e
  exact h (List.mem_map.2 ⟨f, hf, by simpa using e⟩)
theorem unl_eq {a b : Option Fl} (h : unl a b = 32) : a = b := by
  cases a with
  | none => cases b with
    | none => rfl
    | some g => simp [unl] at h
  | some f => cases b with
    | none => simp [unl] at h
    | some g =>
      by_cases e : f = g
      · rw [e]
      · simp [unl, e] at h
theorem unl_same (a : Option Fl) : unl a a = 32 := by cases a <;> simp [unl]
theorem chg_eq {a b : Option Fl} (h : chg a b = 32) : a = b := by
  unfold chg at h
  split at h
  · omega
  · exact unl_eq h
theorem chg_same (a : Option Fl) : chg a a = 32 := by unfold chg; rw [unl_same]; rfl

theorem keep_none {f : ByteArray → Ln} {ps : List ByteArray} (h : linesOf f ps = []) : ∀ p ∈ ps, keepL (f p) = false := fun p hp => by
  unfold linesOf at h
  have := List.filter_eq_nil_iff.1 h (f p) (List.mem_map.2 ⟨p, hp, rfl⟩)
  simpa using this
theorem none_keep {f : ByteArray → Ln} {ps : List ByteArray} (h : ∀ p ∈ ps, keepL (f p) = false) : linesOf f ps = [] := by
  unfold linesOf
  rw [List.filter_eq_nil_iff]
  intro x hx
  obtain ⟨p, hp, rfl⟩ := List.mem_map.1 hx
  rw [h p hp]
  decide
theorem toE_toF {e : En} (h : e.2.1 = 0) : toE (toF e) = stillE e := by
  obtain ⟨p, st, m, d, tm, sz⟩ := e
  simp only at h
  subst h
  rfl
theorem still_toE (l : List Fl) : (l.map toE).map stillE = l.map toE := by
  rw [List.map_map]
  exact List.map_congr_left fun f _ => rfl
theorem stage_all {ix : List En} (h : ∀ e ∈ ix, e.2.1 = 0) : stageE ix 0 = ix.map toF := by
  unfold stageE
  rw [List.filter_eq_self.2 (fun e he => decide_eq_true (h e he))]
theorem conf_mem {ix : List En} {e : En} (he : e ∈ ix) (h : e.2.1 ≠ 0) : e.1 ∈ confE ix := List.mem_map.2 ⟨e, List.mem_filter.2 ⟨he, decide_eq_true h⟩, rfl⟩
theorem conf_all {ix : List En} (h : ∀ e ∈ ix, e.2.1 = 0) : confE ix = [] := by
  unfold confE
  rw [List.filter_eq_nil_iff.2 (fun e he => by simp [h e he])]
  rfl

/-- Nothing is told just where all three are alike. -/
theorem rows_none {l wk : List Fl} {ix : List En} (rl : RiseF l) (rn : RiseF (stageE ix 0)) (rw_ : RiseF wk) : rowsOf l ix wk = [] ↔ l = wk ∧ ix.map stillE = l.map toE := by
  constructor
  · intro h
    have hk := keep_none (f := lineOf l ix wk) (ps := allP l ix wk) h
    have h0 : ∀ e ∈ ix, e.2.1 = 0 := fun e he => Decidable.byContradiction fun hne => by
      have hp : e.1 ∈ allP l ix wk := (allP_mem l ix wk e.1).2 (.inr (.inl (List.mem_map.2 ⟨e, he, rfl⟩)))
      have := hk e.1 hp
      unfold lineOf at this
      rw [if_pos (hasP_iff.2 ((nrm_mem _ _).2 (conf_mem he hne)))] at this
      exact absurd this (by simp [keepL])
    have hl : ∀ p, lineOf l ix wk p = (p, unl (getF l p) (getF (stageE ix 0) p), chg (getF (stageE ix 0) p) (getF wk p)) := fun p => by
      unfold lineOf
      rw [conf_all h0, nrm_nil]
      rfl
    have hs := stage_all h0
    have heq : ∀ p, getF l p = getF (stageE ix 0) p ∧ getF (stageE ix 0) p = getF wk p := fun p => by
      by_cases hp : p ∈ allP l ix wk
      · have := hk p hp
        rw [hl p] at this
        unfold keepL at this
        rw [Bool.or_eq_false_iff, decide_eq_false_iff_not, decide_eq_false_iff_not] at this
        exact ⟨unl_eq (Decidable.byContradiction this.1), chg_eq (Decidable.byContradiction this.2)⟩
      · rw [allP_mem] at hp
        rw [getF_none (fun h => hp (.inl h)), getF_none (fun h => hp (.inr (.inr h))), hs, getF_none (fun h => hp (.inr (.inl (by rw [List.map_map] at h; exact h))))]
        exact ⟨rfl, rfl⟩
    have e1 : l = stageE ix 0 := tree_ext rl rn fun p => (heq p).1
    have e2 : stageE ix 0 = wk := tree_ext rn rw_ fun p => (heq p).2
    refine ⟨e1.trans e2, ?_⟩
    rw [e1, hs, List.map_map]
    exact List.map_congr_left fun e he => (toE_toF (h0 e he)).symm
  · rintro ⟨rfl, h⟩
    have h0 : ∀ e ∈ ix, e.2.1 = 0 := fun e he => by
      have : stillE e ∈ l.map toE := by rw [← h]; exact List.mem_map.2 ⟨e, he, rfl⟩
      obtain ⟨f, _, hf⟩ := List.mem_map.1 this
      exact (congrArg (fun z => z.2.1) hf).symm
    have hs : stageE ix 0 = l := by
      rw [stage_all h0]
      have : (ix.map stillE).map toF = (l.map toE).map toF := by rw [h]
      rw [List.map_map, List.map_map] at this
      have a : ix.map (toF ∘ stillE) = ix.map toF := List.map_congr_left fun e _ => rfl
      have b : l.map (toF ∘ toE) = l := (List.map_congr_left fun f _ => rfl).trans (List.map_id l)
      rw [a, b] at this
      exact this
    refine none_keep (f := lineOf l ix l) (ps := allP l ix l) fun p _ => ?_
    unfold lineOf
    rw [conf_all h0, nrm_nil, hs, unl_same, chg_same]
    rfl
end Go.Proofs.Ytkdoccmflknipaa
