/-
  What the pieces of three texts come to: one side as it was; turned; the whole.
-/
import Derived.Test.YtiefenfogjlnoaaMKnown
import Derived.Test.YtiefenfogjlnoaaCutMore
namespace Go.Proofs.Ytiefenfogjlnoaa
open Go.RowKit

theorem allC_parts (xs ys zs : List ByteArray) : (allC xs ys zs).flatMap (·.base) = xs ∧ (allC xs ys zs).flatMap (·.ours) = ys ∧ (allC xs ys zs).flatMap (·.theirs) = zs :=
  chunks_parts (places_ed xs ys) (places_ed xs zs) (xs.length + 1) 0 0 0 (.inl (by omega)) (Nat.zero_le _) (Beh.zero _ _) (Beh.zero _ _)

theorem allC_clash (xs ys zs : List ByteArray) : ∀ c ∈ allC xs ys zs, c.clash = true ↔ (c.out = [] ∧ c.ours ≠ c.base ∧ c.theirs ≠ c.base ∧ c.ours ≠ c.theirs) :=
  chunks_clash (places_ed xs ys) (places_ed xs zs)

theorem txt_calm (a n : List UInt8) : ∀ {cs : List (Ck ByteArray)}, (∀ c ∈ cs, c.clash = false) → txtAll a n cs = cat (cs.flatMap (·.out)) ∧ clashes cs = 0
  | [], _ => ⟨rfl, rfl⟩
  | c :: cs, h => by
    obtain ⟨h1, h2⟩ := txt_calm a n (cs := cs) fun d hd => h d (List.mem_cons_of_mem _ hd)
    have hc := h c List.mem_cons_self
    refine ⟨?_, ?_⟩
    · unfold txtAll at h1 ⊢
      rw [List.flatMap_cons, List.flatMap_cons, h1]
      unfold txtC cat
      rw [if_neg (by rw [hc]; decide), List.map_append, List.flatten_append]
    · unfold clashes at h2 ⊢
      rw [List.filter_cons_of_neg (by rw [hc]; decide), h2]

theorem flat_same {β : Type} {f g : Ck ByteArray → List β} : ∀ {cs : List (Ck ByteArray)}, (∀ c ∈ cs, f c = g c) → cs.flatMap f = cs.flatMap g
  | [], _ => rfl
  | c :: cs, h => by
    rw [List.flatMap_cons, List.flatMap_cons, h c List.mem_cons_self, flat_same fun d hd => h d (List.mem_cons_of_mem _ hd)]

theorem self_at (b : List ByteArray) : ∀ i j : Nat, (pls (ed b b) 0)[i]? = some (some j) → j = i := by
  intro i j h
  have hk := pls_keep b [] 0 i
  rw [List.append_nil, ← ed_self] at hk
  rw [hk] at h
  split at h
  · simpa using h.symm
  · simp [pls] at h

theorem sides_one (a n : List UInt8) (b o : List ByteArray) : txtAll a n (allC b o b) = cat o ∧ clashes (allC b o b) = 0 := by
  have h : ∀ c ∈ allC b o b, c.clash = false ∧ c.out = c.ours := sides_theirs (places_ed b o) (places_ed b b) (self_at b)
  obtain ⟨h1, h2⟩ := txt_calm a n (cs := allC b o b) fun c hc => (h c hc).1
  refine ⟨?_, h2⟩
  rw [h1, flat_same (f := fun c => c.out) (g := fun c => c.ours) (cs := allC b o b) fun c hc => (h c hc).2, (allC_parts b o b).2.1]
theorem sides_two (a n : List UInt8) (b o : List ByteArray) : txtAll a n (allC b b o) = cat o ∧ clashes (allC b b o) = 0 := by
  have h : ∀ c ∈ allC b b o, c.clash = false ∧ c.out = c.theirs := sides_ours (places_ed b b) (places_ed b o) (self_at b)
  obtain ⟨h1, h2⟩ := txt_calm a n (cs := allC b b o) fun c hc => (h c hc).1
  refine ⟨?_, h2⟩
  rw [h1, flat_same (f := fun c => c.out) (g := fun c => c.theirs) (cs := allC b b o) fun c hc => (h c hc).2, (allC_parts b b o).2.2]
theorem sides_alike (a n : List UInt8) (b o : List ByteArray) : txtAll a n (allC b o o) = cat o ∧ clashes (allC b o o) = 0 := by
  have h : ∀ c ∈ allC b o o, c.clash = false ∧ c.out = c.ours := sides_both (places_ed b o)
  obtain ⟨h1, h2⟩ := txt_calm a n (cs := allC b o o) fun c hc => (h c hc).1
  refine ⟨?_, h2⟩
  rw [h1, flat_same (f := fun c => c.out) (g := fun c => c.ours) (cs := allC b o o) fun c hc => (h c hc).2, (allC_parts b o o).2.1]

theorem allC_turn (b o t : List ByteArray) : allC b t o = (allC b o t).map turnC := chunks_turn _ _ b o t _ 0 0 0
theorem clashes_turn (b o t : List ByteArray) : clashes (allC b t o) = clashes (allC b o t) := by
  rw [allC_turn]
  unfold clashes
  rw [List.filter_map, List.length_map]
  rfl
theorem txt_turn (a n : List UInt8) (b o t : List ByteArray) (h : clashes (allC b o t) = 0) : txtAll a n (allC b t o) = txtAll a n (allC b o t) := by
  have hc : ∀ c ∈ allC b o t, c.clash = false := by
    intro c hc
    cases e : c.clash with
    | false => rfl
    | true =>
      unfold clashes at h
      have := List.length_eq_zero_iff.1 h
      rw [List.filter_eq_nil_iff] at this
      exact absurd e (this c hc)
  rw [(txt_calm a n hc).1, allC_turn, (txt_calm a n (cs := (allC b o t).map turnC) (by intro c hc'; obtain ⟨d, hd, rfl⟩ := List.mem_map.1 hc'; exact hc d hd)).1, List.flatMap_map]
  rfl

end Go.Proofs.Ytiefenfogjlnoaa
