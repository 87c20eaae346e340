/-
  The plain theory of folders: where a text is cut last; what its folders' parts are.
-/
import Derived.Test.YtkhdjlakclidoaaDoorKnown
namespace Go.Proofs.YtkhdjlakclidoaaDoor
open Go Go.RowKit

theorem spl_at : ∀ (l : List UInt8) (k : Nat), l[k]? = some 47 → spl l = spl (l.take k) ++ spl (l.drop (k + 1))
  | [], k, h => by simp at h
  | c :: r, 0, h => by
    simp at h
    subst h
    rw [spl, if_pos rfl]
    simp [spl]
  | c :: r, k + 1, h => by
    have ih := spl_at r k (by simpa using h)
    rw [List.take_succ_cons, List.drop_succ_cons]
    by_cases hc : c = 47
    · subst hc
      rw [spl, if_pos rfl, spl, if_pos rfl, ih]; rfl
    · rw [spl, if_neg hc, spl, if_neg hc, ih]
      cases hs : spl (r.take k) with
      | nil => exact absurd hs (spl_ne _)
      | cons x xs => rfl
theorem spl_one : ∀ l : List UInt8, (∀ j : Nat, l[j]? ≠ some 47) → spl l = [l]
  | [], _ => rfl
  | c :: r, h => by
    have hc : c ≠ 47 := fun e => h 0 (by rw [e]; rfl)
    rw [spl, if_neg hc, spl_one r fun j => by simpa using h (j + 1)]; rfl
theorem spl_count : ∀ l : List UInt8, (spl l).length = l.count 47 + 1
  | [] => rfl
  | c :: r => by
    have ih := spl_count r
    by_cases hc : c = 47
    · subst hc
      rw [spl, if_pos rfl, List.length_cons, ih, List.count_cons_self]
    · have hp := List.length_pos_iff.2 (spl_ne r)
      rw [spl, if_neg hc, List.length_cons, List.length_tail, ih, List.count_cons_of_ne hc]
      omega
theorem par_spec (c : ByteArray) : (parN c = 0 ∧ ∀ j : Nat, c.data.toList[j]? ≠ some 47) ∨ (parN c < c.size ∧ c.data.toList[parN c]? = some 47 ∧ ∀ j : Nat, parN c < j → c.data.toList[j]? ≠ some 47) := by
  have hsz := size_list c
  have get : ∀ j, j < c.size → ∀ x, c.data.toList[j]? = some x → ((c.data[j]!).toNat : Int) = x.toNat := fun j hj x hx => by
    have hj' : j < c.data.size := hj
    rw [getElem!_pos c.data j hj']
    rw [List.getElem?_eq_getElem (by rw [hsz]; exact hj)] at hx
    have := Option.some.inj hx
    rw [← this]; rfl
  rcases Lib.lastIdx_spec c 47 c.size with ⟨h, hn⟩ | ⟨i, hi, h, he, hn⟩
  · left
    refine ⟨by unfold parN Lib.lastIndexByte; rw [h]; rfl, fun j hj => ?_⟩
    have hlt := (List.getElem?_eq_some_iff.1 hj).1
    rw [hsz] at hlt
    exact hn j hlt (by rw [get j hlt 47 hj]; rfl)
  · right
    have hp : parN c = i := by unfold parN Lib.lastIndexByte; rw [h]; omega
    rw [hp]
    refine ⟨hi, ?_, fun j hj hx => ?_⟩
    · have hlt : i < c.data.toList.length := by rw [hsz]; exact hi
      have h2 := List.getElem?_eq_getElem hlt
      have h3 := get i hi _ h2
      rw [he] at h3
      rw [h2]
      congr 1
      apply UInt8.toNat_inj.1
      show _ = 47
      omega
    · have hlt := (List.getElem?_eq_some_iff.1 hx).1
      rw [hsz] at hlt
      exact hn j hj hlt (by rw [get j hlt 47 hx]; rfl)
theorem gp_nil : gp [] = false := rfl

/-- c is p, or a folder above p. -/
def Up (p c : List UInt8) : Prop := c ≠ [] ∧ ∃ k, c = p.take k ∧ (p.length ≤ k ∨ p[k]? = some 47)
theorem up_self {p : List UInt8} (h : p ≠ []) : Up p p := ⟨h, p.length, by simp, .inl (Nat.le_refl _)⟩
theorem up_all {p c : List UInt8} (hu : Up p c) (h : (spl p).all gp = true) : (spl c).all gp = true := by
  obtain ⟨_, k, rfl, hk | hk⟩ := hu
  · rw [List.take_of_length_le hk]; exact h
  · rw [spl_at p k hk, List.all_append, Bool.and_eq_true] at h
    exact h.1
/-- One step up. -/
theorem up_step {p : List UInt8} {c : ByteArray} (hu : Up p c.data.toList) (h : (spl p).all gp = true) :
    (parN c = 0 ∧ (spl c.data.toList).length = 1) ∨
    (0 < parN c ∧ Up p (c.data.toList.take (parN c)) ∧ (spl (c.data.toList.take (parN c))).length + 1 = (spl c.data.toList).length ∧ parN c + 1 < p.length ∧ p[parN c]? = some 47 ∧ p.take (parN c) = c.data.toList.take (parN c)) := by
  have ha := up_all hu h
  rcases par_spec c with ⟨h0, hn⟩ | ⟨hlt, hx, hn⟩
  · left
    exact ⟨h0, by rw [spl_one _ hn]; rfl⟩
  · right
    generalize parN c = j at *
    generalize c.data.toList = cl at *
    have hsp := spl_at cl j hx
    have hlast : spl (cl.drop (j + 1)) = [cl.drop (j + 1)] := spl_one _ fun i => by rw [List.getElem?_drop]; exact hn _ (by omega)
    rw [hlast] at hsp
    rw [hsp, List.all_append, Bool.and_eq_true] at ha
    have hj0 : 0 < j := by
      rcases Nat.eq_zero_or_pos j with e | e
      · subst e
        have := ha.1
        simp [spl, gp_nil] at this
      · exact e
    have hne : cl.drop (j + 1) ≠ [] := fun e => by
      have := ha.2
      rw [e] at this
      simp [gp_nil] at this
    have hjl : j + 1 < cl.length := by
      rcases Nat.lt_or_ge (j + 1) cl.length with e | e
      · exact e
      · exact absurd (List.drop_eq_nil_of_le e) hne
    obtain ⟨_, k, hk, hkk⟩ := hu
    have hkj : j < k := by
      have : cl.length ≤ k := by rw [hk, List.length_take]; omega
      omega
    have hpl : cl.length ≤ p.length := by rw [hk, List.length_take]; omega
    have hpj : p[j]? = some 47 := by
      rw [hk, List.getElem?_take, if_pos hkj] at hx
      exact hx
    have htk : cl.take j = p.take j := by rw [hk, List.take_take, Nat.min_eq_left (by omega)]
    refine ⟨hj0, ⟨?_, j, htk, .inr hpj⟩, by rw [hsp, List.length_append]; rfl, by omega, hpj, htk.symm⟩
    intro e
    have := congrArg List.length e
    rw [List.length_take, List.length_nil] at this
    omega
theorem und_up {p d : List UInt8} {j : Nat} (hd : d ≠ []) (hj : j + 1 < p.length) (hp : p[j]? = some 47) (ht : p.take j = d) : und p d = true := by
  have hl : d.length = j := by rw [← ht, List.length_take]; omega
  rw [und_long hd (by omega), hl, hp, ht]
  simp
theorem cls_up {p d : List UInt8} (hp : p ≠ []) (hd : d ≠ []) (h : und p d = true) : cls p d = true := by rw [cls_of hp hd, h]; rfl
theorem cls_self {p : List UInt8} (hp : p ≠ []) : cls p p = false := by
  rw [cls_of hp hp, und_short hp (by omega)]; rfl
theorem chk_zero {l : List UInt8} (h : chk l = 0) : ¬ 64 < l.length ∧ l ≠ [] ∧ (spl l).all gp = true := by
  unfold chk at h
  by_cases h1 : 64 < l.length
  · rw [if_pos h1] at h; omega
  · rw [if_neg h1] at h
    by_cases h2 : l = []
    · rw [if_pos h2] at h; omega
    · rw [if_neg h2] at h
      cases h3 : (spl l).all gp with
      | true => exact ⟨h1, h2, rfl⟩
      | false => rw [h3] at h; simp at h
theorem chk_up {p c : List UInt8} (hu : Up p c) (h : chk p = 0) : chk c = 0 := by
  obtain ⟨h1, h2, h3⟩ := chk_zero h
  obtain ⟨hc, k, hk, _⟩ := id hu
  exact chk_good (by rw [hk, List.length_take]; omega) hc (up_all hu h3)
theorem count_parts (d : ByteArray) : Lib.countB d ⟨#[47]⟩ + 1 = (spl d.data.toList).length := by
  rw [spl_count]
  congr 1
  have := Lib.count_one 47 d.data.toList
  rw [← this]
end Go.Proofs.YtkhdjlakclidoaaDoor
