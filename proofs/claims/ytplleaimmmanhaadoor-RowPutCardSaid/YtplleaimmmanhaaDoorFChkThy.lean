/-
  Trees that may be: what Check asks, said at once; a tree cleared of what clashes, with a file put.
-/
import Derived.Test.YtplleaimmmanhaaDoorFChk
import Derived.Test.YtplleaimmmanhaaDoorFCut
namespace Go.Proofs.YtplleaimmmanhaaDoor
open Go Go.RowKit

theorem cls_symm (a b : List UInt8) : cls a b = cls b a := by
  unfold cls
  cases h1 : (a == []) <;> cases h2 : (b == []) <;> simp [Bool.or_comm]
theorem cls_self (a : List UInt8) : cls a a = false := by
  unfold cls
  cases h : (a == []) with
  | true => rfl
  | false =>
    have h0 : a ≠ [] := by simpa using h
    rw [und_short h0 (by omega)]
    rfl
def ApartF (l : List Fl) : Prop := ∀ x ∈ l, ∀ y ∈ l, cls x.1.data.toList y.1.data.toList = false
theorem clashF_iff {a : List Fl} {p : ByteArray} : clashF a p = false ↔ ∀ y ∈ a, cls y.1.data.toList p.data.toList = false := by
  unfold clashF
  rw [List.any_eq_false]
  constructor
  · intro h y hy
    have := h y hy
    simpa using this
  · intro h y hy
    rw [h y hy]; simp
theorem chkF_apart {l : List Fl} (h : chkF l = none) : ApartF l := fun x hx y hy => by
  obtain ⟨i, hi, rfl⟩ := List.getElem_of_mem hx
  obtain ⟨j, hj, rfl⟩ := List.getElem_of_mem hy
  have key : ∀ (i j : Nat) (hi : i < l.length) (hj : j < l.length), i < j → cls l[i].1.data.toList l[j].1.data.toList = false := fun i j hi hj hij => by
    have h1 := refF_clash (chkF_at h (List.getElem?_eq_getElem hj))
    refine clashF_iff.1 h1 l[i] (List.mem_of_getElem? (i := i) ?_)
    rw [List.getElem?_take, if_pos hij, List.getElem?_eq_getElem hi]
  rcases Nat.lt_trichotomy i j with hij | hij | hij
  · exact key i j hi hj hij
  · subst hij; exact cls_self _
  · rw [cls_symm]; exact key j i hj hi hij
theorem chkF_cause {l : List Fl} (h : chkF l = none) : ∀ x ∈ l, causeF x = 0 := fun x hx => by
  obtain ⟨i, hi, rfl⟩ := List.getElem_of_mem hx
  exact refF_cause (chkF_at h (List.getElem?_eq_getElem hi))
theorem chkF_of {l : List Fl} (hl : l.length ≤ 64) (hr : RiseF l) (hc : ∀ x ∈ l, causeF x = 0) (ha : ApartF l) : chkF l = none := by
  refine chkF_good (by omega) fun i f hf => refF_zero (hc f (List.mem_of_getElem? hf)) ?_ ?_
  · unfold lateF
    rw [List.getLast?_take]
    by_cases hi : i = 0
    · rw [if_pos hi]
    · rw [if_neg hi]
      have hil := (List.getElem?_eq_some_iff.1 hf).1
      obtain ⟨g, hg⟩ : ∃ g, l[i - 1]? = some g := ⟨_, List.getElem?_eq_getElem (by omega)⟩
      have := rise_at hr hg (by rw [Nat.sub_add_cancel (by omega)]; exact hf)
      rw [hg]
      show decide (0 ≤ cb g.1 f.1) = false
      exact decide_eq_false (by omega)
  · exact clashF_iff.2 fun y hy => ha y (List.mem_of_mem_take hy) f (List.mem_of_getElem? hf)
/-- A tree cleared of what clashes, with the file. -/
def clrPut (l : List Fl) (f : Fl) : List Fl := putF (clearF l f.1) f
theorem clrPut_mem {l : List Fl} {f x : Fl} (h : x ∈ clrPut l f) : x = f ∨ (x ∈ l ∧ cls x.1.data.toList f.1.data.toList = false) := by
  rcases put_mem.1 h with h | ⟨h, _⟩
  · exact .inl h
  · unfold clearF at h
    rw [List.mem_filter] at h
    exact .inr ⟨h.1, by simpa using h.2⟩
theorem clrPut_rise {l : List Fl} (hr : RiseF l) (f : Fl) : RiseF (clrPut l f) := put_rise (clear_rise hr _) f
theorem clrPut_check {l : List Fl} {f : Fl} (h : chkF l = none) (hf : causeF f = 0) (hl : (clrPut l f).length ≤ 64) : chkF (clrPut l f) = none := by
  refine chkF_of hl (clrPut_rise (chkF_rise h) f) (fun x hx => ?_) fun x hx y hy => ?_
  · rcases clrPut_mem hx with rfl | ⟨hx, _⟩
    · exact hf
    · exact chkF_cause h x hx
  · rcases clrPut_mem hx with rfl | ⟨hx, hxf⟩
    · rcases clrPut_mem hy with rfl | ⟨_, hyf⟩
      · exact cls_self _
      · rw [cls_symm]; exact hyf
    · rcases clrPut_mem hy with rfl | ⟨hy, _⟩
      · exact hxf
      · exact chkF_apart h x hx y hy
theorem clrPut_get {l : List Fl} (hr : RiseF l) (f : Fl) : getF (clrPut l f) f.1 = some f := by
  unfold clrPut
  rw [get_put (clear_rise hr _), if_pos rfl]
theorem clrPut_stays {l : List Fl} (hr : RiseF l) {f x : Fl} (hx : x ∈ l) : (getF (clrPut l f) x.1).isSome = !cls x.1.data.toList f.1.data.toList := by
  unfold clrPut
  rw [get_put (clear_rise hr _)]
  by_cases h : x.1 = f.1
  · rw [if_pos h, h, cls_self]; rfl
  · rw [if_neg h]
    cases hc : cls x.1.data.toList f.1.data.toList with
    | false =>
      have hm : x ∈ clearF l f.1 := List.mem_filter.2 ⟨hx, by simp [hc]⟩
      rw [mem_getF (clear_rise hr _) hm]; rfl
    | true =>
      have : getF (clearF l f.1) x.1 = none := getF_none fun hm => by
        obtain ⟨y, hy, he⟩ := List.mem_map.1 hm
        have h2 := (List.mem_filter.1 hy).2
        rw [he, hc] at h2
        cases h2
      rw [this]; rfl
theorem clrPut_len (l : List Fl) (f : Fl) : (clrPut l f).length ≤ l.length + 1 := Nat.le_trans (put_len _ _) (by have := List.length_filter_le (fun x : Fl => !cls x.1.data.toList f.1.data.toList) l; unfold clearF; omega)
end Go.Proofs.YtplleaimmmanhaaDoor
