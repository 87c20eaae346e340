/-
  What (Row).Check says of a tree, in plain words: the first file that may not be, and why.
-/
import Derived.Test.YtapcnmnnichamaaGreatDoorFThy
import Derived.Test.YtapcnmnnichamaaGreatDoorRP
namespace Go.Proofs.YtapcnmnnichamaaGreatDoor
open Go Go.RowKit

/-- What is wrong with a file by itself. -/
def causeF (f : Fl) : Int := if chk f.1.data.toList ≠ 0 then chk f.1.data.toList else if ¬ (f.2.1 = 1 ∨ f.2.1 = 2) then 1 else if 4096 < f.2.2.size then 4 else 0
/-- Does the last file ahead not lie before it? -/
def lateF (a : List Fl) (f : Fl) : Bool := match a.getLast? with | some g => decide (0 ≤ cb g.1 f.1) | none => false
def clashF (a : List Fl) (p : ByteArray) : Bool := a.any fun g => cls g.1.data.toList p.data.toList
def refF (a : List Fl) (f : Fl) : Int := if causeF f ≠ 0 then causeF f else if lateF a f = true then 6 else if clashF a f.1 = true then 11 else 0
def wrongF : List Fl → List Fl → Option (Nat × Int)
  | _, [] => none
  | a, f :: r => if refF a f ≠ 0 then some (a.length, refF a f) else wrongF (a ++ [f]) r
/-- What Check says. -/
def chkF (l : List Fl) : Option (Nat × Int) := if 64 < l.length then some (64, 4) else wrongF [] l

theorem wrongF_step : ∀ (a r : List Fl), (∀ i f, r[i]? = some f → refF (a ++ r.take i) f = 0) → wrongF a r = none
  | _, [], _ => rfl
  | a, f :: r, h => by
    have h0 := h 0 f rfl
    simp only [List.take_zero, List.append_nil] at h0
    unfold wrongF
    rw [if_neg (by rw [h0]; simp)]
    refine wrongF_step (a ++ [f]) r fun i g hg => ?_
    have := h (i + 1) g (by simpa using hg)
    rw [List.take_succ_cons] at this
    rw [List.append_assoc]
    exact this
theorem wrongF_at : ∀ (a r : List Fl) (i : Nat) (f : Fl), (∀ j g, j < i → r[j]? = some g → refF (a ++ r.take j) g = 0) → r[i]? = some f → refF (a ++ r.take i) f ≠ 0 → wrongF a r = some (a.length + i, refF (a ++ r.take i) f)
  | _, [], _, _, _, h, _ => by simp at h
  | a, f :: r, 0, g, _, h, hr => by
    simp at h
    subst h
    simp only [List.take_zero, List.append_nil] at hr ⊢
    unfold wrongF
    rw [if_pos hr]
    simp
  | a, f :: r, i + 1, g, hb, h, hr => by
    have h0 := hb 0 f (by omega) rfl
    simp only [List.take_zero, List.append_nil] at h0
    unfold wrongF
    rw [if_neg (by rw [h0]; simp)]
    rw [List.take_succ_cons] at hr ⊢
    have := wrongF_at (a ++ [f]) r i g (fun j x hj hx => by
      have := hb (j + 1) x (by omega) (by simpa using hx)
      rw [List.take_succ_cons] at this
      rw [List.append_assoc]
      exact this) (by simpa using h) (by rw [List.append_assoc]; exact hr)
    rw [this, List.append_assoc]
    simp
    omega
theorem wrongF_good : ∀ (a r : List Fl), wrongF a r = none → ∀ i f, r[i]? = some f → refF (a ++ r.take i) f = 0
  | _, [], _, i, f, h => by simp at h
  | a, f :: r, h, i, g, hg => by
    unfold wrongF at h
    by_cases hr : refF a f = 0
    · rw [if_neg (by rw [hr]; simp)] at h
      cases i with
      | zero => simp at hg; subst hg; simpa using hr
      | succ i =>
        have := wrongF_good (a ++ [f]) r h i g (by simpa using hg)
        rw [List.append_assoc] at this
        rw [List.take_succ_cons]
        exact this
    · rw [if_pos hr] at h; cases h
theorem chkF_long {l : List Fl} (h : 64 < l.length) : chkF l = some (64, 4) := if_pos h
theorem chkF_good {l : List Fl} (h : ¬ 64 < l.length) (hg : ∀ i f, l[i]? = some f → refF (l.take i) f = 0) : chkF l = none := by
  unfold chkF
  rw [if_neg h]
  exact wrongF_step [] l fun i f hf => by simpa using hg i f hf
theorem chkF_bad {l : List Fl} {i : Nat} {f : Fl} (h : ¬ 64 < l.length) (hg : ∀ j g, j < i → l[j]? = some g → refF (l.take j) g = 0) (hi : l[i]? = some f) (hb : refF (l.take i) f ≠ 0) : chkF l = some (i, refF (l.take i) f) := by
  unfold chkF
  rw [if_neg h]
  have := wrongF_at [] l i f (fun j g hj hx => by simpa using hg j g hj hx) hi (by simpa using hb)
  simpa using this
theorem chkF_at {l : List Fl} (h : chkF l = none) {i : Nat} {f : Fl} (hi : l[i]? = some f) : refF (l.take i) f = 0 := by
  unfold chkF at h
  by_cases hl : 64 < l.length
  · rw [if_pos hl] at h; cases h
  · rw [if_neg hl] at h
    simpa using wrongF_good [] l h i f hi
theorem chkF_len {l : List Fl} (h : chkF l = none) : l.length ≤ 64 := by
  unfold chkF at h
  by_cases hl : 64 < l.length
  · rw [if_pos hl] at h; cases h
  · omega
theorem refF_cause {a : List Fl} {f : Fl} (h : refF a f = 0) : causeF f = 0 := by
  unfold refF at h
  by_cases hc : causeF f = 0
  · exact hc
  · rw [if_pos hc] at h; exact absurd h hc
theorem refF_late {a : List Fl} {f : Fl} (h : refF a f = 0) : lateF a f = false := by
  have hc := refF_cause h
  unfold refF at h
  rw [if_neg (by rw [hc]; simp)] at h
  by_cases hl : lateF a f = true
  · rw [if_pos hl] at h; cases h
  · simpa using hl
theorem refF_clash {a : List Fl} {f : Fl} (h : refF a f = 0) : clashF a f.1 = false := by
  have hc := refF_cause h
  have hl := refF_late h
  unfold refF at h
  rw [if_neg (by rw [hc]; simp), if_neg (by rw [hl]; simp)] at h
  by_cases hk : clashF a f.1 = true
  · rw [if_pos hk] at h; cases h
  · simpa using hk
theorem refF_zero {a : List Fl} {f : Fl} (hc : causeF f = 0) (hl : lateF a f = false) (hk : clashF a f.1 = false) : refF a f = 0 := by
  unfold refF
  rw [if_neg (by rw [hc]; simp), if_neg (by rw [hl]; simp), if_neg (by rw [hk]; simp)]
theorem causeF_path {f : Fl} (h : causeF f = 0) : chk f.1.data.toList = 0 := by
  unfold causeF at h
  by_cases hc : chk f.1.data.toList = 0
  · exact hc
  · rw [if_pos hc] at h; exact h
theorem causeF_size {f : Fl} (h : causeF f = 0) : f.1.size ≤ 64 := by
  have := causeF_path h
  unfold chk at this
  by_cases hl : 64 < f.1.data.toList.length
  · rw [if_pos hl] at this; cases this
  · rw [size_list] at hl; omega
theorem chkF_rise {l : List Fl} (h : chkF l = none) : RiseF l := by
  refine rise_adj l fun t x y hx hy => ?_
  have := refF_late (chkF_at h hy)
  unfold lateF at this
  rw [List.getLast?_take, if_neg (by omega)] at this
  have e : (l[t + 1 - 1]?).or l.getLast? = some x := by rw [Nat.add_sub_cancel, hx]; rfl
  rw [e] at this
  have := of_decide_eq_false this
  omega
end Go.Proofs.YtapcnmnnichamaaGreatDoor
