/-
  The document's own functions on paths: Parts, Check, Under, Clash: what they answer, at any text.
-/
import Derived.Test.YtapcnmnnichamaaDoorSMem
import Derived.Lib.SplitLaws
import Derived.Laws.OwnMore
import Derived.Laws.Cover1
import Derived.Deep.RegionHeld3
import Derived.Deep.RegionWith
import Derived.WalkLawsBesides
import Derived.Outline
namespace Go.Proofs.YtapcnmnnichamaaDoor
open Go Go.RowKit

theorem ret_b {p q : Bool} (h : p = q) : Ending.returned (.bool p) = .returned (.bool q) := by rw [h]
def gbv (c : Int) : Bool := (decide (97 ≤ c) && decide (c ≤ 122)) || ((decide (48 ≤ c) && decide (c ≤ 57)) || (decide (c = 46) || (decide (c = 45) || decide (c = 95))))
/-- May it be a part of a path? -/
def gp (l : List UInt8) : Bool := !(l == []) && !(l == [46]) && !(l == [46, 46]) && l.all fun c => gbv (c.toNat : Int)
theorem gp_bad {l : List UInt8} {j : Nat} (h : j < l.length) (hb : gbv (l[j].toNat : Int) = false) : gp l = false := by
  have : l.all (fun c => gbv (c.toNat : Int)) = false := by
    rw [Bool.eq_false_iff]
    intro ha
    rw [List.all_eq_true] at ha
    rw [ha _ (List.getElem_mem h)] at hb
    cases hb
  unfold gp
  rw [this, Bool.and_false]
theorem gp_all {l : List UInt8} (h0 : l ≠ []) (h1 : l ≠ [46]) (h2 : l ≠ [46, 46]) (h : ∀ j (hj : j < l.length), gbv (l[j].toNat : Int) = true) : gp l = true := by
  have ha : l.all (fun c => gbv (c.toNat : Int)) = true := by
    rw [List.all_eq_true]
    intro x hx
    obtain ⟨j, hj, rfl⟩ := List.getElem_of_mem hx
    exact h j hj
  unfold gp
  rw [ha]
  simp [h0, h1, h2]
theorem bytes_eq {a b : ByteArray} (h : a.data.toList = b.data.toList) : a = b := by
  obtain ⟨⟨a⟩⟩ := a
  obtain ⟨⟨b⟩⟩ := b
  simpa using h
/-- A text cut at each stroke. -/
def spl : List UInt8 → List (List UInt8)
  | [] => [[]]
  | c :: r => if c = 47 then [] :: spl r else ((c :: (spl r).headD []) :: (spl r).tail)
theorem spl_ne : ∀ l : List UInt8, spl l ≠ []
  | [] => by simp [spl]
  | c :: r => by unfold spl; split <;> simp
theorem spl_len : ∀ l : List UInt8, (spl l).length ≤ l.length + 1
  | [] => by simp [spl]
  | c :: r => by
    have ih := spl_len r
    unfold spl
    split
    · simp; exact ih
    · simp; omega
/-- What Check says of a text. -/
def chk (l : List UInt8) : Int := if 64 < l.length then 4 else if l = [] then 5 else if (spl l).all gp then 0 else 5
theorem chk_long {l : List UInt8} (h : 64 < l.length) : chk l = 4 := if_pos h
theorem chk_empty : chk [] = 5 := rfl
theorem chk_good {l : List UInt8} (h : ¬ 64 < l.length) (h0 : l ≠ []) (ha : (spl l).all gp = true) : chk l = 0 := by unfold chk; rw [if_neg h, if_neg h0, if_pos ha]
theorem chk_bad {l : List UInt8} (h : ¬ 64 < l.length) (h0 : l ≠ []) (ha : (spl l).all gp = false) : chk l = 5 := by unfold chk; rw [if_neg h, if_neg h0, ha]; rfl
def Checked (s : ByteArray) (w : World) (e : Ending) (w' : World) : Prop := e = .returned (.int .i64 (chk s.data.toList)) ∧ Below w.heap.size w w'
theorem size_list (s : ByteArray) : s.data.toList.length = s.size := by rw [Array.length_toList]; rfl
theorem nil_of {s : ByteArray} (h : s.size = 0) : s = ⟨#[]⟩ := bytes_eq (List.eq_nil_of_length_eq_zero (by rw [size_list]; exact h))
theorem not_nil {s : ByteArray} (h : ¬ s.size = 0) : ¬ s.toList = [] ∧ s.toList.isEmpty = false := by
  have h1 : ¬ s.toList = [] := by
    rw [ByteArray.toList_eq]
    intro e
    have := size_list s
    rw [e] at this
    exact h this.symm
  exact ⟨h1, by rw [List.isEmpty_eq_false_iff]; exact h1⟩
/-- Does p lie in the folder d? -/
def und (p d : List UInt8) : Bool := if d = [] then !(p == []) else decide (d.length + 1 < p.length) && (p[d.length]? == some 47 && p.take d.length == d)
theorem und_root {p : List UInt8} (h : p ≠ []) : und p [] = true := by unfold und; rw [if_pos rfl]; simp [h]
theorem und_short {p d : List UInt8} (h : d ≠ []) (hl : ¬ d.length + 1 < p.length) : und p d = false := by unfold und; rw [if_neg h, decide_eq_false hl]; rfl
theorem und_long {p d : List UInt8} (h : d ≠ []) (hl : d.length + 1 < p.length) : und p d = (p[d.length]? == some 47 && p.take d.length == d) := by unfold und; rw [if_neg h, decide_eq_true hl]; rfl
theorem ret_i {a b : Int} (h : a = b) : Ending.returned (.int .i64 a) = .returned (.int .i64 b) := by rw [h]
def cls (a b : List UInt8) : Bool := !(a == []) && (!(b == []) && (und a b || und b a))
theorem cls_of {a b : List UInt8} (ha : a ≠ []) (hb : b ≠ []) : cls a b = (und a b || und b a) := by
  have h1 : (a == []) = false := by rw [beq_eq_false_iff_ne]; exact ha
  have h2 : (b == []) = false := by rw [beq_eq_false_iff_ne]; exact hb
  unfold cls
  rw [h1, h2]; rfl
/-- The world is as it was. -/
def SameW (a b : World) : Prop := a = b
end Go.Proofs.YtapcnmnnichamaaDoor
