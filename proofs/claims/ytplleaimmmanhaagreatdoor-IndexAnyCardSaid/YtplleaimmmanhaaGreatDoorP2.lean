/-
  slices.Clone of a tree; rectoref14.Same.
  The plain theory of a file put, of a path cut, of what differs between two trees.
  The document's own functions on paths: Parts, Check, Under, Clash: what they answer, at any text.
  path.Under, path.Clash.
  rectolaw14.Rises: whether a tree rises.
  (Row).Same: whether two trees are one.
  slices.IndexFunc, slices.ContainsFunc at a tree, over whatever closure with one captured thing; the closures of (Row).Cut, (Row).Clear, (Row).refuses.
  What (Row).Check says of a tree, in plain words: the first file that may not be, and why.
  A range over a function whose iterator keeps a state of its own in a captured cell: one law for the caller. It stands on the kit's laws for 'range over a function' (Derived.RangeFuncFrom and what it imports) and goes the way of 'wpIn_rangeFunc_ownF' there, with one block more that may turn: the captured one.
  strings.SplitSeq at a stroke: what the iterator hands out, one by one.
  goodByte and goodPart: what may be in a part of a path.
  path.Check: what is wrong with a text as a path.
-/
import Derived.Test.YtplleaimmmanhaaGreatDoorP1
import Derived.Lib.SliceRun
import Derived.Lib.SplitLaws
import Derived.Laws.OwnMore
import Derived.Laws.Cover1
import Derived.Deep.RegionHeld3
import Derived.Deep.RegionWith
import Derived.WalkLawsBesides
import Derived.Outline
import Derived.Laws.Rows
import Derived.Deep.Draws
import Derived.RangeFuncNested
import Derived.RangeFuncBound
import Derived.RangeFuncCalls
import Derived.RangeFuncLeaves
import Derived.Shelf.Abstract
import Derived.Shelf.RegionOpen
import Derived.WalkKit
import Derived.OwnWalkIn
import Derived.TacticsInMore
import Derived.LoopNIn
import Derived.LoopIn
import Derived.Lib.IndexBytes
import Derived.Lib.Hide
import Derived.WalkSpells
import Derived.WalkSmall
import Derived.LoopTactic
import Derived.IntWalk
namespace Go.Proofs.YtplleaimmmanhaaGreatDoor
open Go.RowKit

set_option maxHeartbeats 2000000 in
theorem cloneF_any (w : World) (v : Value) (l : List Fl) (h : Reads 3 cF w v l) (hl : l.length ≤ 100000) :
    Calls Tryz.prog 111 #[v] w (OwnTo 25 3 cF l w) := by
  have q : ∀ (w : World) (a : Option Addr) (n c n' c' : Nat), (binOp .eql 23 (.slice a n c) (.slice none n' c')).run Tryz.prog w = .ok (.bool a.isNone) w := fun w a n c n' c' => Lib.run_eql_slice_nil w _ _ a n c n' c' Tryz.underlying23
  obtain ⟨A, c, rfl⟩ := h.form
  have HR := Lib.hid h
  cases A with
  | none =>
    have h0 : l = [] := by
      obtain ⟨A', c', hv, h1, h2, h3, _⟩ := h
      injection hv with e1 e2 e3
      subst e1; subst e3
      have := h3 rfl
      exact List.eq_nil_of_length_eq_zero (by omega)
    subst h0
    clear h
    go_enter Tryz.func111, Tryz.ntmps111
    go_wp2
    go_ret
    exact ⟨_, rfl, World.ownsRow_nil _ _ _ _, Below.refl _ _⟩
  | some ad =>
    have hm : w.heap.size ≤ (w.alloc (.cells #[] 25)).heap.size := by simp
    have hll : ([] : List Fl).length + l.length ≤ 1000000 := by simp; omega
    have O0 := Lib.hid (show (w.alloc (.cells #[] 25)).ownsRow w.heap.size 25 3 (.slice (some ⟨w.heap.size, 0, none⟩) 0 0) ([] : List Fl).length (([] : List Fl).flatMap cF) from World.ownsRow_made w #[] 0 (Nat.le_refl _) (Nat.zero_le _) rfl)
    clear h
    go_enter Tryz.func111, Tryz.ntmps111
    go_wp2_with (at_builtin; refine wpList_append_files _ rfl _ _ rfl w.heap.size _ [] l rfl O0.out _ _ _ rfl (HR.out.alloc _) hll hm ?_; intro A' c' w5 own5 b5 hg5)
    rw [List.nil_append] at own5
    have O5 := Lib.hid own5
    have B5 := Lib.hid (Below.trans ((Below.refl _ _).alloc (Nat.le_refl _) (.cells #[] 25)) b5)
    clear own5 b5 hg5
    go_ret
    exact ⟨_, rfl, O5.out, B5.out⟩
end Go.Proofs.YtplleaimmmanhaaGreatDoor
namespace Go.Proofs.YtplleaimmmanhaaGreatDoor
open Go.RowKit

theorem nrm_congr {a b : List ByteArray} (h : ∀ s, s ∈ a ↔ s ∈ b) : nrm a = nrm b := nrm_of (nrm_rise b) fun s => by rw [nrm_mem]; exact h s
/-- A tree with a file, instead of what was at its path. -/
def putF (l : List Fl) (f : Fl) : List Fl := (l.filter fun x => decide (cb x.1 f.1 < 0)) ++ f :: (l.filter fun x => decide (0 < cb x.1 f.1))
/-- A tree without the file at a path. -/
def cutF (l : List Fl) (p : ByteArray) : List Fl := l.filter fun x => decide (x.1 ≠ p)

section
variable {l : List Fl} {s : ByteArray} {i : Nat}
theorem split_take (h : SplitF l s i) : l.take i = l.filter fun x => decide (cb x.1 s < 0) := by
  conv => rhs; rw [← List.take_append_drop i l, List.filter_append]
  rw [List.filter_eq_self.2 (fun x hx => ?_), List.filter_eq_nil_iff.2 (fun x hx => ?_), List.append_nil]
  · obtain ⟨t, ht, rfl⟩ := List.getElem_of_mem hx
    rw [List.getElem_drop]
    rw [List.length_drop] at ht
    have := h.2 (i + t) _ (by omega) (List.getElem?_eq_getElem (by omega))
    simp; omega
  · obtain ⟨t, ht, rfl⟩ := List.getElem_of_mem hx
    rw [List.getElem_take]
    rw [List.length_take] at ht
    exact decide_eq_true (h.1 t _ (by omega) (List.getElem?_eq_getElem (by omega)))
theorem split_drop (h : SplitF l s i) {j : Nat} (hij : i ≤ j) (h1 : ∀ t x, i ≤ t → t < j → l[t]? = some x → cb x.1 s = 0) (h2 : ∀ t x, j ≤ t → l[t]? = some x → cb x.1 s ≠ 0) : l.drop j = l.filter fun x => decide (0 < cb x.1 s) := by
  conv => rhs; rw [← List.take_append_drop j l, List.filter_append]
  rw [List.filter_eq_nil_iff.2 (fun x hx => ?_), List.filter_eq_self.2 (fun x hx => ?_), List.nil_append]
  · obtain ⟨t, ht, rfl⟩ := List.getElem_of_mem hx
    rw [List.getElem_drop]
    rw [List.length_drop] at ht
    have a := h.2 (j + t) _ (by omega) (List.getElem?_eq_getElem (by omega))
    have b := h2 (j + t) _ (by omega) (List.getElem?_eq_getElem (by omega))
    simp; omega
  · obtain ⟨t, ht, rfl⟩ := List.getElem_of_mem hx
    rw [List.getElem_take]
    rw [List.length_take] at ht
    rcases Nat.lt_or_ge t i with hti | hti
    · have := h.1 t _ hti (List.getElem?_eq_getElem (by omega))
      simp; omega
    · have := h1 t _ hti (by omega) (List.getElem?_eq_getElem (by omega))
      simp [this]
end
theorem put_none {l : List Fl} {f : Fl} {i : Nat} (h : SplitF l f.1 i) (hg : getF l f.1 = none) : putF l f = l.take i ++ f :: l.drop i := by
  unfold putF
  rw [split_take h, split_drop h (Nat.le_refl i) (fun t x h1 h2 => by omega) fun t x ht hx e => ?_]
  unfold getF at hg
  rw [List.find?_eq_none] at hg
  exact hg x (List.mem_of_getElem? hx) (by simpa using cb_zero e)
theorem put_some {l : List Fl} {f g : Fl} {i : Nat} (hr : RiseF l) (h : SplitF l f.1 i) (hx : l[i]? = some g) (hg : getF l f.1 = some g) : putF l f = l.take i ++ f :: l.drop (i + 1) := by
  unfold putF
  have hp := getF_path hg
  rw [split_take h, split_drop h (Nat.le_succ i) (fun t x h1 h2 hx2 => ?_) fun t x ht hx2 e => ?_]
  · obtain rfl : t = i := by omega
    rw [hx] at hx2
    rw [← Option.some.inj hx2, hp, cb_self]
  · obtain ⟨hi, e1⟩ := List.getElem?_eq_some_iff.1 hx
    obtain ⟨hj, e2⟩ := List.getElem?_eq_some_iff.1 hx2
    have := List.pairwise_iff_getElem.1 hr i t hi hj (by omega)
    rw [e1, e2, hp, ← cb_zero e, cb_self] at this
    omega
theorem put_rise {l : List Fl} (hr : RiseF l) (f : Fl) : RiseF (putF l f) := by
  unfold putF RiseF
  refine List.pairwise_append.2 ⟨hr.filter _, List.pairwise_cons.2 ⟨fun x hx => ?_, hr.filter _⟩, fun x hx y hy => ?_⟩
  · have := (List.mem_filter.1 hx).2
    have := of_decide_eq_true this
    rw [cb_swap x.1 f.1]
    omega
  · have h1 := of_decide_eq_true (List.mem_filter.1 hx).2
    rcases List.mem_cons.1 hy with rfl | hy
    · exact h1
    · have h2 := of_decide_eq_true (List.mem_filter.1 hy).2
      exact cb_trans h1 (by rw [cb_swap y.1 f.1]; omega)
theorem put_mem {l : List Fl} {f x : Fl} : x ∈ putF l f ↔ x = f ∨ (x ∈ l ∧ x.1 ≠ f.1) := by
  unfold putF
  rw [List.mem_append, List.mem_cons, List.mem_filter, List.mem_filter, decide_eq_true_iff, decide_eq_true_iff]
  constructor
  · rintro (⟨h1, h2⟩ | h | ⟨h1, h2⟩)
    · exact .inr ⟨h1, cb_ne h2⟩
    · exact .inl h
    · exact .inr ⟨h1, fun e => by rw [e, cb_self] at h2; omega⟩
  · rintro (h | ⟨h1, h2⟩)
    · exact .inr (.inl h)
    · have h0 : cb x.1 f.1 ≠ 0 := fun e => h2 (cb_zero e)
      rcases Int.lt_or_le (cb x.1 f.1) 0 with h | h
      · exact .inl ⟨h1, h⟩
      · exact .inr (.inr ⟨h1, by omega⟩)
theorem getF_iff {l : List Fl} (hr : RiseF l) {p : ByteArray} {f : Fl} : getF l p = some f ↔ f ∈ l ∧ f.1 = p := by
  constructor
  · intro h
    exact ⟨getF_mem h, getF_path h⟩
  · rintro ⟨h, rfl⟩
    exact mem_getF hr h
theorem opt_ext {a b : Option Fl} (h : ∀ f, a = some f ↔ b = some f) : a = b := by
  cases a with
  | none => cases b with
    | none => rfl
    | some g => exact absurd ((h g).2 rfl) (by simp)
  | some f => exact ((h f).1 rfl).symm
theorem get_put {l : List Fl} (hr : RiseF l) (f : Fl) (p : ByteArray) : getF (putF l f) p = if p = f.1 then some f else getF l p := by
  refine opt_ext fun g => ?_
  rw [getF_iff (put_rise hr f), put_mem]
  by_cases hp : p = f.1
  · rw [if_pos hp]
    constructor
    · rintro ⟨h | ⟨h1, h2⟩, h3⟩
      · rw [h]
      · exact absurd (h3.trans hp) h2
    · intro h
      rw [← Option.some.inj h]
      exact ⟨.inl rfl, hp.symm⟩
  · rw [if_neg hp, getF_iff hr]
    constructor
    · rintro ⟨h | ⟨h1, h2⟩, h3⟩
      · exact absurd (h3.symm.trans (by rw [h])) hp
      · exact ⟨h1, h3⟩
    · rintro ⟨h1, h2⟩
      exact ⟨.inr ⟨h1, fun e => hp (h2.symm.trans e)⟩, h2⟩
theorem cut_rise {l : List Fl} (hr : RiseF l) (p : ByteArray) : RiseF (cutF l p) := hr.filter _
theorem get_cut {l : List Fl} (hr : RiseF l) (p q : ByteArray) : getF (cutF l p) q = if q = p then none else getF l q := by
  refine opt_ext fun g => ?_
  rw [getF_iff (cut_rise hr p)]
  unfold cutF
  rw [List.mem_filter, decide_eq_true_iff]
  by_cases hq : q = p
  · rw [if_pos hq]
    constructor
    · rintro ⟨⟨h1, h2⟩, h3⟩
      exact absurd (h3.trans hq) h2
    · intro h; cases h
  · rw [if_neg hq, getF_iff hr]
    constructor
    · rintro ⟨⟨h1, h2⟩, h3⟩
      exact ⟨h1, h3⟩
    · rintro ⟨h1, h2⟩
      exact ⟨⟨h1, fun e => hq (h2.symm.trans e)⟩, h2⟩
theorem put_len (l : List Fl) (f : Fl) : (putF l f).length ≤ l.length + 1 := by
  unfold putF
  rw [List.length_append, List.length_cons]
  have h : ∀ l : List Fl, (l.filter fun x => decide (cb x.1 f.1 < 0)).length + (l.filter fun x => decide (0 < cb x.1 f.1)).length ≤ l.length := fun l => by
    induction l with
    | nil => simp
    | cons x l ih =>
      by_cases h1 : cb x.1 f.1 < 0
      · have h2 : ¬ 0 < cb x.1 f.1 := by omega
        simp only [List.filter_cons, h1, h2, decide_true, decide_false, if_true, List.length_cons]
        simp only [Bool.false_eq_true, if_false]
        omega
      · by_cases h2 : 0 < cb x.1 f.1
        · simp only [List.filter_cons, h1, h2, decide_true, decide_false, if_true, List.length_cons]
          simp only [Bool.false_eq_true, if_false]
          omega
        · simp only [List.filter_cons, h1, h2, decide_false, List.length_cons]
          simp only [Bool.false_eq_true, if_false]
          omega
  have := h l
  omega
theorem cut_len (l : List Fl) (p : ByteArray) : (cutF l p).length ≤ l.length := List.length_filter_le _ _

/-! ### What differs -/
abbrev Dl := ByteArray × Int
/-- The paths of two trees. -/
def paths2 (a b : List Fl) : List ByteArray := nrm (a.map (·.1) ++ b.map (·.1))
def diffOf (f : ByteArray → Int) (ps : List ByteArray) : List Dl := (ps.map fun p => (p, f p)).filter fun x => decide (x.2 ≠ 32)
def diffF (a b : List Fl) : List Dl := diffOf (fun p => unl (getF a p) (getF b p)) (paths2 a b)
theorem diffOf_snoc (f : ByteArray → Int) (ps : List ByteArray) (p : ByteArray) : diffOf f (ps ++ [p]) = diffOf f ps ++ (if f p ≠ 32 then [(p, f p)] else []) := by
  unfold diffOf
  rw [List.map_append, List.filter_append]
  congr 1
  by_cases h : f p = 32 <;> simp [h]
theorem diffOf_len (f : ByteArray → Int) (ps : List ByteArray) : (diffOf f ps).length ≤ ps.length := by
  unfold diffOf
  exact Nat.le_trans (List.length_filter_le _ _) (by rw [List.length_map]; exact Nat.le_refl _)
theorem paths2_len (a b : List Fl) : (paths2 a b).length ≤ a.length + b.length := by
  unfold paths2
  refine Nat.le_trans (nrm_len _) ?_
  rw [List.length_append, List.length_map, List.length_map]
  exact Nat.le_refl _
theorem paths2_mem (a b : List Fl) (p : ByteArray) : p ∈ paths2 a b ↔ p ∈ a.map (·.1) ∨ p ∈ b.map (·.1) := by unfold paths2; rw [nrm_mem, List.mem_append]
theorem diff_mem {a b : List Fl} {x : Dl} : x ∈ diffF a b ↔ x.2 = unl (getF a x.1) (getF b x.1) ∧ x.2 ≠ 32 := by
  unfold diffF diffOf
  rw [List.mem_filter, List.mem_map, decide_eq_true_iff]
  constructor
  · rintro ⟨⟨p, _, rfl⟩, h⟩
    exact ⟨rfl, h⟩
  · rintro ⟨h1, h2⟩
    refine ⟨⟨x.1, ?_, Prod.ext rfl h1.symm⟩, h2⟩
    rw [paths2_mem]
    by_cases h3 : hasP (a.map (·.1)) x.1 = true
    · exact .inl (hasP_iff.1 h3)
    · by_cases h4 : hasP (b.map (·.1)) x.1 = true
      · exact .inr (hasP_iff.1 h4)
      · rw [getF_none (fun e => h3 (hasP_iff.2 e)), getF_none (fun e => h4 (hasP_iff.2 e))] at h1
        exact absurd h1 h2
theorem diff_none {a b : List Fl} (ha : RiseF a) (hb : RiseF b) : diffF a b = [] ↔ a = b := by
  constructor
  · intro h
    refine tree_ext ha hb fun p => ?_
    refine Decidable.byContradiction fun hne => ?_
    have : (p, unl (getF a p) (getF b p)) ∈ diffF a b := diff_mem.2 ⟨rfl, fun e => hne (unl_eq e)⟩
    rw [h] at this
    cases this
  · rintro rfl
    refine List.eq_nil_iff_forall_not_mem.2 fun x hx => ?_
    obtain ⟨h1, h2⟩ := diff_mem.1 hx
    rw [unl_same] at h1
    exact h2 h1
theorem unl_turn (a b : Option Fl) : unl a b ≠ 32 ↔ unl b a ≠ 32 := by
  constructor
  · intro h e
    exact h (by rw [unl_eq e, unl_same])
  · intro h e
    exact h (by rw [unl_eq e, unl_same])
theorem diff_turn (a b : List Fl) : (diffF b a).length = (diffF a b).length := by
  have e : paths2 b a = paths2 a b := nrm_congr fun s => by rw [List.mem_append, List.mem_append, Or.comm]
  unfold diffF
  rw [e]
  generalize paths2 a b = ps
  have e2 : ∀ f g : ByteArray → Int, (∀ p, f p ≠ 32 ↔ g p ≠ 32) → (diffOf f ps).length = (diffOf g ps).length := fun f g h => by
    unfold diffOf
    induction ps with
    | nil => rfl
    | cons p ps ih =>
      rw [List.map_cons, List.map_cons, List.filter_cons, List.filter_cons]
      by_cases hf : f p ≠ 32
      · rw [if_pos (decide_eq_true hf), if_pos (decide_eq_true ((h p).1 hf)), List.length_cons, List.length_cons, ih]
      · rw [if_neg (by simpa using hf), if_neg (by have := fun e => hf ((h p).2 e); simpa using this), ih]
  exact e2 _ _ fun p => unl_turn _ _
/-- What is done of a difference: the tree has of b what was done, of a the rest. -/
def DoneTo (a b r : List Fl) (d : List Dl) : Prop := RiseF r ∧ ∀ p, getF r p = if hasP (d.map (·.1)) p = true then getF b p else getF a p
theorem done_start {a b : List Fl} (ha : RiseF a) : DoneTo a b a [] := ⟨ha, fun p => by simp [hasP]⟩
theorem hasP_snoc (d : List Dl) (x : Dl) (p : ByteArray) : hasP ((d ++ [x]).map (·.1)) p = true ↔ hasP (d.map (·.1)) p = true ∨ p = x.1 := by
  rw [hasP_iff, hasP_iff, List.map_append, List.mem_append, List.map_cons, List.map_nil, List.mem_singleton]
theorem done_cut {a b r : List Fl} {d : List Dl} {x : Dl} (h : DoneTo a b r d) (hx : getF b x.1 = none) : DoneTo a b (cutF r x.1) (d ++ [x]) := by
  refine ⟨cut_rise h.1 _, fun p => ?_⟩
  rw [get_cut h.1, h.2 p]
  by_cases hp : p = x.1
  · rw [if_pos hp, if_pos ((hasP_snoc d x p).2 (.inr hp)), hp, hx]
  · rw [if_neg hp]
    by_cases hd : hasP (d.map (·.1)) p = true
    · rw [if_pos hd, if_pos ((hasP_snoc d x p).2 (.inl hd))]
    · rw [if_neg hd, if_neg fun h => ((hasP_snoc d x p).1 h).elim hd hp]
theorem done_put {a b r : List Fl} {d : List Dl} {x : Dl} {f : Fl} (h : DoneTo a b r d) (hx : getF b x.1 = some f) : DoneTo a b (putF r f) (d ++ [x]) := by
  have hf := getF_path hx
  refine ⟨put_rise h.1 _, fun p => ?_⟩
  rw [get_put h.1, h.2 p]
  by_cases hp : p = x.1
  · rw [if_pos (by rw [hp, hf]), if_pos ((hasP_snoc d x p).2 (.inr hp)), hp, hx]
  · rw [if_neg (by rw [hf]; exact hp)]
    by_cases hd : hasP (d.map (·.1)) p = true
    · rw [if_pos hd, if_pos ((hasP_snoc d x p).2 (.inl hd))]
    · rw [if_neg hd, if_neg fun h => ((hasP_snoc d x p).1 h).elim hd hp]
theorem done_end {a b r : List Fl} (hb : RiseF b) (h : DoneTo a b r (diffF a b)) : r = b := by
  refine tree_ext h.1 hb fun p => ?_
  rw [h.2 p]
  by_cases hp : hasP ((diffF a b).map (·.1)) p = true
  · rw [if_pos hp]
  · rw [if_neg hp]
    refine Decidable.byContradiction fun hne => hp (hasP_iff.2 <| List.mem_map.2 ⟨(p, unl (getF a p) (getF b p)), diff_mem.2 ⟨rfl, fun e => hne (unl_eq e)⟩, rfl⟩)
end Go.Proofs.YtplleaimmmanhaaGreatDoor
namespace Go.Proofs.YtplleaimmmanhaaGreatDoor
open Go Go.RowKit

theorem ret_b {p q : Bool} (h : p = q) : Ending.returned (.bool p) = .returned (.bool q) := by rw [h]
def gbv (c : Int) : Bool := (decide (97 ≤ c) && decide (c ≤ 122)) || ((decide (48 ≤ c) && decide (c ≤ 57)) || (decide (c = 46) || (decide (c = 45) || decide (c = 95))))
/-- May it be a part of a path? -/
def gp (l : List UInt8) : Bool := !(l == []) && !(l == [46]) && !(l == [46, 46]) && l.all fun c => gbv (c.toNat : Int)
theorem gp_bad {l : List UInt8} {j : Nat} (h : j < l.length) (hb : gbv (l[j].toNat : Int) = false) : gp l = false := by
  have : l.all (fun c => gbv (c.toNat : Int)) = false := by
    rw [Bool.eq_false_iff]
    intro ha
    rw [List.all_eq_true] at ha
    rw [ha _ (List.getElem_mem h)] at hb
    cases hb
  unfold gp
  rw [this, Bool.and_false]
theorem gp_all {l : List UInt8} (h0 : l ≠ []) (h1 : l ≠ [46]) (h2 : l ≠ [46, 46]) (h : ∀ j (hj : j < l.length), gbv (l[j].toNat : Int) = true) : gp l = true := by
  have ha : l.all (fun c => gbv (c.toNat : Int)) = true := by
    rw [List.all_eq_true]
    intro x hx
    obtain ⟨j, hj, rfl⟩ := List.getElem_of_mem hx
    exact h j hj
  unfold gp
  rw [ha]
  simp [h0, h1, h2]
theorem bytes_eq {a b : ByteArray} (h : a.data.toList = b.data.toList) : a = b := by
  obtain ⟨⟨a⟩⟩ := a
  obtain ⟨⟨b⟩⟩ := b
  simpa using h
/-- A text cut at each stroke. -/
def spl : List UInt8 → List (List UInt8)
  | [] => [[]]
  | c :: r => if c = 47 then [] :: spl r else ((c :: (spl r).headD []) :: (spl r).tail)
theorem spl_ne : ∀ l : List UInt8, spl l ≠ []
  | [] => by simp [spl]
  | c :: r => by unfold spl; split <;> simp
theorem spl_len : ∀ l : List UInt8, (spl l).length ≤ l.length + 1
  | [] => by simp [spl]
  | c :: r => by
    have ih := spl_len r
    unfold spl
    split
    · simp; exact ih
    · simp; omega
/-- What Check says of a text. -/
def chk (l : List UInt8) : Int := if 64 < l.length then 4 else if l = [] then 5 else if (spl l).all gp then 0 else 5
theorem chk_long {l : List UInt8} (h : 64 < l.length) : chk l = 4 := if_pos h
theorem chk_empty : chk [] = 5 := rfl
theorem chk_good {l : List UInt8} (h : ¬ 64 < l.length) (h0 : l ≠ []) (ha : (spl l).all gp = true) : chk l = 0 := by unfold chk; rw [if_neg h, if_neg h0, if_pos ha]
theorem chk_bad {l : List UInt8} (h : ¬ 64 < l.length) (h0 : l ≠ []) (ha : (spl l).all gp = false) : chk l = 5 := by unfold chk; rw [if_neg h, if_neg h0, ha]; rfl
def Checked (s : ByteArray) (w : World) (e : Ending) (w' : World) : Prop := e = .returned (.int .i64 (chk s.data.toList)) ∧ Below w.heap.size w w'
theorem size_list (s : ByteArray) : s.data.toList.length = s.size := by rw [Array.length_toList]; rfl
theorem nil_of {s : ByteArray} (h : s.size = 0) : s = ⟨#[]⟩ := bytes_eq (List.eq_nil_of_length_eq_zero (by rw [size_list]; exact h))
theorem not_nil {s : ByteArray} (h : ¬ s.size = 0) : ¬ s.toList = [] ∧ s.toList.isEmpty = false := by
  have h1 : ¬ s.toList = [] := by
    rw [ByteArray.toList_eq]
    intro e
    have := size_list s
    rw [e] at this
    exact h this.symm
  exact ⟨h1, by rw [List.isEmpty_eq_false_iff]; exact h1⟩
/-- Does p lie in the folder d? -/
def und (p d : List UInt8) : Bool := if d = [] then !(p == []) else decide (d.length + 1 < p.length) && (p[d.length]? == some 47 && p.take d.length == d)
theorem und_root {p : List UInt8} (h : p ≠ []) : und p [] = true := by unfold und; rw [if_pos rfl]; simp [h]
theorem und_short {p d : List UInt8} (h : d ≠ []) (hl : ¬ d.length + 1 < p.length) : und p d = false := by unfold und; rw [if_neg h, decide_eq_false hl]; rfl
theorem und_long {p d : List UInt8} (h : d ≠ []) (hl : d.length + 1 < p.length) : und p d = (p[d.length]? == some 47 && p.take d.length == d) := by unfold und; rw [if_neg h, decide_eq_true hl]; rfl
set_option maxHeartbeats 1000000 in
theorem refUnder_any (p d : ByteArray) (w : World) (hp : p.size ≤ 1000000) (hd : d.size ≤ 1000000) : Calls Tryz.prog 106 #[.string p, .string d] w fun e w' => e = .returned (.bool (und p.data.toList d.data.toList)) ∧ w = w' := by
  by_cases hd0 : d.size = 0
  · obtain rfl := nil_of hd0
    by_cases hp0 : p.size = 0
    · obtain rfl := nil_of hp0
      go_enter Tryz.func106, Tryz.ntmps106
      go_wp2
      go_ret
      exact ⟨rfl, rfl⟩
    · obtain ⟨q1, q2⟩ := not_nil hp0
      have HU : Hid (und p.data.toList [] = true) := Lib.hid (und_root (by rw [← ByteArray.toList_eq]; exact q1))
      go_enter Tryz.func106, Tryz.ntmps106
      go_wp2
      go_ret
      exact ⟨ret_b HU.out.symm, rfl⟩
  · obtain ⟨q1, q2⟩ := not_nil hd0
    have hne : d.data.toList ≠ [] := by rw [← ByteArray.toList_eq]; exact q1
    by_cases hl : d.size + 1 < p.size
    · have hli : (d.size : Int) + 1 < (p.size : Int) := by omega
      have hli2 : (d.size : Int) < (p.size : Int) := by omega
      have hlt : d.size < p.size := by omega
      have hU := und_long (p := p.data.toList) hne (by rw [size_list, size_list]; exact hl)
      have hget : p.data.toList[d.data.toList.length]? = some p[d.size] := by rw [size_list]; exact List.getElem?_eq_getElem (by rw [size_list]; exact hlt)
      have htk : (p.extract 0 d.size).data.toList = p.data.toList.take d.data.toList.length := by rw [size_list]; exact Lib.extract_from_zero p d.size
      rw [hget, ← htk] at hU
      have HU := Lib.hid hU
      clear hU hget htk
      by_cases h47 : p[d.size] = 47
      · have b1 : ((p[d.size].toNat : Int) == 47) = true := by rw [h47]; rfl
        have b1' : (p[d.size].toNat : Int) = 47 := by rw [h47]; rfl
        by_cases he : p.extract 0 d.size = d
        · have c1 : (p.extract 0 d.size).toList = d.toList := by rw [he]
          have c2 : ((p.extract 0 d.size).toList == d.toList) = true := by rw [c1]; simp
          have HE : Hid (und p.data.toList d.data.toList = true) := by show und _ _ = true; rw [HU.out, h47, he]; simp
          clear HU h47 he
          go_enter Tryz.func106, Tryz.ntmps106
          go_wp2
          go_ret
          exact ⟨ret_b HE.out.symm, rfl⟩
        · have c1 : ¬ (p.extract 0 d.size).toList = d.toList := by rw [ByteArray.toList_eq, ByteArray.toList_eq]; exact fun e => he (bytes_eq e)
          have c2 : ((p.extract 0 d.size).toList == d.toList) = false := by rw [beq_eq_false_iff_ne]; exact c1
          have HE : Hid (und p.data.toList d.data.toList = false) := by
            show und _ _ = false
            rw [HU.out]
            have : ((p.extract 0 d.size).data.toList == d.data.toList) = false := by rw [beq_eq_false_iff_ne]; exact fun e => he (bytes_eq e)
            rw [this, Bool.and_false]
          clear HU h47 he
          go_enter Tryz.func106, Tryz.ntmps106
          go_wp2
          go_ret
          exact ⟨ret_b HE.out.symm, rfl⟩
      · have b1' : ¬ (p[d.size].toNat : Int) = 47 := fun e => h47 (UInt8.toNat_inj.1 (by show p[d.size].toNat = 47; omega))
        have b1 : ((p[d.size].toNat : Int) == 47) = false := by rw [beq_eq_false_iff_ne]; exact b1'
        have HE : Hid (und p.data.toList d.data.toList = false) := by
          show und _ _ = false
          rw [HU.out]
          have : (some p[d.size] == some (47 : UInt8)) = false := by rw [beq_eq_false_iff_ne]; exact fun e => h47 (Option.some.inj e)
          rw [this, Bool.false_and]
        clear HU h47
        by_cases he : (p.extract 0 d.size).toList = d.toList
        · have c2 : ((p.extract 0 d.size).toList == d.toList) = true := by rw [he]; simp
          go_enter Tryz.func106, Tryz.ntmps106
          go_wp2
          go_ret
          exact ⟨ret_b HE.out.symm, rfl⟩
        · have c2 : ((p.extract 0 d.size).toList == d.toList) = false := by rw [beq_eq_false_iff_ne]; exact he
          go_enter Tryz.func106, Tryz.ntmps106
          go_wp2
          go_ret
          exact ⟨ret_b HE.out.symm, rfl⟩
    · have hli : ¬ (d.size : Int) + 1 < (p.size : Int) := by omega
      have HE : Hid (und p.data.toList d.data.toList = false) := Lib.hid (und_short hne (by rw [size_list, size_list]; exact hl))
      go_enter Tryz.func106, Tryz.ntmps106
      go_wp2
      go_ret
      exact ⟨ret_b HE.out.symm, rfl⟩
theorem ret_i {a b : Int} (h : a = b) : Ending.returned (.int .i64 a) = .returned (.int .i64 b) := by rw [h]
def cls (a b : List UInt8) : Bool := !(a == []) && (!(b == []) && (und a b || und b a))
theorem cls_of {a b : List UInt8} (ha : a ≠ []) (hb : b ≠ []) : cls a b = (und a b || und b a) := by
  have h1 : (a == []) = false := by rw [beq_eq_false_iff_ne]; exact ha
  have h2 : (b == []) = false := by rw [beq_eq_false_iff_ne]; exact hb
  unfold cls
  rw [h1, h2]; rfl
set_option maxHeartbeats 1000000 in
theorem refClash_any (a b : ByteArray) (w : World) (ha : a.size ≤ 1000000) (hb : b.size ≤ 1000000) : Calls Tryz.prog 51 #[.string a, .string b] w fun e w' => e = .returned (.bool (cls a.data.toList b.data.toList)) ∧ w = w' := by
  by_cases ha0 : a.size = 0
  · obtain rfl := nil_of ha0
    go_enter Tryz.func51, Tryz.ntmps51
    go_wp2
    go_ret
    exact ⟨rfl, rfl⟩
  · obtain ⟨q1, q2⟩ := not_nil ha0
    have n1 : a.data.toList ≠ [] := by rw [← ByteArray.toList_eq]; exact q1
    by_cases hb0 : b.size = 0
    · obtain rfl := nil_of hb0
      have HE : Hid (cls a.data.toList [] = false) := by show cls _ [] = false; unfold cls; simp
      go_enter Tryz.func51, Tryz.ntmps51
      go_wp2
      go_ret
      exact ⟨ret_b HE.out.symm, rfl⟩
    · obtain ⟨q3, q4⟩ := not_nil hb0
      have n2 : b.data.toList ≠ [] := by rw [← ByteArray.toList_eq]; exact q3
      have HE : Hid (cls a.data.toList b.data.toList = (und a.data.toList b.data.toList || und b.data.toList a.data.toList)) := Lib.hid (cls_of n1 n2)
      have U1 := Lib.hid fun W => refUnder_any a b W ha hb
      have U2 := Lib.hid fun W => refUnder_any b a W hb ha
      generalize und a.data.toList b.data.toList = x at *
      generalize und b.data.toList a.data.toList = y at *
      cases x with
      | true =>
        go_enter Tryz.func51, Tryz.ntmps51
        go_wp2_with fail
        refine (U1.out _).mono ?_
        rintro e w' ⟨rfl, rfl⟩
        go_wp2_with fail
        go_ret
        exact ⟨ret_b HE.out.symm, rfl⟩
      | false =>
        go_enter Tryz.func51, Tryz.ntmps51
        go_wp2_with fail
        refine (U1.out _).mono ?_
        rintro e w' ⟨rfl, rfl⟩
        go_wp2_with fail
        refine (U2.out _).mono ?_
        rintro e w' ⟨rfl, rfl⟩
        go_wp2_with fail
        go_ret
        exact ⟨ret_b HE.out.symm, rfl⟩
theorem good_any (c : Int) (w : World) (h0 : 0 ≤ c) (h1 : c ≤ 255) : Calls Tryz.prog 139 #[.int .u8 c] w fun e w' => e = .returned (.bool (gbv c)) ∧ w = w' := by
  by_cases h46 : c = 46
  · subst h46
    have hg : Hid (true = gbv 46) := by show true = gbv 46; rfl
    go_enter Tryz.func139, Tryz.ntmps139
    go_wp2
    all_goals
      go_ret
      exact ⟨ret_b hg.out, rfl⟩
  · by_cases h45 : c = 45
    · subst h45
      have hg : Hid (true = gbv 45) := by show true = gbv 45; rfl
      go_enter Tryz.func139, Tryz.ntmps139
      go_wp2
      all_goals
        go_ret
        exact ⟨ret_b hg.out, rfl⟩
    · by_cases h95 : c = 95
      · subst h95
        have hg : Hid (true = gbv 95) := by show true = gbv 95; rfl
        go_enter Tryz.func139, Tryz.ntmps139
        go_wp2
        all_goals
          go_ret
          exact ⟨ret_b hg.out, rfl⟩
      · have b1 : (c == 46) = false := by rw [beq_eq_false_iff_ne]; exact h46
        have b2 : (c == 45) = false := by rw [beq_eq_false_iff_ne]; exact h45
        have b3 : (c == 95) = false := by rw [beq_eq_false_iff_ne]; exact h95
        go_enter Tryz.func139, Tryz.ntmps139
        go_wp2
        all_goals
          go_ret
          exact ⟨ret_b (by unfold gbv; rw [Bool.eq_iff_iff]; simp only [Bool.or_eq_true, Bool.and_eq_true, decide_eq_true_eq, Bool.false_eq_true, true_iff, false_iff] <;> omega), rfl⟩
theorem spl_snoc : ∀ (l : List UInt8) (f : List (List UInt8)) (x : List UInt8) (c : UInt8), spl l = f ++ [x] → spl (l ++ [c]) = if c = 47 then f ++ [x] ++ [[]] else f ++ [x ++ [c]]
  | [], f, x, c, h => by
    have h' : [[]] = f ++ [x] := h
    cases f with
    | nil => simp at h'; subst h'; by_cases hc : c = 47 <;> simp [spl, hc]
    | cons a f => simp at h'
  | d :: r, f, x, c, h => by
    rw [List.cons_append]
    by_cases hd : d = 47
    · rw [spl, if_pos hd] at h ⊢
      cases f with
      | nil =>
        have h2 : spl r = [] := (List.cons.inj h).2
        exact absurd h2 (spl_ne r)
      | cons a f =>
        rw [List.cons_append, List.cons.injEq] at h
        obtain ⟨rfl, h2⟩ := h
        rw [spl_snoc r f x c h2]
        split <;> rfl
    · rw [spl, if_neg hd] at h ⊢
      cases hs : spl r with
      | nil => exact absurd hs (spl_ne r)
      | cons y ys =>
        rw [hs] at h
        simp only [List.headD_cons, List.tail_cons] at h
        cases f with
        | nil =>
          rw [List.nil_append, List.cons.injEq] at h
          obtain ⟨rfl, rfl⟩ := h
          rw [spl_snoc r [] y c hs]; split <;> rfl
        | cons a f =>
          rw [List.cons_append, List.cons.injEq] at h
          obtain ⟨rfl, h2⟩ := h
          rw [spl_snoc r (y :: f) x c (by rw [hs, h2]; rfl)]
          split <;> rfl
/-- Bytes as a string. -/
def mk (l : List UInt8) : ByteArray := ⟨l.toArray⟩
theorem mk_toList (s : ByteArray) : mk s.data.toList = s := by cases s; simp [mk]
theorem toList_mk (l : List UInt8) : (mk l).data.toList = l := by simp [mk]
theorem mk_size (l : List UInt8) : (mk l).size = l.length := by rw [← size_list, toList_mk]
theorem take_one (l : List UInt8) (k : Nat) (h : k < l.length) : l.take (k + 1) = l.take k ++ [l[k]] := by
  rw [List.take_succ_eq_append_getElem h]
theorem extract_mk (s : ByteArray) (a b : Nat) : s.extract a b = mk ((s.data.toList.take b).drop a) := by
  apply bytes_eq
  rw [ByteArray.data_extract, Array.toList_extract, List.extract_eq_take_drop, toList_mk]
  simp [List.drop_take]
/-- A text's parts, put together again with strokes. -/
def jn : List (List UInt8) → List UInt8
  | [] => []
  | [x] => x
  | x :: y :: r => x ++ 47 :: jn (y :: r)
theorem jn_front (c : UInt8) (y : List UInt8) (ys : List (List UInt8)) : jn ((c :: y) :: ys) = c :: jn (y :: ys) := by
  cases ys <;> rfl
theorem jn_spl : ∀ l : List UInt8, jn (spl l) = l
  | [] => rfl
  | c :: r => by
    have ih := jn_spl r
    cases hs : spl r with
    | nil => exact absurd hs (spl_ne r)
    | cons y ys =>
      rw [hs] at ih
      by_cases hc : c = 47
      · subst hc
        rw [spl, if_pos rfl, hs]
        show [] ++ 47 :: jn (y :: ys) = _
        rw [ih]; rfl
      · rw [spl, if_neg hc, hs]
        show jn ((c :: y) :: ys) = _
        rw [jn_front, ih]
theorem jn_snoc (x : List UInt8) : ∀ f : List (List UInt8), f ≠ [] → jn (f ++ [x]) = jn f ++ 47 :: x
  | [], h => absurd rfl h
  | [y], _ => rfl
  | y :: z :: r, _ => by
    have ih := jn_snoc x (z :: r) (by simp)
    show y ++ 47 :: jn ((z :: r) ++ [x]) = (y ++ 47 :: jn (z :: r)) ++ 47 :: x
    rw [ih]; simp
theorem jn_len : ∀ f : List (List UInt8), ∀ x ∈ f, x.length ≤ (jn f).length
  | [], x, h => by cases h
  | [y], x, h => by simp at h; subst h; exact Nat.le_refl _
  | y :: z :: r, x, h => by
    show x.length ≤ (y ++ 47 :: jn (z :: r)).length
    rw [List.length_append, List.length_cons]
    rcases List.mem_cons.1 h with rfl | h
    · omega
    · have := jn_len (z :: r) x h
      omega
theorem spl_part {l x : List UInt8} (h : x ∈ spl l) : x.length ≤ l.length := by
  have := jn_len (spl l) x h
  rwa [jn_spl] at this
theorem row_set {w : World} {g : Nat} {cur : Array Value} {t : TypeId} (h : w.heap[g]? = some (.cells cur t (0, 0))) (k : Nat) (v : Value) : (w.setCell ⟨g, k, none⟩ v).heap[g]? = some (.cells (cur.setIfInBounds k v) t (0, 0)) := by
  simp [World.setCell, Array.getElem?_modify, h]
/-- A row of the call's own, its last cell: what is in it; what becomes of the row when it is written. -/
theorem own_last {w : World} {B n : Nat} {v : Value} {xs : List Value} {u : Value} (h : w.ownsRow B 9 1 v (n + 1) (xs ++ [u])) :
    ∃ g cap, v = .slice (some ⟨g, 0, none⟩) (n + 1) cap ∧ n + 1 ≤ cap ∧ cap ≤ maxLen ∧ B ≤ g ∧ w.cell? ⟨g, n, none⟩ = some u ∧ w.frozen? ⟨g, n, none⟩ = false ∧
      ∀ u', (w.setCell ⟨g, n, none⟩ u').ownsRow B 9 1 v (n + 1) (xs ++ [u']) := by
  obtain ⟨hl, h⟩ := h
  rcases h with ⟨_, h⟩ | ⟨g, cap, cur, rfl, hB, hh, hn, hm, hs, ht⟩
  · omega
  simp only [Nat.mul_one] at hl hs ht
  have hxl : xs.length = n := by simpa using hl
  have hcl : cur.toList.length = cap := by rw [Array.length_toList]; exact hs
  have hcell : cur[n]? = some u := by
    have : (cur.toList.take (n + 1))[n]? = some u := by rw [ht, List.getElem?_append_right (by omega), hxl]; simp
    rw [List.getElem?_take, if_pos (by omega)] at this
    rwa [Array.getElem?_toList] at this
  refine ⟨g, cap, rfl, hn, hm, hB, (cell_of_row w g n cur 9 (0, 0) hh).trans hcell, by simp [World.frozen?, hh], fun u' => ⟨by simpa using hl, .inr ⟨g, cap, cur.setIfInBounds n u', rfl, hB, row_set hh n u', hn, hm, by simpa using hs, ?_⟩⟩⟩
  rw [Nat.mul_one, Array.toList_setIfInBounds, List.take_set, ht, List.set_append_right _ _ (by omega), hxl]
  simp
/-- Texts in new memory of the call's own, or nil. -/
def StrsTo (B : Nat) (w : World) (ls : List ByteArray) (e : Ending) (w' : World) : Prop :=
  ∃ v, e = .returned v ∧ w'.ownsRow B 9 1 v ls.length (ls.map Value.string) ∧ Below w.heap.size w w'
/-- The state of the cutting behind k bytes. -/
def Cut (p : ByteArray) (k n : Nat) (f : List ByteArray) (x : ByteArray) : Prop := f.length = n ∧ n ≤ k ∧ x.size ≤ k ∧ spl (p.data.toList.take k) = f.map (·.data.toList) ++ [x.data.toList]
theorem cut_zero (p : ByteArray) : Cut p 0 0 [] ⟨#[]⟩ := ⟨rfl, Nat.le_refl _, Nat.le_refl _, rfl⟩
theorem cut_stroke {p : ByteArray} {k n : Nat} {f : List ByteArray} {x : ByteArray} (h : Cut p k n f x) (hk : k < p.data.toList.length) (hc : p.data.toList[k] = 47) : Cut p (k + 1) (n + 1) (f ++ [x]) ⟨#[]⟩ := by
  obtain ⟨h1, h2, h3, h4⟩ := h
  refine ⟨by simp [h1], by omega, Nat.zero_le _, ?_⟩
  rw [take_one _ _ hk, spl_snoc _ _ _ _ h4, if_pos hc]
  simp
theorem cut_byte {p : ByteArray} {k n : Nat} {f : List ByteArray} {x : ByteArray} (h : Cut p k n f x) (hk : k < p.data.toList.length) (hc : ¬ p.data.toList[k] = 47) : Cut p (k + 1) n f (x ++ p.extract k (k + 1)) := by
  obtain ⟨h1, h2, h3, h4⟩ := h
  have e : (p.extract k (k + 1)).data.toList = [p.data.toList[k]] := by
    rw [extract_mk, toList_mk, take_one _ _ hk, List.drop_append_of_le_length (by rw [List.length_take]; omega), List.drop_eq_nil_of_le (by rw [List.length_take]; omega)]; rfl
  have e2 : (x ++ p.extract k (k + 1)).data.toList = x.data.toList ++ [p.data.toList[k]] := by rw [ByteArray.data_append, Array.toList_append, e]
  refine ⟨h1, by omega, ?_, ?_⟩
  · rw [← size_list, e2, List.length_append, size_list]; simp; omega
  · rw [take_one _ _ hk, spl_snoc _ _ _ _ h4, if_neg hc, e2]
theorem refParts_none (w : World) : Calls Tryz.prog 138 #[.string ⟨#[]⟩] w fun e w' => e = .returned (.slice none 0 0) ∧ w = w' := by
  go_enter Tryz.func138, Tryz.ntmps138
  go_wp2
  go_ret
  exact ⟨rfl, rfl⟩
set_option maxRecDepth 100000 in
set_option maxHeartbeats 2000000 in
theorem refParts_any (p : ByteArray) (w : World) (hp : p.size ≤ 1000000) (hne : ¬ p.size = 0) :
    Calls Tryz.prog 138 #[.string p] w (StrsTo w.heap.size w ((spl p.data.toList).map mk)) := by
  obtain ⟨i0, hi, hz0, hz1, hz2⟩ := info_parts strInfo
  obtain ⟨q1, q2⟩ := not_nil hne
  have HSZ := Lib.hid (size_list p)
  go_enter Tryz.func138, Tryz.ntmps138
  go_wp2_with fail
  go_loopw [3, 4] (fun v i wr => ∃ (k n : Nat) (f : List ByteArray) (x : ByteArray), k ≤ p.size ∧ i = .int .i64 k ∧ Hid (Cut p k n f x) ∧ wr.ownsRow w.heap.size 9 1 v (n + 1) (f.map Value.string ++ [.string x]) ∧ Below w.heap.size w wr) (fun _ i _ => p.size - (intOf i).toNat)
  case atStart =>
    refine ⟨0, 0, [], ⟨#[]⟩, Nat.zero_le _, rfl, Lib.hid (cut_zero p), ?_, (Below.refl _ _).alloc (Nat.le_refl _) _⟩
    exact ⟨rfl, .inr ⟨w.heap.size, 1, #[.string ⟨#[]⟩], rfl, Nat.le_refl _, heap_alloc_new w _, Nat.le_refl _, by decide, rfl, rfl⟩⟩
  case round =>
    obtain ⟨k, n, f, x, hk, rfl, hat, hown, hb⟩ := hrel
    by_cases hlt : k < p.size
    · have hl : k < p.data.toList.length := by rw [HSZ.out]; exact hlt
      have hnk : n ≤ k := hat.out.2.1
      have hxk : x.size ≤ k := hat.out.2.2.1
      by_cases hc : p[k] = 47
      · have hc' : p.data.toList[k] = 47 := hc
        have HE := Lib.hid (cut_stroke hat.out hl hc')
        have ht : ((p[k].toNat : Int) == 47) = true := by rw [hc]; rfl
        clear hat hc hc'
        go_wp2_with (at_builtin; refine wpList_append_own _ rfl _ _ 66 rfl w.heap.size 9 i0 (.string { data := #[] }) 1 16 Tryz.underlying66 hi hz0 hz1 hz2 rfl (by decide) _ _ _ rfl (hown.alloc _) ⟨wr.heap.size, 0, none⟩ 1 1 [.string ⟨#[]⟩] rfl ?c1 ?c2 ?c3 ?c4 ?c5 ?c6 ?_)
        case c1 => rfl
        case c2 => exact cell_one_new _ _ _
        case c3 => intro u hu; simp at hu; subst hu; rfl
        case c4 => unfold maxLen; omega
        case c5 => omega
        case c6 => have := hb.size; simp; omega
        intro v' w2 hown2 hg2 _
        have hb2 := (hb.alloc hb.size _).grown hg2 (by have := hb.size; simp; omega) fun z hz => (hown.lt z hz).1
        clear hg2 hown hb
        go_wp2
        go_roundw
        case rel =>
          refine ⟨k + 1, n + 1, f ++ [x], ⟨#[]⟩, by omega, by go_num, HE, ?_, hb2⟩
          simpa using hown2
        case measure => simp [intOf]; omega
      · have hc' : ¬ p.data.toList[k] = 47 := hc
        have HE := Lib.hid (cut_byte hat.out hl hc')
        have ht : ((p[k].toNat : Int) == 47) = false := by
          rw [beq_eq_false_iff_ne]
          intro e
          exact hc (UInt8.toNat_inj.1 (show p[k].toNat = 47 by omega))
        obtain ⟨g, cap, rfl, hn1, hmx, hBg, hcell, hfz, hset⟩ := own_last hown
        have HS := Lib.hid hset
        unfold maxLen at hmx
        clear hat hc hc' hset hown
        have hkp : k + 1 ≤ p.size := hlt
        generalize hm : n + 1 = m at *
        have HM := Lib.hid hm
        have z1 : (0 : Int) ≤ (n : Int) := Int.natCast_nonneg _
        have z2 : (n : Int) < (m : Int) := by omega
        have z3 : IntKind.i64.wrap ((m : Int) - 1) = (n : Int) := by rw [IntKind.wrap_i64]; omega
        have z4 : (0 : Int) ≤ (k : Int) := Int.natCast_nonneg _
        have z5 : IntKind.i64.wrap ((k : Int) + 1) = ((k + 1 : Nat) : Int) := by rw [IntKind.wrap_i64]; omega
        have z6 : (k : Int) ≤ ((k + 1 : Nat) : Int) := by omega
        have z7 : ((k + 1 : Nat) : Int) ≤ (p.size : Int) := by omega
        have z8 : k ≤ k + 1 := by omega
        clear hm
        go_wp2_with fail
        go_region
        all_goals go_wp2
        all_goals go_roundw
        case rel =>
          refine ⟨k + 1, n, f, x ++ p.extract k (k + 1), hkp, by go_num, HE, ?_, ?_⟩
          · rw [HM.out]
            have h2 := HS.out (.string (x ++ p.extract k (k + 1)))
            exact h2
          · exact (hb.setCell (p := ⟨g, n, none⟩) hBg _).drew
        case measure => simp [intOf]; omega
    · obtain rfl : k = p.size := by omega
      have hall : p.data.toList.take p.size = p.data.toList := List.take_of_length_le (by rw [HSZ.out]; omega)
      have hat := hat.out
      unfold Cut at hat
      rw [hall] at hat
      have HR : Hid ((spl p.data.toList).map mk = f ++ [x]) := by
        show (spl p.data.toList).map mk = f ++ [x]
        rw [hat.2.2.2, List.map_append, List.map_map]
        congr 1
        · rw [List.map_congr_left (g := id) (fun y _ => by show mk _ = _; exact mk_toList y), List.map_id]
      have HN := Lib.hid hat.1
      clear hat hall
      go_wp2
      go_ret
      refine ⟨_, rfl, ?_, hb⟩
      rw [HR.out, List.length_append, HN.out]
      simpa using hown
/-- A row of texts that isn't empty: where it lies; what its cells hold. -/
theorem own_cells {w : World} {B : Nat} {v : Value} {ls : List ByteArray} (h : w.ownsRow B 9 1 v ls.length (ls.map Value.string)) (h0 : 0 < ls.length) :
    ∃ g cap, v = .slice (some ⟨g, 0, none⟩) ls.length cap ∧ ls.length ≤ cap ∧ cap ≤ maxLen ∧ g < w.heap.size ∧ ∀ k x, ls[k]? = some x → w.cell? ⟨g, k, none⟩ = some (.string x) := by
  obtain ⟨hl, h⟩ := h
  rcases h with ⟨_, h⟩ | ⟨g, cap, cur, rfl, hB, hh, hn, hm, hs, ht⟩
  · omega
  simp only [Nat.mul_one] at hl hs ht
  refine ⟨g, cap, rfl, hn, hm, (Array.getElem?_eq_some_iff.1 hh).1, fun k x hk => (cell_of_row w g k cur 9 (0, 0) hh).trans ?_⟩
  have hlt := (List.getElem?_eq_some_iff.1 hk).1
  have : (cur.toList.take ls.length)[k]? = some (.string x) := by rw [ht, List.getElem?_map, hk]; rfl
  rw [List.getElem?_take, if_pos hlt] at this
  rwa [Array.getElem?_toList] at this
/-- The world is as it was. -/
def SameW (a b : World) : Prop := a = b
theorem refCheck_long (p : ByteArray) (w : World) (hp : p.size ≤ 9223372036854775807) (h : 64 < p.size) : Calls Tryz.prog 104 #[.string p] w fun e w' => e = .returned (.int .i64 4) ∧ Below w.heap.size w w' := by
  have hi : (64 : Int) < (p.size : Int) := by omega
  go_enter Tryz.func104, Tryz.ntmps104
  go_wp2
  go_ret
  exact ⟨rfl, Below.refl _ _⟩
theorem refCheck_none (w : World) : Calls Tryz.prog 104 #[.string ⟨#[]⟩] w fun e w' => e = .returned (.int .i64 5) ∧ Below w.heap.size w w' := by
  go_enter Tryz.func104, Tryz.ntmps104
  go_wp2_with (go_at_call 138; refine (refParts_none _).mono ?_; rintro e w' ⟨rfl, rfl⟩)
  go_ret
  exact ⟨rfl, Below.refl _ _⟩
theorem ret_5 {p : ByteArray} {k : Nat} {x : List UInt8} (h : ¬ 64 < p.data.toList.length) (h0 : p.data.toList ≠ []) (hk : (spl p.data.toList)[k]? = some x) (hg : gp x = false) : chk p.data.toList = 5 :=
  chk_bad h h0 (by
    rw [Bool.eq_false_iff]
    intro ha
    have := List.all_eq_true.1 ha x (List.mem_of_getElem? hk)
    rw [hg] at this
    cases this)
set_option maxRecDepth 100000 in
set_option maxHeartbeats 4000000 in
theorem refCheck_main (p : ByteArray) (w : World) (h : ¬ 64 < p.size) (hne : ¬ p.size = 0) : Calls Tryz.prog 104 #[.string p] w (Checked p w) := by
  have hi : ¬ (64 : Int) < (p.size : Int) := by omega
  have hi2 : (p.size : Int) ≤ 64 := by omega
  obtain ⟨n, hn⟩ : ∃ n, (spl p.data.toList).length = n := ⟨_, rfl⟩
  have hsz := size_list p
  have hn1 : n ≤ 65 := by have := spl_len p.data.toList; omega
  have hn0 : 0 < n := by have := List.length_pos_iff.2 (spl_ne p.data.toList); omega
  have hnz : ((n : Int) == 0) = false := by rw [beq_eq_false_iff_ne]; omega
  have B5 : Hid (∀ (k : Nat) (x : List UInt8), (spl p.data.toList)[k]? = some x → gp x = false → chk p.data.toList = 5) := Lib.hid fun k x hk hg => ret_5 (by omega) (fun e => hne (by rw [← hsz, e]; rfl)) hk hg
  have B0 : Hid ((spl p.data.toList).all gp = true → chk p.data.toList = 0) := Lib.hid fun ha => chk_good (by omega) (fun e => hne (by rw [← hsz, e]; rfl)) ha
  have PL : Hid (∀ x ∈ spl p.data.toList, x.length ≤ 64) := Lib.hid fun x hx => by have := spl_part hx; omega
  go_enter Tryz.func104, Tryz.ntmps104
  go_wp2_with fail
  refine (refParts_any p w (by omega) hne).mono ?_
  rintro e w1 ⟨v, rfl, hown, hb1⟩
  obtain ⟨g, cap, rfl, hcap, hmx, hg, hcs⟩ := own_cells hown (by rw [List.length_map, hn]; exact hn0)
  rw [List.length_map, hn] at hcap ⊢
  have HN := Lib.hid hn
  have HB := Lib.hid hb1
  have HC : Hid (∀ (k : Nat) (x : List UInt8), (spl p.data.toList)[k]? = some x → w1.cell? ⟨g, k, none⟩ = some (.string (mk x))) := Lib.hid fun k x hk => hcs k (mk x) (by rw [List.getElem?_map, hk]; rfl)
  unfold maxLen at hmx
  clear hcs hown hb1 hn hsz
  go_wp2_with fail
  go_loopw [4] (fun i wr => ∃ k : Nat, i = .int .i64 k ∧ k ≤ n ∧ SameW wr w1 ∧ Hid (∀ j x, j < k → (spl p.data.toList)[j]? = some x → gp x = true)) (fun i _ => n - (intOf i).toNat)
  case atStart => exact ⟨0, rfl, Nat.zero_le _, rfl, Lib.hid fun j x hj => absurd hj (Nat.not_lt_zero _)⟩
  case round =>
    obtain ⟨k, rfl, hk, hw, hall⟩ := hrel
    unfold SameW at hw
    subst hw
    by_cases hlt : k < n
    · obtain ⟨x, hx⟩ : ∃ x, (spl p.data.toList)[k]? = some x := ⟨_, List.getElem?_eq_getElem (by rw [HN.out]; exact hlt)⟩
      have hcell := HC.out k x hx
      have hxl := PL.out x (List.mem_of_getElem? hx)
      have HX := Lib.hid hx
      clear hx
      obtain ⟨y, hy⟩ : ∃ y, mk x = y := ⟨_, rfl⟩
      have hyx : y.data.toList = x := by rw [← hy, toList_mk]
      rw [hy] at hcell
      have hys : y.size ≤ 64 := by rw [← hy, mk_size]; exact hxl
      clear hy hxl
      by_cases e0 : y.data.toList = []
      · obtain rfl := bytes_eq (b := ⟨#[]⟩) e0
        have H5 := Lib.hid (B5.out k x HX.out (by rw [← hyx]; rfl))
        clear e0 hyx
        go_wp2
        go_ret
        exact ⟨ret_i H5.out.symm, HB.out⟩
      by_cases e1 : y.data.toList = [46]
      · obtain rfl := bytes_eq (b := ⟨#[46]⟩) e1
        have H5 := Lib.hid (B5.out k x HX.out (by rw [← hyx]; rfl))
        clear e0 e1 hyx
        go_wp2
        go_ret
        exact ⟨ret_i H5.out.symm, HB.out⟩
      by_cases e2 : y.data.toList = [46, 46]
      · obtain rfl := bytes_eq (b := ⟨#[46, 46]⟩) e2
        have H5 := Lib.hid (B5.out k x HX.out (by rw [← hyx]; rfl))
        clear e0 e1 e2 hyx
        go_wp2
        go_ret
        exact ⟨ret_i H5.out.symm, HB.out⟩
      have q0 : ¬ y.toList = [] := by rw [ByteArray.toList_eq]; exact e0
      have q0' : y.toList.isEmpty = false := by rw [List.isEmpty_eq_false_iff]; exact q0
      have q1 : ¬ y.toList = [46] := by rw [ByteArray.toList_eq]; exact e1
      have q1' : (y.toList == [46]) = false := by rw [beq_eq_false_iff_ne]; exact q1
      have q2 : ¬ y.toList = [46, 46] := by rw [ByteArray.toList_eq]; exact e2
      have q2' : (y.toList == [46, 46]) = false := by rw [beq_eq_false_iff_ne]; exact q2
      have E := Lib.hid (And.intro e0 (And.intro e1 e2))
      have HYX := Lib.hid hyx
      have HYS := Lib.hid (size_list y)
      clear e0 e1 e2 hyx
      go_wp2_with fail
      go_loopw [5] (fun i wq => ∃ j : Nat, i = .int .i64 j ∧ j ≤ y.size ∧ SameW wq wr ∧ Hid (∀ i (hi : i < y.data.toList.length), i < j → gbv (y.data.toList[i].toNat : Int) = true)) (fun i _ => y.size - (intOf i).toNat)
      case atStart => exact ⟨0, rfl, Nat.zero_le _, rfl, Lib.hid fun i hi hj => absurd hj (Nat.not_lt_zero _)⟩
      case round =>
        obtain ⟨j, rfl, hj, hw, hgood⟩ := hrel
        unfold SameW at hw
        subst hw
        by_cases hjy : j < y.size
        · have hjl : j < y.data.toList.length := by rw [HYS.out]; exact hjy
          have hc0 : (0 : Int) ≤ (y[j].toNat : Int) := Int.natCast_nonneg _
          have hc1 : (y[j].toNat : Int) ≤ 255 := by have := y[j].toNat_lt; omega
          have GA := Lib.hid (good_any (y[j].toNat : Int) wr hc0 hc1)
          cases hgb : gbv (y[j].toNat : Int) with
          | false =>
            rw [hgb] at GA
            have H5 := Lib.hid (B5.out k x HX.out (by rw [← HYX.out]; exact gp_bad hjl hgb))
            clear hgb
            go_wp2_with (go_at_call 139; refine GA.out.mono ?_; rintro e w' ⟨rfl, rfl⟩)
            go_ret
            exact ⟨ret_i H5.out.symm, HB.out⟩
          | true =>
            rw [hgb] at GA
            have HG : Hid (∀ i (hi : i < y.data.toList.length), i < j + 1 → gbv (y.data.toList[i].toNat : Int) = true) := Lib.hid fun i hi hij => by
              by_cases e : i = j
              · subst e; exact hgb
              · exact hgood.out i hi (by omega)
            clear hgb hgood
            go_wp2_with (go_at_call 139; refine GA.out.mono ?_; rintro e w' ⟨rfl, rfl⟩)
            go_roundw
            case rel => exact ⟨j + 1, by go_num, hjy, rfl, HG⟩
            case measure => simp [intOf]; omega
        · have HP : Hid (∀ j x, j < k + 1 → (spl p.data.toList)[j]? = some x → gp x = true) := Lib.hid fun i z hi hz => by
            by_cases e : i = k
            · subst e
              obtain rfl : x = z := Option.some.inj (HX.out.symm.trans hz)
              rw [← HYX.out]
              exact gp_all E.out.1 E.out.2.1 E.out.2.2 fun t ht => hgood.out t ht (by rw [HYS.out] at ht; omega)
            · exact hall.out i z (by omega) hz
          clear hgood hall
          go_wp2
          go_roundw
          case rel => exact ⟨k + 1, by go_num, hlt, rfl, HP⟩
          case measure => simp [intOf]; omega
    · have H0 := Lib.hid (B0.out (by
        rw [List.all_eq_true]
        intro x hx
        obtain ⟨j, hj, rfl⟩ := List.getElem_of_mem hx
        exact hall.out j _ (by rw [HN.out] at hj; omega) (List.getElem?_eq_getElem hj)))
      clear hall
      go_wp2
      go_ret
      exact ⟨ret_i H0.out.symm, HB.out⟩
theorem refCheck_any (p : ByteArray) (w : World) (hp : p.size ≤ 9223372036854775807) : Calls Tryz.prog 104 #[.string p] w (Checked p w) := by
  by_cases h : 64 < p.size
  · refine (refCheck_long p w hp h).mono ?_
    rintro e w' ⟨rfl, hb⟩
    exact ⟨ret_i (chk_long (by rw [size_list]; exact h)).symm, hb⟩
  · by_cases h0 : p.size = 0
    · obtain rfl := nil_of h0
      exact refCheck_none w
    · exact refCheck_main p w h h0
end Go.Proofs.YtplleaimmmanhaaGreatDoor
namespace Go.Proofs.YtplleaimmmanhaaGreatDoor
open Go Go.RowKit
set_option maxHeartbeats 1000000 in
theorem under_any (p d : ByteArray) (w : World) (hp : p.size ≤ 1000000) (hd : d.size ≤ 1000000) : Calls Tryz.prog 112 #[.string p, .string d] w fun e w' => e = .returned (.bool (und p.data.toList d.data.toList)) ∧ w = w' := by
  by_cases hd0 : d.size = 0
  · obtain rfl := nil_of hd0
    by_cases hp0 : p.size = 0
    · obtain rfl := nil_of hp0
      go_enter Tryz.func112, Tryz.ntmps112
      go_wp2
      go_ret
      exact ⟨rfl, rfl⟩
    · obtain ⟨q1, q2⟩ := not_nil hp0
      have HU : Hid (und p.data.toList [] = true) := Lib.hid (und_root (by rw [← ByteArray.toList_eq]; exact q1))
      go_enter Tryz.func112, Tryz.ntmps112
      go_wp2
      go_ret
      exact ⟨ret_b HU.out.symm, rfl⟩
  · obtain ⟨q1, q2⟩ := not_nil hd0
    have hne : d.data.toList ≠ [] := by rw [← ByteArray.toList_eq]; exact q1
    by_cases hl : d.size + 1 < p.size
    · have hli : (d.size : Int) + 1 < (p.size : Int) := by omega
      have hli2 : (d.size : Int) < (p.size : Int) := by omega
      have hlt : d.size < p.size := by omega
      have hU := und_long (p := p.data.toList) hne (by rw [size_list, size_list]; exact hl)
      have hget : p.data.toList[d.data.toList.length]? = some p[d.size] := by rw [size_list]; exact List.getElem?_eq_getElem (by rw [size_list]; exact hlt)
      have htk : (p.extract 0 d.size).data.toList = p.data.toList.take d.data.toList.length := by rw [size_list]; exact Lib.extract_from_zero p d.size
      rw [hget, ← htk] at hU
      have HU := Lib.hid hU
      clear hU hget htk
      by_cases h47 : p[d.size] = 47
      · have b1 : ((p[d.size].toNat : Int) == 47) = true := by rw [h47]; rfl
        have b1' : (p[d.size].toNat : Int) = 47 := by rw [h47]; rfl
        by_cases he : p.extract 0 d.size = d
        · have c1 : (p.extract 0 d.size).toList = d.toList := by rw [he]
          have c2 : ((p.extract 0 d.size).toList == d.toList) = true := by rw [c1]; simp
          have HE : Hid (und p.data.toList d.data.toList = true) := by show und _ _ = true; rw [HU.out, h47, he]; simp
          clear HU h47 he
          go_enter Tryz.func112, Tryz.ntmps112
          go_wp2
          go_ret
          exact ⟨ret_b HE.out.symm, rfl⟩
        · have c1 : ¬ (p.extract 0 d.size).toList = d.toList := by rw [ByteArray.toList_eq, ByteArray.toList_eq]; exact fun e => he (bytes_eq e)
          have c2 : ((p.extract 0 d.size).toList == d.toList) = false := by rw [beq_eq_false_iff_ne]; exact c1
          have HE : Hid (und p.data.toList d.data.toList = false) := by
            show und _ _ = false
            rw [HU.out]
            have : ((p.extract 0 d.size).data.toList == d.data.toList) = false := by rw [beq_eq_false_iff_ne]; exact fun e => he (bytes_eq e)
            rw [this, Bool.and_false]
          clear HU h47 he
          go_enter Tryz.func112, Tryz.ntmps112
          go_wp2
          go_ret
          exact ⟨ret_b HE.out.symm, rfl⟩
      · have b1' : ¬ (p[d.size].toNat : Int) = 47 := fun e => h47 (UInt8.toNat_inj.1 (by show p[d.size].toNat = 47; omega))
        have b1 : ((p[d.size].toNat : Int) == 47) = false := by rw [beq_eq_false_iff_ne]; exact b1'
        have HE : Hid (und p.data.toList d.data.toList = false) := by
          show und _ _ = false
          rw [HU.out]
          have : (some p[d.size] == some (47 : UInt8)) = false := by rw [beq_eq_false_iff_ne]; exact fun e => h47 (Option.some.inj e)
          rw [this, Bool.false_and]
        clear HU h47
        by_cases he : (p.extract 0 d.size).toList = d.toList
        · have c2 : ((p.extract 0 d.size).toList == d.toList) = true := by rw [he]; simp
          go_enter Tryz.func112, Tryz.ntmps112
          go_wp2
          go_ret
          exact ⟨ret_b HE.out.symm, rfl⟩
        · have c2 : ((p.extract 0 d.size).toList == d.toList) = false := by rw [beq_eq_false_iff_ne]; exact he
          go_enter Tryz.func112, Tryz.ntmps112
          go_wp2
          go_ret
          exact ⟨ret_b HE.out.symm, rfl⟩
    · have hli : ¬ (d.size : Int) + 1 < (p.size : Int) := by omega
      have HE : Hid (und p.data.toList d.data.toList = false) := Lib.hid (und_short hne (by rw [size_list, size_list]; exact hl))
      go_enter Tryz.func112, Tryz.ntmps112
      go_wp2
      go_ret
      exact ⟨ret_b HE.out.symm, rfl⟩

set_option maxHeartbeats 1000000 in
theorem clash_any (a b : ByteArray) (w : World) (ha : a.size ≤ 1000000) (hb : b.size ≤ 1000000) : Calls Tryz.prog 57 #[.string a, .string b] w fun e w' => e = .returned (.bool (cls a.data.toList b.data.toList)) ∧ w = w' := by
  by_cases ha0 : a.size = 0
  · obtain rfl := nil_of ha0
    go_enter Tryz.func57, Tryz.ntmps57
    go_wp2
    go_ret
    exact ⟨rfl, rfl⟩
  · obtain ⟨q1, q2⟩ := not_nil ha0
    have n1 : a.data.toList ≠ [] := by rw [← ByteArray.toList_eq]; exact q1
    by_cases hb0 : b.size = 0
    · obtain rfl := nil_of hb0
      have HE : Hid (cls a.data.toList [] = false) := by show cls _ [] = false; unfold cls; simp
      go_enter Tryz.func57, Tryz.ntmps57
      go_wp2
      go_ret
      exact ⟨ret_b HE.out.symm, rfl⟩
    · obtain ⟨q3, q4⟩ := not_nil hb0
      have n2 : b.data.toList ≠ [] := by rw [← ByteArray.toList_eq]; exact q3
      have HE : Hid (cls a.data.toList b.data.toList = (und a.data.toList b.data.toList || und b.data.toList a.data.toList)) := Lib.hid (cls_of n1 n2)
      have U1 := Lib.hid fun W => under_any a b W ha hb
      have U2 := Lib.hid fun W => under_any b a W hb ha
      generalize und a.data.toList b.data.toList = x at *
      generalize und b.data.toList a.data.toList = y at *
      cases x with
      | true =>
        go_enter Tryz.func57, Tryz.ntmps57
        go_wp2_with fail
        refine (U1.out _).mono ?_
        rintro e w' ⟨rfl, rfl⟩
        go_wp2_with fail
        go_ret
        exact ⟨ret_b HE.out.symm, rfl⟩
      | false =>
        go_enter Tryz.func57, Tryz.ntmps57
        go_wp2_with fail
        refine (U1.out _).mono ?_
        rintro e w' ⟨rfl, rfl⟩
        go_wp2_with fail
        refine (U2.out _).mono ?_
        rintro e w' ⟨rfl, rfl⟩
        go_wp2_with fail
        go_ret
        exact ⟨ret_b HE.out.symm, rfl⟩

end Go.Proofs.YtplleaimmmanhaaGreatDoor
namespace Go.Proofs.YtplleaimmmanhaaGreatDoor
open Go.RowKit

def RiseTo (l : List Fl) (w : World) (e : Ending) (w' : World) : Prop := ∃ b : Bool, e = .returned (.bool b) ∧ (b = true ↔ RiseF l) ∧ ∃ q, w' = w.drewN q
set_option maxHeartbeats 4000000 in
theorem rises_any (w : World) (v : Value) (l : List Fl) (h : Reads 3 cF w v l) (hl : l.length ≤ 100000) :
    Calls Tryz.prog 13 #[v] w (RiseTo l w) := by
  obtain ⟨A, c, rfl⟩ := h.form
  have HO := Lib.hid h
  clear h
  go_enter Tryz.func13, Tryz.ntmps13
  go_wp2
  go_loopw [3] (fun s3 wr => ∃ k q : Nat, k ≤ l.length ∧ s3 = .int .i64 ((k + 1 : Nat) : Int) ∧ Hid (∀ (t : Nat) (x y : Fl), t < k → l[t]? = some x → l[t + 1]? = some y → cb x.1 y.1 < 0) ∧ wr = w.drewN q) (fun s3 _ => l.length + 1 - (intOf s3).toNat)
  case atStart => exact ⟨0, 0, Nat.zero_le _, rfl, Lib.hid (fun t x y ht => absurd ht (Nat.not_lt_zero _)), rfl⟩
  case round =>
    obtain ⟨k, q, hk, rfl, hp, rfl⟩ := hrel
    obtain ⟨m, hm⟩ : ∃ m, m = k + 1 := ⟨_, rfl⟩
    rw [← hm]
    have HM := Lib.hid hm
    by_cases hlt : k + 1 < l.length
    · obtain ⟨x, hx⟩ : ∃ x, l[k]? = some x := ⟨_, List.getElem?_eq_getElem (by omega)⟩
      obtain ⟨y, hy⟩ : ∃ y, l[k + 1]? = some y := ⟨_, List.getElem?_eq_getElem hlt⟩
      obtain ⟨ad, rfl, c0, c1, c2⟩ := Fils.at_ HO.out hx
      obtain ⟨ad', had, d0, d1, d2⟩ := Fils.at_ HO.out hy
      obtain rfl := Option.some.inj had
      have HX := Lib.hid hx
      have HY := Lib.hid hy
      obtain ⟨px, mx, sx⟩ := x
      obtain ⟨py, my, sy⟩ := y
      have hw : IntKind.i64.wrap ((m : Int) - 1) = (k : Int) := by rw [IntKind.wrap_i64] <;> omega
      rw [← hm] at d0 d1 d2
      have k0 : (0 : Int) ≤ (k : Int) := Int.natCast_nonneg _
      have k1 : (m : Int) < (l.length : Int) := by omega
      have k3 : (0 : Int) ≤ (m : Int) := Int.natCast_nonneg _
      have k2 : (k : Int) < (l.length : Int) := by omega
      have hlc := less_cb px py
      clear hx hy hm
      by_cases hc : cb px py < 0
      · have hls : Op.bytesLess px.toList py.toList = true := by rw [hlc]; exact decide_eq_true hc
        have HC := Lib.hid hc
        clear hlc
        go_wp2_with fail
        go_quiet (fail)
        go_wp2
        go_roundw
        case rel => exact ⟨k + 1, _, by omega, by rw [← HM.out]; go_num, Lib.hid (fun t a b ht ha hb => by
          rcases Nat.lt_or_ge t k with h1 | h1
          · exact hp.out t a b h1 ha hb
          · obtain rfl : t = k := by omega
            rw [HX.out] at ha
            rw [HY.out] at hb
            rw [← Option.some.inj ha, ← Option.some.inj hb]
            exact HC.out), rfl⟩
        case measure => have := HM.out; simp [intOf]; omega
      · have hls : Op.bytesLess px.toList py.toList = false := by rw [hlc]; exact decide_eq_false hc
        have HC := Lib.hid hc
        clear hlc
        go_wp2_with fail
        go_quiet (fail)
        go_wp2
        go_ret
        exact ⟨_, rfl, ⟨(fun h => by cases h), fun hr => absurd (rise_at hr HX.out HY.out) (Int.not_lt.2 HC.out)⟩, q + nq, drewN_two w q nq⟩
    · have hlt' : ¬ (m : Int) < (l.length : Int) := by omega
      clear hm
      go_wp2
      go_ret
      exact ⟨_, rfl, ⟨fun _ => rise_adj l fun t x y hx hy => hp.out t x y (by have := (List.getElem?_eq_some_iff.1 hy).1; omega) hx hy, fun _ => rfl⟩, _, rfl⟩
end Go.Proofs.YtplleaimmmanhaaGreatDoor
namespace Go.Proofs.YtplleaimmmanhaaGreatDoor
open Go.RowKit

def BoolTo (b : Bool) (w : World) (e : Ending) (w' : World) : Prop := e = .returned (.bool b) ∧ ∃ q, w' = w.drewN q

theorem prefix_all {α : Type} {a b : List α} {n : Nat} (h : ∀ i, i < n → a[i]? = b[i]?) (ha : a.length = n) (hb : b.length = n) : a = b := by
  apply List.ext_getElem?
  intro i
  by_cases hi : i < n
  · exact h i hi
  · rw [List.getElem?_eq_none (by omega), List.getElem?_eq_none (by omega)]

set_option maxHeartbeats 4000000 in
theorem equalF_any (w : World) (v u : Value) (a b : List Fl) (h : Reads 3 cF w v a) (g : Reads 3 cF w u b) :
    Calls Tryz.prog 92 #[v, u] w (BoolTo (decide (a = b)) w) := by
  obtain ⟨A, c, rfl⟩ := h.form
  obtain ⟨B, d, rfl⟩ := g.form
  have hn := h.len
  have gn := g.len
  have hm1 : a.length ≤ 9223372036854775807 := by have := hn.2; unfold maxLen at this; omega
  have hm2 : b.length ≤ 9223372036854775807 := by have := gn.2; unfold maxLen at this; omega
  have HA := Lib.hid h
  have HB := Lib.hid g
  clear h g hn gn
  by_cases hnm : a.length = b.length
  · have hi0 : (a.length : Int) = (b.length : Int) := by omega
    have HN := Lib.hid hnm
    clear hnm
    go_enter Tryz.func92, Tryz.ntmps92
    go_wp2
    go_loopw [5, 13] (fun _ s13 wr => ∃ k q : Nat, k ≤ b.length ∧ s13 = .int .i64 k ∧ Hid (∀ i, i < k → a[i]? = b[i]?) ∧ wr = w.drewN q) (fun _ s13 _ => b.length - (intOf s13).toNat)
    case atStart => exact ⟨0, 0, Nat.zero_le _, rfl, Lib.hid (fun i hi => absurd hi (Nat.not_lt_zero _)), rfl⟩
    case round =>
      obtain ⟨k, q, hk, rfl, hp, rfl⟩ := hrel
      by_cases hlt : k < b.length
      · obtain ⟨x, hx⟩ : ∃ x, a[k]? = some x := ⟨_, List.getElem?_eq_getElem (by rw [HN.out]; exact hlt)⟩
        obtain ⟨y, hy⟩ : ∃ y, b[k]? = some y := ⟨_, List.getElem?_eq_getElem hlt⟩
        obtain ⟨ad, rfl, c0, c1, c2⟩ := Fils.at_ HA.out hx
        obtain ⟨ad2, rfl, d0, d1, d2⟩ := Fils.at_ HB.out hy
        have HX := Lib.hid hx
        have HY := Lib.hid hy
        have k0 : (0 : Int) ≤ (k : Int) := Int.natCast_nonneg _
        have k1 : (k : Int) < (b.length : Int) := by omega
        have HNE := Lib.hid (show x ≠ y → decide (a = b) = false from fun hne => decide_eq_false fun e => by
          rw [e, hy] at hx
          exact hne (Option.some.inj hx).symm)
        clear hx hy
        by_cases hxy : x = y
        · subst hxy
          obtain ⟨p, m, s⟩ := x
          go_wp2_with fail
          go_quiet (fail)
          go_wp2
          go_roundw
          case rel => exact ⟨k + 1, _, by omega, by go_num, Lib.hid (fun i hi => by
            rcases Nat.lt_or_ge i k with h1 | h1
            · exact hp.out i h1
            · obtain rfl : i = k := by omega
              rw [HX.out, HY.out]), rfl⟩
          case measure => simp [intOf]; omega
        · have HC := Lib.hid (HNE.out hxy)
          obtain ⟨p, m, s⟩ := x
          obtain ⟨p', m', s'⟩ := y
          by_cases h1 : p = p'
          · subst h1
            by_cases h2 : m = m'
            · subst h2
              have h3 : ¬ s = s' := fun e => hxy (by rw [e])
              have e3 : ¬ s.toList = s'.toList := fun e => h3 (tl_eq e)
              have e3' : (s.toList == s'.toList) = false := by simpa using e3
              clear h3 hxy
              go_wp2_with fail
              go_quiet (fail)
              go_wp2
              go_ret
              exact ⟨by rw [HC.out]; rfl, _, drewN_two _ _ _⟩
            · have e2' : (m == m') = false := by simpa using h2
              clear hxy
              go_wp2_with fail
              go_quiet (fail)
              go_wp2
              go_ret
              exact ⟨by rw [HC.out]; rfl, _, drewN_two _ _ _⟩
          · have e1 : ¬ p.toList = p'.toList := fun e => h1 (tl_eq e)
            have e1' : (p.toList == p'.toList) = false := by simpa using e1
            clear hxy h1
            go_wp2_with fail
            go_quiet (fail)
            go_wp2
            go_ret
            exact ⟨by rw [HC.out]; rfl, _, drewN_two _ _ _⟩
      · obtain rfl : k = b.length := by omega
        have HC : Hid (decide (a = b) = true) := Lib.hid (decide_eq_true (prefix_all hp.out HN.out rfl))
        go_wp2
        go_ret
        exact ⟨by rw [HC.out]; rfl, _, rfl⟩
  · have hi0 : ¬ (a.length : Int) = (b.length : Int) := by omega
    have HC : Hid (decide (a = b) = false) := Lib.hid (decide_eq_false fun e => hnm (by rw [e]))
    clear hnm
    go_enter Tryz.func92, Tryz.ntmps92
    go_wp2
    go_ret
    exact ⟨by rw [HC.out]; rfl, 0, rfl⟩

theorem sameF_any (w : World) (v u : Value) (a b : List Fl) (h : Reads 3 cF w v a) (g : Reads 3 cF w u b) :
    Calls Tryz.prog 44 #[v, u] w (BoolTo (decide (a = b)) w) := by
  have E := Lib.hid (equalF_any w v u a b h g)
  clear h g
  go_enter Tryz.func44, Tryz.ntmps44
  go_wp2_with fail
  refine E.out.mono ?_
  rintro e w' ⟨rfl, q, rfl⟩
  go_wp2
  go_ret
  exact ⟨rfl, q, rfl⟩
end Go.Proofs.YtplleaimmmanhaaGreatDoor
namespace Go.Proofs.YtplleaimmmanhaaGreatDoor
open Go Go.RowKit

/-- A closure that takes a file and has captured one thing: what it says, wherever all below B is as it was in w0. -/
def PB (B : Nat) (w0 : World) (g : Nat) (c : Value) (p : Fl → Bool) : Prop :=
  ∀ (W : World) (x : Fl), Below B w0 W → x.1.size ≤ 1000000 → Calls Tryz.prog g #[.agg #[.string x.1, .int .i64 x.2.1, .string x.2.2], c] W fun e w' => e = .returned (.bool (p x)) ∧ Below W.heap.size W w'
def IdxTo (p : Fl → Bool) (l : List Fl) (w : World) (e : Ending) (w' : World) : Prop :=
  ∃ n : Int, e = .returned (.int .i64 n) ∧ Below w.heap.size w w' ∧ ((n = -1 ∧ l.any p = false) ∨ ∃ (i : Nat) (x : Fl), n = i ∧ l[i]? = some x ∧ p x = true ∧ (l.take i).any p = false)
def Sized (l : List Fl) : Prop := ∀ x ∈ l, x.1.size ≤ 1000000
theorem Sized.at_ {l : List Fl} (h : Sized l) {i : Nat} {x : Fl} (hx : l[i]? = some x) : x.1.size ≤ 1000000 := h x (List.mem_of_getElem? hx)

set_option maxHeartbeats 2000000 in
theorem indexF_any (w0 w : World) (B : Nat) (hb : Below B w0 w) (hB : B ≤ w.heap.size) (v : Value) (l : List Fl) (g : Nat) (c : Value) (p : Fl → Bool) (h : Reads 3 cF w v l) (hs : Sized l) (hl : l.length ≤ 100000)
    (eg : ∀ args w, (callFunc g args).run Tryz.prog w = .ok (.enter g args) w) (hp : PB B w0 g c p) :
    Calls Tryz.prog 137 #[v, .func (.func g) #[] #[c]] w (IdxTo p l w) := by
  obtain ⟨A, cap, rfl⟩ := h.form
  have hn := h.len
  have HO := Lib.hid h
  have HP := Lib.hid hp
  have HS := Lib.hid hs
  clear h hn hp hs
  go_enter Tryz.func137, Tryz.ntmps137
  go_wp2
  go_loopw [5, 8] (fun _ s8 wr => ∃ k : Nat, k ≤ l.length ∧ s8 = .int .i64 k ∧ Below w.heap.size w wr ∧ Hid ((l.take k).any p = false)) (fun _ s8 _ => l.length - (intOf s8).toNat)
  case atStart => exact ⟨0, Nat.zero_le _, rfl, Below.refl _ _, Lib.hid (by simp)⟩
  case round =>
    obtain ⟨k, hk, rfl, hb1, A1⟩ := hrel
    by_cases hlt : k < l.length
    · obtain ⟨x, hx⟩ : ∃ x, l[k]? = some x := ⟨_, List.getElem?_eq_getElem hlt⟩
      obtain ⟨ad, rfl, c0, c1, c2⟩ := Fils.at_ (HO.out.below hb1) hx
      have hcall := HP.out wr x (hb.trans (hb1.mono hB)) (HS.out.at_ hx)
      have HX := Lib.hid hx
      have HT : Hid (p x = false → (l.take (k + 1)).any p = false) := Lib.hid fun hq => by
        rw [take_snoc hx, List.any_append, A1.out]; simp [hq]
      clear hx
      cases hq : p x with
      | true =>
        rw [hq] at hcall
        have HQ := Lib.hid hq
        clear hq
        go_wp2_with (go_at_fn g; refine hcall.mono ?_; rintro e w' ⟨rfl, hb2⟩)
        go_ret
        exact ⟨_, rfl, hb1.trans (hb2.mono hb1.size), .inr ⟨k, x, rfl, HX.out, HQ.out, A1.out⟩⟩
      | false =>
        rw [hq] at hcall
        have HQ := Lib.hid hq
        clear hq
        go_wp2_with (go_at_fn g; refine hcall.mono ?_; rintro e w' ⟨rfl, hb2⟩)
        go_roundw
        case rel => exact ⟨k + 1, by omega, by go_num, hb1.trans (hb2.mono hb1.size), Lib.hid (HT.out HQ.out)⟩
        case measure => simp [intOf]; omega
    · obtain rfl : k = l.length := by omega
      go_wp2
      go_ret
      exact ⟨_, rfl, hb1, .inl ⟨rfl, by have := A1.out; rwa [List.take_length] at this⟩⟩

theorem any_hit {l : List Fl} {p : Fl → Bool} {i : Nat} {x : Fl} (hx : l[i]? = some x) (hp : p x = true) : l.any p = true := List.any_eq_true.2 ⟨x, List.mem_of_getElem? hx, hp⟩

set_option maxHeartbeats 1000000 in
theorem containsF_any (w0 w : World) (B : Nat) (hb : Below B w0 w) (hB : B ≤ w.heap.size) (v : Value) (l : List Fl) (g : Nat) (c : Value) (p : Fl → Bool) (h : Reads 3 cF w v l) (hs : Sized l) (hl : l.length ≤ 100000)
    (eg : ∀ args w, (callFunc g args).run Tryz.prog w = .ok (.enter g args) w) (hp : PB B w0 g c p) :
    Calls Tryz.prog 102 #[v, .func (.func g) #[] #[c]] w (FlagTo (l.any p) w) := by
  have S := Lib.hid (indexF_any w0 w B hb hB v l g c p h hs hl eg hp)
  obtain ⟨A, cap, rfl⟩ := h.form
  clear h hs hp
  go_enter Tryz.func102, Tryz.ntmps102
  go_wp2_with fail
  refine S.out.mono ?_
  rintro e w' ⟨n, rfl, hb1, hn⟩
  rcases hn with ⟨rfl, hn⟩ | ⟨i, x, rfl, hx, hpx, -⟩
  · have HN := Lib.hid hn
    clear hn
    go_wp2_with fail
    go_ret
    exact ⟨ret_b HN.out.symm, hb1⟩
  · have HN := Lib.hid (any_hit hx hpx)
    clear hx hpx
    go_wp2_with fail
    go_ret
    exact ⟨ret_b HN.out.symm, hb1⟩

/-! ### The closures -/
theorem enters_cut (args : Array Value) (w : World) : (callFunc 55 args).run Tryz.prog w = .ok (.enter 55 args) w := enters_of Tryz.func55 (by kernel_rfl) rfl args w
theorem enters_clear (args : Array Value) (w : World) : (callFunc 56 args).run Tryz.prog w = .ok (.enter 56 args) w := enters_of Tryz.func56 (by kernel_rfl) rfl args w
theorem enters_refuses (args : Array Value) (w : World) : (callFunc 103 args).run Tryz.prog w = .ok (.enter 103 args) w := enters_of Tryz.func103 (by kernel_rfl) rfl args w

set_option maxHeartbeats 1000000 in
theorem cut_pred (w0 : World) (B b : Nat) (q : ByteArray) (hc : w0.cell? ⟨b, 0, none⟩ = some (.string q)) (hb : b < B) (hB : B ≤ w0.heap.size) :
    PB B w0 55 (.pointer (some ⟨b, 0, none⟩)) (fun x => decide (x.1 = q)) := by
  intro W x hW _
  have c0 : W.cell? ⟨b, 0, none⟩ = some (.string q) := (hW.cell (p := ⟨b, 0, none⟩) hb).trans hc
  have hlt : b < W.heap.size := Nat.lt_of_lt_of_le hb (Nat.le_trans hB hW.size)
  obtain ⟨p, m, d⟩ := x
  clear hc hW hb hB
  by_cases h : p = q
  · subst h
    go_enter Tryz.func55, Tryz.ntmps55
    go_wp2
    go_ret
    exact ⟨by simp, (Below.refl _ _).alloc (Nat.le_refl _) _⟩
  · have e1 : ¬ p.toList = q.toList := fun e => h (tl_eq e)
    have e1' : (p.toList == q.toList) = false := by simpa using e1
    have HD := Lib.hid (decide_eq_false h)
    clear h
    go_enter Tryz.func55, Tryz.ntmps55
    go_wp2
    go_ret
    exact ⟨ret_b HD.out.symm, (Below.refl _ _).alloc (Nat.le_refl _) _⟩

set_option maxHeartbeats 1000000 in
theorem clear_pred (w0 : World) (B b : Nat) (q : ByteArray) (hq : q.size ≤ 1000000) (hc : w0.cell? ⟨b, 0, none⟩ = some (.string q)) (hb : b < B) (hB : B ≤ w0.heap.size) :
    PB B w0 56 (.pointer (some ⟨b, 0, none⟩)) (fun x => cls x.1.data.toList q.data.toList) := by
  intro W x hW hx
  have c0 : W.cell? ⟨b, 0, none⟩ = some (.string q) := (hW.cell (p := ⟨b, 0, none⟩) hb).trans hc
  have hlt : b < W.heap.size := Nat.lt_of_lt_of_le hb (Nat.le_trans hB hW.size)
  obtain ⟨p, m, d⟩ := x
  have CL := Lib.hid fun W => clash_any p q W hx hq
  clear hc hW hb hB hx
  go_enter Tryz.func56, Tryz.ntmps56
  go_wp2_with fail
  refine (CL.out _).mono ?_
  rintro e w' ⟨rfl, rfl⟩
  go_wp2_with fail
  go_ret
  exact ⟨rfl, (Below.refl _ _).alloc (Nat.le_refl _) _⟩

set_option maxHeartbeats 1000000 in
theorem refuses_pred (w0 : World) (B b : Nat) (q : ByteArray) (hq : q.size ≤ 1000000) (hc : w0.cell? ⟨b, 0, none⟩ = some (.string q)) (hb : b < B) (hB : B ≤ w0.heap.size) :
    PB B w0 103 (.pointer (some ⟨b, 0, none⟩)) (fun x => cls x.1.data.toList q.data.toList) := by
  intro W x hW hx
  have c0 : W.cell? ⟨b, 0, none⟩ = some (.string q) := (hW.cell (p := ⟨b, 0, none⟩) hb).trans hc
  have hlt : b < W.heap.size := Nat.lt_of_lt_of_le hb (Nat.le_trans hB hW.size)
  obtain ⟨p, m, d⟩ := x
  have CL := Lib.hid fun W => clash_any p q W hx hq
  clear hc hW hb hB hx
  go_enter Tryz.func103, Tryz.ntmps103
  go_wp2_with fail
  refine (CL.out _).mono ?_
  rintro e w' ⟨rfl, rfl⟩
  go_wp2_with fail
  go_ret
  exact ⟨rfl, (Below.refl _ _).alloc (Nat.le_refl _) _⟩
end Go.Proofs.YtplleaimmmanhaaGreatDoor
namespace Go.Proofs.YtplleaimmmanhaaGreatDoor
open Go Go.RowKit

/-- What is wrong with a file by itself. -/
def causeF (f : Fl) : Int := if chk f.1.data.toList ≠ 0 then chk f.1.data.toList else if ¬ (f.2.1 = 1 ∨ f.2.1 = 2) then 1 else if 4096 < f.2.2.size then 4 else 0
/-- Does the last file ahead not lie before it? -/
def lateF (a : List Fl) (f : Fl) : Bool := match a.getLast? with | some g => decide (0 ≤ cb g.1 f.1) | none => false
def clashF (a : List Fl) (p : ByteArray) : Bool := a.any fun g => cls g.1.data.toList p.data.toList
def refF (a : List Fl) (f : Fl) : Int := if causeF f ≠ 0 then causeF f else if lateF a f = true then 6 else if clashF a f.1 = true then 11 else 0
def wrongF : List Fl → List Fl → Option (Nat × Int)
  | _, [] => none
  | a, f :: r => if refF a f ≠ 0 then some (a.length, refF a f) else wrongF (a ++ [f]) r
/-- What Check says. -/
def chkF (l : List Fl) : Option (Nat × Int) := if 64 < l.length then some (64, 4) else wrongF [] l

theorem wrongF_step : ∀ (a r : List Fl), (∀ i f, r[i]? = some f → refF (a ++ r.take i) f = 0) → wrongF a r = none
  | _, [], _ => rfl
  | a, f :: r, h => by
    have h0 := h 0 f rfl
    simp only [List.take_zero, List.append_nil] at h0
    unfold wrongF
    rw [if_neg (by rw [h0]; simp)]
    refine wrongF_step (a ++ [f]) r fun i g hg => ?_
    have := h (i + 1) g (by simpa using hg)
    rw [List.take_succ_cons] at this
    rw [List.append_assoc]
    exact this
theorem wrongF_at : ∀ (a r : List Fl) (i : Nat) (f : Fl), (∀ j g, j < i → r[j]? = some g → refF (a ++ r.take j) g = 0) → r[i]? = some f → refF (a ++ r.take i) f ≠ 0 → wrongF a r = some (a.length + i, refF (a ++ r.take i) f)
  | _, [], _, _, _, h, _ => by simp at h
  | a, f :: r, 0, g, _, h, hr => by
    simp at h
    subst h
    simp only [List.take_zero, List.append_nil] at hr ⊢
    unfold wrongF
    rw [if_pos hr]
    simp
  | a, f :: r, i + 1, g, hb, h, hr => by
    have h0 := hb 0 f (by omega) rfl
    simp only [List.take_zero, List.append_nil] at h0
    unfold wrongF
    rw [if_neg (by rw [h0]; simp)]
    rw [List.take_succ_cons] at hr ⊢
    have := wrongF_at (a ++ [f]) r i g (fun j x hj hx => by
      have := hb (j + 1) x (by omega) (by simpa using hx)
      rw [List.take_succ_cons] at this
      rw [List.append_assoc]
      exact this) (by simpa using h) (by rw [List.append_assoc]; exact hr)
    rw [this, List.append_assoc]
    simp
    omega
theorem wrongF_good : ∀ (a r : List Fl), wrongF a r = none → ∀ i f, r[i]? = some f → refF (a ++ r.take i) f = 0
  | _, [], _, i, f, h => by simp at h
  | a, f :: r, h, i, g, hg => by
    unfold wrongF at h
    by_cases hr : refF a f = 0
    · rw [if_neg (by rw [hr]; simp)] at h
      cases i with
      | zero => simp at hg; subst hg; simpa using hr
      | succ i =>
        have := wrongF_good (a ++ [f]) r h i g (by simpa using hg)
        rw [List.append_assoc] at this
        rw [List.take_succ_cons]
        exact this
    · rw [if_pos hr] at h; cases h
theorem chkF_long {l : List Fl} (h : 64 < l.length) : chkF l = some (64, 4) := if_pos h
theorem chkF_good {l : List Fl} (h : ¬ 64 < l.length) (hg : ∀ i f, l[i]? = some f → refF (l.take i) f = 0) : chkF l = none := by
  unfold chkF
  rw [if_neg h]
  exact wrongF_step [] l fun i f hf => by simpa using hg i f hf
theorem chkF_bad {l : List Fl} {i : Nat} {f : Fl} (h : ¬ 64 < l.length) (hg : ∀ j g, j < i → l[j]? = some g → refF (l.take j) g = 0) (hi : l[i]? = some f) (hb : refF (l.take i) f ≠ 0) : chkF l = some (i, refF (l.take i) f) := by
  unfold chkF
  rw [if_neg h]
  have := wrongF_at [] l i f (fun j g hj hx => by simpa using hg j g hj hx) hi (by simpa using hb)
  simpa using this
theorem chkF_at {l : List Fl} (h : chkF l = none) {i : Nat} {f : Fl} (hi : l[i]? = some f) : refF (l.take i) f = 0 := by
  unfold chkF at h
  by_cases hl : 64 < l.length
  · rw [if_pos hl] at h; cases h
  · rw [if_neg hl] at h
    simpa using wrongF_good [] l h i f hi
theorem chkF_len {l : List Fl} (h : chkF l = none) : l.length ≤ 64 := by
  unfold chkF at h
  by_cases hl : 64 < l.length
  · rw [if_pos hl] at h; cases h
  · omega
theorem refF_cause {a : List Fl} {f : Fl} (h : refF a f = 0) : causeF f = 0 := by
  unfold refF at h
  by_cases hc : causeF f = 0
  · exact hc
  · rw [if_pos hc] at h; exact absurd h hc
theorem refF_late {a : List Fl} {f : Fl} (h : refF a f = 0) : lateF a f = false := by
  have hc := refF_cause h
  unfold refF at h
  rw [if_neg (by rw [hc]; simp)] at h
  by_cases hl : lateF a f = true
  · rw [if_pos hl] at h; cases h
  · simpa using hl
theorem refF_clash {a : List Fl} {f : Fl} (h : refF a f = 0) : clashF a f.1 = false := by
  have hc := refF_cause h
  have hl := refF_late h
  unfold refF at h
  rw [if_neg (by rw [hc]; simp), if_neg (by rw [hl]; simp)] at h
  by_cases hk : clashF a f.1 = true
  · rw [if_pos hk] at h; cases h
  · simpa using hk
theorem refF_zero {a : List Fl} {f : Fl} (hc : causeF f = 0) (hl : lateF a f = false) (hk : clashF a f.1 = false) : refF a f = 0 := by
  unfold refF
  rw [if_neg (by rw [hc]; simp), if_neg (by rw [hl]; simp), if_neg (by rw [hk]; simp)]
theorem causeF_path {f : Fl} (h : causeF f = 0) : chk f.1.data.toList = 0 := by
  unfold causeF at h
  by_cases hc : chk f.1.data.toList = 0
  · exact hc
  · rw [if_pos hc] at h; exact h
theorem causeF_size {f : Fl} (h : causeF f = 0) : f.1.size ≤ 64 := by
  have := causeF_path h
  unfold chk at this
  by_cases hl : 64 < f.1.data.toList.length
  · rw [if_pos hl] at this; cases this
  · rw [size_list] at hl; omega
theorem chkF_rise {l : List Fl} (h : chkF l = none) : RiseF l := by
  refine rise_adj l fun t x y hx hy => ?_
  have := refF_late (chkF_at h hy)
  unfold lateF at this
  rw [List.getLast?_take, if_neg (by omega)] at this
  have e : (l[t + 1 - 1]?).or l.getLast? = some x := by rw [Nat.add_sub_cancel, hx]; rfl
  rw [e] at this
  have := of_decide_eq_false this
  omega
end Go.Proofs.YtplleaimmmanhaaGreatDoor
namespace Go.Proofs.YtplleaimmmanhaaGreatDoor
open Go Go.RowKit

variable {F : Fence} {n : Nat} {P : Program}

/-- What may turn between two looks: the captured block, or a block that is no cells and lies from B on. -/
def May (C B : Nat) (W : World) (row : Option Nat) : Prop := ∀ r, row = some r → r = C ∨ (B ≤ r ∧ ∃ o : Obj, W.heap[r]? = some o ∧ o.isCells = false)
def Abide {β : Type} (C B : Nat) (I : β → World → Prop) : Prop := ∀ s W W' row, I s W → W.grownBy W' row → May C B W row → I s W'
theorem Abide.put {β : Type} {C B : Nat} {I : β → World → Prop} (h : Abide C B I) {s : β} {W : World} {l : Nat} {o : Obj} (o' : Obj) (hs : I s W) (hB : B ≤ l) (hl : W.heap[l]? = some o) (ho : o.isCells = false) : I s (W.putObj l o') :=
  h s W _ (some l) hs (grownBy_putObj' W l o') (fun r e => by cases e; exact .inr ⟨hB, o, hl, ho⟩)
theorem Abide.new {β : Type} {C B : Nat} {I : β → World → Prop} (h : Abide C B I) {s : β} {W : World} (o : Obj) (hs : I s W) : I s (W.alloc o) :=
  h s W _ none hs (World.grownBy_alloc W o none) (fun r e => by cases e)

/-- An iterator that turns the captured block C alone, beside what its rounds do. -/
def SeqCap {α : Type} (F : Fence) (n : Nat) (P : Program) (g : Nat) (lb : Array Value) (encs : α → Array Value) (Kp : World → World → Prop) (C : Nat) (Ok : α → Prop) (S Sp : List α → Prop) (N : Nat) (w : World) : Prop :=
  ∀ (l : Nat) (J Jx : List α → World → Prop) (W : World), Below w.heap.size w W →
    (∀ s A A' row, J s A → A.grownBy A' row → (∀ r, row = some r → r = C) → J s A') →
    (∀ pre x W1, J pre W1 → pre.length < N → Ok x → YieldAt F (n - 1) P l (encs x) W1 fun e W' =>
      (e = .returned (.bool true) ∧ J (pre ++ [x]) W' ∧ Kp W1 W') ∨ (e = .returned (.bool false) ∧ Jx (pre ++ [x]) W')) →
    J [] W →
    CallsIn F n P g (#[.func (.yield l) #[] #[]] ++ lb) W fun e W' => (∃ v, e = .returned v) ∧ ((∃ xs, S xs ∧ J xs W') ∨ (∃ pre, Sp pre ∧ Jx pre W'))

theorem range_cap {α : Type} {g : Operand} {ps : Array Tmp} {assign body : Code} {Q : Exit → Act → World → Prop} {a : Act} {w : World}
    (hro : F.round = none) (h1 : 1 ≤ n) {gf : Nat} {lb : Array Value} (hg : a.eval g = .func (.func gf) #[] lb) (hFg : F.fn gf) (eg : ∀ args w, (callFunc gf args).run P w = .ok (.enter gf args) w)
    {encs : α → Array Value} {Kp : World → World → Prop} {Ok : α → Prop} {S Sp : List α → Prop} {N C : Nat} {w0 : World} (hseq : SeqCap F (n - 1) P gf lb encs Kp C Ok S Sp N w0) (hC : C < w.heap.size)
    (hKt : ∀ {A B D : World}, Kp A B → Kp B D → Kp A D) (hKb : ∀ (W : World) (l : Nat) (o o' : Obj), w.heap.size ≤ l → W.heap[l]? = some o → o.isCells = false → o.isWalk = false → Kp W (W.putObj l o')) (hb0 : Below w0.heap.size w0 w) (hps : ∀ x, (encs x).size = ps.size)
    (I : List α → World → Prop) (Ix : Code → List α → World → Prop) (hI : Abide C w.heap.size I) (hIx : ∀ c, Abide C w.heap.size (Ix c)) (h0 : I [] w) (a₁ : α → Act)
    (hassign : ∀ (l : Nat) (x : α) (W : World) (K : Act → World → Prop), K (a₁ x) W →
      assign.wpIn (F.inRound l) (n - 1 - 1) P (Exit.then K (fun _ _ _ => False)) { tmps := (ps.zip (encs x)).foldl (fun t (p, v) => t.setIfInBounds p v) a.tmps, defers := [] } W)
    (hbody : ∀ (l : Nat) (pre : List α) (x : α) (W : World), I pre W → pre.length < N → Ok x → body.wpIn (F.inRound l) (n - 1 - 1) P (ownPostK Kp I Ix (pre ++ [x]) W) (a₁ x) W)
    (hdone : ∀ (D : Nat) (xs : List α) (W : World), w.heap.size ≤ D → S xs → I xs W → W.heap[D]? = some (.deferred (some [])) → Q .normal { a with defers := { target := .collected D, args := #[] } :: a.defers } W)
    (hstop : ∀ (D : Nat) (c : Code) (pre : List α) (W : World), w.heap.size ≤ D → Sp pre → Ix c pre W → W.heap[D]? = some (.deferred (some [])) → c.wpIn F n P Q { a with defers := { target := .collected D, args := #[] } :: a.defers } W) :
    (Code.rangeFunc g ps assign body).wpIn F n P Q a w := by
  refine wpIn_rangeFunc fun fn hfn => ?_
  rw [hro]
  obtain ⟨rec, hrec⟩ : ∃ rec : LoopState → Option Code → Loop, rec = fun st pe => { state := st, pending := pe, fn, tmps := a.tmps, params := ps, assign, body, defers := w.heap.size } := ⟨_, rfl⟩
  obtain ⟨L, hL⟩ : ∃ L, L = w.heap.size + 1 := ⟨_, rfl⟩
  obtain ⟨W1, hW1⟩ : ∃ W1, (w.alloc (.deferred (some []))).alloc (.loop (rec .ready none)) = W1 := ⟨_, rfl⟩
  have q1 : W1.heap[L]? = some (.loop (rec .ready none)) := by
    rw [← hW1, hL]
    have := World.alloc_heap_new (w.alloc (.deferred (some []))) (.loop (rec .ready none))
    rwa [World.size_alloc] at this
  have q2 : W1.heap[w.heap.size]? = some (.deferred (some [])) := by rw [← hW1]; exact (Below.heap_alloc _ _ _ (by simp)).trans (World.alloc_heap_new w _)
  have q3 : I [] W1 := by rw [← hW1]; exact hI.new _ (hI.new _ h0)
  have q4 : Below w0.heap.size w0 W1 := by rw [← hW1]; exact hb0.trans ((((Below.refl _ w).alloc (Nat.le_refl _) _).alloc (by simp) _).mono hb0.size)
  have stay : ∀ {A B : World} {row : Option Nat} {k : Nat} {o : Obj}, A.grownBy B row → (∀ r, row = some r → r = C) → w.heap.size ≤ k → A.heap[k]? = some o → B.heap[k]? = some o := fun hgr hr hk ho =>
    (hgr.block _ (Array.getElem?_eq_some_iff.1 ho).1 (fun e => by have := hr _ e.symm; omega)).trans ho
  have turn : ∀ {A : World} {row : Option Nat}, (∀ r, row = some r → r = C) → May C w.heap.size A row := fun hr r e => .inl (hr r e)
  refine ⟨L, [{ target := .collected w.heap.size, args := #[] }], W1, { target := .fn (.func gf) lb, args := #[.func (.yield L) #[] #[]] }, W1, gf, #[.func (.yield L) #[] #[]] ++ lb, W1, ?_, ?_, ?_, ?_, fun _ => h1, ?_⟩
  · rw [← hW1, hrec, hL]; exact run_enterLoop_outer _ _ _ _ _
  · simp only [resolve, hg]
    simp [go_sem]
  · intro f' hf'; simp [Target.leads] at hf'; subst hf'; exact hFg
  · simp [invoke, go_sem, eg]
  · refine (hseq L
      (fun pre W => I pre W ∧ W.heap[L]? = some (.loop (rec .ready none)) ∧ W.heap[w.heap.size]? = some (.deferred (some [])))
      (fun pre W => ∃ c, Ix c pre W ∧ W.heap[L]? = some (.loop (rec .done (some c))) ∧ W.heap[w.heap.size]? = some (.deferred (some [])))
      W1 q4 (fun s A B row hs hgr hr => ⟨hI s A B row hs.1 hgr (turn hr), stay hgr hr (by omega) hs.2.1, stay hgr hr (Nat.le_refl _) hs.2.2⟩) ?_ ⟨q3, q1, q2⟩).mono ?_
    · rintro pre x W ⟨hi, hl, hk⟩ hlen hok
      have hlt : L < W.heap.size := (Array.getElem?_eq_some_iff.1 hl).1
      have hy := run_yield (P := P) (args := encs x) hl (by rw [hrec]; exact hps x)
      rw [hrec] at hy
      obtain ⟨bz, hbz⟩ : ∃ bz : Loop, bz = { rec .ready none with state := .busy } := ⟨_, rfl⟩
      refine ⟨fn, _, assign, body, hy, roundIn_of_wpIn hfn (hassign _ x W _ ⟨_, run_beginRound hl (by rw [hrec]), ?_⟩)⟩
      rw [← hbz]
      have hl2 : (W.putObj L (.loop bz)).heap[L]? = some (.loop bz) := World.putObj_heap_same hlt
      have hk2 : (W.putObj L (.loop bz)).heap[w.heap.size]? = some (.deferred (some [])) := (World.putObj_heap_other (by omega)).trans hk
      have hw2 : Kp W (W.putObj L (.loop bz)) := hKb _ _ _ _ (by omega) hl rfl rfl
      have fin : ∀ (jump : Option Code) (W3 : World), KeepsOthers (W.putObj L (.loop bz)) W3 →
          (Instr.endRound L jump).run P W3 = .ok (.bool jump.isNone) (W3.putObj L (.loop (rec (if jump.isNone then .ready else .done) jump))) ∧
          W3.heap[L]? = some (.loop bz) ∧
          (W3.putObj L (.loop (rec (if jump.isNone then .ready else .done) jump))).heap[L]? = some (.loop (rec (if jump.isNone then .ready else .done) jump)) ∧
          (W3.putObj L (.loop (rec (if jump.isNone then .ready else .done) jump))).heap[w.heap.size]? = some (.deferred (some [])) := fun jump W3 hk3 => by
        have hl3 := hk3.same _ _ hl2 rfl
        have hr := run_endRound (P := P) jump hl3
        rw [hbz, hrec] at hr
        refine ⟨by rw [hrec]; exact hr, hl3, World.putObj_heap_same (Array.getElem?_eq_some_iff.1 hl3).1, (World.putObj_heap_other (by omega)).trans (hk3.same _ _ hk2 rfl)⟩
      refine wpIn_mono (hbody _ pre x _ (hI.put _ hi (by omega) hl rfl) hlen hok) ?_
      rintro e a3 W3 hp
      have leave : ∀ c, KeepsOthers (W.putObj L (.loop bz)) W3 ∧ Ix c (pre ++ [x]) W3 → _ := fun c (h : KeepsOthers (W.putObj L (.loop bz)) W3 ∧ Ix c (pre ++ [x]) W3) => by
        obtain ⟨hr, hl3, hl4, hk4⟩ := fin (some c) W3 h.1
        exact And.intro hr (And.intro ((hIx c).put (.loop (rec .done (some c))) h.2 (by omega) hl3 rfl) (And.intro hl4 hk4))
      cases e with
      | normal =>
        obtain ⟨hk3, hkp3, hi3⟩ := hp
        obtain ⟨hr, hl3, hl4, hk4⟩ := fin none W3 hk3
        exact ⟨_, _, hr, .inl ⟨rfl, ⟨hI.put _ hi3 (by omega) hl3 rfl, hl4, hk4⟩, hKt (hKt hw2 hkp3) (hKb _ _ _ _ (by omega) hl3 rfl rfl)⟩⟩
      | ret => have h := leave .ret hp; exact ⟨_, _, h.1, .inr ⟨rfl, .ret, h.2⟩⟩
      | exit id => have h := leave (.exit id) hp; exact ⟨_, _, h.1, .inr ⟨rfl, .exit id, h.2⟩⟩
      | goto t => have h := leave (.goto t) hp; exact ⟨_, _, h.1, .inr ⟨rfl, .goto t, h.2⟩⟩
      | panic ch => exact hp.elim
      | outgrown => exact hp.elim
    · rintro e W2 ⟨⟨v, rfl⟩, (⟨xs, hS, hi, hl, hk⟩ | ⟨pre, hSp, c, hi, hl, hk⟩)⟩
      · have hr := run_endLoop (P := P) hl (by rw [hrec]; simp)
        rw [hrec] at hr
        exact ⟨none, _, hr, hdone _ xs _ (Nat.le_refl _) hS (hI.put _ hi (by omega) hl rfl) ((World.putObj_heap_other (by omega)).trans hk)⟩
      · have hr := run_endLoop (P := P) hl (by rw [hrec]; simp)
        rw [hrec] at hr
        exact ⟨some c, _, hr, hstop _ c pre _ (Nat.le_refl _) hSp ((hIx c).put _ hi (by omega) hl rfl) ((World.putObj_heap_other (by omega)).trans hk)⟩
end Go.Proofs.YtplleaimmmanhaaGreatDoor
namespace Go.Proofs.YtplleaimmmanhaaGreatDoor
open Go Go.RowKit Go.Shelf
open Go.Lib (indexByte indexByte_ge indexByte_some)
theorem spl_miss : ∀ l : List UInt8, indexByte l 47 = -1 → spl l = [l]
  | [], _ => rfl
  | c :: r, h => by
    unfold indexByte at h
    by_cases hc : c = 47
    · subst hc; simp at h
    · have hc2 : (c == 47) = false := by simpa using hc
      rw [hc2] at h
      simp only [Bool.false_eq_true, if_false] at h
      by_cases h1 : indexByte r 47 = -1
      · rw [spl, if_neg hc, spl_miss r h1]; rfl
      · have h2 : (indexByte r 47 == -1) = false := by simpa using h1
        rw [h2] at h
        have := indexByte_ge r 47
        simp at h
        omega
theorem spl_hit : ∀ (l : List UInt8) (i : Nat), indexByte l 47 = i → spl l = l.take i :: spl (l.drop (i + 1))
  | [], i, h => by simp [indexByte] at h
  | c :: r, i, h => by
    unfold indexByte at h
    by_cases hc : c = 47
    · subst hc
      simp at h
      obtain rfl : i = 0 := by omega
      rw [spl, if_pos rfl]; rfl
    · have hc2 : (c == 47) = false := by simpa using hc
      rw [hc2] at h
      simp only [Bool.false_eq_true, if_false] at h
      by_cases h1 : indexByte r 47 = -1
      · rw [h1] at h; simp at h
      · have h2 : (indexByte r 47 == -1) = false := by simpa using h1
        have hg := indexByte_ge r 47
        rw [h2] at h
        simp only [Bool.false_eq_true, if_false] at h
        obtain ⟨k, rfl⟩ : ∃ k, i = k + 1 := ⟨i - 1, by omega⟩
        have ih := spl_hit r k (by omega)
        rw [spl, if_neg hc, ih]
        rfl
theorem index_lt (l : List UInt8) (i : Nat) (h : indexByte l 47 = i) : i < l.length := by
  have := (indexByte_some h).1
  exact (List.getElem?_eq_some_iff.1 this).1
attribute [local go_sem] Oper.semAt_some

/-- The pieces that have come, and the rest, are the text's. -/
def Came (s : ByteArray) (pre : List ByteArray) (rest : ByteArray) : Prop := pre.map (·.data.toList) ++ spl rest.data.toList = spl s.data.toList
def AllCame (s : ByteArray) (xs : List ByteArray) : Prop := xs.map (·.data.toList) = spl s.data.toList
def SomeCame (s : ByteArray) (pre : List ByteArray) : Prop := ∃ more, pre.map (·.data.toList) ++ more = spl s.data.toList
/-- How long the text in a cell is. -/
def lenAt (C : Nat) (W : World) : Nat := match W.cell? ⟨C, 0, none⟩ with | some (.string r) => r.size | _ => 0

theorem came_more {s rest : ByteArray} {pre : List ByteArray} (h : Came s pre rest) : pre.length < (spl s.data.toList).length := by
  unfold Came at h
  have := congrArg List.length h
  have h2 := List.length_pos_iff.2 (spl_ne rest.data.toList)
  simp at this
  omega

set_option maxHeartbeats 1000000 in
theorem seq_cap (s : ByteArray) (C : Nat) (w : World) (hs : s.size ≤ 1000000) (hlt : C + 2 < w.heap.size)
    (h0 : w.cell? ⟨C, 0, none⟩ = some (.string s)) (f0 : w.frozen? ⟨C, 0, none⟩ = false) (h1 : w.cell? ⟨C + 1, 0, none⟩ = some (.string ⟨#[47]⟩)) (h2 : w.cell? ⟨C + 1 + 1, 0, none⟩ = some (.int .i64 0)) :
    SeqCap Fence.wide 2 Tryz.prog 163 #[.pointer (some ⟨C + 1, 0, none⟩), .pointer (some ⟨C, 0, none⟩), .pointer (some ⟨C + 1 + 1, 0, none⟩)] (fun x => #[.string x]) (fun A B => Below w.heap.size A B) C (fun x => x.size ≤ s.size) (AllCame s) (SomeCame s) (spl s.data.toList).length w := by
  intro l J Jx W hW hJ hY h0J
  have g0 : W.cell? ⟨C, 0, none⟩ = some (.string s) := (hW.cell (p := ⟨C, 0, none⟩) (by show C < _; omega)).trans h0
  have g1 : W.cell? ⟨C + 1, 0, none⟩ = some (.string ⟨#[47]⟩) := (hW.cell (p := ⟨C + 1, 0, none⟩) (by show C + 1 < _; omega)).trans h1
  have g2 : W.cell? ⟨C + 1 + 1, 0, none⟩ = some (.int .i64 0) := (hW.cell (p := ⟨C + 1 + 1, 0, none⟩) (by show C + 1 + 1 < _; omega)).trans h2
  have k0 : W.frozen? ⟨C, 0, none⟩ = false := (hW.frozen (p := ⟨C, 0, none⟩) (by show C < _; omega)).trans f0
  have HY := Lib.hid hY
  have HJ := Lib.hid hJ
  have H0 := Lib.hid h0J
  clear hY hJ h0J h0 h1 h2 f0 hW
  refine callsIn_of_wp Tryz.func163 rfl trivial ?_ rfl
  simp only [Tryz.ntmps163, List.size_toArray, List.length_cons, List.length_nil, Nat.reduceAdd, Nat.reduceSub, Array.replicate_succ, Array.replicate_zero, List.push_toArray, List.append_toArray, List.nil_append, List.cons_append]
  gi_wp2
  gi_loopw [7] (fun _ wr => ∃ (pre : List ByteArray) (rest : ByteArray), Came s pre rest ∧ rest.size ≤ s.size ∧ wr.cell? ⟨C, 0, none⟩ = some (.string rest) ∧ wr.frozen? ⟨C, 0, none⟩ = false ∧ wr.cell? ⟨C + 1, 0, none⟩ = some (.string ⟨#[47]⟩) ∧ wr.cell? ⟨C + 1 + 1, 0, none⟩ = some (.int .i64 0) ∧ Hid (J pre wr))
    (fun _ wr => lenAt C wr)
  case atStart => exact ⟨[], s, rfl, Nat.le_refl _, g0, k0, g1, g2, H0⟩
  case round =>
    obtain ⟨pre, rest, hcm, hle, c0, d0, c1, c2, hJs⟩ := hrel
    have hlen := came_more hcm
    have HX := Lib.hid fun W => Tryz.strings_Index_one rest 47 W
    rcases Int.lt_or_le (Lib.indexByte rest.data.toList 47) 0 with hx | hx
    · have hm : Lib.indexByte rest.data.toList 47 = -1 := by have := Lib.indexByte_ge rest.data.toList 47; omega
      rw [hm] at HX
      have HM := Lib.hid hm
      clear hx hm
      obtain ⟨fn, tmps, assign, body, hy, hR⟩ := HY.out pre rest wr hJs.out hlen hle
      gi_wp2_with (refine ⟨trivial, ?_⟩; gi_at_call 165; refine (callsIn_wide.2 (HX.out _)).mono ?_; rintro e w' ⟨rfl, rfl⟩)
      refine hR.mono ?_
      rintro e W' (⟨rfl, hJ', hk⟩ | ⟨rfl, hJx'⟩)
      · have HE := Lib.hid hJ'
        clear hJ' hk hy
        gi_wp2
        go_end0
        exact ⟨⟨_, rfl⟩, .inl ⟨pre ++ [rest], by have := hcm; unfold Came at this; rw [spl_miss _ HM.out] at this; unfold AllCame; simpa using this, HE.out⟩⟩
      · have HE := Lib.hid hJx'
        clear hJx' hy
        gi_wp2
        go_end0
        exact ⟨⟨_, rfl⟩, .inr ⟨pre ++ [rest], ⟨[], by have := hcm; unfold Came at this; rw [spl_miss _ HM.out] at this; simpa using this⟩, HE.out⟩⟩
    · obtain ⟨i, hi⟩ : ∃ i : Nat, Lib.indexByte rest.data.toList 47 = i := ⟨(Lib.indexByte rest.data.toList 47).toNat, by omega⟩
      have hli := index_lt _ _ hi
      rw [hi] at HX
      have HI := Lib.hid hi
      have hsz : rest.data.toList.length = rest.size := by rw [Array.length_toList]; rfl
      rw [hsz] at hli
      clear hx hi hsz
      have hi0 : (0 : Int) ≤ (i : Int) := Int.natCast_nonneg _
      have hi1 : (i : Int) + 1 ≤ (rest.size : Int) := by omega
      have hi2 : (i : Int) ≤ (rest.size : Int) := by omega
      obtain ⟨fn, tmps, assign, body, hy, hR⟩ := HY.out pre (rest.extract 0 i) wr hJs.out hlen (by rw [ByteArray.size_extract]; omega)
      gi_wp2_with (refine ⟨trivial, ?_⟩; gi_at_call 165; refine (callsIn_wide.2 (HX.out _)).mono ?_; rintro e w' ⟨rfl, rfl⟩)
      have ht : (rest.extract 0 i).data.toList = rest.data.toList.take i := Lib.extract_from_zero rest i
      have hd : (rest.extract (i + 1) rest.size).data.toList = rest.data.toList.drop (i + 1) := Lib.extract_to_end rest (i + 1)
      have hsp := spl_hit _ _ HI.out
      refine hR.mono ?_
      rintro e W' (⟨rfl, hJ', hk⟩ | ⟨rfl, hJx'⟩)
      · have HE := Lib.hid hJ'
        have e0 : W'.cell? ⟨C, 0, none⟩ = some (.string rest) := (hk.cell (p := ⟨C, 0, none⟩) (by show C < _; omega)).trans c0
        have e1 : W'.cell? ⟨C + 1, 0, none⟩ = some (.string ⟨#[47]⟩) := (hk.cell (p := ⟨C + 1, 0, none⟩) (by show C + 1 < _; omega)).trans c1
        have e2 : W'.cell? ⟨C + 1 + 1, 0, none⟩ = some (.int .i64 0) := (hk.cell (p := ⟨C + 1 + 1, 0, none⟩) (by show C + 1 + 1 < _; omega)).trans c2
        have e3 : W'.frozen? ⟨C, 0, none⟩ = false := (hk.frozen (p := ⟨C, 0, none⟩) (by show C < _; omega)).trans d0
        have HT := Lib.hid ht
        have HD := Lib.hid hd
        have HSP := Lib.hid hsp
        have HCM := Lib.hid hcm
        clear hJ' hk hy ht hd hsp hcm
        gi_wp2
        go_roundw
        case rel =>
          refine ⟨pre ++ [rest.extract 0 i], rest.extract (i + 1) rest.size, ?_, ?_, World.cell?_setCell_same' _ _ _ (by rw [e0]; rfl), by rw [World.frozen?_setCell]; exact e3, ?_, ?_, ?_⟩
          · have h := HCM.out
            unfold Came at h ⊢
            rw [HSP.out] at h
            rw [HD.out, List.map_append]
            simp only [List.map_cons, List.map_nil, HT.out]
            rw [List.append_assoc]
            exact h
          · rw [ByteArray.size_extract]; omega
          · exact (World.cell?_setCell_other _ _ _ _ (by intro e; injection e with e; omega)).trans e1
          · exact (World.cell?_setCell_other _ _ _ _ (by intro e; injection e with e; omega)).trans e2
          · exact HJ.out _ W' _ (some C) HE.out ⟨rfl, rfl, rfl, by simp, fun k _ hk => Below.heap_setCell _ _ _ _ (fun e => hk (by rw [e]))⟩ (fun r e => by cases e; rfl)
        case measure =>
          have h1 : lenAt C (W'.setCell ⟨C, 0, none⟩ (.string (rest.extract (i + 1) rest.size))) = (rest.extract (i + 1) rest.size).size := by
            unfold lenAt; rw [World.cell?_setCell_same' _ _ _ (by rw [e0]; rfl)]
          have h2 : lenAt C w' = rest.size := by unfold lenAt; rw [c0]
          rw [h1, h2, ByteArray.size_extract]; omega
      · have HE := Lib.hid hJx'
        have h := hcm
        unfold Came at h
        rw [hsp, ← ht] at h
        have HH : Hid (SomeCame s (pre ++ [rest.extract 0 i])) := Lib.hid ⟨spl (rest.data.toList.drop (i + 1)), by rw [List.map_append, List.append_assoc]; exact h⟩
        clear hJx' hy ht hd hsp hcm h
        gi_wp2
        refine bodyPost_ret (results_none rfl _ _ _) rfl ?_
        exact ⟨⟨_, rfl⟩, .inr ⟨pre ++ [rest.extract 0 i], HH.out, HE.out⟩⟩
end Go.Proofs.YtplleaimmmanhaaGreatDoor
namespace Go.Proofs.YtplleaimmmanhaaGreatDoor
open Go Go.RowKit

theorem byte_any (c : Int) (w : World) (h0 : 0 ≤ c) (h1 : c ≤ 255) : Calls Tryz.prog 155 #[.int .u8 c] w fun e w' => e = .returned (.bool (gbv c)) ∧ w = w' := by
  by_cases h46 : c = 46
  · subst h46
    have hg : Hid (true = gbv 46) := by show true = gbv 46; rfl
    go_enter Tryz.func155, Tryz.ntmps155
    go_wp2
    all_goals
      go_ret
      exact ⟨ret_b hg.out, rfl⟩
  · by_cases h45 : c = 45
    · subst h45
      have hg : Hid (true = gbv 45) := by show true = gbv 45; rfl
      go_enter Tryz.func155, Tryz.ntmps155
      go_wp2
      all_goals
        go_ret
        exact ⟨ret_b hg.out, rfl⟩
    · by_cases h95 : c = 95
      · subst h95
        have hg : Hid (true = gbv 95) := by show true = gbv 95; rfl
        go_enter Tryz.func155, Tryz.ntmps155
        go_wp2
        all_goals
          go_ret
          exact ⟨ret_b hg.out, rfl⟩
      · have b1 : (c == 46) = false := by rw [beq_eq_false_iff_ne]; exact h46
        have b2 : (c == 45) = false := by rw [beq_eq_false_iff_ne]; exact h45
        have b3 : (c == 95) = false := by rw [beq_eq_false_iff_ne]; exact h95
        go_enter Tryz.func155, Tryz.ntmps155
        go_wp2
        all_goals
          go_ret
          exact ⟨ret_b (by unfold gbv; rw [Bool.eq_iff_iff]; simp only [Bool.or_eq_true, Bool.and_eq_true, decide_eq_true_eq, Bool.false_eq_true, true_iff, false_iff] <;> omega), rfl⟩

set_option maxHeartbeats 2000000 in
theorem part_any (s : ByteArray) (w : World) (hs : s.size ≤ 1000000) : Calls Tryz.prog 136 #[.string s] w fun e w' => e = .returned (.bool (gp s.data.toList)) ∧ w = w' := by
  have hsz : s.data.toList.length = s.size := by rw [Array.length_toList]; rfl
  by_cases e0 : s.data.toList = []
  · obtain rfl := bytes_eq (b := ⟨#[]⟩) e0
    clear hsz e0
    go_enter Tryz.func136, Tryz.ntmps136
    go_wp2
    go_ret
    exact ⟨rfl, rfl⟩
  by_cases e1 : s.data.toList = [46]
  · obtain rfl := bytes_eq (b := ⟨#[46]⟩) e1
    clear hsz e0 e1
    go_enter Tryz.func136, Tryz.ntmps136
    go_wp2
    go_ret
    exact ⟨rfl, rfl⟩
  by_cases e2 : s.data.toList = [46, 46]
  · obtain rfl := bytes_eq (b := ⟨#[46, 46]⟩) e2
    clear hsz e0 e1 e2
    go_enter Tryz.func136, Tryz.ntmps136
    go_wp2
    go_ret
    exact ⟨rfl, rfl⟩
  have q0 : ¬ s.toList = [] := by rw [ByteArray.toList_eq]; exact e0
  have q0' : s.toList.isEmpty = false := by rw [List.isEmpty_eq_false_iff]; exact q0
  have q1 : ¬ s.toList = [46] := by rw [ByteArray.toList_eq]; exact e1
  have q1' : (s.toList == [46]) = false := by rw [beq_eq_false_iff_ne]; exact q1
  have q2 : ¬ s.toList = [46, 46] := by rw [ByteArray.toList_eq]; exact e2
  have q2' : (s.toList == [46, 46]) = false := by rw [beq_eq_false_iff_ne]; exact q2
  have E := Lib.hid (And.intro e0 (And.intro e1 e2))
  have HS := Lib.hid hsz
  clear e0 e1 e2 hsz
  go_enter Tryz.func136, Tryz.ntmps136
  go_wp2
  go_loop [3, 11] (fun _ i => ∃ k : Nat, k ≤ s.size ∧ i = .int .i64 k ∧ Hid (∀ j (hj : j < s.size), j < k → gbv (s[j].toNat : Int) = true)) (fun _ i => s.size - (intOf i).toNat)
  case atStart => exact ⟨0, Nat.zero_le _, rfl, fun j _ h => absurd h (Nat.not_lt_zero _)⟩
  case round =>
    obtain ⟨k, hk, rfl, I⟩ := hrel
    have hk0 : (0 : Int) ≤ (k : Int) := Int.natCast_nonneg _
    by_cases hlt : k < s.size
    · have hki : (k : Int) < (s.size : Int) := by omega
      have hb := UInt8.toNat_lt s[k]
      have B := Lib.hid fun W => byte_any (s[k].toNat : Int) W (by omega) (by omega)
      cases hg : gbv (s[k].toNat : Int) with
      | true =>
        rw [hg] at B
        have HX := Lib.hid hg
        clear hg
        go_wp2_with (go_at_call 155; refine (B.out _).mono ?_; rintro e w' ⟨rfl, rfl⟩)
        go_round
        case rel => exact ⟨k + 1, by omega, by go_num, fun j hj hjk => by
          rcases Nat.lt_or_ge j k with h | h
          · exact I.out j hj h
          · obtain rfl : j = k := by omega
            exact HX.out⟩
        case measure => simp [intOf]; omega
      | false =>
        rw [hg] at B
        have HX := Lib.hid hg
        clear hg
        go_wp2_with (go_at_call 155; refine (B.out _).mono ?_; rintro e w' ⟨rfl, rfl⟩)
        go_ret
        exact ⟨ret_b (gp_bad (l := s.data.toList) (j := k) (by rw [HS.out]; exact hlt) HX.out).symm, rfl⟩
    · go_wp2
      go_ret
      exact ⟨ret_b (gp_all E.out.1 E.out.2.1 E.out.2.2 fun j hj => I.out j (by rw [HS.out] at hj; exact hj) (by rw [HS.out] at hj; omega)).symm, rfl⟩
end Go.Proofs.YtplleaimmmanhaaGreatDoor
namespace Go.Proofs.YtplleaimmmanhaaGreatDoor
open Go Go.RowKit Go.Shelf
attribute [local go_sem] Oper.semAt_some

theorem may_cell {C B : Nat} {W W' : World} {row : Option Nat} {a : Addr} {v : Value} (h : W.cell? a = some v) (hg : W.grownBy W' row) (hm : May C B W row) (hne : a.block ≠ C) : W'.cell? a = some v := by
  obtain ⟨o, ho, hc⟩ := cells_of_cell h
  have hlt := World.block_lt_of_cell? W a h
  refine (World.cell?_of_block (hg.block a.block hlt fun e => ?_)).trans h
  rcases hm _ e.symm with e1 | ⟨_, o', ho', hc'⟩
  · exact hne e1
  · rw [ho] at ho'; cases ho'; rw [hc] at hc'; cases hc'
theorem may_frozen {C B : Nat} {W W' : World} {row : Option Nat} {a : Addr} {v : Value} (h : W.cell? a = some v) (hg : W.grownBy W' row) (hm : May C B W row) (hne : a.block ≠ C) : W'.frozen? a = W.frozen? a := by
  obtain ⟨o, ho, hc⟩ := cells_of_cell h
  have hlt := World.block_lt_of_cell? W a h
  refine World.frozen?_of_block (hg.block a.block hlt fun e => ?_)
  rcases hm _ e.symm with e1 | ⟨_, o', ho', hc'⟩
  · exact hne e1
  · rw [ho] at ho'; cases ho'; rw [hc] at hc'; cases hc'
theorem may_below {C B N : Nat} {w W W' : World} {row : Option Nat} (h : Below N w W) (hg : W.grownBy W' row) (hm : May C B W row) (hC : N ≤ C) (hB : N ≤ B) (hN : N ≤ W.heap.size) : Below N w W' :=
  h.grown hg hN fun k hk => by
    rcases hm k hk with e | ⟨e, _⟩
    · omega
    · omega

theorem cell_new_l (W : World) (v : Value) (t : TypeId) : (W.alloc (.cells #[v] t)).cell? ⟨W.heap.size, 0, none⟩ = some v ∧ (W.alloc (.cells #[v] t)).frozen? ⟨W.heap.size, 0, none⟩ = false := by
  have h := heap_alloc_new W (.cells #[v] t)
  exact ⟨cell_of_row _ W.heap.size 0 #[v] t (0, 0) h, by unfold World.frozen?; rw [h]; simp⟩
theorem cell_alloc_l {W : World} {a : Addr} {v : Value} (o : Obj) (h : W.cell? a = some v) : (W.alloc o).cell? a = some v :=
  (World.cell?_alloc_lt W o a (World.block_lt_of_cell? W a h)).trans h
theorem frozen_alloc_l {W : World} {a : Addr} {v : Value} (o : Obj) (h : W.cell? a = some v) (hf : W.frozen? a = false) : (W.alloc o).frozen? a = false :=
  (World.frozen?_of_block (Below.heap_alloc W o a.block (World.block_lt_of_cell? W a h))).trans hf

theorem split_any (s : ByteArray) (w : World) : Calls Tryz.prog 135 #[.string s, .string ⟨#[47]⟩] w fun e w' =>
    e = .returned (.func (.func 163) #[] #[.pointer (some ⟨w.heap.size + 1, 0, none⟩), .pointer (some ⟨w.heap.size, 0, none⟩), .pointer (some ⟨w.heap.size + 1 + 1, 0, none⟩)]) ∧
    ((w.alloc (.cells #[.string s] 9)).alloc (.cells #[.string ⟨#[47]⟩] 9)).alloc (.cells #[.int .i64 0] 3) = w' := by
  have h39 : Calls Tryz.prog 154 #[.string s, .string ⟨#[47]⟩, .int .i64 0] w fun e w' =>
      e = .returned (.func (.func 163) #[] #[.pointer (some ⟨w.heap.size + 1, 0, none⟩), .pointer (some ⟨w.heap.size, 0, none⟩), .pointer (some ⟨w.heap.size + 1 + 1, 0, none⟩)]) ∧
      ((w.alloc (.cells #[.string s] 9)).alloc (.cells #[.string ⟨#[47]⟩] 9)).alloc (.cells #[.int .i64 0] 3) = w' := by
    go_enter Tryz.func154, Tryz.ntmps154
    go_wp2
    go_ret
    exact ⟨rfl, rfl⟩
  go_enter Tryz.func135, Tryz.ntmps135
  go_wp2_with (go_at_call 154; refine h39.mono ?_; rintro e w' ⟨rfl, rfl⟩)
  go_ret
  exact ⟨rfl, rfl⟩

theorem check_long (s : ByteArray) (w : World) (hs : s.size ≤ 9223372036854775807) (h : 64 < s.size) : Calls Tryz.prog 101 #[.string s] w fun e w' => e = .returned (.int .i64 4) ∧ Below w.heap.size w w' := by
  have hi : (64 : Int) < (s.size : Int) := by omega
  go_enter Tryz.func101, Tryz.ntmps101
  go_wp2
  refine bodyPost_ret (v := .int .i64 4) (by simp [results, Tryz.results101, go_sem]) rfl ⟨rfl, ?_⟩
  exact (Below.refl _ _).alloc (Nat.le_refl _) _
theorem check_empty (w : World) : Calls Tryz.prog 101 #[.string ⟨#[]⟩] w fun e w' => e = .returned (.int .i64 5) ∧ Below w.heap.size w w' := by
  go_enter Tryz.func101, Tryz.ntmps101
  go_wp2
  refine bodyPost_ret (v := .int .i64 5) (by simp [results, Tryz.results101, go_sem]) rfl ⟨rfl, ?_⟩
  exact (Below.refl _ _).alloc (Nat.le_refl _) _

set_option maxHeartbeats 2000000 in
theorem check_main (s : ByteArray) (w : World) (h0 : ¬ s.data.toList = []) (h : ¬ 64 < s.size) : Calls Tryz.prog 101 #[.string s] w (Checked s w) := by
  have hi : ¬ (64 : Int) < (s.size : Int) := by omega
  have hi2 : (s.size : Int) ≤ 64 := by omega
  have q0 : ¬ s.toList = [] := by rw [ByteArray.toList_eq]; exact h0
  have q0' : s.toList.isEmpty = false := by rw [List.isEmpty_eq_false_iff]; exact q0
  have hsz : s.data.toList.length = s.size := by rw [Array.length_toList]; rfl
  have HS := Lib.hid hsz
  have H0 := Lib.hid h0
  clear hsz h0
  refine (callsIn_wide (n := 3)).1 ?_
  refine callsIn_of_wp_marks Tryz.func101 rfl trivial ?_ rfl
  simp only [Tryz.ntmps101, List.size_toArray, List.length_cons, List.length_nil, Nat.reduceAdd, Nat.reduceSub, Array.replicate_succ, Array.replicate_zero, List.push_toArray, List.append_toArray, List.nil_append, List.cons_append]
  gi_wp2_with (refine ⟨trivial, ?_⟩; gi_at_call 135; refine (callsIn_wide.2 (split_any s _)).mono ?_; rintro e w' ⟨rfl, rfl⟩)
  have c0 := cell_new_l w (.int .i64 0) 88
  have c1 := cell_new_l (w.alloc (.cells #[.int .i64 0] 88)) (.string s) 9
  have c2 := cell_new_l ((w.alloc (.cells #[.int .i64 0] 88)).alloc (.cells #[.string s] 9)) (.string ⟨#[47]⟩) 9
  have c3 := cell_new_l (((w.alloc (.cells #[.int .i64 0] 88)).alloc (.cells #[.string s] 9)).alloc (.cells #[.string ⟨#[47]⟩] 9)) (.int .i64 0) 3
  simp only [World.size_alloc] at c1 c2 c3
  have hB0 : Below w.heap.size w ((((w.alloc (.cells #[.int .i64 0] 88)).alloc (.cells #[.string s] 9)).alloc (.cells #[.string ⟨#[47]⟩] 9)).alloc (.cells #[.int .i64 0] 3)) := ((((Below.refl _ w).alloc (Nat.le_refl _) _).alloc (by simp) _).alloc (by simp; omega) _).alloc (by simp; omega) _
  have d0 := cell_alloc_l (.cells #[.int .i64 0] 3) (cell_alloc_l (.cells #[.string ⟨#[47]⟩] 9) (cell_alloc_l (.cells #[.string s] 9) c0.1))
  have d1 := cell_alloc_l (.cells #[.int .i64 0] 3) (cell_alloc_l (.cells #[.string ⟨#[47]⟩] 9) c1.1)
  have d2 := cell_alloc_l (.cells #[.int .i64 0] 3) c2.1
  have d3 := c3.1
  have e0 := frozen_alloc_l (.cells #[.int .i64 0] 3) (cell_alloc_l (.cells #[.string ⟨#[47]⟩] 9) (cell_alloc_l (.cells #[.string s] 9) c0.1)) (frozen_alloc_l (.cells #[.string ⟨#[47]⟩] 9) (cell_alloc_l (.cells #[.string s] 9) c0.1) (frozen_alloc_l (.cells #[.string s] 9) c0.1 c0.2))
  have e1 := frozen_alloc_l (.cells #[.int .i64 0] 3) (cell_alloc_l (.cells #[.string ⟨#[47]⟩] 9) c1.1) (frozen_alloc_l (.cells #[.string ⟨#[47]⟩] 9) c1.1 c1.2)
  have hz : ((((w.alloc (.cells #[.int .i64 0] 88)).alloc (.cells #[.string s] 9)).alloc (.cells #[.string ⟨#[47]⟩] 9)).alloc (.cells #[.int .i64 0] 3)).heap.size = w.heap.size + 4 := by simp
  clear c0 c1 c2 c3
  have HZ := Lib.hid hz
  refine range_cap rfl (by omega) (gf := 163) rfl trivial (enters_of Tryz.func163 (by kernel_rfl) rfl)
    (seq_cap s (w.heap.size + 1) _ (by omega) (by omega) d1 e1 d2 d3) (by omega) (fun h k => h.trans k) (belowK_b (Nat.le_refl _)) (Below.refl _ _) (fun _ => rfl)
    (fun pre W => ((∀ x ∈ pre, gp x.data.toList = true) ∧ W.cell? ⟨w.heap.size, 0, none⟩ = some (.int .i64 0) ∧ W.frozen? ⟨w.heap.size, 0, none⟩ = false) ∧ Below w.heap.size w W)
    (fun c pre W => (c = .ret ∧ (∃ x ∈ pre, gp x.data.toList = false) ∧ W.cell? ⟨w.heap.size, 0, none⟩ = some (.int .i64 5)) ∧ Below w.heap.size w W)
    (fun pre A B row hs hg hm => ⟨⟨hs.1.1, may_cell hs.1.2.1 hg hm (by show w.heap.size ≠ _; omega), (may_frozen hs.1.2.1 hg hm (by show w.heap.size ≠ _; omega)).trans hs.1.2.2⟩, may_below hs.2 hg hm (by omega) (by omega) hs.2.size⟩)
    (fun c pre A B row hs hg hm => ⟨⟨hs.1.1, hs.1.2.1, may_cell hs.1.2.2 hg hm (by show w.heap.size ≠ _; omega)⟩, may_below hs.2 hg hm (by omega) (by omega) hs.2.size⟩)
    ⟨⟨by simp, d0, e0⟩, hB0⟩
    (fun x => { tmps := #[.string s, undef, .pointer (some ⟨w.heap.size, 0, none⟩), .string x, .string s, .int .i64 s.size, .bool false, .string s, .bool false, .string s, .func (.func 163) #[] #[.pointer (some ⟨w.heap.size + 1 + 1, 0, none⟩), .pointer (some ⟨w.heap.size + 1, 0, none⟩), .pointer (some ⟨w.heap.size + 1 + 1 + 1, 0, none⟩)], .string x, undef, undef, undef], defers := [] }) ?assign ?body ?done ?stop
  case assign =>
    intro l x W K hK
    gi_wp2
    exact hK
  case body =>
    rintro l pre x W ⟨⟨hp, hc, hf⟩, hB⟩ _ hx
    have hxs : x.size ≤ s.size := hx
    have HP := Lib.hid fun W => part_any x W (by omega)
    cases hg : gp x.data.toList with
    | true =>
      rw [hg] at HP
      have HG := Lib.hid hg
      clear hg hx
      gi_wp2_with (refine ⟨trivial, ?_⟩; gi_at_call 136; refine (CallsIn.inRound l (callsIn_wide.2 (HP.out _))).mono ?_; rintro e w' ⟨rfl, rfl⟩)
      exact ⟨KeepsOthers.refl _, Below.refl _ _, ⟨fun y hy => (List.mem_append.1 hy).elim (hp y) (fun e => by simp at e; subst e; exact HG.out), hc, hf⟩, hB⟩
    | false =>
      rw [hg] at HP
      have HG := Lib.hid hg
      clear hg hx
      gi_wp2_with (refine ⟨trivial, ?_⟩; gi_at_call 136; refine (CallsIn.inRound l (callsIn_wide.2 (HP.out _))).mono ?_; rintro e w' ⟨rfl, rfl⟩)
      exact ⟨KeepsOthers.setCell _ _ _, ⟨rfl, ⟨x, List.mem_append.2 (.inr (by simp)), HG.out⟩, World.cell?_setCell_same' _ _ _ (by rw [hc]; rfl)⟩, hB.setCell (p := ⟨w.heap.size, 0, none⟩) (Nat.le_refl _) _⟩
  case done =>
    rintro D ys W hD hys ⟨⟨hall, hc, hf⟩, hB⟩ hK
    have HA : Hid (chk s.data.toList = 0) := by
      refine chk_good (by rw [HS.out]; exact h) H0.out ?_
      have hy2 : ys.map (·.data.toList) = spl s.data.toList := hys
      rw [← hy2, List.all_eq_true]
      intro x hx
      obtain ⟨y, hy, rfl⟩ := List.mem_map.1 hx
      exact hall y hy
    rw [hz] at hD
    gi_wp2
    have hK' := (KeepsOthers.setCell W ⟨w.heap.size, 0, none⟩ (.int .i64 0)).same D _ hK rfl
    refine ⟨by simp, .inl ⟨_, _, rfl, run_takeDeferred hK', ?_⟩⟩
    have hc5 := cell_kept (World.cell?_setCell_same' W ⟨w.heap.size, 0, none⟩ (.int .i64 0) (by rw [hc]; rfl)) (grownBy_putObj' _ D (.deferred none)) (fun r e => by cases e; exact ⟨_, hK', rfl⟩)
    refine ⟨.int .i64 0, ?_, by rw [HA.out], (hB.setCell (p := ⟨w.heap.size, 0, none⟩) (Nat.le_refl _) _).trans (belowK_b (w := w) (Nat.le_refl _) _ D _ _ (by omega) hK' rfl rfl)⟩
    simp [results, Tryz.f101, go_sem, hc5]
  case stop =>
    rintro D c pre W hD hpre ⟨⟨rfl, hin, hc⟩, hB⟩ hK
    have HA : Hid (chk s.data.toList = 5) := by
      refine chk_bad (by rw [HS.out]; exact h) H0.out ?_
      obtain ⟨more, hm⟩ := hpre
      obtain ⟨x, hx, hg⟩ := hin
      rw [← hm, Bool.eq_false_iff]
      intro ha
      rw [List.all_eq_true] at ha
      have := ha x.data.toList (List.mem_append.2 (.inl (List.mem_map.2 ⟨x, hx, rfl⟩)))
      rw [hg] at this
      cases this
    rw [hz] at hD
    gi_wp2
    refine ⟨by simp, .inl ⟨_, _, rfl, run_takeDeferred hK, ?_⟩⟩
    have hc5 := cell_kept hc (grownBy_putObj' _ D (.deferred none)) (fun r e => by cases e; exact ⟨_, hK, rfl⟩)
    refine ⟨.int .i64 5, ?_, by rw [HA.out], hB.trans (belowK_b (w := w) (Nat.le_refl _) W D _ _ (by omega) hK rfl rfl)⟩
    simp [results, Tryz.f101, go_sem, hc5]

theorem check_any (s : ByteArray) (w : World) (hs : s.size ≤ 9223372036854775807) : Calls Tryz.prog 101 #[.string s] w (Checked s w) := by
  have hsz : s.data.toList.length = s.size := by rw [Array.length_toList]; rfl
  by_cases h : 64 < s.size
  · refine (check_long s w hs h).mono ?_
    rintro e w' ⟨rfl, hb⟩
    exact ⟨by rw [chk_long (by rw [hsz]; exact h)], hb⟩
  · by_cases h0 : s.data.toList = []
    · obtain rfl := bytes_eq (b := ⟨#[]⟩) h0
      exact check_empty w
    · exact check_main s w h0 h
end Go.Proofs.YtplleaimmmanhaaGreatDoor
