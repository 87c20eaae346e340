/-
  index.Put as one function of the entries.
  Trees that may be: what Check asks, said at once; a tree cleared of what clashes, with a file put.
  What plan lays: plain words over trees and entries (touched paths, what would be lost, what is there behind), and what they come to on a clean folder.
  The index behind a plan on a clean folder.
  What plan.Force leaves in the folder; on a clean folder: the tree.
  What plan lays where there are conflicts; what stays of what was changed; Force as the document has it.
  plan.touched, plan.next: the paths at which something is to be done; the entries that the index has of a path then.
  plan.next: the entries that the index has of a path then.
  plan.Lost: the paths of which something would be lost.
  What Apply's folds keep: order, sizes, lengths; step by step.
  (Row).Put: a file put into a tree that rises.
  plan.Apply: what is there behind, or what is refused.
-/
import Derived.Test.YtdmmjfmjohliiaaGreatDoorG4
import Derived.Test.YtdmmjfmjohliiaaGreatDoorG3
import Derived.OwnWalk
namespace Go.Proofs.YtdmmjfmjohliiaaGreatDoor
open Go Go.RowKit

/-- What index.Put makes of l and e. -/
def putL (l : List En) (e : En) : List En := (keepE l e).filter (fun x => decide (ec x e < 0)) ++ e :: (keepE l e).filter (fun x => !decide (ec x e < 0))
theorem split_ins {k : List En} {s : En} {i : Nat} (h : SplitE k s i) : insE k i s = k.filter (fun x => decide (ec x s < 0)) ++ s :: k.filter (fun x => !decide (ec x s < 0)) := by
  have h1 : ∀ x ∈ k.take i, ec x s < 0 := fun x hx => by
    obtain ⟨t, ht, rfl⟩ := List.getElem_of_mem hx
    rw [List.length_take] at ht
    rw [List.getElem_take]
    exact h.1 t _ (by omega) (List.getElem?_eq_getElem (by omega))
  have h2 : ∀ x ∈ k.drop i, ¬ ec x s < 0 := fun x hx => by
    obtain ⟨t, ht, rfl⟩ := List.getElem_of_mem hx
    rw [List.length_drop] at ht
    rw [List.getElem_drop]
    have := h.2 (i + t) _ (by omega) (List.getElem?_eq_getElem (by omega))
    omega
  have e : k = k.take i ++ k.drop i := (List.take_append_drop i k).symm
  have f1 : k.filter (fun x => decide (ec x s < 0)) = k.take i := by
    conv => lhs; rw [e]
    rw [List.filter_append, List.filter_eq_self.2 (fun x hx => decide_eq_true (h1 x hx)), List.filter_eq_nil_iff.2 (fun x hx => by simpa using h2 x hx), List.append_nil]
  have f2 : k.filter (fun x => !decide (ec x s < 0)) = k.drop i := by
    conv => lhs; rw [e]
    rw [List.filter_append, List.filter_eq_nil_iff.2 (fun x hx => by simpa using h1 x hx), List.filter_eq_self.2 (fun x hx => by simpa using h2 x hx), List.nil_append]
  rw [f1, f2]
  rfl
def PutIs (l : List En) (e : En) (w : World) (r : Ending) (w' : World) : Prop :=
  ∃ v : Value, r = .returned v ∧ w'.ownsRow w.heap.size 69 6 v (putL l e).length ((putL l e).flatMap cE) ∧ Below w.heap.size w w' ∧ RiseE (putL l e) ∧ (putL l e).length ≤ l.length + 1
theorem put_is (w : World) (v : Value) (l : List En) (s : En) (h : Reads 6 cE w v l) (hr : RiseE l) (hz : SizedE l) (hs : s.1.size ≤ 1000000) (hl : l.length ≤ 20000) :
    Calls Tryz.prog 40 #[v, eV s] w (PutIs l s w) := by
  refine (putE_any w v l s h hr hz hs hl).mono ?_
  rintro e w' ⟨v', i, rfl, hi, hsp, _, hb, ho⟩
  have h1 := putE_rise hr hsp
  have h2 := putE_len hi
  rw [split_ins hsp] at ho h1 h2
  exact ⟨v', rfl, ho, hb, h1, h2⟩
theorem putL_sized {l : List En} {e : En} (hl : SizedDE l) (he : e.1.size ≤ 1000000 ∧ e.2.2.2.1.size ≤ 1000000) : SizedDE (putL l e) := fun x hx => by
  unfold putL at hx
  rcases List.mem_append.1 hx with h | h
  · exact hl x (List.mem_filter.1 (List.mem_filter.1 h).1).1
  · rcases List.mem_cons.1 h with rfl | h
    · exact he
    · exact hl x (List.mem_filter.1 (List.mem_filter.1 h).1).1
end Go.Proofs.YtdmmjfmjohliiaaGreatDoor
namespace Go.Proofs.YtdmmjfmjohliiaaGreatDoor
open Go Go.RowKit

theorem cls_symm (a b : List UInt8) : cls a b = cls b a := by
  unfold cls
  cases h1 : (a == []) <;> cases h2 : (b == []) <;> simp [Bool.or_comm]
theorem cls_self (a : List UInt8) : cls a a = false := by
  unfold cls
  cases h : (a == []) with
  | true => rfl
  | false =>
    have h0 : a ≠ [] := by simpa using h
    rw [und_short h0 (by omega)]
    rfl
def ApartF (l : List Fl) : Prop := ∀ x ∈ l, ∀ y ∈ l, cls x.1.data.toList y.1.data.toList = false
theorem clashF_iff {a : List Fl} {p : ByteArray} : clashF a p = false ↔ ∀ y ∈ a, cls y.1.data.toList p.data.toList = false := by
  unfold clashF
  rw [List.any_eq_false]
  constructor
  · intro h y hy
    have := h y hy
    simpa using this
  · intro h y hy
    rw [h y hy]; simp
theorem chkF_apart {l : List Fl} (h : chkF l = none) : ApartF l := fun x hx y hy => by
  obtain ⟨i, hi, rfl⟩ := List.getElem_of_mem hx
  obtain ⟨j, hj, rfl⟩ := List.getElem_of_mem hy
  have key : ∀ (i j : Nat) (hi : i < l.length) (hj : j < l.length), i < j → cls l[i].1.data.toList l[j].1.data.toList = false := fun i j hi hj hij => by
    have h1 := refF_clash (chkF_at h (List.getElem?_eq_getElem hj))
    refine clashF_iff.1 h1 l[i] (List.mem_of_getElem? (i := i) ?_)
    rw [List.getElem?_take, if_pos hij, List.getElem?_eq_getElem hi]
  rcases Nat.lt_trichotomy i j with hij | hij | hij
  · exact key i j hi hj hij
  · subst hij; exact cls_self _
  · rw [cls_symm]; exact key j i hj hi hij
theorem chkF_cause {l : List Fl} (h : chkF l = none) : ∀ x ∈ l, causeF x = 0 := fun x hx => by
  obtain ⟨i, hi, rfl⟩ := List.getElem_of_mem hx
  exact refF_cause (chkF_at h (List.getElem?_eq_getElem hi))
theorem chkF_of {l : List Fl} (hl : l.length ≤ 64) (hr : RiseF l) (hc : ∀ x ∈ l, causeF x = 0) (ha : ApartF l) : chkF l = none := by
  refine chkF_good (by omega) fun i f hf => refF_zero (hc f (List.mem_of_getElem? hf)) ?_ ?_
  · unfold lateF
    rw [List.getLast?_take]
    by_cases hi : i = 0
    · rw [if_pos hi]
    · rw [if_neg hi]
      have hil := (List.getElem?_eq_some_iff.1 hf).1
      obtain ⟨g, hg⟩ : ∃ g, l[i - 1]? = some g := ⟨_, List.getElem?_eq_getElem (by omega)⟩
      have := rise_at hr hg (by rw [Nat.sub_add_cancel (by omega)]; exact hf)
      rw [hg]
      show decide (0 ≤ cb g.1 f.1) = false
      exact decide_eq_false (by omega)
  · exact clashF_iff.2 fun y hy => ha y (List.mem_of_mem_take hy) f (List.mem_of_getElem? hf)
/-- A tree cleared of what clashes, with the file. -/
def clrPut (l : List Fl) (f : Fl) : List Fl := putF (clearF l f.1) f
theorem clrPut_mem {l : List Fl} {f x : Fl} (h : x ∈ clrPut l f) : x = f ∨ (x ∈ l ∧ cls x.1.data.toList f.1.data.toList = false) := by
  rcases put_mem.1 h with h | ⟨h, _⟩
  · exact .inl h
  · unfold clearF at h
    rw [List.mem_filter] at h
    exact .inr ⟨h.1, by simpa using h.2⟩
theorem clrPut_rise {l : List Fl} (hr : RiseF l) (f : Fl) : RiseF (clrPut l f) := put_rise (clear_rise hr _) f
theorem clrPut_check {l : List Fl} {f : Fl} (h : chkF l = none) (hf : causeF f = 0) (hl : (clrPut l f).length ≤ 64) : chkF (clrPut l f) = none := by
  refine chkF_of hl (clrPut_rise (chkF_rise h) f) (fun x hx => ?_) fun x hx y hy => ?_
  · rcases clrPut_mem hx with rfl | ⟨hx, _⟩
    · exact hf
    · exact chkF_cause h x hx
  · rcases clrPut_mem hx with rfl | ⟨hx, hxf⟩
    · rcases clrPut_mem hy with rfl | ⟨_, hyf⟩
      · exact cls_self _
      · rw [cls_symm]; exact hyf
    · rcases clrPut_mem hy with rfl | ⟨hy, _⟩
      · exact hxf
      · exact chkF_apart h x hx y hy
theorem clrPut_get {l : List Fl} (hr : RiseF l) (f : Fl) : getF (clrPut l f) f.1 = some f := by
  unfold clrPut
  rw [get_put (clear_rise hr _), if_pos rfl]
theorem clrPut_stays {l : List Fl} (hr : RiseF l) {f x : Fl} (hx : x ∈ l) : (getF (clrPut l f) x.1).isSome = !cls x.1.data.toList f.1.data.toList := by
  unfold clrPut
  rw [get_put (clear_rise hr _)]
  by_cases h : x.1 = f.1
  · rw [if_pos h, h, cls_self]; rfl
  · rw [if_neg h]
    cases hc : cls x.1.data.toList f.1.data.toList with
    | false =>
      have hm : x ∈ clearF l f.1 := List.mem_filter.2 ⟨hx, by simp [hc]⟩
      rw [mem_getF (clear_rise hr _) hm]; rfl
    | true =>
      have : getF (clearF l f.1) x.1 = none := getF_none fun hm => by
        obtain ⟨y, hy, he⟩ := List.mem_map.1 hm
        have h2 := (List.mem_filter.1 hy).2
        rw [he, hc] at h2
        cases h2
      rw [this]; rfl
theorem clrPut_len (l : List Fl) (f : Fl) : (clrPut l f).length ≤ l.length + 1 := Nat.le_trans (put_len _ _) (by have := List.length_filter_le (fun x : Fl => !cls x.1.data.toList f.1.data.toList) l; unfold clearF; omega)
end Go.Proofs.YtdmmjfmjohliiaaGreatDoor
namespace Go.Proofs.YtdmmjfmjohliiaaGreatDoor
open Go Go.RowKit

/-- The paths at which something is to be done. -/
def touchedV (cf : List ByteArray) (h t : List Fl) : List ByteArray := nrm (cf ++ (diffF h t).map (·.1))
def unlikeV (a b : List Fl) (p : ByteArray) : Bool := !decide (getF a p = getF b p)
/-- The paths of which something would be lost. -/
def lostV (h t : List Fl) (cf : List ByteArray) (ix : List En) (w : List Fl) : List ByteArray :=
  nrm ((touchedV cf h t).filter (fun p => hasP (nrm (confE ix)) p || (unlikeV h (stageE ix 0) p || unlikeV (stageE ix 0) w p)) ++
    (w.filter (fun f => ((touchedV cf h t).filter fun p => (getF t p).isSome).any (fun p => cls p.data.toList f.1.data.toList) &&
      !(hasP (touchedV cf h t) f.1 && !hasP ((touchedV cf h t).filter fun p => (getF t p).isSome) f.1))).map (·.1))
theorem stage_of : ∀ a : List Fl, stageE (a.map toE) 0 = a
  | [] => rfl
  | x :: a => by
    have := stage_of a
    unfold stageE at *
    rw [List.map_cons, List.filter_cons_of_pos (by rfl), List.map_cons, this]; rfl
theorem conf_of (a : List Fl) : confE (a.map toE) = [] := by
  unfold confE
  rw [List.filter_eq_nil_iff.2 fun x hx => ?_]
  · rfl
  · obtain ⟨f, _, rfl⟩ := List.mem_map.1 hx
    simp [toE]
theorem nrm_none : nrm [] = [] := nrm_of List.Pairwise.nil fun _ => Iff.rfl
theorem touched_mem {cf : List ByteArray} {h t : List Fl} {p : ByteArray} : p ∈ touchedV cf h t ↔ p ∈ cf ∨ unl (getF h p) (getF t p) ≠ 32 := by
  unfold touchedV
  rw [nrm_mem, List.mem_append]
  constructor
  · rintro (h1 | h1)
    · exact .inl h1
    · obtain ⟨x, hx, rfl⟩ := List.mem_map.1 h1
      obtain ⟨h2, h3⟩ := diff_mem.1 hx
      exact .inr (by rw [← h2]; exact h3)
  · rintro (h1 | h1)
    · exact .inl h1
    · exact .inr (List.mem_map.2 ⟨(p, unl (getF h p) (getF t p)), diff_mem.2 ⟨rfl, h1⟩, rfl⟩)
/-- On a clean folder nothing would be lost. -/
theorem lost_clean {a b : List Fl} (ha : chkF a = none) (hb : chkF b = none) : lostV a b [] (a.map toE) a = [] := by
  have h1 : ((touchedV [] a b).filter (fun p => hasP (nrm (confE (a.map toE))) p || (unlikeV a (stageE (a.map toE) 0) p || unlikeV (stageE (a.map toE) 0) a p))) = [] := List.filter_eq_nil_iff.2 fun p _ => by
    rw [conf_of, nrm_none, stage_of]
    simp [hasP, unlikeV]
  have h2 : (a.filter (fun f => ((touchedV [] a b).filter fun p => (getF b p).isSome).any (fun p => cls p.data.toList f.1.data.toList) && !(hasP (touchedV [] a b) f.1 && !hasP ((touchedV [] a b).filter fun p => (getF b p).isSome) f.1))) = [] := List.filter_eq_nil_iff.2 fun f hf => by
    intro h
    rw [Bool.and_eq_true] at h
    obtain ⟨hany, hnot⟩ := h
    obtain ⟨p, hp, hcl⟩ := List.any_eq_true.1 hany
    obtain ⟨_, hs⟩ := List.mem_filter.1 hp
    have hbn : getF b f.1 = none := by
      cases hg : getF b f.1 with
      | none => rfl
      | some g =>
        obtain ⟨q, hq⟩ := Option.isSome_iff_exists.1 hs
        have hq2 := (getF_iff (chkF_rise hb)).1 hq
        have hg2 := (getF_iff (chkF_rise hb)).1 hg
        have := chkF_apart hb q hq2.1 g hg2.1
        rw [hq2.2, hg2.2, hcl] at this
        cases this
    have hin : f.1 ∈ touchedV [] a b := touched_mem.2 (.inr (by rw [mem_getF (chkF_rise ha) hf, hbn]; show (68 : Int) ≠ 32; decide))
    have e1 : hasP (touchedV [] a b) f.1 = true := hasP_iff.2 hin
    have e2 : hasP ((touchedV [] a b).filter fun p => (getF b p).isSome) f.1 = false := by
      cases hc : hasP ((touchedV [] a b).filter fun p => (getF b p).isSome) f.1 with
      | false => rfl
      | true =>
        have := (List.mem_filter.1 (hasP_iff.1 hc)).2
        rw [hbn] at this
        cases this
    rw [e1, e2] at hnot
    cases hnot
  unfold lostV
  rw [h1, h2]
  exact nrm_none

/-- What is cut first. -/
def cutV (t : List Fl) (ps : List ByteArray) (w : List Fl) : List Fl := ps.foldl (fun w p => if (getF t p).isSome then w else cutF w p) w
/-- What is put then. -/
def putV (t : List Fl) (ps : List ByteArray) (w : List Fl) : List Fl := ps.foldl (fun w p => match getF t p with | some f => putF w f | none => w) w
theorem cutV_cons (t : List Fl) (p : ByteArray) (ps : List ByteArray) (w : List Fl) : cutV t (p :: ps) w = cutV t ps (if (getF t p).isSome then w else cutF w p) := rfl
theorem putV_none {t : List Fl} {p : ByteArray} (ps : List ByteArray) (w : List Fl) (h : getF t p = none) : putV t (p :: ps) w = putV t ps w := by
  show ps.foldl _ (match getF t p with | some f => putF w f | none => w) = _
  rw [h]; rfl
theorem putV_some {t : List Fl} {p : ByteArray} {f : Fl} (ps : List ByteArray) (w : List Fl) (h : getF t p = some f) : putV t (p :: ps) w = putV t ps (putF w f) := by
  show ps.foldl _ (match getF t p with | some f => putF w f | none => w) = _
  rw [h]; rfl
theorem hasP_cons (p : ByteArray) (ps : List ByteArray) (q : ByteArray) : hasP (p :: ps) q = (decide (p = q) || hasP ps q) := rfl
theorem cutV_get (t : List Fl) : ∀ (ps : List ByteArray) (w : List Fl), RiseF w → RiseF (cutV t ps w) ∧ ∀ q, getF (cutV t ps w) q = if (hasP ps q && !(getF t q).isSome) = true then none else getF w q
  | [], w, h => ⟨h, fun q => by simp [cutV, hasP]⟩
  | p :: ps, w, h => by
    rw [cutV_cons]
    by_cases hp : (getF t p).isSome = true
    · rw [if_pos hp]
      obtain ⟨h1, h2⟩ := cutV_get t ps w h
      refine ⟨h1, fun q => ?_⟩
      rw [h2 q, hasP_cons]
      by_cases hq : p = q
      · subst hq
        rw [hp]; simp
      · rw [decide_eq_false hq, Bool.false_or]
    · rw [if_neg hp]
      obtain ⟨h1, h2⟩ := cutV_get t ps (cutF w p) (cut_rise h p)
      refine ⟨h1, fun q => ?_⟩
      have hp' : (getF t p).isSome = false := by simpa using hp
      rw [h2 q, get_cut h, hasP_cons]
      by_cases hq : p = q
      · subst hq
        rw [hp', if_pos (rfl : p = p), decide_eq_true (rfl : p = p)]
        simp
      · rw [decide_eq_false hq, Bool.false_or, if_neg (fun e => hq e.symm : ¬ q = p)]
theorem putV_get (t : List Fl) (ht : RiseF t) : ∀ (ps : List ByteArray) (w : List Fl), RiseF w → RiseF (putV t ps w) ∧ ∀ q, getF (putV t ps w) q = if (hasP ps q && (getF t q).isSome) = true then getF t q else getF w q
  | [], w, h => ⟨h, fun q => by simp [putV, hasP]⟩
  | p :: ps, w, h => by
    cases hp : getF t p with
    | none =>
      rw [putV_none ps w hp]
      obtain ⟨h1, h2⟩ := putV_get t ht ps w h
      refine ⟨h1, fun q => ?_⟩
      rw [h2 q, hasP_cons]
      by_cases hq : p = q
      · subst hq
        rw [hp]; simp
      · rw [decide_eq_false hq, Bool.false_or]
    | some f =>
      rw [putV_some ps w hp]
      obtain ⟨h1, h2⟩ := putV_get t ht ps (putF w f) (put_rise h f)
      have hf := (getF_iff ht).1 hp
      refine ⟨h1, fun q => ?_⟩
      rw [h2 q, get_put h, hasP_cons]
      by_cases hq : p = q
      · subst hq
        rw [hp, if_pos hf.2.symm, decide_eq_true (rfl : p = p)]
        simp
      · have hq2 : ¬ q = f.1 := fun e => hq (e.trans hf.2).symm
        rw [decide_eq_false hq, Bool.false_or, if_neg hq2]
/-- On a clean folder the tree is laid, file by file, and there is nothing else. -/
theorem work_clean {a b : List Fl} (ha : RiseF a) (hb : RiseF b) : putV b (touchedV [] a b) (cutV b (touchedV [] a b) a) = b := by
  obtain ⟨h1, h2⟩ := cutV_get b (touchedV [] a b) a ha
  obtain ⟨h3, h4⟩ := putV_get b hb (touchedV [] a b) _ h1
  refine tree_ext h3 hb fun p => ?_
  rw [h4 p, h2 p]
  cases hp : hasP (touchedV [] a b) p with
  | true => cases hg : getF b p <;> simp
  | false =>
    have h32 : unl (getF a p) (getF b p) = 32 := Classical.byContradiction fun h => by
      have := hasP_iff.2 (touched_mem (cf := []).2 (.inr h))
      rw [hp] at this; cases this
    have := unl_eq h32
    simp [this]
end Go.Proofs.YtdmmjfmjohliiaaGreatDoor
namespace Go.Proofs.YtdmmjfmjohliiaaGreatDoor
open Go Go.RowKit

theorem drop_map (r : List Fl) (p : ByteArray) : dropE (r.map toE) p = (cutF r p).map toE := by
  unfold dropE cutF
  rw [List.filter_map]
  congr 1
  apply List.filter_congr
  intro x _
  show (!decide (x.1 = p)) = decide (x.1 ≠ p)
  by_cases h : x.1 = p <;> simp [h]
theorem keep_map {r : List Fl} {f : Fl} (hc : ∀ x ∈ r, cls x.1.data.toList f.1.data.toList = false) : keepE (r.map toE) (toE f) = (r.filter fun x => decide (x.1 ≠ f.1)).map toE := by
  unfold keepE
  rw [List.filter_map]
  congr 1
  apply List.filter_congr
  intro x hx
  show (!((decide (x.1 = f.1) && (decide ((0 : Int) = 0) || (decide ((0 : Int) = 0) || decide ((0 : Int) = 0)))) || cls x.1.data.toList f.1.data.toList)) = decide (x.1 ≠ f.1)
  rw [hc x hx]
  by_cases h : x.1 = f.1 <;> simp [h]
theorem ec_map (x f : Fl) : ec (toE x) (toE f) < 0 ↔ cb x.1 f.1 < 0 := by
  rw [ec_neg]
  constructor
  · rintro (h | ⟨_, h⟩)
    · exact h
    · exact absurd h (by show ¬ (0 : Int) < 0; decide)
  · exact .inl
theorem put_map {r : List Fl} {f : Fl} (hc : ∀ x ∈ r, cls x.1.data.toList f.1.data.toList = false) : putL (r.map toE) (toE f) = (putF r f).map toE := by
  unfold putL putF
  rw [keep_map hc, List.filter_map, List.filter_map, List.filter_filter, List.filter_filter, List.map_append, List.map_cons]
  have h1 : (r.filter fun x => (decide (ec (toE x) (toE f) < 0) && decide (x.1 ≠ f.1))) = r.filter fun x => decide (cb x.1 f.1 < 0) := List.filter_congr fun x _ => by
    by_cases h : cb x.1 f.1 < 0
    · rw [decide_eq_true ((ec_map x f).2 h), decide_eq_true h, decide_eq_true (cb_ne h)]; rfl
    · rw [decide_eq_false (fun g => h ((ec_map x f).1 g)), decide_eq_false h]; rfl
  have h2 : (r.filter fun x => (!decide (ec (toE x) (toE f) < 0) && decide (x.1 ≠ f.1))) = r.filter fun x => decide (0 < cb x.1 f.1) := List.filter_congr fun x _ => by
    by_cases h : cb x.1 f.1 < 0
    · rw [decide_eq_true ((ec_map x f).2 h), decide_eq_false (by omega : ¬ 0 < cb x.1 f.1)]; rfl
    · rw [decide_eq_false (fun g => h ((ec_map x f).1 g))]
      by_cases h0 : cb x.1 f.1 = 0
      · rw [decide_eq_false (by omega : ¬ 0 < cb x.1 f.1), decide_eq_false (fun g => g (cb_zero h0) : ¬ x.1 ≠ f.1)]; rfl
      · have hne : x.1 ≠ f.1 := fun e => h0 (by rw [e, cb_self])
        rw [decide_eq_true (by omega : 0 < cb x.1 f.1), decide_eq_true hne]; rfl
  congr 1
  · exact congrArg _ h1
  · exact congrArg _ (congrArg _ h2)

/-- The index: what is dropped, then what is put. -/
def dropI (ps : List ByteArray) (ix : List En) : List En := ps.foldl dropE ix
def putI (t : List Fl) (ps : List ByteArray) (ix : List En) : List En := ps.foldl (fun ix p => match getF t p with | some f => putL ix (toE f) | none => ix) ix
def cutA (ps : List ByteArray) (r : List Fl) : List Fl := ps.foldl cutF r
theorem dropI_map : ∀ (ps : List ByteArray) (r : List Fl), dropI ps (r.map toE) = (cutA ps r).map toE
  | [], _ => rfl
  | p :: ps, r => by
    show dropI ps (dropE (r.map toE) p) = _
    rw [drop_map, dropI_map ps (cutF r p)]; rfl
theorem cutA_get : ∀ (ps : List ByteArray) (r : List Fl), RiseF r → RiseF (cutA ps r) ∧ ∀ q, getF (cutA ps r) q = if hasP ps q = true then none else getF r q
  | [], r, h => ⟨h, fun q => by simp [cutA, hasP]⟩
  | p :: ps, r, h => by
    obtain ⟨h1, h2⟩ := cutA_get ps (cutF r p) (cut_rise h p)
    refine ⟨h1, fun q => ?_⟩
    show getF (cutA ps (cutF r p)) q = _
    rw [h2 q, get_cut h, hasP_cons]
    by_cases hq : p = q
    · subst hq
      rw [if_pos (rfl : p = p), decide_eq_true (rfl : p = p)]
      simp
    · rw [decide_eq_false hq, Bool.false_or, if_neg (fun e => hq e.symm : ¬ q = p)]
/-- Where all that is there has a path of the tree, what is put does not clash. -/
theorem putI_map {t : List Fl} (ht : RiseF t) (ha : ApartF t) : ∀ (ps : List ByteArray) (r : List Fl), (∀ x ∈ r, (getF t x.1).isSome = true) → putI t ps (r.map toE) = (putV t ps r).map toE
  | [], _, _ => rfl
  | p :: ps, r, h => by
    cases hp : getF t p with
    | none =>
      rw [putV_none ps r hp]
      show ps.foldl _ (match getF t p with | some f => putL (r.map toE) (toE f) | none => r.map toE) = _
      rw [hp]
      exact putI_map ht ha ps r h
    | some f =>
      rw [putV_some ps r hp]
      have hf := (getF_iff ht).1 hp
      show ps.foldl _ (match getF t p with | some f => putL (r.map toE) (toE f) | none => r.map toE) = _
      rw [hp]
      show putI t ps (putL (r.map toE) (toE f)) = _
      rw [put_map (fun x hx => by
        obtain ⟨g, hg⟩ := Option.isSome_iff_exists.1 (h x hx)
        have hg2 := (getF_iff ht).1 hg
        have := ha g hg2.1 f hf.1
        rwa [hg2.2] at this)]
      refine putI_map ht ha ps (putF r f) fun x hx => ?_
      rcases put_mem.1 hx with rfl | ⟨hx, _⟩
      · rw [hf.2, hp]; rfl
      · exact h x hx
/-- On a clean folder the index is the tree's then. -/
theorem index_clean {a b : List Fl} (ha : RiseF a) (hb : RiseF b) (hap : ApartF b) : putI b (touchedV [] a b) (dropI (touchedV [] a b) (a.map toE)) = b.map toE := by
  obtain ⟨h1, h2⟩ := cutA_get (touchedV [] a b) a ha
  have hin : ∀ p, hasP (touchedV [] a b) p = false → getF a p = getF b p := fun p hp => by
    have h32 : unl (getF a p) (getF b p) = 32 := Classical.byContradiction fun h => by
      have := hasP_iff.2 (touched_mem (cf := []).2 (.inr h))
      rw [hp] at this; cases this
    exact unl_eq h32
  rw [dropI_map, putI_map hb hap]
  · congr 1
    obtain ⟨h3, h4⟩ := putV_get b hb (touchedV [] a b) _ h1
    refine tree_ext h3 hb fun p => ?_
    rw [h4 p, h2 p]
    cases hp : hasP (touchedV [] a b) p with
    | true => cases hg : getF b p <;> simp
    | false => simp [hin p hp]
  · intro x hx
    have hx1 := mem_getF h1 hx
    rw [h2 x.1] at hx1
    cases hp : hasP (touchedV [] a b) x.1 with
    | true => rw [hp] at hx1; simp at hx1
    | false =>
      rw [hp] at hx1
      rw [← hin x.1 hp]
      simp at hx1
      rw [hx1]; rfl
end Go.Proofs.YtdmmjfmjohliiaaGreatDoor
namespace Go.Proofs.YtdmmjfmjohliiaaGreatDoor
open Go Go.RowKit

def clearA (ps : List ByteArray) (w : List Fl) : List Fl := ps.foldl clearF w
def putA (t : List Fl) (w : List Fl) : List Fl := t.foldl putF w
/-- Force: what was tracked goes, what is in the way goes, the tree is laid. -/
def forceV (h t : List Fl) (ix : List En) (w : List Fl) : List Fl := putA t (clearA (t.map (·.1)) (cutA (ix.map (·.1)) (cutA (h.map (·.1)) w)))
theorem getF_cons (f : Fl) (t : List Fl) (q : ByteArray) : getF (f :: t) q = if f.1 = q then some f else getF t q := by
  unfold getF
  rw [List.find?_cons]
  by_cases h : f.1 = q
  · rw [if_pos h]; simp [h]
  · rw [if_neg h]; simp [h]
theorem getF_has {t : List Fl} {q : ByteArray} (h : hasP (t.map (·.1)) q = false) : getF t q = none := getF_none fun hm => by
  have := hasP_iff.2 hm
  rw [h] at this; cases this
theorem clearA_rise : ∀ (ps : List ByteArray) (w : List Fl), RiseF w → RiseF (clearA ps w)
  | [], _, h => h
  | p :: ps, w, h => clearA_rise ps (clearF w p) (clear_rise h p)
theorem clearA_nil : ∀ ps : List ByteArray, clearA ps [] = []
  | [] => rfl
  | _ :: ps => clearA_nil ps
theorem cutA_nil : ∀ ps : List ByteArray, cutA ps [] = []
  | [] => rfl
  | _ :: ps => cutA_nil ps
theorem putA_get : ∀ (t w : List Fl), RiseF t → RiseF w → RiseF (putA t w) ∧ ∀ q, getF (putA t w) q = if hasP (t.map (·.1)) q = true then getF t q else getF w q
  | [], w, _, h => ⟨h, fun q => by simp [putA, hasP]⟩
  | f :: t, w, ht, h => by
    have ht' : RiseF t := (List.pairwise_cons.1 ht).2
    obtain ⟨h1, h2⟩ := putA_get t (putF w f) ht' (put_rise h f)
    refine ⟨h1, fun q => ?_⟩
    show getF (putA t (putF w f)) q = _
    rw [h2 q, get_put h, getF_cons, List.map_cons, hasP_cons]
    by_cases hq : f.1 = q
    · subst hq
      have hn : hasP (t.map (·.1)) f.1 = false := by
        cases hc : hasP (t.map (·.1)) f.1 with
        | false => rfl
        | true =>
          obtain ⟨g, hg, he⟩ := List.mem_map.1 (hasP_iff.1 hc)
          have := (List.pairwise_cons.1 ht).1 g hg
          rw [he, cb_self] at this; omega
      rw [hn, if_pos (rfl : f.1 = f.1), decide_eq_true (rfl : f.1 = f.1)]
      simp
    · rw [decide_eq_false hq, Bool.false_or, if_neg (fun e => hq e.symm : ¬ q = f.1), if_neg hq]
theorem cut_self {a : List Fl} (ha : RiseF a) : cutA (a.map (·.1)) a = [] := by
  obtain ⟨h1, h2⟩ := cutA_get (a.map (·.1)) a ha
  refine tree_ext h1 List.Pairwise.nil fun p => ?_
  rw [h2 p]
  cases hp : hasP (a.map (·.1)) p with
  | true => rfl
  | false => rw [getF_has hp]; rfl
/-- On a clean folder Force leaves the tree. -/
theorem force_clean {a b : List Fl} (ha : RiseF a) (hb : RiseF b) : forceV a b (a.map toE) a = b := by
  unfold forceV
  rw [cut_self ha, cutA_nil, clearA_nil]
  obtain ⟨h1, h2⟩ := putA_get b [] hb List.Pairwise.nil
  refine tree_ext h1 hb fun p => ?_
  rw [h2 p]
  cases hp : hasP (b.map (·.1)) p with
  | true => rfl
  | false => rw [getF_has hp]; rfl
/-- Force's folder holds all of the tree. -/
theorem force_has {h t w : List Fl} {ix : List En} (ht : RiseF t) (hw : RiseF w) {f : Fl} (hf : f ∈ t) : getF (forceV h t ix w) f.1 = some f := by
  unfold forceV
  have r1 := (cutA_get (h.map (·.1)) w hw).1
  have r2 := (cutA_get (ix.map (·.1)) _ r1).1
  have r3 := clearA_rise (t.map (·.1)) _ r2
  rw [(putA_get t _ ht r3).2 f.1, if_pos (hasP_iff.2 (List.mem_map.2 ⟨f, hf, rfl⟩)), mem_getF ht hf]
end Go.Proofs.YtdmmjfmjohliiaaGreatDoor
namespace Go.Proofs.YtdmmjfmjohliiaaGreatDoor
open Go Go.RowKit

/-- The entries that the index has of a path then. -/
def nextV (cf : List ByteArray) (en : List En) (t : List Fl) (p : ByteArray) : List En :=
  if hasP cf p = true then en.filter (fun e => decide (e.1 = p)) else match getF t p with | some f => [toE f] | none => []
def putG (t : List Fl) (cf : List ByteArray) (en : List En) (ps : List ByteArray) (ix : List En) : List En := ps.foldl (fun ix p => (nextV cf en t p).foldl putL ix) ix
theorem putG_none (t : List Fl) (en : List En) : ∀ (ps : List ByteArray) (ix : List En), putG t [] en ps ix = putI t ps ix
  | [], _ => rfl
  | p :: ps, ix => by
    show putG t [] en ps ((nextV [] en t p).foldl putL ix) = putI t ps (match getF t p with | some f => putL ix (toE f) | none => ix)
    rw [putG_none t en ps]
    congr 1
    show (match getF t p with | some f => [toE f] | none => []).foldl putL ix = _
    cases getF t p <;> rfl
/-- What was changed, and is not lost, stays. -/
theorem keeps_get {h t w : List Fl} {cf : List ByteArray} {ix : List En} (hw : RiseF w) (ht : RiseF t) (hlost : lostV h t cf ix w = []) {f : Fl} (hf : f ∈ w) (hne : getF (stageE ix 0) f.1 ≠ getF w f.1) :
    getF (putV t (touchedV cf h t) (cutV t (touchedV cf h t) w)) f.1 = some f := by
  have hn : hasP (touchedV cf h t) f.1 = false := by
    cases hc : hasP (touchedV cf h t) f.1 with
    | false => rfl
    | true =>
      have : f.1 ∈ lostV h t cf ix w := by
        unfold lostV
        rw [nrm_mem, List.mem_append]
        exact .inl (List.mem_filter.2 ⟨hasP_iff.1 hc, by simp [unlikeV, hne]⟩)
      rw [hlost] at this; cases this
  rw [(putV_get t ht _ _ (cutV_get t _ w hw).1).2, hn, (cutV_get t _ w hw).2, hn]
  simpa using mem_getF hw hf

theorem get_filt {l : List Fl} (hr : RiseF l) (g : ByteArray → Bool) (q : ByteArray) : getF (l.filter fun x => g x.1) q = if g q = true then getF l q else none := by
  refine opt_ext fun f => ?_
  rw [getF_iff (List.Pairwise.filter _ hr), List.mem_filter]
  by_cases hq : g q = true
  · rw [if_pos hq, getF_iff hr]
    constructor
    · rintro ⟨⟨h1, _⟩, h3⟩; exact ⟨h1, h3⟩
    · rintro ⟨h1, h3⟩; exact ⟨⟨h1, by rw [h3]; exact hq⟩, h3⟩
  · rw [if_neg hq]
    constructor
    · rintro ⟨⟨_, h2⟩, h3⟩; rw [h3] at h2; exact absurd h2 hq
    · intro h; cases h
theorem get_clear {l : List Fl} (hr : RiseF l) (p q : ByteArray) : getF (clearF l p) q = if cls q.data.toList p.data.toList = true then none else getF l q := by
  unfold clearF
  rw [get_filt hr (fun x => !cls x.data.toList p.data.toList)]
  cases cls q.data.toList p.data.toList <;> simp
theorem clearA_get : ∀ (ps : List ByteArray) (w : List Fl), RiseF w → ∀ q, getF (clearA ps w) q = if ps.any (fun p => cls q.data.toList p.data.toList) = true then none else getF w q
  | [], w, _, q => by simp [clearA]
  | p :: ps, w, h, q => by
    show getF (clearA ps (clearF w p)) q = _
    rw [clearA_get ps (clearF w p) (clear_rise h p), get_clear h, List.any_cons]
    cases ps.any (fun p => cls q.data.toList p.data.toList) <;> cases cls q.data.toList p.data.toList <;> simp
theorem clr_fold : ∀ (t w : List Fl), RiseF t → ApartF t → RiseF w → RiseF (t.foldl clrPut w) ∧ ∀ q, getF (t.foldl clrPut w) q = if hasP (t.map (·.1)) q = true then getF t q else getF (clearA (t.map (·.1)) w) q
  | [], w, _, _, h => ⟨h, fun q => by simp [clearA, hasP]⟩
  | f :: t, w, ht, ha, h => by
    have ht' : RiseF t := (List.pairwise_cons.1 ht).2
    have ha' : ApartF t := fun x hx y hy => ha x (List.mem_cons_of_mem _ hx) y (List.mem_cons_of_mem _ hy)
    have hr := clrPut_rise h f
    obtain ⟨h1, h2⟩ := clr_fold t (clrPut w f) ht' ha' hr
    refine ⟨h1, fun q => ?_⟩
    show getF (t.foldl clrPut (clrPut w f)) q = _
    rw [h2 q, getF_cons, List.map_cons, hasP_cons, clearA_get _ _ hr, clearA_get _ _ h, List.any_cons]
    have hg : getF (clrPut w f) q = if q = f.1 then some f else if cls q.data.toList f.1.data.toList = true then none else getF w q := by
      unfold clrPut
      rw [get_put (clear_rise h _), get_clear h]
    rw [hg]
    by_cases hq : f.1 = q
    · subst hq
      have hn : hasP (t.map (·.1)) f.1 = false := by
        cases hc : hasP (t.map (·.1)) f.1 with
        | false => rfl
        | true =>
          obtain ⟨g, hg, he⟩ := List.mem_map.1 (hasP_iff.1 hc)
          have := (List.pairwise_cons.1 ht).1 g hg
          rw [he, cb_self] at this; omega
      have hc : (t.map (·.1)).any (fun p => cls f.1.data.toList p.data.toList) = false := by
        rw [List.any_eq_false]
        intro p hp
        obtain ⟨g, hg, rfl⟩ := List.mem_map.1 hp
        rw [ha f (List.mem_cons_self ..) g (List.mem_cons_of_mem _ hg)]
        decide
      rw [hn, hc, if_pos (rfl : f.1 = f.1), if_pos (rfl : f.1 = f.1), decide_eq_true (rfl : f.1 = f.1)]
      simp
    · rw [decide_eq_false hq, Bool.false_or, if_neg (fun e => hq e.symm : ¬ q = f.1), if_neg hq]
      cases hasP (t.map (·.1)) q <;> cases (t.map (·.1)).any (fun p => cls q.data.toList p.data.toList) <;> cases cls q.data.toList f.1.data.toList <;> simp
/-- The document's Force: each file's way cleared, and the file put, one after the other. -/
theorem force_ref {h t w : List Fl} {ix : List En} {ps : List ByteArray} (hw : RiseF w) (ht : RiseF t) (ha : ApartF t) (hps : ∀ p, p ∈ ps ↔ p ∈ h.map (·.1) ∨ p ∈ ix.map (·.1)) :
    t.foldl clrPut (cutA ps w) = forceV h t ix w := by
  obtain ⟨c1, g1⟩ := cutA_get ps w hw
  obtain ⟨c2, g2⟩ := cutA_get (h.map (·.1)) w hw
  obtain ⟨c3, g3⟩ := cutA_get (ix.map (·.1)) _ c2
  have hcut : cutA ps w = cutA (ix.map (·.1)) (cutA (h.map (·.1)) w) := by
    refine tree_ext c1 c3 fun p => ?_
    rw [g1 p, g3 p, g2 p]
    have e : hasP ps p = (hasP (h.map (·.1)) p || hasP (ix.map (·.1)) p) := by
      rw [Bool.eq_iff_iff, Bool.or_eq_true, hasP_iff, hasP_iff, hasP_iff]
      exact hps p
    rw [e]
    cases hasP (h.map (·.1)) p <;> cases hasP (ix.map (·.1)) p <;> simp
  unfold forceV
  rw [hcut]
  obtain ⟨r1, f1⟩ := clr_fold t _ ht ha c3
  obtain ⟨r2, f2⟩ := putA_get t (clearA (t.map (·.1)) (cutA (ix.map (·.1)) (cutA (h.map (·.1)) w))) ht (clearA_rise _ _ c3)
  refine tree_ext r1 r2 fun p => ?_
  rw [f1 p, f2 p]
end Go.Proofs.YtdmmjfmjohliiaaGreatDoor
namespace Go.Proofs.YtdmmjfmjohliiaaGreatDoor
open Go Go.RowKit

theorem Dels.at_ {w : World} {A : Option Addr} {n c : Nat} {l : List Dl} (h : Reads 2 cD w (.slice A n c) l) {i : Nat} {x : Dl} (hi : l[i]? = some x) :
    ∃ ad : Addr, A = some ad ∧ w.cell? (ad.add (i * 2)) = some (.string x.1) ∧ w.cell? ⟨(ad.add (i * 2)).block, (ad.add (i * 2)).off + 1, none⟩ = some (.string (whB x.2)) := by
  obtain ⟨ad, ha, hc⟩ := h.at_ hi
  exact ⟨ad, ha, hc 0 _ rfl, hc 1 _ rfl⟩
theorem diff_len (a b : List Fl) : (diffF a b).length ≤ a.length + b.length := Nat.le_trans (diffOf_len _ _) (paths2_len a b)

set_option maxRecDepth 100000 in
set_option maxHeartbeats 4000000 in
theorem touched_any (w : World) (v t E c : Value) (h tl : List Fl) (cf : List ByteArray) (hv : Reads 3 cF w v h) (tv : Reads 3 cF w t tl) (cv : Strs w c cf) (rh : RiseF h) (rt : RiseF tl)
    (lh : h.length ≤ 5000) (lt : tl.length ≤ 5000) (lc : cf.length ≤ 10000) :
    Calls Tryz.prog 35 #[v, .agg #[t, E, c]] w (TextsTo (touchedV cf h tl) w) := by
  obtain ⟨W1, hW1⟩ : ∃ W1, W1 = w.alloc (.cells #[t, E, c] 27) := ⟨_, rfl⟩
  have B1 : Below w.heap.size w W1 := by rw [hW1]; exact (Below.refl _ _).alloc (Nat.le_refl _) _
  obtain ⟨G, hG⟩ : ∃ G, G = w.heap.size := ⟨_, rfl⟩
  have K1 : W1.heap[G]? = some (.cells #[t, E, c] 27 (0, 0)) := by rw [hW1, hG]; exact heap_alloc_new w _
  have hGl : G < W1.heap.size := (Array.getElem?_eq_some_iff.1 K1).1
  have CL := Lib.hid (cloneS_any W1 c cf (cv.below B1) (by omega))
  have DF := Lib.hid fun W (hW : Below W1.heap.size W1 W) => diff_any W v t h tl ((hv.below B1).below hW) ((tv.below B1).below hW) rh rt (by omega) (by omega)
  have HDL := Lib.hid (diff_len h tl)
  have HV := Lib.hid (show touchedV cf h tl = nrm (cf ++ (diffF h tl).map (·.1)) from rfl)
  obtain ⟨d, hd⟩ : ∃ d, d = diffF h tl := ⟨_, rfl⟩
  rw [← hd] at DF HDL HV
  have ZZ := Lib.hid fun W (hW : Below W1.heap.size W1 W) => (show W.cell? ⟨G, 0, none⟩ = some t ∧ W.cell? ⟨G, 2, none⟩ = some c from
    ⟨cell_of_row W G 0 _ 27 (0, 0) ((hW.block G hGl).trans K1), cell_of_row W G 2 _ 27 (0, 0) ((hW.block G hGl).trans K1)⟩)
  have z1 := ZZ.out W1 (Below.refl _ _)
  obtain ⟨i0, hi, hz0, hz1, hz2⟩ := info_parts strInfo
  have hdl : d.length ≤ 10000 := by have := HDL.out; omega
  have HB1 := Lib.hid B1
  have HG := Lib.hid hG
  obtain ⟨At, ct, rfl⟩ := tv.form
  obtain ⟨Ac, cc, rfl⟩ := strs_form cv
  clear hv tv cv rh rt K1 B1 hd HDL
  go_enter Tryz.func35, Tryz.ntmps35
  go_wp2_with fail
  rw [← hW1, ← hG]
  clear hW1 hG
  refine CL.out.mono ?_
  rintro e w2 ⟨v2, rfl, o2, b2⟩
  have z2 := ZZ.out w2 b2
  have D2 := Lib.hid (DF.out w2 b2)
  have B2 := Lib.hid (HB1.out.trans (b2.mono HB1.out.size))
  have O2 := Lib.hid (own_base o2 HB1.out.size)
  clear o2 b2 CL DF
  go_wp2_with fail
  refine D2.out.mono ?_
  rintro e w3 ⟨v3, rfl, o3, b3⟩
  have O3 := Lib.hid (own_keep O2.out b3)
  have B3 := Lib.hid (B2.out.trans (b3.mono B2.out.size))
  have RD := Lib.hid (own_base o3 B2.out.size)
  obtain ⟨A3, c3, rfl⟩ := own_form o3
  clear o3 b3 O2 B2 D2 z1 z2
  go_wp2_with fail
  go_loopw [5, 16] (fun s5 s16 wr => ∃ i : Nat, i ≤ d.length ∧ s16 = .int .i64 i ∧ Hid (wr.ownsRow w.heap.size 9 1 s5 (cf.length + i) ((cf ++ (d.take i).map (·.1)).map Value.string)) ∧ Below w.heap.size w wr ∧ Hid (wr.ownsRow w.heap.size 127 2 (.slice A3 d.length c3) d.length (d.flatMap cD))) (fun _ s16 _ => d.length - (intOf s16).toNat)
  case atStart => exact ⟨0, Nat.zero_le _, rfl, Lib.hid (by rw [List.take_zero, List.map_nil, List.append_nil]; exact O3.out), B3.out, RD⟩
  case round =>
    obtain ⟨i, hil, rfl, hown, hb, RDi⟩ := hrel
    by_cases hlt : i < d.length
    · obtain ⟨x, hx⟩ : ∃ x, d[i]? = some x := ⟨_, List.getElem?_eq_getElem hlt⟩
      obtain ⟨ad, rfl, c0, c1⟩ := Dels.at_ (Reads.of_own cD_len RDi.out) hx
      obtain ⟨p, n⟩ := x
      obtain ⟨q, hq⟩ : ∃ q, q = whB n := ⟨_, rfl⟩
      simp only at c0 c1
      rw [← hq] at c1
      have HE := Lib.hid (show cf ++ (d.take (i + 1)).map (fun x => x.1) = (cf ++ (d.take i).map (fun x => x.1)) ++ [p] by rw [take_snoc hx]; simp)
      have i0' : (0 : Int) ≤ (i : Int) := Int.natCast_nonneg _
      have hi1 : (i : Int) < (d.length : Int) := by omega
      have hcl := World.block_lt_of_cell? _ _ c0
      have hsz := hb.size
      have hne := Lib.hid (own_ne RDi.out hown.out (by decide))
      clear hx hq
      have hown4 := ((hown.out.alloc (.cells #[.string p, .string q] 127)).alloc (.cells #[.string p] 9))
      have hnews := news_one (wr.alloc (.cells #[.string p, .string q] 127)) #[.string p] 9 (wr.heap.size + 1) (by simp)
      go_wp2_with (at_builtin; refine wpList_append_own _ rfl _ _ 25 rfl w.heap.size 9 i0 (.string { data := #[] }) 1 16 Tryz.underlying25 hi hz0 hz1 hz2 rfl (by decide) _ _ _ rfl hown4 ⟨wr.heap.size + 1, 0, none⟩ 1 1 [.string p] rfl rfl hnews (by simp [Value.oneCell']) (by unfold maxLen; omega) (by omega) (by simp; omega) ?_; intro v5 w5 hown5 hg5 _)
      have hb5 : Below w.heap.size w w5 := ((hb.alloc hsz _).alloc (by simp; omega) _).grown hg5 (by simp; omega) (fun k hk => (hown.out.lt k hk).1)
      have R5 := Lib.hid (((RDi.out.alloc (.cells #[.string p, .string q] 127)).alloc (.cells #[.string p] 9)).kept hg5 hne.out)
      clear hnews hown4 hg5
      go_roundw
      case rel => exact ⟨i + 1, by omega, by go_num, Lib.hid (by rw [HE.out, str_snoc, ← Nat.add_assoc]; exact hown5), hb5, R5⟩
      case measure => simp [intOf]; omega
    · obtain rfl : i = d.length := by omega
      have hown2 := Lib.hid (show wr.ownsRow w.heap.size 9 1 u5 (cf ++ d.map (fun x => x.1)).length ((cf ++ d.map (fun x => x.1)).map Value.string) by
        have := hown.out
        rw [List.take_length] at this
        rw [List.length_append, List.length_map]
        exact this)
      have RI := Lib.hid (rising_own wr w.heap.size u5 _ hown2.out (by rw [List.length_append, List.length_map]; omega))
      have HB := Lib.hid hb
      clear hown hb RDi
      go_wp2_with fail
      refine RI.out.mono ?_
      rintro e w5 ⟨u, rfl, o5, b5⟩
      have O5 := Lib.hid o5
      have B5 := Lib.hid (HB.out.trans b5)
      clear o5 b5
      go_wp2_with fail
      go_ret
      exact ⟨_, rfl, by rw [HV.out]; exact O5.out, B5.out⟩
end Go.Proofs.YtdmmjfmjohliiaaGreatDoor
namespace Go.Proofs.YtdmmjfmjohliiaaGreatDoor
open Go Go.RowKit

/-- What next tells: o is the file that is there then. -/
def nextO (cf : List ByteArray) (en : List En) (o : Option Fl) (p : ByteArray) : List En :=
  if hasP cf p = true then en.filter (fun e => decide (e.1 = p)) else match o with | some f => [toE f] | none => []
theorem nextV_O (cf : List ByteArray) (en : List En) (t : List Fl) (p : ByteArray) : nextV cf en t p = nextO cf en (getF t p) p := rfl
def EntsTo (l : List En) (w : World) (e : Ending) (w' : World) : Prop := ∃ v, e = .returned v ∧ Reads 6 cE w' v l ∧ Below w.heap.size w w'
theorem reads_file (W : World) (x : Fl) : Reads 3 cF (W.alloc (.cells #[.string x.1, .int .i64 x.2.1, .string x.2.2] 56)) (.slice (some ⟨W.heap.size, 0, none⟩) 1 1) [x] :=
  ⟨some ⟨W.heap.size, 0, none⟩, 1, rfl, Nat.le_refl _, by unfold maxLen; omega, (fun h => by cases h), fun ad ha i y hy j u hu => by
    obtain rfl := Option.some.inj ha
    cases i with
    | succ i => simp at hy
    | zero =>
      simp at hy; subst hy
      rw [adr_flat, add_zero_addr, Nat.zero_mul, Nat.zero_add]
      rw [cell_of_row (W.alloc (.cells #[.string x.1, .int .i64 x.2.1, .string x.2.2] 56)) W.heap.size j _ 56 (0, 0) (heap_alloc_new W _)]
      have hj : j < 3 := (List.getElem?_eq_some_iff.1 hu).1
      rw [← hu]
      rcases (by omega : j = 0 ∨ j = 1 ∨ j = 2) with rfl | rfl | rfl <;> rfl⟩
theorem enters_next (args : Array Value) (w : World) : (callFunc 86 args).run Tryz.prog w = .ok (.enter 86 args) w := enters_of Tryz.func86 (by kernel_rfl) rfl args w
set_option maxHeartbeats 1000000 in
theorem next_pred (w0 : World) (B b : Nat) (q : ByteArray) (hc : w0.cell? ⟨b, 0, none⟩ = some (.string q)) (hb : b < B) (hB : B ≤ w0.heap.size) :
    PBE B w0 86 (.pointer (some ⟨b, 0, none⟩)) (fun x => !decide (x.1 = q)) := by
  intro W x hW _
  have c0 : W.cell? ⟨b, 0, none⟩ = some (.string q) := (hW.cell (p := ⟨b, 0, none⟩) hb).trans hc
  have hlt : b < W.heap.size := Nat.lt_of_lt_of_le hb (Nat.le_trans hB hW.size)
  obtain ⟨p, st, m, d, t, z⟩ := x
  clear hc hW hb hB
  by_cases h : p = q
  · subst h
    go_enter Tryz.func86, Tryz.ntmps86
    go_wp2
    go_ret
    exact ⟨by simp, (Below.refl _ _).alloc (Nat.le_refl _) _⟩
  · have e1 : ¬ p.toList = q.toList := fun e => h (tl_eq e)
    have e1' : (p.toList == q.toList) = false := by simpa using e1
    have HD := Lib.hid (show (!decide (p = q)) = true by rw [decide_eq_false h]; rfl)
    clear h
    go_enter Tryz.func86, Tryz.ntmps86
    go_wp2
    go_ret
    exact ⟨ret_b HD.out.symm, (Below.refl _ _).alloc (Nat.le_refl _) _⟩

set_option maxRecDepth 100000 in
set_option maxHeartbeats 4000000 in
theorem next_any (w : World) (t E c : Value) (x : Fl) (b : Bool) (p : ByteArray) (en : List En) (cf : List ByteArray) (ev : Reads 6 cE w E en) (cv : Strs w c cf) (hz : SizedE en) (le : en.length ≤ 10000) :
    Calls Tryz.prog 39 #[.agg #[t, E, c], .agg #[.string x.1, .int .i64 x.2.1, .string x.2.2], .bool b, .string p] w (EntsTo (nextO cf en (if b then some x else none) p) w) := by
  obtain ⟨x1, x2, x3⟩ := x
  obtain ⟨W1, hW1⟩ : ∃ W1, W1 = ((w.alloc (.cells #[t, E, c] 27)).alloc (.cells #[.string x1, .int .i64 x2, .string x3] 56)).alloc (.cells #[.string p] 9) := ⟨_, rfl⟩
  have B1 : Below w.heap.size w W1 := by rw [hW1]; exact (((Below.refl _ _).alloc (Nat.le_refl _) _).alloc (by simp) _).alloc (by simp; omega) _
  obtain ⟨G, hG⟩ : ∃ G, G = w.heap.size := ⟨_, rfl⟩
  have hs1 : W1.heap.size = G + 3 := by rw [hW1, hG]; simp
  have K1 : W1.heap[G]? = some (.cells #[t, E, c] 27 (0, 0)) := by
    rw [hW1, hG]
    exact (Below.heap_alloc _ _ _ (by simp; omega)).trans ((Below.heap_alloc _ _ _ (by simp)).trans (heap_alloc_new w _))
  have K2 : W1.heap[G + 1]? = some (.cells #[.string x1, .int .i64 x2, .string x3] 56 (0, 0)) := by
    rw [hW1, hG]
    have := heap_alloc_new (w.alloc (.cells #[t, E, c] 27)) (.cells #[.string x1, .int .i64 x2, .string x3] 56)
    rw [World.size_alloc] at this
    exact (Below.heap_alloc _ _ _ (by simp)).trans this
  have K3 : W1.heap[G + 2]? = some (.cells #[.string p] 9 (0, 0)) := by
    rw [hW1, hG]
    have := heap_alloc_new ((w.alloc (.cells #[t, E, c] 27)).alloc (.cells #[.string x1, .int .i64 x2, .string x3] 56)) (.cells #[.string p] 9)
    rw [World.size_alloc, World.size_alloc] at this
    exact this
  have y0 := cell_of_row W1 G 0 _ 27 (0, 0) K1
  have y1 := cell_of_row W1 G 1 _ 27 (0, 0) K1
  have y2 := cell_of_row W1 G 2 _ 27 (0, 0) K1
  have x0 := cell_of_row W1 (G + 1) 0 _ 56 (0, 0) K2
  have x1' := cell_of_row W1 (G + 1) 1 _ 56 (0, 0) K2
  have x2' := cell_of_row W1 (G + 1) 2 _ 56 (0, 0) K2
  have p0 := cell_of_row W1 (G + 2) 0 _ 9 (0, 0) K3
  have CN := Lib.hid (containsS_any W1 c cf p (cv.below B1))
  have CE := Lib.hid (cloneE_any W1 E en (ev.below B1) (by omega))
  have DE := Lib.hid fun W (hW : Below W1.heap.size W1 W) v (ho : W.ownsRow W1.heap.size 69 6 v en.length (en.flatMap cE)) => deleteE_any W1 W W1.heap.size hW hW.size v en 86 (.pointer (some ⟨G + 2, 0, none⟩)) (fun x => !decide (x.1 = p)) ho hz (by omega) enters_next (next_pred W1 _ (G + 2) p p0 (by omega) (Nat.le_refl _))
  have FO := Lib.hid (of_any _ _ [(x1, x2, x3)] (reads_file W1 (x1, x2, x3)) (by simp))
  have BF := Lib.hid (show Below w.heap.size w (W1.alloc (.cells #[.string x1, .int .i64 x2, .string x3] 56)) from B1.alloc B1.size _)
  have HN := Lib.hid (show nextO cf en (if b then some (x1, x2, x3) else none) p = if hasP cf p = true then en.filter (fun e => decide (e.1 = p)) else match (if b then some (x1, x2, x3) else none) with | some f => [toE f] | none => [] from rfl)
  obtain ⟨o, ho⟩ : ∃ o, o = nextO cf en (if b then some (x1, x2, x3) else none) p := ⟨_, rfl⟩
  rw [← ho] at HN ⊢
  have HB1 := Lib.hid B1
  obtain ⟨Ae, ce, rfl⟩ := ev.form
  obtain ⟨Ac, cc, rfl⟩ := strs_form cv
  obtain ⟨G1, hG1⟩ : ∃ G1, G1 = G + 1 := ⟨_, rfl⟩
  obtain ⟨G2, hG2⟩ : ∃ G2, G2 = G + 2 := ⟨_, rfl⟩
  rw [← hG2] at p0 DE
  rw [← hG1] at x0 x1' x2'
  obtain ⟨q, hq⟩ : ∃ q, q = hasP cf p := ⟨_, rfl⟩
  rw [← hq] at HN CN
  clear ev cv hz K1 K2 K3 B1 ho hq
  go_enter Tryz.func39, Tryz.ntmps39
  go_wp2_with fail
  rw [← hW1]
  have e1 : w.heap.size + 1 = G1 := by rw [hG1, hG]
  have e2 : w.heap.size + 1 + 1 = G2 := by rw [hG2, hG]
  rw [e2, e1, ← hG]
  have HG0 := Lib.hid hG
  have HGa := Lib.hid hG1
  have HGb := Lib.hid hG2
  have hs1' := Lib.hid hs1
  have lg : G < W1.heap.size := by omega
  have lg1 : G1 < W1.heap.size := by omega
  have lg2 : G2 < W1.heap.size := by omega
  clear hW1 e1 e2 hG hG1 hG2 hs1
  refine CN.out.mono ?_
  rintro e w2 ⟨rfl, hw⟩
  obtain rfl : w2 = W1 := hw
  cases q with
  | true =>
    have HO : Hid (o = en.filter fun x => !(!decide (x.1 = p))) := Lib.hid (by rw [HN.out, if_pos rfl]; simp)
    go_wp2_with fail
    refine CE.out.mono ?_
    rintro e w3 ⟨v3, rfl, o3, b3⟩
    have D3 := Lib.hid (DE.out w3 b3 v3 o3)
    obtain ⟨A3, c3, rfl⟩ := own_form o3
    clear o3 b3 CE DE
    go_wp2_with fail
    refine D3.out.mono ?_
    rintro e w4 ⟨v4, rfl, r4, b4, -⟩
    have R4 := Lib.hid r4
    have B4 := Lib.hid (HB1.out.trans (b4.mono HB1.out.size))
    clear r4 b4 D3
    go_wp2_with fail
    go_ret
    exact ⟨_, rfl, by rw [HO.out]; exact R4.out, B4.out⟩
  | false =>
    cases b with
    | true =>
      have HO : Hid (o = [toE (x1, x2, x3)]) := Lib.hid (by rw [HN.out, if_neg (by decide)]; rfl)
      go_wp2_with fail
      refine FO.out.mono ?_
      rintro e w3 ⟨v3, rfl, o3, b3⟩
      have R3 := Lib.hid (Reads.of_own cE_len o3)
      have B3 := Lib.hid (BF.out.trans (b3.mono BF.out.size))
      clear o3 b3 FO
      go_wp2_with fail
      go_ret
      exact ⟨_, rfl, by rw [HO.out]; exact R3.out, B3.out⟩
    | false =>
      have HO : Hid (o = []) := Lib.hid (by rw [HN.out, if_neg (by decide)]; rfl)
      go_wp2_with fail
      go_ret
      exact ⟨_, rfl, by rw [HO.out]; exact Reads.nil _, HB1.out⟩
end Go.Proofs.YtdmmjfmjohliiaaGreatDoor
namespace Go.Proofs.YtdmmjfmjohliiaaGreatDoor
open Go Go.RowKit

theorem stageE_rise {l : List En} (h : RiseE l) (n : Int) : RiseF (stageE l n) := by
  unfold stageE RiseF
  rw [List.pairwise_map]
  refine (List.Pairwise.and_mem.1 (List.Pairwise.filter _ h)).imp fun {a b} hab => ?_
  obtain ⟨ha, hb, hc⟩ := hab
  have e1 := of_decide_eq_true (List.mem_filter.1 ha).2
  have e2 := of_decide_eq_true (List.mem_filter.1 hb).2
  rcases ec_neg.1 hc with h | ⟨_, h⟩
  · exact h
  · rw [e1, e2] at h; omega
/-- Two rows of texts of the call's own, apart. -/
structure TwoS (w : World) (B : Nat) (va vb : Value) (xs ys : List ByteArray) : Prop where
  a : w.ownsRow B 9 1 va xs.length (xs.map Value.string)
  b : w.ownsRow B 9 1 vb ys.length (ys.map Value.string)
  ne : ∀ k, va.ownBlock = some k → vb.ownBlock ≠ some k
theorem TwoS.below {w w' : World} {B : Nat} {a b : Value} {xs ys : List ByteArray} (h : TwoS w B a b xs ys) (hb : Below w.heap.size w w') : TwoS w' B a b xs ys := ⟨own_keep h.a hb, own_keep h.b hb, h.ne⟩
theorem TwoS.alloc {w : World} {B : Nat} {a b : Value} {xs ys : List ByteArray} (h : TwoS w B a b xs ys) (o : Obj) : TwoS (w.alloc o) B a b xs ys := ⟨h.a.alloc o, h.b.alloc o, h.ne⟩
theorem TwoS.turn {w : World} {B : Nat} {a b : Value} {xs ys : List ByteArray} (h : TwoS w B a b xs ys) : TwoS w B b a ys xs := ⟨h.b, h.a, fun k h1 h2 => h.ne k h2 h1⟩
/-- The first one grown. -/
theorem TwoS.grow {w w' : World} {B : Nat} {a a' b : Value} {xs zs ys : List ByteArray} (h : TwoS w B a b xs ys) (ho : w'.ownsRow B 9 1 a' zs.length (zs.map Value.string)) (hg : w.grownBy w' a.ownBlock) (hat : a'.ownBlock = a.ownBlock ∨ a'.ownBlock = some w.heap.size) : TwoS w' B a' b zs ys := by
  refine ⟨ho, h.b.kept hg ?_, fun k hk => ?_⟩
  · cases hb : b.ownBlock with
    | none => exact .inl rfl
    | some k => exact .inr fun e => h.ne k e.symm hb
  · rcases hat with hat | hat
    · exact h.ne k (by rw [← hat]; exact hk)
    · intro hb
      have := (h.b.lt k hb).2
      rw [hat] at hk
      injection hk with hk
      omega
theorem filt_snoc {p : ByteArray → Bool} {l : List ByteArray} {i : Nat} {x : ByteArray} (hx : l[i]? = some x) : (l.take (i + 1)).filter p = (l.take i).filter p ++ (if p x then [x] else []) := by
  rw [take_snoc hx, List.filter_append]
  cases h : p x <;> simp [h]
theorem filtF_snoc {p : Fl → Bool} {l : List Fl} {i : Nat} {x : Fl} (hx : l[i]? = some x) : ((l.take (i + 1)).filter p).map (·.1) = ((l.take i).filter p).map (·.1) ++ (if p x then [x.1] else []) := by
  rw [take_snoc hx, List.filter_append, List.map_append]
  cases h : p x <;> simp [h]
theorem touched_len (cf : List ByteArray) (h t : List Fl) : (touchedV cf h t).length ≤ cf.length + (h.length + t.length) := by
  unfold touchedV
  refine Nat.le_trans (nrm_len _) ?_
  rw [List.length_append, List.length_map]
  have := diff_len h t
  omega

set_option maxRecDepth 100000 in
set_option maxHeartbeats 8000000 in
theorem lost_any (w : World) (v t E c ixv wv : Value) (h tl wk : List Fl) (cf : List ByteArray) (ix : List En)
    (hv : Reads 3 cF w v h) (tv : Reads 3 cF w t tl) (cv : Strs w c cf) (iv : Reads 6 cE w ixv ix) (kv : Reads 3 cF w wv wk)
    (rh : RiseF h) (rt : RiseF tl) (ri : RiseE ix) (rk : RiseF wk)
    (lh : h.length ≤ 1000) (lt : tl.length ≤ 1000) (lc : cf.length ≤ 1000) (li : ix.length ≤ 1000) (lk : wk.length ≤ 1000)
    (sp : SizedS (touchedV cf h tl)) (sk : Sized wk) :
    Calls Tryz.prog 15 #[v, .agg #[t, E, c], ixv, wv] w (TextsTo (lostV h tl cf ix wk) w) := by
  obtain ⟨W1, hW1⟩ : ∃ W1, W1 = w.alloc (.cells #[t, E, c] 27) := ⟨_, rfl⟩
  have B1 : Below w.heap.size w W1 := by rw [hW1]; exact (Below.refl _ _).alloc (Nat.le_refl _) _
  obtain ⟨G, hG⟩ : ∃ G, G = w.heap.size := ⟨_, rfl⟩
  have K1 : W1.heap[G]? = some (.cells #[t, E, c] 27 (0, 0)) := by rw [hW1, hG]; exact heap_alloc_new w _
  have hGl : G < W1.heap.size := (Array.getElem?_eq_some_iff.1 K1).1
  have ST := Lib.hid (stage_any W1 ixv ix 0 (iv.below B1) (by omega))
  have CO := Lib.hid fun W (hW : Below W1.heap.size W1 W) => conflicts_any W ixv ix ((iv.below B1).below hW) (by omega)
  have TO := Lib.hid fun W (hW : Below W1.heap.size W1 W) => touched_any W v t E c h tl cf ((hv.below B1).below hW) ((tv.below B1).below hW) ((cv.below B1).below hW) rh rt (by omega) (by omega) (by omega)
  have RS := Lib.hid (stageE_rise ri 0)
  have GT := Lib.hid fun W (hW : Below W1.heap.size W1 W) p => get_any W t tl p ((tv.below B1).below hW) rt (by omega)
  have U1 := Lib.hid fun W (hW : Below W1.heap.size W1 W) u nx p (g : Reads 3 cF W u nx) (rn : RiseF nx) (ln : nx.length ≤ 1000) => punlike_any W v u h nx p ((hv.below B1).below hW) g rh rn (by omega) (by omega)
  have U2 := Lib.hid fun W (hW : Below W1.heap.size W1 W) u nx p (g : Reads 3 cF W u nx) (rn : RiseF nx) (ln : nx.length ≤ 1000) => punlike_any W u wv nx wk p g ((kv.below B1).below hW) rn rk (by omega) (by omega)
  have KV := Lib.hid (kv.below B1)
  have HLP := Lib.hid (touched_len cf h tl)
  have HLS := Lib.hid (Nat.le_trans (stageE_len ix 0) li)
  have SP := Lib.hid sp
  have SK := Lib.hid sk
  have HV := Lib.hid (show lostV h tl cf ix wk = nrm ((touchedV cf h tl).filter (fun p => hasP (nrm (confE ix)) p || (unlikeV h (stageE ix 0) p || unlikeV (stageE ix 0) wk p)) ++
    (wk.filter (fun f => ((touchedV cf h tl).filter fun p => (getF tl p).isSome).any (fun p => cls p.data.toList f.1.data.toList) &&
      !(hasP (touchedV cf h tl) f.1 && !hasP ((touchedV cf h tl).filter fun p => (getF tl p).isSome) f.1))).map (·.1)) from rfl)
  obtain ⟨ps, hps⟩ : ∃ ps, ps = touchedV cf h tl := ⟨_, rfl⟩
  obtain ⟨nx, hnx⟩ : ∃ nx, nx = stageE ix 0 := ⟨_, rfl⟩
  obtain ⟨cs, hcs⟩ : ∃ cs, cs = nrm (confE ix) := ⟨_, rfl⟩
  rw [← hps] at TO HLP SP HV
  rw [← hnx] at ST RS HLS HV
  rw [← hcs] at CO HV
  obtain ⟨P1, hP1⟩ : ∃ P1 : ByteArray → Bool, P1 = fun p => hasP cs p || (unlikeV h nx p || unlikeV nx wk p) := ⟨_, rfl⟩
  obtain ⟨P2, hP2⟩ : ∃ P2 : ByteArray → Bool, P2 = fun p => (getF tl p).isSome := ⟨_, rfl⟩
  rw [← hP1, ← hP2] at HV
  obtain ⟨Q, hQ⟩ : ∃ Q : Fl → Bool, Q = fun f => (ps.filter P2).any (fun p => cls p.data.toList f.1.data.toList) && !(hasP ps f.1 && !hasP (ps.filter P2) f.1) := ⟨_, rfl⟩
  rw [← hQ] at HV
  have HP1 := Lib.hid (show ∀ p, P1 p = (hasP cs p || (!decide (getF h p = getF nx p) || !decide (getF nx p = getF wk p))) from fun p => by rw [hP1]; rfl)
  have HP2 := Lib.hid (show ∀ p, P2 p = (getF tl p).isSome from fun p => by rw [hP2])
  have HQ := Lib.hid (show ∀ f, Q f = ((ps.filter P2).any (fun p => cls p.data.toList f.1.data.toList) && !(hasP ps f.1 && !hasP (ps.filter P2) f.1)) from fun f => by rw [hQ])
  have ZZ := Lib.hid fun W (hW : Below W1.heap.size W1 W) => (show W.cell? ⟨G, 0, none⟩ = some t ∧ W.cell? ⟨G, 1, none⟩ = some E ∧ W.cell? ⟨G, 2, none⟩ = some c from
    ⟨cell_of_row W G 0 _ 27 (0, 0) ((hW.block G hGl).trans K1), cell_of_row W G 1 _ 27 (0, 0) ((hW.block G hGl).trans K1), cell_of_row W G 2 _ 27 (0, 0) ((hW.block G hGl).trans K1)⟩)
  obtain ⟨i0, hi, hz0, hz1, hz2⟩ := info_parts strInfo
  have HB1 := Lib.hid B1
  have hlps : ps.length ≤ 3000 := by have := HLP.out; omega
  have z1 := ZZ.out W1 (Below.refl _ _)
  have hGW := Lib.hid (show G < W1.heap.size from hGl)
  obtain ⟨Ai, ci, rfl⟩ := iv.form
  obtain ⟨Ak, ck, rfl⟩ := kv.form
  obtain ⟨Ah, ch, rfl⟩ := hv.form
  obtain ⟨At, ct, rfl⟩ := tv.form
  have hnk := kv.len
  clear hv tv cv iv kv rh rt ri rk sp sk K1 B1 hps hnx hcs hP1 hP2 hQ HLP hGl
  go_enter Tryz.func15, Tryz.ntmps15
  go_wp2_with fail
  rw [← hW1, ← hG]
  clear hW1 hG
  refine ST.out.mono ?_
  rintro e w2 ⟨v2, rfl, o2, b2⟩
  have C2 := Lib.hid (CO.out w2 b2)
  have R2 := Lib.hid (Reads.of_own cF_len o2)
  obtain ⟨A2, c2, rfl⟩ := own_form o2
  have B2 := Lib.hid b2
  clear o2 b2 ST CO z1
  go_wp2_with fail
  refine C2.out.mono ?_
  rintro e w3 ⟨v3, rfl, o3, b3⟩
  have B3 := Lib.hid (B2.out.trans (b3.mono B2.out.size))
  have R3 := Lib.hid (R2.out.below b3)
  have S3 := Lib.hid (Strs.of_own o3 rfl)
  obtain ⟨A3, c3, rfl⟩ := own_form o3
  have T3 := Lib.hid (TO.out w3 B3.out)
  obtain ⟨z0, z1, z2⟩ := ZZ.out w3 B3.out
  have hl3 := Lib.hid B3.out.size
  have hcl3 : G < w3.heap.size := by have := hGW.out; have := hl3.out; omega
  clear o3 b3 C2 TO R2 B2
  go_wp2_with fail
  refine T3.out.mono ?_
  rintro e w4 ⟨v4, rfl, o4, b4⟩
  have B4 := Lib.hid (B3.out.trans (b4.mono B3.out.size))
  have R4 := Lib.hid (R3.out.below b4)
  have S4 := Lib.hid (S3.out.below b4)
  have P4 := Lib.hid (Strs.of_own o4 rfl)
  obtain ⟨A4, c4, rfl⟩ := own_form o4
  clear o4 b4 T3 R3 S3 B3 z0 z1 z2 hcl3 hl3
  go_wp2_with fail
  go_loopw [12, 13, 15, 16, 17, 31] (fun s12 s13 _ _ _ s31 wr => ∃ i : Nat, i ≤ ps.length ∧ s31 = .int .i64 i ∧ Hid (TwoS wr w4.heap.size s12 s13 ((ps.take i).filter P1) ((ps.take i).filter P2)) ∧ Below w4.heap.size w4 wr) (fun _ _ _ _ _ s31 _ => ps.length - (intOf s31).toNat)
  case atStart => exact ⟨0, Nat.zero_le _, rfl, Lib.hid ⟨World.ownsRow_nil _ _ _ _, World.ownsRow_nil _ _ _ _, fun k hk => by cases hk⟩, Below.refl _ _⟩
  case round =>
    obtain ⟨i, hil, rfl, TW, hb⟩ := hrel
    by_cases hlt : i < ps.length
    · obtain ⟨ad, p, rfl, hp, c0⟩ := strs_at P4.out hlt
      have c0' := (hb.cell (World.block_lt_of_cell? _ _ c0)).trans c0
      have HT1 := Lib.hid (filt_snoc (p := P1) hp)
      have HT2 := Lib.hid (filt_snoc (p := P2) hp)
      have HPp := Lib.hid (HP1.out p)
      have HP2p := Lib.hid (HP2.out p)
      have B5 := Lib.hid (B4.out.trans (hb.mono B4.out.size))
      have CN := Lib.hid (containsS_any wr _ cs p (S4.out.below hb))
      have V1 := Lib.hid (U1.out wr B5.out _ nx p (R4.out.below hb) RS.out HLS.out)
      have V2 := Lib.hid fun W (hW : Below wr.heap.size wr W) => U2.out W (B5.out.trans (hW.mono B5.out.size)) _ nx p ((R4.out.below hb).below hW) RS.out HLS.out
      obtain ⟨b1, hb1⟩ : ∃ b, b = hasP cs p := ⟨_, rfl⟩
      obtain ⟨b2, hb2⟩ : ∃ b, b = !decide (getF h p = getF nx p) := ⟨_, rfl⟩
      obtain ⟨b3, hb3⟩ : ∃ b, b = !decide (getF nx p = getF wk p) := ⟨_, rfl⟩
      rw [← hb1] at HPp CN
      rw [← hb2] at HPp V1
      rw [← hb3] at HPp V2
      have l1 : ((ps.take i).filter P1).length ≤ 3000 := Nat.le_trans (List.length_filter_le _ _) (by rw [List.length_take]; omega)
      have l2 : ((ps.take i).filter P2).length ≤ 3000 := Nat.le_trans (List.length_filter_le _ _) (by rw [List.length_take]; omega)
      obtain ⟨accO, hO⟩ : ∃ a, a = (ps.take i).filter P1 := ⟨_, rfl⟩
      obtain ⟨accL, hL⟩ : ∃ a, a = (ps.take i).filter P2 := ⟨_, rfl⟩
      rw [← hO] at TW HT1 l1
      rw [← hL] at TW HT2 l2
      have k0 : (0 : Int) ≤ (i : Int) := Int.natCast_nonneg _
      have k1 : (i : Int) < (ps.length : Int) := by omega
      have HB := Lib.hid hb
      have hcl := World.block_lt_of_cell? _ _ c0'
      clear hp c0 hb1 hb2 hb3 hO hL hb
      go_upto_region 7 with fail
      go_cut [49] (fun z49 wx => z49 = .bool (b1 || (b2 || b3)) ∧ Below wr.heap.size wr wx)
      case first =>
        cases b1 with
        | true =>
          go_wp2_with fail
          refine CN.out.mono ?_
          rintro e w' ⟨rfl, hw⟩
          obtain rfl : w' = wr := hw
          go_wp2_with fail
          go_meet
          exact ⟨rfl, Below.refl _ _⟩
        | false =>
          go_wp2_with fail
          refine CN.out.mono ?_
          rintro e w' ⟨rfl, hw⟩
          obtain rfl : w' = wr := hw
          go_wp2_with fail
          refine V1.out.mono ?_
          rintro e w6 ⟨rfl, b6⟩
          cases b2 with
          | true =>
            go_wp2_with fail
            go_meet
            exact ⟨rfl, b6⟩
          | false =>
            have V6 := Lib.hid (V2.out w6 b6)
            have HB6 := Lib.hid b6
            clear b6
            go_wp2_with fail
            refine V6.out.mono ?_
            rintro e w7 ⟨rfl, b7⟩
            have HB7 := Lib.hid (HB6.out.trans (b7.mono HB6.out.size))
            clear b7
            go_wp2_with fail
            go_meet
            exact ⟨rfl, HB7.out⟩
      case rest =>
        obtain ⟨rfl, hbw⟩ := hcut
        have TW2 := Lib.hid (TW.out.below hbw)
        obtain ⟨q, hq⟩ : ∃ q, q = (b1 || (b2 || b3)) := ⟨_, rfl⟩
        rw [← hq] at HPp ⊢
        have HBc := Lib.hid (HB.out.trans (hbw.mono HB.out.size))
        have hsc := HBc.out.size
        clear hq hbw CN V1 V2 c0'
        go_upto_if 49 with fail
        go_cut [12] (fun z12 wx => Hid (TwoS wx w4.heap.size z12 u13 (accO ++ (if q then [p] else [])) accL) ∧ Below w4.heap.size w4 wx)
        case first =>
          cases q with
          | false =>
            go_wp2_with fail
            go_meet
            exact ⟨Lib.hid (by have := TW2.out; simpa using this), HBc.out⟩
          | true =>
            have hown4 := TW2.out.a.alloc (.cells #[.string p] 9)
            have hnews := news_one wc #[.string p] 9 wc.heap.size (by simp)
            have TA := Lib.hid (TW2.out.alloc (.cells #[.string p] 9))
            have BA := Lib.hid (HBc.out.alloc hsc (.cells #[.string p] 9))
            go_wp2_with (at_builtin; refine wpList_append_own_at _ rfl _ _ 25 rfl w4.heap.size 9 i0 (.string { data := #[] }) 1 16 Tryz.underlying25 hi hz0 hz1 hz2 rfl (by decide) _ _ _ rfl hown4 ⟨wc.heap.size, 0, none⟩ 1 1 [.string p] rfl rfl hnews (by simp [Value.oneCell']) (by unfold maxLen; omega) (by omega) (by simp; omega) ?_; intro v5 w5 hown5 hg5 _ hat5)
            have T5 := Lib.hid (TA.out.grow (zs := accO ++ [p]) (by rw [str_snoc, List.length_append]; exact hown5) hg5 hat5)
            have B55 := Lib.hid (BA.out.grown hg5 (by simp; omega) (fun k hk => (TA.out.a.lt k hk).1))
            clear hown5 hg5 hat5 hown4 hnews
            go_meet
            exact ⟨Lib.hid (by have := T5.out; simpa using this), B55.out⟩
        case rest =>
          obtain ⟨T3, B3c⟩ := hcut
          have BG := Lib.hid (B4.out.trans (B3c.mono B4.out.size))
          obtain ⟨z0, z1, z2⟩ := ZZ.out wc BG.out
          have hcl3 : G < wc.heap.size := by have := hGW.out; have := BG.out.size; omega
          have GP := Lib.hid (GT.out wc BG.out p)
          obtain ⟨o, ho⟩ : ∃ o, o = getF tl p := ⟨_, rfl⟩
          rw [← ho] at GP HP2p
          have HB3 := Lib.hid B3c
          clear ho B3c
          go_wp2_with fail
          refine GP.out.mono ?_
          rintro e w8 ⟨rfl, b8⟩
          have T8 := Lib.hid (T3.out.below b8)
          have B8 := Lib.hid (HB3.out.trans (b8.mono HB3.out.size))
          have hs8 := B8.out.size
          have HO1 : Hid ((ps.take (i + 1)).filter P1 = accO ++ (if q then [p] else [])) := Lib.hid (by rw [HT1.out, HPp.out])
          clear b8 GP z0 z1 z2 T3 HB3
          cases o with
          | none =>
            have HO2 : Hid ((ps.take (i + 1)).filter P2 = accL) := Lib.hid (by rw [HT2.out, HP2p.out]; simp)
            have T9 := Lib.hid (T8.out.alloc (.cells #[.string ⟨#[]⟩, .int .i64 0, .string ⟨#[]⟩] 56))
            have B9 := Lib.hid (B8.out.alloc hs8 (.cells #[.string ⟨#[]⟩, .int .i64 0, .string ⟨#[]⟩] 56))
            rw [show gotV none = .tuple #[.agg #[.string ⟨#[]⟩, .int .i64 0, .string ⟨#[]⟩], .bool false] from rfl]
            go_wp2_with fail
            go_roundw
            case rel => exact ⟨i + 1, by omega, by go_num, Lib.hid (by rw [HO1.out, HO2.out]; exact T9.out), B9.out⟩
            case measure => simp [intOf]; omega
          | some f =>
            obtain ⟨f1, f2, f3⟩ := f
            have HO2 : Hid ((ps.take (i + 1)).filter P2 = accL ++ [p]) := Lib.hid (by rw [HT2.out, HP2p.out]; simp)
            have TA := Lib.hid ((T8.out.alloc (.cells #[.string f1, .int .i64 f2, .string f3] 56)).alloc (.cells #[.string p] 9))
            have BA := Lib.hid ((B8.out.alloc hs8 (.cells #[.string f1, .int .i64 f2, .string f3] 56)).alloc (by simp; omega) (.cells #[.string p] 9))
            have hown4 := TA.out.b
            have hnews := news_one (w8.alloc (.cells #[.string f1, .int .i64 f2, .string f3] 56)) #[.string p] 9 (w8.heap.size + 1) (by simp)
            rw [show gotV (some (f1, f2, f3)) = .tuple #[.agg #[.string f1, .int .i64 f2, .string f3], .bool true] from rfl]
            go_wp2_with (at_builtin; refine wpList_append_own_at _ rfl _ _ 25 rfl w4.heap.size 9 i0 (.string { data := #[] }) 1 16 Tryz.underlying25 hi hz0 hz1 hz2 rfl (by decide) _ _ _ rfl hown4 ⟨w8.heap.size + 1, 0, none⟩ 1 1 [.string p] rfl rfl hnews (by simp [Value.oneCell']) (by unfold maxLen; omega) (by omega) (by simp; omega) ?_; intro v5 w5 hown5 hg5 _ hat5)
            have T5 := Lib.hid ((TA.out.turn.grow (zs := accL ++ [p]) (by rw [str_snoc, List.length_append]; exact hown5) hg5 hat5).turn)
            have B55 := Lib.hid (BA.out.grown hg5 (by simp; omega) (fun k hk => (TA.out.b.lt k hk).1))
            clear hown5 hg5 hat5 hown4 hnews
            go_roundw
            case rel => exact ⟨i + 1, by omega, by go_num, Lib.hid (by rw [HO1.out, HO2.out]; exact T5.out), B55.out⟩
            case measure => simp [intOf]; omega
    · obtain rfl : i = ps.length := by omega
      rw [List.take_length] at TW
      have l1 : (ps.filter P1).length ≤ 3000 := Nat.le_trans (List.length_filter_le _ _) hlps
      have l2 : (ps.filter P2).length ≤ 3000 := Nat.le_trans (List.length_filter_le _ _) hlps
      have SL : Hid (SizedS (ps.filter P2)) := Lib.hid fun x hx => SP.out x (List.mem_filter.1 hx).1
      obtain ⟨out, hO⟩ : ∃ a, a = ps.filter P1 := ⟨_, rfl⟩
      obtain ⟨laid, hL⟩ : ∃ a, a = ps.filter P2 := ⟨_, rfl⟩
      rw [← hO] at TW l1 HV
      rw [← hL] at TW l2 HQ SL
      have HB := Lib.hid hb
      clear hO hL hb
      go_wp2_with fail
      go_loopw [12, 19, 20, 21, 69] (fun s12 _ _ _ s69 wq => ∃ i : Nat, i ≤ wk.length ∧ s69 = .int .i64 i ∧ Hid (TwoS wq w4.heap.size s12 u13 (out ++ ((wk.take i).filter Q).map (·.1)) laid) ∧ Below w4.heap.size w4 wq) (fun _ _ _ _ s69 _ => wk.length - (intOf s69).toNat)
      case atStart => exact ⟨0, Nat.zero_le _, rfl, Lib.hid (by rw [List.take_zero, List.filter_nil, List.map_nil, List.append_nil]; exact TW.out), HB.out⟩
      case round =>
        clear TW
        obtain ⟨i, hil, rfl, TW, hb⟩ := hrel
        by_cases hlt : i < wk.length
        · obtain ⟨f, hf⟩ : ∃ f, wk[i]? = some f := ⟨_, List.getElem?_eq_getElem hlt⟩
          have B5 := Lib.hid (B4.out.trans (hb.mono B4.out.size))
          obtain ⟨ad, rfl, c0, c1, c2⟩ := Fils.at_ (KV.out.below B5.out) hf
          have HT := Lib.hid (filtF_snoc (p := Q) hf)
          have HQf := Lib.hid (HQ.out f)
          have hsz := SK.out f (List.mem_of_getElem? hf)
          obtain ⟨p, m, d⟩ := f
          simp only at c0 c1 c2 HT HQf hsz
          have l3 : (((wk.take i).filter Q).map (·.1)).length ≤ 1000 := by rw [List.length_map]; exact Nat.le_trans (List.length_filter_le _ _) (by rw [List.length_take]; omega)
          obtain ⟨acc, hacc⟩ : ∃ a, a = out ++ ((wk.take i).filter Q).map (·.1) := ⟨_, rfl⟩
          have HT2 : Hid (out ++ ((wk.take (i + 1)).filter Q).map (·.1) = acc ++ (if Q (p, m, d) then [p] else [])) := Lib.hid (by rw [HT.out, hacc, List.append_assoc])
          have l4 : acc.length ≤ 4000 := by rw [hacc, List.length_append]; omega
          rw [← hacc] at TW
          obtain ⟨W5, hW5⟩ : ∃ W5, W5 = wr.alloc (.cells #[.string p, .int .i64 m, .string d] 56) := ⟨_, rfl⟩
          obtain ⟨g5, hg5⟩ : ∃ g, g = wr.heap.size := ⟨_, rfl⟩
          have k5 : W5.heap[g5]? = some (.cells #[.string p, .int .i64 m, .string d] 56 (0, 0)) := by rw [hW5, hg5]; exact heap_alloc_new wr _
          have b5 : Below wr.heap.size wr W5 := by rw [hW5]; exact (Below.refl _ _).alloc (Nat.le_refl _) _
          have T5 := Lib.hid (TW.out.below b5)
          have B55 := Lib.hid (hb.trans (b5.mono hb.size))
          have lg5 : g5 < W5.heap.size := (Array.getElem?_eq_some_iff.1 k5).1
          have q0 := cell_of_row W5 g5 0 _ 56 (0, 0) k5
          have C1 := Lib.hid (containsS_any W5 _ ps p (P4.out.below (hb.trans (b5.mono hb.size))))
          have RL := Lib.hid (Strs.of_own T5.out.b rfl)
          have C2 := Lib.hid (containsS_any W5 _ laid p RL.out)
          have FS := Lib.hid (containsFS_any W5 W5 W5.heap.size (Below.refl _ _) (Nat.le_refl _) _ laid 54 (.pointer (some ⟨g5, 0, none⟩)) (fun x => cls x.data.toList p.data.toList) RL.out SL.out enters_lost (lost_pred W5 _ g5 p hsz q0 lg5))
          have K5 := Lib.hid k5
          obtain ⟨gA, hgA⟩ : ∃ b, b = hasP ps p := ⟨_, rfl⟩
          obtain ⟨gB, hgB⟩ : ∃ b, b = hasP laid p := ⟨_, rfl⟩
          obtain ⟨gC, hgC⟩ : ∃ b, b = laid.any (fun x => cls x.data.toList p.data.toList) := ⟨_, rfl⟩
          rw [← hgA] at C1 HQf
          rw [← hgB] at C2 HQf
          rw [← hgC] at FS HQf
          have k0 : (0 : Int) ≤ (i : Int) := Int.natCast_nonneg _
          have k1 : (i : Int) < (wk.length : Int) := by omega
          obtain ⟨A13, c13, h13⟩ := own_form TW.out.b
          have hcl := World.block_lt_of_cell? _ _ c0
          clear hf hacc k5 b5 hgA hgB hgC HT l3 TW hb hsz
          subst h13
          go_upto_region 16 with fail
          rw [← hW5, ← hg5]
          clear hW5 hg5
          go_cut [20] (fun z20 wx => z20 = .bool (gA && !gB) ∧ wx = W5)
          case first =>
            cases gA with
            | false =>
              go_wp2_with fail
              refine C1.out.mono ?_
              rintro e w' ⟨rfl, hw⟩
              obtain rfl : w' = W5 := hw
              go_wp2_with fail
              go_meet
              exact ⟨rfl, rfl⟩
            | true =>
              go_wp2_with fail
              refine C1.out.mono ?_
              rintro e w' ⟨rfl, hw⟩
              obtain rfl : w' = W5 := hw
              go_wp2_with fail
              refine C2.out.mono ?_
              rintro e w'' ⟨rfl, hw⟩
              obtain rfl : w'' = w' := hw
              go_wp2_with fail
              go_meet
              exact ⟨rfl, rfl⟩
          case rest =>
            obtain ⟨rfl, rfl⟩ := hcut
            obtain ⟨gG, hgG⟩ : ∃ g, g = (gA && !gB) := ⟨_, rfl⟩
            rw [← hgG] at HQf ⊢
            clear hgG C1 C2
            go_wp2_with fail
            refine FS.out.mono ?_
            rintro e w6 ⟨rfl, b6⟩
            have T6 := Lib.hid (T5.out.below b6)
            have B6 := Lib.hid (B55.out.trans (b6.mono B55.out.size))
            have k6 := (b6.block g5 lg5).trans K5.out
            have r0 := cell_of_row w6 g5 0 _ 56 (0, 0) k6
            have lg6 : g5 < w6.heap.size := (Array.getElem?_eq_some_iff.1 k6).1
            have hs6 := B6.out.size
            clear b6 k6 FS q0
            cases gC with
            | false =>
              have HO : Hid (out ++ ((wk.take (i + 1)).filter Q).map (·.1) = acc) := Lib.hid (by rw [HT2.out, HQf.out]; simp)
              go_wp2_with fail
              go_roundw
              case rel => exact ⟨i + 1, by omega, by go_num, Lib.hid (by rw [HO.out]; exact T6.out), B6.out⟩
              case measure => simp [intOf]; omega
            | true =>
              cases gG with
              | true =>
                have HO : Hid (out ++ ((wk.take (i + 1)).filter Q).map (·.1) = acc) := Lib.hid (by rw [HT2.out, HQf.out]; simp)
                go_wp2_with fail
                go_roundw
                case rel => exact ⟨i + 1, by omega, by go_num, Lib.hid (by rw [HO.out]; exact T6.out), B6.out⟩
                case measure => simp [intOf]; omega
              | false =>
                have HO : Hid (out ++ ((wk.take (i + 1)).filter Q).map (·.1) = acc ++ [p]) := Lib.hid (by rw [HT2.out, HQf.out]; simp)
                have TA := Lib.hid (T6.out.alloc (.cells #[.string p] 9))
                have BA := Lib.hid (B6.out.alloc hs6 (.cells #[.string p] 9))
                have hown4 := TA.out.a
                have hnews := news_one w6 #[.string p] 9 w6.heap.size (by simp)
                go_wp2_with (at_builtin; refine wpList_append_own_at _ rfl _ _ 25 rfl w4.heap.size 9 i0 (.string { data := #[] }) 1 16 Tryz.underlying25 hi hz0 hz1 hz2 rfl (by decide) _ _ _ rfl hown4 ⟨w6.heap.size, 0, none⟩ 1 1 [.string p] rfl rfl hnews (by simp [Value.oneCell']) (by unfold maxLen; omega) (by omega) (by simp; omega) ?_; intro v5 w5 hown5 hg5 _ hat5)
                have T7 := Lib.hid (TA.out.grow (zs := acc ++ [p]) (by rw [str_snoc, List.length_append]; exact hown5) hg5 hat5)
                have B7 := Lib.hid (BA.out.grown hg5 (by simp; omega) (fun k hk => (TA.out.a.lt k hk).1))
                clear hown5 hg5 hat5 hown4 hnews
                go_roundw
                case rel => exact ⟨i + 1, by omega, by go_num, Lib.hid (by rw [HO.out]; exact T7.out), B7.out⟩
                case measure => simp [intOf]; omega
        · obtain rfl : i = wk.length := by omega
          rw [List.take_length] at TW
          have hq : ((wk.filter Q).map (·.1)).length ≤ 1000 := by rw [List.length_map]; exact Nat.le_trans (List.length_filter_le _ _) (by omega)
          have RI := Lib.hid (rising_own wr w4.heap.size u12 _ TW.out.a (by rw [List.length_append]; omega))
          have HBE := Lib.hid (B4.out.trans (hb.mono B4.out.size))
          have HB2 := Lib.hid hb
          clear TW hb
          go_wp2_with fail
          refine RI.out.mono ?_
          rintro e w5 ⟨u, rfl, o5, b5⟩
          have O5 := Lib.hid (own_base o5 (B' := w.heap.size) (by have := B4.out.size; have := HB1.out.size; omega))
          have B5 := Lib.hid (HB1.out.trans ((B4.out.trans ((HB2.out.trans b5).mono B4.out.size)).mono HB1.out.size))
          clear o5 b5 RI
          go_wp2_with fail
          go_ret
          exact ⟨_, rfl, by rw [HV.out]; exact O5.out, B5.out⟩
end Go.Proofs.YtdmmjfmjohliiaaGreatDoor
namespace Go.Proofs.YtdmmjfmjohliiaaGreatDoor
open Go Go.RowKit

theorem putL_memE {l : List En} {e x : En} (h : x ∈ putL l e) : x = e ∨ x ∈ l := by
  unfold putL at h
  rcases List.mem_append.1 h with h | h
  · exact .inr (List.mem_filter.1 (List.mem_filter.1 h).1).1
  · rcases List.mem_cons.1 h with h | h
    · exact .inl h
    · exact .inr (List.mem_filter.1 (List.mem_filter.1 h).1).1
theorem putL_sizedE {l : List En} {e : En} (hl : SizedE l) (he : e.1.size ≤ 1000000) : SizedE (putL l e) := fun x hx => by
  rcases putL_memE hx with rfl | h
  · exact he
  · exact hl x h
theorem dropE_rise {l : List En} (h : RiseE l) (p : ByteArray) : RiseE (dropE l p) := List.Pairwise.filter _ h
theorem dropE_sizedE {l : List En} (h : SizedE l) (p : ByteArray) : SizedE (dropE l p) := fun x hx => h x (List.mem_filter.1 hx).1
theorem dropE_lenE (l : List En) (p : ByteArray) : (dropE l p).length ≤ l.length := List.length_filter_le _ _
theorem cutF_sized {l : List Fl} (h : Sized l) (p : ByteArray) : Sized (cutF l p) := fun x hx => h x (List.mem_filter.1 hx).1
theorem putF_sized {l : List Fl} {f : Fl} (h : Sized l) (hf : f.1.size ≤ 1000000) : Sized (putF l f) := fun x hx => by
  rcases put_mem.1 hx with rfl | ⟨h1, _⟩
  · exact hf
  · exact h x h1
theorem dropI_snoc {ps : List ByteArray} {i : Nat} {p : ByteArray} (ix : List En) (h : ps[i]? = some p) : dropI (ps.take (i + 1)) ix = dropE (dropI (ps.take i) ix) p := by
  unfold dropI
  rw [take_snoc h, List.foldl_append]; rfl
theorem cutV_snoc {ps : List ByteArray} {i : Nat} {p : ByteArray} (t w : List Fl) (h : ps[i]? = some p) : cutV t (ps.take (i + 1)) w = if (getF t p).isSome then cutV t (ps.take i) w else cutF (cutV t (ps.take i) w) p := by
  unfold cutV
  rw [take_snoc h, List.foldl_append]; rfl
theorem putV_snoc {ps : List ByteArray} {i : Nat} {p : ByteArray} (t w : List Fl) (h : ps[i]? = some p) : putV t (ps.take (i + 1)) w = match getF t p with | some f => putF (putV t (ps.take i) w) f | none => putV t (ps.take i) w := by
  unfold putV
  rw [take_snoc h, List.foldl_append]; rfl
theorem putG_snoc {ps : List ByteArray} {i : Nat} {p : ByteArray} (t : List Fl) (cf : List ByteArray) (en ix : List En) (h : ps[i]? = some p) : putG t cf en (ps.take (i + 1)) ix = (nextO cf en (getF t p) p).foldl putL (putG t cf en (ps.take i) ix) := by
  unfold putG
  rw [take_snoc h, List.foldl_append]; rfl
theorem foldP_snoc {l : List En} {i : Nat} {e : En} (m : List En) (h : l[i]? = some e) : (l.take (i + 1)).foldl putL m = putL ((l.take i).foldl putL m) e := by
  rw [take_snoc h, List.foldl_append]; rfl
theorem nextO_len {cf : List ByteArray} {en : List En} {o : Option Fl} {p : ByteArray} (h : en.length ≤ 80) : (nextO cf en o p).length ≤ 80 := by
  unfold nextO
  split
  · exact Nat.le_trans (List.length_filter_le _ _) h
  · cases o <;> simp
theorem nextO_sized {cf : List ByteArray} {en : List En} {o : Option Fl} {p : ByteArray} (h : SizedE en) (ho : ∀ f, o = some f → f.1.size ≤ 1000000) : SizedE (nextO cf en o p) := fun x hx => by
  unfold nextO at hx
  split at hx
  · exact h x (List.mem_filter.1 hx).1
  · cases o with
    | none => cases hx
    | some f =>
      obtain rfl := List.mem_singleton.1 hx
      exact ho f rfl
theorem opt_flZ (o : Option Fl) : (if o.isSome then some (flZ o) else none) = o := by cases o <;> rfl
end Go.Proofs.YtdmmjfmjohliiaaGreatDoor
namespace Go.Proofs.YtdmmjfmjohliiaaGreatDoor
open Go.RowKit

set_option maxRecDepth 100000 in
set_option maxHeartbeats 4000000 in
theorem put_any (w : World) (v : Value) (l : List Fl) (f : Fl) (h : Reads 3 cF w v l) (hr : RiseF l) (hl : l.length ≤ 10000) :
    Calls Tryz.prog 38 #[v, .agg #[.string f.1, .int .i64 f.2.1, .string f.2.2]] w (OwnTo 56 3 cF (putF l f) w) := by
  obtain ⟨p, m, d⟩ := f
  obtain ⟨W1, hW1⟩ : ∃ W1, W1 = w.alloc (.cells #[.string p, .int .i64 m, .string d] 56) := ⟨_, rfl⟩
  have B1 : Below w.heap.size w W1 := by rw [hW1]; exact (Below.refl _ _).alloc (Nat.le_refl _) _
  obtain ⟨G, hG⟩ : ∃ G, G = w.heap.size := ⟨_, rfl⟩
  have K1 : W1.heap[G]? = some (.cells #[.string p, .int .i64 m, .string d] 56 (0, 0)) := by rw [hW1, hG]; exact heap_alloc_new w _
  have R1 := h.below B1
  have FN := Lib.hid (find_any W1 v l p R1 hr (by omega))
  obtain ⟨A, c, rfl⟩ := h.form
  have hlen := h.len
  have d0 := cell_of_row W1 G 0 _ 56 (0, 0) K1
  have HR1 := Lib.hid R1
  have HB1 := Lib.hid B1
  have HRI := Lib.hid hr
  have HK := Lib.hid K1
  have B1s := B1.size
  clear h R1 hr B1 K1
  go_enter Tryz.func38, Tryz.ntmps38
  go_wp2_with fail
  rw [← hW1, ← hG]
  clear hW1
  have HG := Lib.hid hG
  clear hG
  refine FN.out.mono ?_
  rintro e w2 ⟨i, b, rfl, b2, hi, hs, h1, h2⟩
  have R2 := Lib.hid (HR1.out.below b2)
  have hGl : G < W1.heap.size := (Array.getElem?_eq_some_iff.1 HK.out).1
  have K2 : w2.heap[G]? = some (.cells #[.string p, .int .i64 m, .string d] 56 (0, 0)) := (b2.block G hGl).trans HK.out
  have z0 : w2.drew.cell? ⟨G, 0, none⟩ = some (.string p) ∧ w2.drew.cell? ⟨G, 1, none⟩ = some (.int .i64 m) ∧ w2.drew.cell? ⟨G, 2, none⟩ = some (.string d) :=
    ⟨cell_of_row w2 G 0 _ 56 (0, 0) K2, cell_of_row w2 G 1 _ 56 (0, 0) K2, cell_of_row w2 G 2 _ 56 (0, 0) K2⟩
  have ZZ := Lib.hid fun W (hW : Below w2.heap.size w2 W) => (show W.cell? ⟨G, 0, none⟩ = some (.string p) ∧ W.cell? ⟨G, 1, none⟩ = some (.int .i64 m) ∧ W.cell? ⟨G, 2, none⟩ = some (.string d) from
    ⟨cell_of_row W G 0 _ 56 (0, 0) ((hW.block G (Array.getElem?_eq_some_iff.1 K2).1).trans K2), cell_of_row W G 1 _ 56 (0, 0) ((hW.block G (Array.getElem?_eq_some_iff.1 K2).1).trans K2), cell_of_row W G 2 _ 56 (0, 0) ((hW.block G (Array.getElem?_eq_some_iff.1 K2).1).trans K2)⟩)
  have BB := Lib.hid fun (o1 o2 : Obj) (W : World) (hW : Below ((w2.alloc o1).alloc o2).drew.heap.size ((w2.alloc o1).alloc o2).drew W) => (show Below w2.heap.size w2 W from Below.trans ((((Below.refl _ _).alloc (Nat.le_refl _) _).alloc (by simp) _).drew) (hW.mono (by simp; omega)))
  have B2 := Lib.hid (HB1.out.trans (b2.mono B1s))
  have hGw : G < w2.heap.size := (Array.getElem?_eq_some_iff.1 K2).1
  have i0 : (0 : Int) ≤ (i : Int) := Int.natCast_nonneg _
  have hic : i ≤ c := by omega
  have hi1 : (i : Int) ≤ (l.length : Int) := by omega
  have hi2 : (i : Int) ≤ (c : Int) := by omega
  have hcm : c ≤ 9223372036854775807 := by have := hlen.2.2; unfold maxLen at this; omega
  clear FN K2 b2 d0 HR1 HK hGl
  cases b with
  | false =>
    have HP := Lib.hid (put_none (f := (p, m, d)) hs (h2 rfl))
    have CT := Lib.hid (put_core w2 A c l p d m i i R2.out (Nat.le_refl i) hi (by omega))
    by_cases hci : c = i
    · rw [if_pos hci] at CT
      have hct : (c = i) = True := eq_true hci
      clear hci
      clear h1 h2 hs
      go_wp2_with fail
      go_region_held3 (fun w' => w'.cell? ⟨G, 0, none⟩ = some (.string p) ∧ w'.cell? ⟨G, 1, none⟩ = some (.int .i64 m) ∧ w'.cell? ⟨G, 2, none⟩ = some (.string d)) (first | exact z0 | exact z5 | exact ZZ.out _ (((Below.refl _ _).alloc (Nat.le_refl _) _).drew) | exact ZZ.out _ ((((Below.refl _ _).alloc (Nat.le_refl _) _).alloc (by simp) _).drew))
        ((go_at_call 84; refine (CT.out (World.drew _) (fun _ => rfl)).mono ?_; rintro e w5 ⟨v5, rfl, o5, b5⟩; have b6 := BB.out _ _ _ b5; have z5 := ZZ.out _ b6))
      have B6 := Lib.hid (B2.out.trans (b6.mono B2.out.size))
      have O6 := Lib.hid (own_base o5 (B' := w.heap.size) (by have := B2.out.size; simp; omega))
      clear o5 b5 b6 z0 z5
      go_wp2_with fail
      go_ret
      exact ⟨_, rfl, by rw [HP.out]; exact O6.out, B6.out⟩
    · rw [if_neg hci] at CT
      clear h1 h2 hs
      go_wp2_with fail
      go_region_held3 (fun w' => w'.cell? ⟨G, 0, none⟩ = some (.string p) ∧ w'.cell? ⟨G, 1, none⟩ = some (.int .i64 m) ∧ w'.cell? ⟨G, 2, none⟩ = some (.string d)) (first | exact z0 | exact z5 | exact ZZ.out _ (((Below.refl _ _).alloc (Nat.le_refl _) _).drew) | exact ZZ.out _ ((((Below.refl _ _).alloc (Nat.le_refl _) _).alloc (by simp) _).drew))
        ((go_at_call 84; refine (CT.out (World.drew _) (fun _ => rfl)).mono ?_; rintro e w5 ⟨v5, rfl, o5, b5⟩; have b6 := BB.out _ _ _ b5; have z5 := ZZ.out _ b6))
      have B6 := Lib.hid (B2.out.trans (b6.mono B2.out.size))
      have O6 := Lib.hid (own_base o5 (B' := w.heap.size) (by have := B2.out.size; simp; omega))
      clear o5 b5 b6 z0 z5
      go_wp2_with fail
      go_ret
      exact ⟨_, rfl, by rw [HP.out]; exact O6.out, B6.out⟩
  | true =>
    obtain ⟨g, hg, hgf⟩ := h1 rfl
    have hil := (List.getElem?_eq_some_iff.1 hg).1
    have HP := Lib.hid (put_some (f := (p, m, d)) HRI.out hs hg hgf)
    have CT := Lib.hid (put_core w2 A c l p d m i (i + 1) R2.out (Nat.le_succ i) hil (by omega))
    have hw1 : IntKind.i64.wrap ((i : Int) + 1) = (i : Int) + 1 := by rw [IntKind.wrap_i64] <;> omega
    have htn : ((i : Int) + 1).toNat = i + 1 := by omega
    have hj0 : (0 : Int) ≤ (i : Int) + 1 := by omega
    have hj1 : (i : Int) + 1 ≤ (l.length : Int) := by omega
    have hj2 : (i : Int) + 1 ≤ (c : Int) := by omega
    clear hg hgf
    by_cases hci : c = i + 1
    · rw [if_pos hci] at CT
      have hct : (c = i + 1) = True := eq_true hci
      clear hci
      clear h1 h2 hs
      go_wp2_with fail
      go_region_held3 (fun w' => w'.cell? ⟨G, 0, none⟩ = some (.string p) ∧ w'.cell? ⟨G, 1, none⟩ = some (.int .i64 m) ∧ w'.cell? ⟨G, 2, none⟩ = some (.string d)) (first | exact z0 | exact z5 | exact ZZ.out _ (((Below.refl _ _).alloc (Nat.le_refl _) _).drew) | exact ZZ.out _ ((((Below.refl _ _).alloc (Nat.le_refl _) _).alloc (by simp) _).drew))
        ((go_at_call 84; refine (CT.out (World.drew _) (fun _ => rfl)).mono ?_; rintro e w5 ⟨v5, rfl, o5, b5⟩; have b6 := BB.out _ _ _ b5; have z5 := ZZ.out _ b6))
      have B6 := Lib.hid (B2.out.trans (b6.mono B2.out.size))
      have O6 := Lib.hid (own_base o5 (B' := w.heap.size) (by have := B2.out.size; simp; omega))
      clear o5 b5 b6 z0 z5
      go_wp2_with fail
      go_ret
      exact ⟨_, rfl, by rw [HP.out]; exact O6.out, B6.out⟩
    · rw [if_neg hci] at CT
      clear h1 h2 hs
      go_wp2_with fail
      go_region_held3 (fun w' => w'.cell? ⟨G, 0, none⟩ = some (.string p) ∧ w'.cell? ⟨G, 1, none⟩ = some (.int .i64 m) ∧ w'.cell? ⟨G, 2, none⟩ = some (.string d)) (first | exact z0 | exact z5 | exact ZZ.out _ (((Below.refl _ _).alloc (Nat.le_refl _) _).drew) | exact ZZ.out _ ((((Below.refl _ _).alloc (Nat.le_refl _) _).alloc (by simp) _).drew))
        ((go_at_call 84; refine (CT.out (World.drew _) (fun _ => rfl)).mono ?_; rintro e w5 ⟨v5, rfl, o5, b5⟩; have b6 := BB.out _ _ _ b5; have z5 := ZZ.out _ b6))
      have B6 := Lib.hid (B2.out.trans (b6.mono B2.out.size))
      have O6 := Lib.hid (own_base o5 (B' := w.heap.size) (by have := B2.out.size; simp; omega))
      clear o5 b5 b6 z0 z5
      go_wp2_with fail
      go_ret
      exact ⟨_, rfl, by rw [HP.out]; exact O6.out, B6.out⟩
end Go.Proofs.YtdmmjfmjohliiaaGreatDoor
namespace Go.Proofs.YtdmmjfmjohliiaaGreatDoor
open Go Go.RowKit

/-- What Apply tells. -/
def ApplyTo (h tl : List Fl) (cf : List ByteArray) (en ix : List En) (wk : List Fl) (w : World) (e : Ending) (w' : World) : Prop :=
  (lostV h tl cf ix wk ≠ [] ∧ ∃ (u1 u2 : Value) (F : Nat), e = .returned (.tuple #[u1, u2, .iface 77 (.pointer (some ⟨F, 0, none⟩))]) ∧ Reads 6 cE w' u1 ix ∧ Reads 3 cF w' u2 wk ∧ Below w.heap.size w w') ∨
  (lostV h tl cf ix wk = [] ∧ ∃ u1 u2 : Value, e = .returned (.tuple #[u1, u2, .nilIface]) ∧
    Reads 6 cE w' u1 (putG tl cf en (touchedV cf h tl) (dropI (touchedV cf h tl) ix)) ∧
    Reads 3 cF w' u2 (putV tl (touchedV cf h tl) (cutV tl (touchedV cf h tl) wk)) ∧ Below w.heap.size w w')

set_option maxRecDepth 100000 in
set_option maxHeartbeats 8000000 in
theorem apply_any (w : World) (v t E c ixv wv : Value) (h tl wk : List Fl) (cf : List ByteArray) (en ix : List En)
    (hv : Reads 3 cF w v h) (tv : Reads 3 cF w t tl) (ev : Reads 6 cE w E en) (cv : Strs w c cf) (iv : Reads 6 cE w ixv ix) (kv : Reads 3 cF w wv wk)
    (rh : RiseF h) (rt : RiseF tl) (ri : RiseE ix) (rk : RiseF wk)
    (lh : h.length ≤ 80) (lt : tl.length ≤ 80) (lc : cf.length ≤ 40) (le : en.length ≤ 80) (li : ix.length ≤ 80) (lk : wk.length ≤ 80)
    (sp : SizedS (touchedV cf h tl)) (sk : Sized wk) (st : Sized tl) (se : SizedE en) (si : SizedE ix) :
    Calls Tryz.prog 12 #[v, .agg #[t, E, c], ixv, wv] w (ApplyTo h tl cf en ix wk w) := by
  obtain ⟨W1, hW1⟩ : ∃ W1, W1 = w.alloc (.cells #[t, E, c] 27) := ⟨_, rfl⟩
  have B1 : Below w.heap.size w W1 := by rw [hW1]; exact (Below.refl _ _).alloc (Nat.le_refl _) _
  obtain ⟨G, hG⟩ : ∃ G, G = w.heap.size := ⟨_, rfl⟩
  have K1 : W1.heap[G]? = some (.cells #[t, E, c] 27 (0, 0)) := by rw [hW1, hG]; exact heap_alloc_new w _
  have hGl : G < W1.heap.size := (Array.getElem?_eq_some_iff.1 K1).1
  have LO := Lib.hid (lost_any W1 v t E c ixv wv h tl wk cf ix (hv.below B1) (tv.below B1) (cv.below B1) (iv.below B1) (kv.below B1) rh rt ri rk (by omega) (by omega) (by omega) (by omega) (by omega) sp sk)
  have C1 := Lib.hid fun W (hW : Below W1.heap.size W1 W) => cloneE_any W ixv ix ((iv.below B1).below hW) (by omega)
  have C2 := Lib.hid fun W (hW : Below W1.heap.size W1 W) => cloneF_any W wv wk ((kv.below B1).below hW) (by omega)
  have TO := Lib.hid fun W (hW : Below W1.heap.size W1 W) => touched_any W v t E c h tl cf ((hv.below B1).below hW) ((tv.below B1).below hW) ((cv.below B1).below hW) rh rt (by omega) (by omega) (by omega)
  have GT := Lib.hid fun W (hW : Below W1.heap.size W1 W) p => get_any W t tl p ((tv.below B1).below hW) rt (by omega)
  have NX := Lib.hid fun W (hW : Below W1.heap.size W1 W) x b p => next_any W t E c x b p en cf ((ev.below B1).below hW) ((cv.below B1).below hW) se (by omega)
  have HLP := Lib.hid (touched_len cf h tl)
  have SP := Lib.hid sp
  have SE := Lib.hid se
  have ST := Lib.hid st
  have SK := Lib.hid sk
  have SI := Lib.hid si
  have RK := Lib.hid rk
  have RI := Lib.hid ri
  have RT := Lib.hid rt
  have ZZ := Lib.hid fun W (hW : Below W1.heap.size W1 W) => (show W.cell? ⟨G, 0, none⟩ = some t ∧ W.cell? ⟨G, 1, none⟩ = some E ∧ W.cell? ⟨G, 2, none⟩ = some c from
    ⟨cell_of_row W G 0 _ 27 (0, 0) ((hW.block G hGl).trans K1), cell_of_row W G 1 _ 27 (0, 0) ((hW.block G hGl).trans K1), cell_of_row W G 2 _ 27 (0, 0) ((hW.block G hGl).trans K1)⟩)
  obtain ⟨L, hL⟩ : ∃ L, L = lostV h tl cf ix wk := ⟨_, rfl⟩
  obtain ⟨ps, hps⟩ : ∃ ps, ps = touchedV cf h tl := ⟨_, rfl⟩
  unfold ApplyTo
  rw [← hL] at LO
  rw [← hps] at TO HLP SP
  rw [← hL, ← hps]
  have HB1 := Lib.hid B1
  have hlps : ps.length ≤ 200 := by have := HLP.out; omega
  obtain ⟨z0, z1, z2⟩ := ZZ.out W1 (Below.refl _ _)
  have hGW := Lib.hid (show G < W1.heap.size from hGl)
  obtain ⟨Ai, ci, rfl⟩ := iv.form
  obtain ⟨Ak, ck, rfl⟩ := kv.form
  obtain ⟨Ah, ch, rfl⟩ := hv.form
  obtain ⟨At, ct, rfl⟩ := tv.form
  clear hv tv ev cv iv kv rh rt ri rk sp sk st se si K1 B1 hps hL HLP
  go_enter Tryz.func12, Tryz.ntmps12
  go_wp2_with fail
  rw [← hW1, ← hG]
  clear hW1 hG
  refine LO.out.mono ?_
  rintro e w2 ⟨v2, rfl, o2, b2⟩
  have B2 := Lib.hid b2
  obtain ⟨A2, c2, rfl⟩ := own_form o2
  have D1 := Lib.hid (C1.out w2 b2)
  have hLm : L.length ≤ 9223372036854775807 := by have := (own_len o2).2; unfold maxLen at this; omega
  clear o2 b2 LO C1 z0 z1 z2
  go_wp2_with fail
  refine D1.out.mono ?_
  rintro e w3 ⟨v3, rfl, o3, b3⟩
  have B3 := Lib.hid (B2.out.trans (b3.mono B2.out.size))
  have R3 := Lib.hid (Reads.of_own cE_len o3)
  have D2 := Lib.hid (C2.out w3 B3.out)
  obtain ⟨A3, c3, rfl⟩ := own_form o3
  clear o3 b3 D1 C2 B2
  go_wp2_with fail
  refine D2.out.mono ?_
  rintro e w4 ⟨v4, rfl, o4, b4⟩
  have B4 := Lib.hid (B3.out.trans (b4.mono B3.out.size))
  have R4 := Lib.hid (R3.out.below b4)
  have Q4 := Lib.hid (Reads.of_own cF_len o4)
  obtain ⟨A4, c4, rfl⟩ := own_form o4
  clear o4 b4 D2 B3 R3
  cases L with
  | cons l0 lr =>
    have hpos : (0 : Int) < (((l0 :: lr).length : Nat) : Int) := by have : 0 < (l0 :: lr).length := Nat.succ_pos _; omega
    have HBF := Lib.hid (HB1.out.trans ((B4.out.alloc B4.out.size (.cells #[.string ⟨#[112, 97, 116, 104]⟩, .int .i64 (((l0 :: lr).length : Nat) : Int), .iface 78 (.int .i64 8)] 80)).mono HB1.out.size))
    obtain ⟨nl, hnl⟩ : ∃ n, n = (l0 :: lr).length := ⟨_, rfl⟩
    rw [← hnl] at hpos HBF ⊢
    clear hnl hLm
    go_wp2_with fail
    go_ret3
    exact .inl ⟨by simp, _, _, _, rfl, R4.out.alloc _, Q4.out.alloc _, HBF.out⟩
  | nil =>
    have T4 := Lib.hid (TO.out w4 B4.out)
    obtain ⟨z0, z1, z2⟩ := ZZ.out w4 B4.out
    have hGl4 : G < w4.heap.size := by have := hGW.out; have := B4.out.size; omega
    clear TO hLm
    go_wp2_with fail
    refine T4.out.mono ?_
    rintro e w5 ⟨v5, rfl, o5, b5⟩
    have B5 := Lib.hid (B4.out.trans (b5.mono B4.out.size))
    have R5 := Lib.hid (R4.out.below b5)
    have Q5 := Lib.hid (Q4.out.below b5)
    have P5 := Lib.hid (Strs.of_own o5 rfl)
    obtain ⟨A5, c5, rfl⟩ := own_form o5
    clear o5 b5 T4 B4 R4 Q4 z0 z1 z2 hGl4
    go_wp2_with fail
    go_loopw [2, 3, 14, 15, 16, 47] (fun s2 s3 _ _ _ s47 wr => ∃ (i : Nat) (ax : List En) (aw : List Fl), i ≤ ps.length ∧ s47 = .int .i64 i ∧ Hid (Reads 6 cE wr s2 ax) ∧ Hid (Reads 3 cF wr s3 aw) ∧ Hid (ax = dropI (ps.take i) ix) ∧ Hid (aw = cutV tl (ps.take i) wk) ∧ Hid (RiseE ax) ∧ Hid (SizedE ax) ∧ Hid (Sized aw) ∧ ax.length ≤ 80 ∧ aw.length ≤ 80 ∧ Below w5.heap.size w5 wr) (fun _ _ _ _ _ s47 _ => ps.length - (intOf s47).toNat)
    case atStart => exact ⟨0, ix, wk, Nat.zero_le _, rfl, R5, Q5, Lib.hid rfl, Lib.hid rfl, RI, SI, SK, li, lk, Below.refl _ _⟩
    case round =>
      clear R5 Q5
      obtain ⟨i, ax, aw, hil, rfl, RA, RW, EA, EW, HR, HS, HZ, la, lw, hb⟩ := hrel
      by_cases hlt : i < ps.length
      · obtain ⟨ad, p, rfl, hp, c0⟩ := strs_at P5.out hlt
        have c0' := (hb.cell (World.block_lt_of_cell? _ _ c0)).trans c0
        have BR := Lib.hid (B5.out.trans (hb.mono B5.out.size))
        have EA1 := Lib.hid (show dropI (ps.take (i + 1)) ix = dropE ax p by rw [EA.out]; exact dropI_snoc ix hp)
        have EW1 := Lib.hid (show cutV tl (ps.take (i + 1)) wk = if (getF tl p).isSome then aw else cutF aw p by rw [EW.out]; exact cutV_snoc tl wk hp)
        have DR := Lib.hid (drop_any wr _ ax p RA.out HS.out (by omega))
        have GP := Lib.hid fun W (hW : Below wr.heap.size wr W) => GT.out W (BR.out.trans (hW.mono BR.out.size)) p
        have CU := Lib.hid fun W (hW : Below wr.heap.size wr W) => cut_any W _ aw p (RW.out.below hW) HZ.out (by omega)
        obtain ⟨o, ho⟩ : ∃ o, o = getF tl p := ⟨_, rfl⟩
        rw [← ho] at GP EW1
        have k0 : (0 : Int) ≤ (i : Int) := Int.natCast_nonneg _
        have k1 : (i : Int) < (ps.length : Int) := by omega
        have HB := Lib.hid hb
        have hcl := World.block_lt_of_cell? _ _ c0'
        have l1 := dropE_lenE ax p
        have l2 := cut_len aw p
        have HR1 := Lib.hid (dropE_rise HR.out p)
        have HS1 := Lib.hid (dropE_sizedE HS.out p)
        have HZ1 := Lib.hid (cutF_sized HZ.out p)
        obtain ⟨A8, c8, rfl⟩ := RA.out.form
        obtain ⟨A9, c9, rfl⟩ := RW.out.form
        clear hp c0 ho hb
        go_wp2_with fail
        refine DR.out.mono ?_
        rintro e w6 ⟨v6, rfl, r6, b6, -⟩
        have R6 := Lib.hid r6
        have B6 := Lib.hid b6
        have G6 := Lib.hid (GP.out w6 b6)
        obtain ⟨z0, z1, z2⟩ := ZZ.out w6 (BR.out.trans (b6.mono BR.out.size))
        have hG6 : G < w6.heap.size := by have := hGW.out; have := BR.out.size; have := b6.size; omega
        obtain ⟨A6, c6, rfl⟩ := r6.form
        clear r6 b6 DR GP c0'
        go_wp2_with fail
        refine G6.out.mono ?_
        rintro e w7 ⟨rfl, b7⟩
        have R7 := Lib.hid (R6.out.below b7)
        have B7 := Lib.hid (B6.out.trans (b7.mono B6.out.size))
        have hs7 := B7.out.size
        clear b7 G6 R6 B6 z0 z1 z2
        cases o with
        | none =>
          have EW2 : Hid (cutF aw p = cutV tl (ps.take (i + 1)) wk) := Lib.hid (by rw [EW1.out]; rfl)
          have R8 := Lib.hid (R7.out.alloc (.cells #[.string ⟨#[]⟩, .int .i64 0, .string ⟨#[]⟩] 56))
          have B8 := Lib.hid (B7.out.alloc hs7 (.cells #[.string ⟨#[]⟩, .int .i64 0, .string ⟨#[]⟩] 56))
          have CU8 := Lib.hid (CU.out _ B8.out)
          rw [show gotV none = .tuple #[.agg #[.string ⟨#[]⟩, .int .i64 0, .string ⟨#[]⟩], .bool false] from rfl]
          clear R7 B7 CU
          go_wp2_with fail
          refine CU8.out.mono ?_
          rintro e w9 ⟨v9, rfl, r9, b9⟩
          have R9 := Lib.hid (R8.out.below b9)
          have Q9 := Lib.hid r9
          have B9 := Lib.hid (HB.out.trans ((B8.out.trans (b9.mono B8.out.size)).mono HB.out.size))
          clear r9 b9 CU8
          go_wp2_with fail
          go_roundw
          case rel => exact ⟨i + 1, _, _, by omega, by go_num, R9, Q9, Lib.hid EA1.out.symm, EW2, HR1, HS1, HZ1, by omega, by omega, B9.out⟩
          case measure => simp [intOf]; omega
        | some f =>
          obtain ⟨f1, f2, f3⟩ := f
          have EW2 : Hid (aw = cutV tl (ps.take (i + 1)) wk) := Lib.hid (by rw [EW1.out]; rfl)
          have R8 := Lib.hid (R7.out.alloc (.cells #[.string f1, .int .i64 f2, .string f3] 56))
          have B8 := Lib.hid (B7.out.alloc hs7 (.cells #[.string f1, .int .i64 f2, .string f3] 56))
          have Q8 := Lib.hid (RW.out.below B8.out)
          have B9 := Lib.hid (HB.out.trans (B8.out.mono HB.out.size))
          rw [show gotV (some (f1, f2, f3)) = .tuple #[.agg #[.string f1, .int .i64 f2, .string f3], .bool true] from rfl]
          clear R7 B7 CU
          go_wp2_with fail
          go_roundw
          case rel => exact ⟨i + 1, _, _, by omega, by go_num, R8, Q8, Lib.hid EA1.out.symm, EW2, HR1, HS1, HZ, by omega, by omega, B9.out⟩
          case measure => simp [intOf]; omega
      · obtain rfl : i = ps.length := by omega
        rw [List.take_length] at EA EW
        have RAW := Lib.hid (show RiseF aw by rw [EW.out]; exact (cutV_get tl ps wk RK.out).1)
        have B5b := Lib.hid hb
        obtain ⟨A8, c8, rfl⟩ := RA.out.form
        obtain ⟨A9, c9, rfl⟩ := RW.out.form
        clear hb HZ
        go_wp2_with fail
        go_loopw [2, 3, 18, 19, 20, 22, 69] (fun s2 s3 _ _ _ _ s69 wq => ∃ (i : Nat) (bx : List En) (bw : List Fl), i ≤ ps.length ∧ s69 = .int .i64 i ∧ Hid (Reads 6 cE wq s2 bx) ∧ Hid (Reads 3 cF wq s3 bw) ∧ Hid (bx = putG tl cf en (ps.take i) ax) ∧ Hid (bw = putV tl (ps.take i) aw) ∧ Hid (RiseE bx) ∧ Hid (SizedE bx) ∧ Hid (RiseF bw) ∧ bx.length ≤ 80 + i * 80 ∧ bw.length ≤ 80 + i ∧ Below w5.heap.size w5 wq) (fun _ _ _ _ _ _ s69 _ => ps.length - (intOf s69).toNat)
        case atStart => exact ⟨0, ax, aw, Nat.zero_le _, rfl, RA, RW, Lib.hid rfl, Lib.hid rfl, HR, HS, RAW, by omega, by omega, B5b.out⟩
        case round =>
          clear RA RW HR HS RAW B5b
          obtain ⟨i, bx, bw, hil, rfl, RA, RW, EB, EV, HR, HS, HF, lb, lw2, hb⟩ := hrel
          by_cases hlt : i < ps.length
          · obtain ⟨ad, p, rfl, hp, c0⟩ := strs_at P5.out hlt
            have c0' := (hb.cell (World.block_lt_of_cell? _ _ c0)).trans c0
            have BR := Lib.hid (B5.out.trans (hb.mono B5.out.size))
            have EB1 := Lib.hid (show putG tl cf en (ps.take (i + 1)) ax = (nextO cf en (getF tl p) p).foldl putL bx by rw [EB.out]; exact putG_snoc tl cf en ax hp)
            have EV1 := Lib.hid (show putV tl (ps.take (i + 1)) aw = match getF tl p with | some f => putF bw f | none => bw by rw [EV.out]; exact putV_snoc tl aw hp)
            have GP := Lib.hid (GT.out wr BR.out p)
            have NXp := Lib.hid fun W (hW : Below wr.heap.size wr W) x b => NX.out W (BR.out.trans (hW.mono BR.out.size)) x b p
            have PU := Lib.hid fun W (hW : Below wr.heap.size wr W) f => put_any W _ bw f (RW.out.below hW) HF.out (by omega)
            have HNL := Lib.hid (nextO_len (cf := cf) (o := getF tl p) (p := p) le)
            have HNS := Lib.hid (nextO_sized (cf := cf) (o := getF tl p) (p := p) SE.out (fun f hf => ST.out f (getF_mem hf)))
            obtain ⟨o, ho⟩ : ∃ o, o = getF tl p := ⟨_, rfl⟩
            rw [← ho] at GP EB1 EV1 HNL HNS
            have HO := Lib.hid (opt_flZ o)
            unfold Got at GP
            rw [gotV_flZ] at GP
            obtain ⟨x, hx⟩ : ∃ x, x = flZ o := ⟨_, rfl⟩
            obtain ⟨xb, hxb⟩ : ∃ q, q = o.isSome := ⟨_, rfl⟩
            rw [← hx, ← hxb] at GP HO
            obtain ⟨x1, x2, x3⟩ := x
            have NXq := Lib.hid fun W (hW : Below wr.heap.size wr W) => NXp.out W hW (x1, x2, x3) xb
            rw [HO.out] at NXq
            obtain ⟨nl, hnl⟩ : ∃ l, l = nextO cf en o p := ⟨_, rfl⟩
            rw [← hnl] at NXq EB1 HNL HNS
            have k0 : (0 : Int) ≤ (i : Int) := Int.natCast_nonneg _
            have k1 : (i : Int) < (ps.length : Int) := by omega
            have HB := Lib.hid hb
            have hcl := World.block_lt_of_cell? _ _ c0'
            obtain ⟨z0, z1, z2⟩ := ZZ.out wr BR.out
            have hGr : G < wr.heap.size := by have := hGW.out; have := BR.out.size; omega
            obtain ⟨A8, c8, rfl⟩ := RA.out.form
            obtain ⟨A9, c9, rfl⟩ := RW.out.form
            clear hp c0 ho hb hx hxb hnl NXp
            go_wp2_with fail
            refine GP.out.mono ?_
            rintro e w6 ⟨rfl, b6⟩
            obtain ⟨W7, hW7⟩ : ∃ W7, W7 = w6.alloc (.cells #[.string x1, .int .i64 x2, .string x3] 56) := ⟨_, rfl⟩
            obtain ⟨g7, hg7⟩ : ∃ g, g = w6.heap.size := ⟨_, rfl⟩
            have k7 : W7.heap[g7]? = some (.cells #[.string x1, .int .i64 x2, .string x3] 56 (0, 0)) := by rw [hW7, hg7]; exact heap_alloc_new w6 _
            have b7 : Below wr.heap.size wr W7 := by rw [hW7]; exact b6.alloc b6.size _
            have lg7 : g7 < W7.heap.size := (Array.getElem?_eq_some_iff.1 k7).1
            have QQ := Lib.hid fun W (hW : Below W7.heap.size W7 W) => (show W.cell? ⟨g7, 0, none⟩ = some (.string x1) ∧ W.cell? ⟨g7, 1, none⟩ = some (.int .i64 x2) ∧ W.cell? ⟨g7, 2, none⟩ = some (.string x3) from
              ⟨cell_of_row W g7 0 _ 56 (0, 0) ((hW.block g7 lg7).trans k7), cell_of_row W g7 1 _ 56 (0, 0) ((hW.block g7 lg7).trans k7), cell_of_row W g7 2 _ 56 (0, 0) ((hW.block g7 lg7).trans k7)⟩)
            have B7 := Lib.hid b7
            have PU7 := Lib.hid (PU.out W7 b7 (x1, x2, x3))
            have RA7 := Lib.hid (RA.out.below b7)
            have RW7 := Lib.hid (RW.out.below b7)
            clear b6 b7 k7 GP PU RA RW z0 z1 z2 hGr c0' hcl
            go_upto_if 80 with fail
            rw [← hW7, ← hg7]
            clear hW7 hg7
            go_cut [3] (fun z3 wx => ∃ bw', Hid (Reads 3 cF wx z3 bw') ∧ Hid (bw' = putV tl (ps.take (i + 1)) aw) ∧ Hid (RiseF bw') ∧ bw'.length ≤ 80 + (i + 1) ∧ Below W7.heap.size W7 wx)
            case first =>
              cases xb with
              | false =>
                have EV2 : Hid (bw = putV tl (ps.take (i + 1)) aw) := Lib.hid (by rw [EV1.out, ← HO.out]; rfl)
                go_wp2_with fail
                go_meet
                exact ⟨bw, RW7, EV2, HF, by omega, Below.refl _ _⟩
              | true =>
                have EV2 : Hid (putF bw (x1, x2, x3) = putV tl (ps.take (i + 1)) aw) := Lib.hid (by rw [EV1.out, ← HO.out]; rfl)
                obtain ⟨q0, q1, q2⟩ := QQ.out W7 (Below.refl _ _)
                have HF2 := Lib.hid (put_rise HF.out (x1, x2, x3))
                have hpl := put_len bw (x1, x2, x3)
                go_wp2_with fail
                refine PU7.out.mono ?_
                rintro e w8 ⟨v8, rfl, o8, b8⟩
                have R8 := Lib.hid (Reads.of_own cF_len o8)
                have B8 := Lib.hid b8
                obtain ⟨A, c, rfl⟩ := own_form o8
                clear o8 b8 PU7 q0 q1 q2
                go_wp2_with fail
                go_meet
                exact ⟨_, R8, EV2, HF2, by omega, B8.out⟩
            case rest =>
              obtain ⟨bw2, RW2, EV2, HF2, lw3, bc⟩ := hcut
              have BC := Lib.hid (B7.out.trans (bc.mono B7.out.size))
              have BC5 := Lib.hid (HB.out.trans (BC.out.mono HB.out.size))
              obtain ⟨z0, z1, z2⟩ := ZZ.out wc (BR.out.trans (BC.out.mono BR.out.size))
              obtain ⟨q0, q1, q2⟩ := QQ.out wc bc
              have hGc : G < wc.heap.size := by have := hGW.out; have := BR.out.size; have := BC.out.size; omega
              have hgc : g7 < wc.heap.size := by have := bc.size; omega
              have RA8 := Lib.hid (RA7.out.below bc)
              have N8 := Lib.hid (NXq.out wc BC.out)
              obtain ⟨A9, c9, rfl⟩ := RW2.out.form
              clear bc RA7 NXq PU7 QQ RW7 HF EV
              go_wp2_with fail
              refine N8.out.mono ?_
              rintro e w8 ⟨v8, rfl, r8, b8⟩
              have RN := Lib.hid r8
              have RA9 := Lib.hid (RA8.out.below b8)
              have RW9 := Lib.hid (RW2.out.below b8)
              have B9 := Lib.hid (BC5.out.trans (b8.mono BC5.out.size))
              obtain ⟨An, cn, rfl⟩ := r8.form
              have hnln : nl.length ≤ 80 := HNL.out
              clear r8 b8 N8 RA8 RW2 z0 z1 z2 q0 q1 q2 hGc hgc
              go_wp2_with fail
              go_loopw [2, 22, 90] (fun s2 _ s90 wz => ∃ (j : Nat) (by' : List En), j ≤ nl.length ∧ s90 = .int .i64 j ∧ Hid (Reads 6 cE wz s2 by') ∧ Hid (by' = (nl.take j).foldl putL bx) ∧ Hid (RiseE by') ∧ Hid (SizedE by') ∧ by'.length ≤ 80 + i * 80 + j ∧ Below w8.heap.size w8 wz) (fun _ _ s90 _ => nl.length - (intOf s90).toNat)
              case atStart => exact ⟨0, bx, Nat.zero_le _, rfl, RA9, Lib.hid rfl, HR, HS, by omega, Below.refl _ _⟩
              case round =>
                clear RA9 HR HS
                obtain ⟨j, cx, hjl, rfl, RX, EX, HR, HS, lx, hb⟩ := hrel
                by_cases hjt : j < nl.length
                · obtain ⟨f, hf⟩ : ∃ f, nl[j]? = some f := ⟨_, List.getElem?_eq_getElem hjt⟩
                  obtain ⟨ad, rfl, c0, c1, c2, c3, c4, c5⟩ := Ents.at_ (RN.out.below hb) hf
                  have EX1 := Lib.hid (show (nl.take (j + 1)).foldl putL bx = putL cx f by rw [EX.out]; exact foldP_snoc bx hf)
                  have hfs := HNS.out f (List.mem_of_getElem? hf)
                  have PI := Lib.hid fun W (hW : Below wr.heap.size wr W) => put_is W _ cx f (RX.out.below hW) HR.out HS.out hfs (by omega)
                  have HS2 := Lib.hid (putL_sizedE HS.out hfs)
                  obtain ⟨f1, f2, f3, f4, f5, f6⟩ := f
                  have bA : Below wr.heap.size wr (wr.alloc (.cells #[.string f1, .int .i64 f2, .int .i64 f3, .string f4, .int .i64 f5, .int .i64 f6] 69)) := (Below.refl _ _).alloc (Nat.le_refl _) _
                  have PIA := Lib.hid (PI.out _ bA)
                  have BA := Lib.hid (hb.trans (bA.mono hb.size))
                  have k0 : (0 : Int) ≤ (j : Int) := Int.natCast_nonneg _
                  have k1 : (j : Int) < (nl.length : Int) := by omega
                  have hcl := World.block_lt_of_cell? _ _ c0
                  obtain ⟨Ax, cx', rfl⟩ := RX.out.form
                  clear hf hb bA PI hfs
                  go_wp2_with fail
                  refine PIA.out.mono ?_
                  rintro e w9 ⟨v9, rfl, o9, b9, hr9, hl9⟩
                  have R9 := Lib.hid (Reads.of_own cE_len o9)
                  have HR9 := Lib.hid hr9
                  have B99 := Lib.hid (BA.out.trans (b9.mono BA.out.size))
                  obtain ⟨A, c, rfl⟩ := own_form o9
                  clear o9 b9 hr9 PIA
                  go_wp2_with fail
                  go_roundw
                  case rel => exact ⟨j + 1, _, by omega, by go_num, R9, Lib.hid EX1.out.symm, HR9, HS2, by omega, B99.out⟩
                  case measure => simp [intOf]; omega
                · obtain rfl : j = nl.length := by omega
                  have EB2 : Hid (cx = putG tl cf en (ps.take (i + 1)) ax) := Lib.hid (by rw [EB1.out, EX.out, List.take_length])
                  have RW10 := Lib.hid (RW9.out.below hb)
                  have B10 := Lib.hid (B9.out.trans (hb.mono B9.out.size))
                  clear hb
                  go_wp2_with fail
                  go_roundw
                  case rel => exact ⟨i + 1, cx, bw2, by omega, by go_num, RX, RW10, EB2, EV2, HR, HS, HF2, by omega, by omega, B10.out⟩
                  case measure => simp [intOf]; omega
          · obtain rfl : i = ps.length := by omega
            rw [List.take_length] at EB EV
            have EBz : Hid (bx = putG tl cf en ps (dropI ps ix)) := Lib.hid (by rw [EB.out, EA.out])
            have EVz : Hid (bw = putV tl ps (cutV tl ps wk)) := Lib.hid (by rw [EV.out, EW.out])
            have BZ := Lib.hid (HB1.out.trans ((B5.out.trans (hb.mono B5.out.size)).mono HB1.out.size))
            clear hb
            go_wp2_with fail
            go_ret3
            exact ⟨_, _, rfl, by rw [← EBz.out]; exact RA.out, by rw [← EVz.out]; exact RW.out, BZ.out⟩
end Go.Proofs.YtdmmjfmjohliiaaGreatDoor
