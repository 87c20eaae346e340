/-
  slices.BinarySearchFunc at a tree that rises, (Row).find and (Row).Get: the file at a path; status.unlike and status.changed: what became of it.
  General theory of trees by path: what the walks of files share: texts less, a path among paths, a file or none, trees by what they have.
  append of one tree to a row of the call's own, whatever the other slice is; slices.Grow of none; slices.Concat.
  slices.Clone of a tree; rectoref14.Same.
  The plain theory of a file put, of a path cut, of what differs between two trees.
  The document's own functions on paths: Parts, Check, Under, Clash: what they answer, at any text.
  path.Under, path.Clash.
  rectolaw14.Rises: whether a tree rises.
  (Row).Same: whether two trees are one.
  slices.IndexFunc, slices.ContainsFunc at a tree, over whatever closure with one captured thing; the closures of (Row).Cut, (Row).Clear, (Row).refuses.
  What (Row).Check says of a tree, in plain words: the first file that may not be, and why.
  A range over a function whose iterator keeps a state of its own in a captured cell: one law for the caller. It stands on the kit's laws for 'range over a function' (Derived.RangeFuncFrom and what it imports) and goes the way of 'wpIn_rangeFunc_ownF' there, with one block more that may turn: the captured one.
-/
import Derived.Test.YtplleaimmmanhaaGreatDoorG3
import Derived.Deep.DrawnRows
import Derived.Laws.AppendOwnNone
import Derived.Lib.AppendZerosOnto
import Derived.Lib.SliceRun
import Derived.Test.YtplleaimmmanhaaGreatDoorG1
import Derived.Lib.SplitLaws
import Derived.Laws.OwnMore
import Derived.Laws.Cover1
import Derived.Deep.RegionHeld3
import Derived.Deep.RegionWith
import Derived.WalkLawsBesides
import Derived.Outline
import Derived.Laws.Rows
import Derived.Deep.Draws
import Derived.RangeFuncNested
import Derived.RangeFuncBound
import Derived.RangeFuncCalls
import Derived.RangeFuncLeaves
import Derived.Shelf.Abstract
import Derived.Shelf.RegionOpen
import Derived.WalkKit
import Derived.OwnWalkIn
import Derived.TacticsInMore
import Derived.LoopNIn
import Derived.LoopIn
namespace Go.Proofs.YtplleaimmmanhaaGreatDoor
open Go.RowKit

theorem fcmp_any (f : Fl) (s : ByteArray) (w : World) :
    Calls Tryz.prog 108 #[.agg #[.string f.1, .int .i64 f.2.1, .string f.2.2], .string s] w fun e w' => e = .returned (.int .i64 (cb f.1 s)) ∧ Below w.heap.size w w' := by
  go_enter Tryz.func108, Tryz.ntmps108
  go_wp2_with (go_at_call 77; refine (comp_any _ _ _).mono ?_; rintro e w' ⟨rfl, rfl⟩)
  go_ret
  exact ⟨rfl, (Below.refl _ _).alloc (Nat.le_refl _) _⟩

theorem ret_fb {a b : Int} {p q : Bool} (h : a = b) (g : p = q) : Ending.returned (.tuple #[.int .i64 a, .bool p]) = .returned (.tuple #[.int .i64 b, .bool q]) := by rw [h, g]
theorem cb_hit {x s : ByteArray} : ((cb x s == 0) : Bool) = decide (cb x s = 0) := by
  by_cases h : cb x s = 0
  · simp [h]
  · simp [h]
/-- All files ahead of i come ahead of s. -/
def SplitF (l : List Fl) (s : ByteArray) (i : Nat) : Prop := (∀ (t : Nat) (x : Fl), t < i → l[t]? = some x → cb x.1 s < 0) ∧ (∀ (t : Nat) (x : Fl), i ≤ t → l[t]? = some x → 0 ≤ cb x.1 s)
/-- Where the file at s stands, and whether it is there. -/
def FoundF (l : List Fl) (s : ByteArray) (w : World) (e : Ending) (w' : World) : Prop :=
  ∃ (i : Nat) (b : Bool), e = .returned (.tuple #[.int .i64 i, .bool b]) ∧ Below w.heap.size w w' ∧ i ≤ l.length ∧ SplitF l s i ∧ (b = true → ∃ f, l[i]? = some f ∧ getF l s = some f) ∧ (b = false → getF l s = none)

set_option maxHeartbeats 2000000 in
theorem search_any (w : World) (v : Value) (l : List Fl) (s : ByteArray) (h : Reads 3 cF w v l) (hr : RiseF l) (hl : l.length ≤ 100000) :
    Calls Tryz.prog 107 #[v, .string s, .func (.func 108) #[] #[]] w (FoundF l s w) := by
  obtain ⟨A, c, rfl⟩ := h.form
  have hn := h.len
  have HO := Lib.hid h
  have HR := Lib.hid hr
  have hrise : Hid (∀ (i j : Nat) (x y : Fl), i < j → l[i]? = some x → l[j]? = some y → cb x.1 y.1 < 0) := Lib.hid fun i j x y hij hx hy => by
    obtain ⟨hi, rfl⟩ := List.getElem?_eq_some_iff.1 hx
    obtain ⟨hj, rfl⟩ := List.getElem?_eq_some_iff.1 hy
    exact List.pairwise_iff_getElem.1 HR.out i j hi hj hij
  clear h hr hn
  go_enter Tryz.func107, Tryz.ntmps107
  go_wp2
  go_loopw [9, 10] (fun s9 s10 wr => ∃ lo hi : Nat, s9 = .int .i64 lo ∧ s10 = .int .i64 hi ∧ lo ≤ hi ∧ hi ≤ l.length ∧ Below w.heap.size w wr ∧
    Hid ((∀ (t : Nat) (x : Fl), t < lo → l[t]? = some x → cb x.1 s < 0) ∧ (∀ (t : Nat) (x : Fl), hi ≤ t → l[t]? = some x → 0 ≤ cb x.1 s))) (fun s9 s10 _ => (intOf s10).toNat - (intOf s9).toNat)
  case atStart => exact ⟨0, l.length, rfl, rfl, Nat.zero_le _, Nat.le_refl _, Below.refl _ _, ⟨fun t x ht => absurd ht (Nat.not_lt_zero _), fun t x ht hx => by have := (List.getElem?_eq_some_iff.1 hx).1; omega⟩⟩
  case round =>
    obtain ⟨lo, hi, rfl, rfl, hlh, hin, hb, I⟩ := hrel
    by_cases hlt : lo < hi
    · have hm1 : lo ≤ (lo + hi) / 2 := by omega
      have hm2 : (lo + hi) / 2 < hi := by omega
      obtain ⟨x, hx⟩ : ∃ x, l[(lo + hi) / 2]? = some x := ⟨_, List.getElem?_eq_getElem (by omega)⟩
      obtain ⟨ad, rfl, c0, c1, c2⟩ := Fils.at_ (HO.out.below hb) hx
      have HX := Lib.hid hx
      clear hx
      by_cases hyx : cb x.1 s < 0
      · go_wp2_with (go_at_call 108; refine (fcmp_any x s _).mono ?_; rintro e w' ⟨rfl, hb'⟩)
        go_roundw
        case rel => exact ⟨(lo + hi) / 2 + 1, hi, by go_num, rfl, by omega, hin, hb.trans (hb'.mono hb.size), ⟨fun t y ht hy => by
          rcases Nat.lt_or_ge t ((lo + hi) / 2) with h1 | h1
          · have := hrise.out t ((lo + hi) / 2) y x h1 hy HX.out
            exact cb_trans this hyx
          · obtain rfl : t = (lo + hi) / 2 := by omega
            rw [HX.out] at hy
            obtain rfl := Option.some.inj hy
            exact hyx, I.out.2⟩⟩
        case measure => simp [intOf]; omega
      · go_wp2_with (go_at_call 108; refine (fcmp_any x s _).mono ?_; rintro e w' ⟨rfl, hb'⟩)
        go_roundw
        case rel => exact ⟨lo, (lo + hi) / 2, rfl, by go_num, by omega, by omega, hb.trans (hb'.mono hb.size), ⟨I.out.1, fun t y ht hy => by
          rcases Nat.eq_or_lt_of_le ht with h1 | h1
          · rw [← h1, HX.out] at hy
            obtain rfl := Option.some.inj hy
            omega
          · have := hrise.out ((lo + hi) / 2) t x y h1 HX.out hy
            rcases Int.lt_or_le (cb y.1 s) 0 with h2 | h2
            · exact absurd (cb_trans this h2) (by omega)
            · exact h2⟩⟩
        case measure => simp [intOf]; omega
    · obtain rfl : hi = lo := by omega
      have HP := Lib.hid (getF_at HR.out I.out.1 I.out.2)
      by_cases hlen : hi < l.length
      · obtain ⟨x, hx⟩ : ∃ x, l[hi]? = some x := ⟨_, List.getElem?_eq_getElem hlen⟩
        obtain ⟨ad, rfl, c0, c1, c2⟩ := Fils.at_ (HO.out.below hb) hx
        have HX := Lib.hid hx
        clear hx
        go_wp2_with (go_at_call 108; refine (fcmp_any x s _).mono ?_; rintro e w' ⟨rfl, hb'⟩)
        go_ret2
        refine ⟨hi, decide (cb x.1 s = 0), ret_fb rfl cb_hit, hb.trans (hb'.mono hb.size), hin, I.out, fun hd => ⟨x, HX.out, ?_⟩, fun hd => ?_⟩
        · rw [HP.out, HX.out]; simp only [of_decide_eq_true hd, if_true]
        · rw [HP.out, HX.out]; simp only [of_decide_eq_false hd, if_false]
      · go_wp2_with fail
        go_ret2
        refine ⟨hi, false, rfl, hb, hin, I.out, (fun hd => by cases hd), fun _ => ?_⟩
        rw [HP.out, List.getElem?_eq_none (by omega)]

set_option maxHeartbeats 1000000 in
theorem find_any (w : World) (v : Value) (l : List Fl) (s : ByteArray) (h : Reads 3 cF w v l) (hr : RiseF l) (hl : l.length ≤ 100000) :
    Calls Tryz.prog 52 #[v, .string s] w (FoundF l s w) := by
  have S := Lib.hid fun W hW => search_any W v l s (h.below hW) hr hl
  clear h hr
  go_enter Tryz.func52, Tryz.ntmps52
  go_wp2_with fail
  refine (S.out _ (Below.refl _ _)).mono ?_
  rintro e w' ⟨i, b, rfl, hb, hi, h0, h1, h2⟩
  have H0 := Lib.hid h0
  have H1 := Lib.hid h1
  have H2 := Lib.hid h2
  clear h0 h1 h2
  go_wp2
  go_ret2
  exact ⟨i, b, rfl, hb, hi, H0.out, H1.out, H2.out⟩

/-- A file found, or none. -/
def gotV : Option Fl → Value
  | some f => .tuple #[.agg #[.string f.1, .int .i64 f.2.1, .string f.2.2], .bool true]
  | none => .tuple #[.agg #[.string ⟨#[]⟩, .int .i64 0, .string ⟨#[]⟩], .bool false]
def Got (o : Option Fl) (w : World) (e : Ending) (w' : World) : Prop := e = .returned (gotV o) ∧ Below w.heap.size w w'

theorem results_row_tmp {P : Program} {fn : Func} {p u : Tmp} {ty : TypeId} (h : fn.results = #[.cell p ty, .tmp u]) (tmps : Array Value) (w : World) (g : Nat) (t : TypeId) (cs : Array Value) (fr : Nat × Nat) (d : TypeDesc)
    (hp : tmps.getD p undef = .pointer (some ⟨g, 0, none⟩)) (hg : w.heap[g]? = some (.cells cs t fr))
    (hu : P.underlying ty = some d) (hd : (match d with | .struct _ | .array _ _ => true | _ => false) = true) (hi : (P.info? ty).map (·.size) = some cs.size) :
    (results fn tmps).run P w = .ok (.tuple #[.agg cs, tmps.getD u undef]) w := by
  rw [results_cell_tmp h, hp]
  simp [asAddr, run_loadVar_row w g t ty cs fr d hg hu hd hi, Result.andThen]
theorem fileSize : (Tryz.prog.info? 25).map (·.size) = some 3 := by kernel_rfl
theorem set_row (w : World) (g : Nat) (t : TypeId) (cs : Array Value) (fr : Nat × Nat) (i : Nat) (u : Value) (h : w.heap[g]? = some (.cells cs t fr)) : (w.setCell ⟨g, i, none⟩ u).heap[g]? = some (.cells (cs.setIfInBounds i u) t fr) := by
  simp [World.setCell, Array.getElem?_modify, h]

set_option maxHeartbeats 1000000 in
theorem get_any (w : World) (v : Value) (l : List Fl) (s : ByteArray) (h : Reads 3 cF w v l) (hr : RiseF l) (hl : l.length ≤ 100000) :
    Calls Tryz.prog 14 #[v, .string s] w (Got (getF l s) w) := by
  obtain ⟨W1, hW1⟩ : ∃ W1, W1 = w.alloc (.cells #[.string ⟨#[]⟩, .int .i64 0, .string ⟨#[]⟩] 25) := ⟨_, rfl⟩
  have S := Lib.hid (find_any W1 v l s (by rw [hW1]; exact h.alloc _) hr hl)
  have B1 : Below w.heap.size w W1 := by rw [hW1]; exact (Below.refl _ _).alloc (Nat.le_refl _) _
  have K1 : W1.heap[w.heap.size]? = some (.cells #[.string ⟨#[]⟩, .int .i64 0, .string ⟨#[]⟩] 25 (0, 0)) := by rw [hW1]; exact heap_alloc_new w _
  have hs1 : W1.heap.size = w.heap.size + 1 := by rw [hW1]; simp
  obtain ⟨A, c, rfl⟩ := h.form
  have HO := Lib.hid h
  clear h hr
  go_enter Tryz.func14, Tryz.ntmps14
  go_wp2_with fail
  rw [← hW1]
  refine S.out.mono ?_
  rintro e w' ⟨i, b, rfl, hb, hi, -, h1, h2⟩
  obtain ⟨g, hg⟩ : ∃ g, g = w.heap.size := ⟨_, rfl⟩
  rw [← hg] at K1 ⊢
  have K2 : w'.heap[g]? = some (.cells #[.string ⟨#[]⟩, .int .i64 0, .string ⟨#[]⟩] 25 (0, 0)) := (hb.block g (by omega)).trans K1
  have hb2 : Below w.heap.size w w' := B1.trans (hb.mono (by omega))
  have d0 := cell_of_row w' g 0 _ 25 (0, 0) K2
  have d1 := cell_of_row w' g 1 _ 25 (0, 0) K2
  have d2 := cell_of_row w' g 2 _ 25 (0, 0) K2
  have e0 : w'.frozen? ⟨g, 0, none⟩ = false := by simp [World.frozen?, K2]
  have e1 : w'.frozen? ⟨g, 1, none⟩ = false := by simp [World.frozen?, K2]
  have e2 : w'.frozen? ⟨g, 2, none⟩ = false := by simp [World.frozen?, K2]
  have HK2 := Lib.hid K2
  have HHG := Lib.hid hg
  clear hW1 K1 K2 hg S
  cases b with
  | true =>
    obtain ⟨f, hf, hg⟩ := h1 rfl
    obtain ⟨ad, rfl, c0, c1, c2⟩ := Fils.at_ (HO.out.below hb2) hf
    have hil := (List.getElem?_eq_some_iff.1 hf).1
    have HG := Lib.hid hg
    clear hf hg h1 h2
    go_wp2
    refine bodyPost_ret (results_row_tmp (fn := Tryz.f14) rfl _ _ g 25 #[.string f.1, .int .i64 f.2.1, .string f.2.2] (0, 0) _ rfl (by first | exact set_row _ _ _ _ _ _ _ (set_row _ _ _ _ _ _ _ (set_row _ _ _ _ _ _ _ HK2.out)) | simpa using set_row _ _ _ _ _ _ _ (set_row _ _ _ _ _ _ _ (set_row _ _ _ _ _ _ _ HK2.out))) Tryz.underlying25 rfl fileSize) rfl ⟨by rw [HG.out]; rfl, ?_⟩
    have hle : w.heap.size ≤ g := by rw [HHG.out]; exact Nat.le_refl _
    exact ((hb2.setCell (p := ⟨g, 0, none⟩) hle _).setCell (p := ⟨g, 1, none⟩) hle _).setCell (p := ⟨g, 2, none⟩) hle _
  | false =>
    have HG := Lib.hid (h2 rfl)
    clear h1 h2
    go_wp2
    refine bodyPost_ret (results_row_tmp (fn := Tryz.f14) rfl _ _ g 25 #[.string ⟨#[]⟩, .int .i64 0, .string ⟨#[]⟩] (0, 0) _ rfl (by first | exact set_row _ _ _ _ _ _ _ (set_row _ _ _ _ _ _ _ (set_row _ _ _ _ _ _ _ HK2.out)) | simpa using set_row _ _ _ _ _ _ _ (set_row _ _ _ _ _ _ _ (set_row _ _ _ _ _ _ _ HK2.out))) Tryz.underlying25 rfl fileSize) rfl ⟨by rw [HG.out]; rfl, ?_⟩
    have hle : w.heap.size ≤ g := by rw [HHG.out]; exact Nat.le_refl _
    exact ((hb2.setCell (p := ⟨g, 0, none⟩) hle _).setCell (p := ⟨g, 1, none⟩) hle _).setCell (p := ⟨g, 2, none⟩) hle _
end Go.Proofs.YtplleaimmmanhaaGreatDoor
namespace Go.Proofs.YtplleaimmmanhaaGreatDoor
open Go.RowKit Go.Lib

theorem less_cmp : ∀ a b : List UInt8, Op.bytesLess a b = decide (compareBytes a b < 0)
  | [], [] => rfl
  | _ :: _, [] => by simp [Op.bytesLess, compareBytes]
  | [], _ :: _ => by simp [Op.bytesLess, compareBytes]
  | x :: a, y :: b => by
    unfold Op.bytesLess compareBytes
    rw [less_cmp a b]
    by_cases h1 : x < y
    · simp [h1]
    · by_cases h2 : y < x
      · have : ¬ x = y := fun e => by rw [e] at h2; exact absurd h2 (UInt8.lt_irrefl _)
        simp [h1, h2, this]
      · have : x = y := UInt8.le_antisymm (UInt8.not_lt.1 h2) (UInt8.not_lt.1 h1)
        simp [this]
theorem less_cb (a b : ByteArray) : Op.bytesLess a.toList b.toList = decide (cb a b < 0) := by
  rw [ByteArray.toList_eq, ByteArray.toList_eq, less_cmp]
  rfl
theorem rise_split : ∀ (ss : List ByteArray) (p : ByteArray), RiseP ss → ∃ k, k ≤ ss.length ∧ (∀ t, t < k → cb (ss.getD t p) p < 0) ∧ (∀ t, k ≤ t → ¬ cb (ss.getD t p) p < 0)
  | [], p, _ => ⟨0, Nat.le_refl _, fun t h => absurd h (Nat.not_lt_zero _), fun t _ => by simp [cb_self]⟩
  | a :: l, p, h => by
    have hp := List.pairwise_cons.1 h
    by_cases ha : cb a p < 0
    · obtain ⟨k, hk, h1, h2⟩ := rise_split l p hp.2
      refine ⟨k + 1, by simpa using hk, fun t ht => ?_, fun t ht => ?_⟩
      · cases t with
        | zero => simpa using ha
        | succ t => simpa using h1 t (by omega)
      · cases t with
        | zero => omega
        | succ t => simpa using h2 t (by omega)
    · refine ⟨0, Nat.zero_le _, fun t ht => absurd ht (Nat.not_lt_zero _), fun t _ => ?_⟩
      cases t with
      | zero => simpa using ha
      | succ t =>
        intro hc
        rw [List.getD_cons_succ] at hc
        by_cases htl : t < l.length
        · have hx : l.getD t p ∈ l := by rw [List.getD_eq_getElem?_getD, List.getElem?_eq_getElem htl]; simp
          exact ha (cb_trans (hp.1 _ hx) hc)
        · rw [List.getD_eq_getElem?_getD, List.getElem?_eq_none (by omega)] at hc
          simp [cb_self] at hc
theorem rise_mem {ss : List ByteArray} {p : ByteArray} (hr : RiseP ss) {k : Nat} (h1 : ∀ t, t < k → cb (ss.getD t p) p < 0) (h2 : ∀ t, k ≤ t → ¬ cb (ss.getD t p) p < 0) : (k < ss.length ∧ ss.getD k p = p) ↔ p ∈ ss := by
  constructor
  · rintro ⟨hk, he⟩
    rw [List.getD_eq_getElem?_getD, List.getElem?_eq_getElem hk] at he
    simp at he
    rw [← he]
    exact List.getElem_mem hk
  · intro hm
    obtain ⟨t, ht, e⟩ := List.getElem_of_mem hm
    have et : ss.getD t p = p := by rw [List.getD_eq_getElem?_getD, List.getElem?_eq_getElem ht]; simpa using e
    have hkt : k ≤ t := by
      rcases Nat.lt_or_ge t k with h | h
      · have := h1 t h
        rw [et, cb_self] at this
        omega
      · exact h
    rcases Nat.eq_or_lt_of_le hkt with e1 | e1
    · subst e1
      exact ⟨ht, et⟩
    · exfalso
      have hk : k < ss.length := by omega
      have hlt := List.pairwise_iff_getElem.1 hr k t hk ht e1
      rw [e] at hlt
      refine h2 k (Nat.le_refl _) ?_
      rw [List.getD_eq_getElem?_getD, List.getElem?_eq_getElem hk]
      simpa using hlt

/-- Whether the path is there. -/
def hasP (ss : List ByteArray) (p : ByteArray) : Bool := ss.any fun x => decide (x = p)
theorem hasP_iff {ss : List ByteArray} {p : ByteArray} : hasP ss p = true ↔ p ∈ ss := by
  unfold hasP
  rw [List.any_eq_true]
  constructor
  · rintro ⟨x, hx, e⟩
    rw [← of_decide_eq_true e]
    exact hx
  · intro h
    exact ⟨p, h, decide_eq_true rfl⟩
theorem hasP_eq {ss : List ByteArray} {p : ByteArray} {q : Prop} [Decidable q] (h : q ↔ p ∈ ss) : decide q = hasP ss p := by
  rw [Bool.eq_iff_iff, decide_eq_true_iff, hasP_iff]
  exact h
/-- From one to the other, each a file or none: A, D, M, or a blank. -/
def unl : Option Fl → Option Fl → Int
  | none, none => 32
  | none, some _ => 65
  | some _, none => 68
  | some f, some g => if f = g then 32 else 77
/-- .. where what is new is not known yet. -/
def chg (a b : Option Fl) : Int := if unl a b = 65 then 63 else unl a b
theorem unl_cases (a b : Option Fl) : unl a b = 32 ∨ unl a b = 65 ∨ unl a b = 68 ∨ unl a b = 77 := by
  cases a with
  | none => cases b <;> simp [unl]
  | some f =>
    cases b with
    | none => simp [unl]
    | some g =>
      show (if f = g then (32 : Int) else 77) = 32 ∨ _
      by_cases h : f = g
      · exact .inl (if_pos h)
      · exact .inr (.inr (.inr (if_neg h)))
theorem bytes_beq (x y : ByteArray) : (x.toList == y.toList) = decide (x = y) := by
  rw [ByteArray.toList_eq, ByteArray.toList_eq]
  by_cases e : x = y
  · simp [e]
  · simp [e]
    intro h
    exact e (ByteArray.ext h)

def LetterTo (n : Int) (w : World) (e : Ending) (w' : World) : Prop := e = .returned (.int .u8 n) ∧ Below w.heap.size w w'

theorem tl_eq {x y : ByteArray} (h : x.toList = y.toList) : x = y := by
  rw [ByteArray.toList_eq, ByteArray.toList_eq] at h
  apply ByteArray.ext
  simpa using h
def flZ : Option Fl → Fl
  | some f => f
  | none => (⟨#[]⟩, 0, ⟨#[]⟩)
theorem gotV_flZ (o : Option Fl) : gotV o = .tuple #[.agg #[.string (flZ o).1, .int .i64 (flZ o).2.1, .string (flZ o).2.2], .bool o.isSome] := by cases o <;> rfl
def GotB (x : Fl) (p : Bool) (w : World) (e : Ending) (w' : World) : Prop := e = .returned (.tuple #[.agg #[.string x.1, .int .i64 x.2.1, .string x.2.2], .bool p]) ∧ Below w.heap.size w w'

/-! ### A tree is what it has at its paths -/
theorem getF_mem {l : List Fl} {p : ByteArray} {f : Fl} (h : getF l p = some f) : f ∈ l := List.mem_of_find?_eq_some h
theorem mem_getF {l : List Fl} (hr : RiseF l) {f : Fl} (h : f ∈ l) : getF l f.1 = some f := by
  obtain ⟨t, ht, e⟩ := List.getElem_of_mem h
  have hx : l[t]? = some f := by rw [List.getElem?_eq_getElem ht, e]
  rw [getF_at (i := t) hr (fun s x hs hx' => ?_) (fun s x hs hx' => ?_), hx]
  · simp [cb_self]
  · obtain ⟨hs', rfl⟩ := List.getElem?_eq_some_iff.1 hx'
    have := List.pairwise_iff_getElem.1 hr s t hs' ht hs
    rw [e] at this
    exact this
  · obtain ⟨hs', rfl⟩ := List.getElem?_eq_some_iff.1 hx'
    rcases Nat.eq_or_lt_of_le hs with e2 | e2
    · subst e2
      rw [e, cb_self]
      exact Int.le_refl _
    · have := List.pairwise_iff_getElem.1 hr t s ht hs' e2
      rw [e] at this
      rw [cb_swap f.1]
      omega
theorem tree_ext {a b : List Fl} (ha : RiseF a) (hb : RiseF b) (h : ∀ p, getF a p = getF b p) : a = b := by
  have hn : ∀ {l : List Fl}, RiseF l → l.Nodup := fun hl => hl.imp fun {x y} h e => by rw [e, cb_self] at h; omega
  refine List.Perm.eq_of_pairwise (le := fun x y : Fl => cb x.1 y.1 < 0) (fun x y _ _ h1 h2 => ?_) ha hb ((List.perm_ext_iff_of_nodup (hn ha) (hn hb)).2 fun f => ?_)
  · rw [cb_swap x.1 y.1] at h2
    omega
  · constructor
    · intro hf
      have := mem_getF ha hf
      rw [h] at this
      exact getF_mem this
    · intro hf
      have := mem_getF hb hf
      rw [← h] at this
      exact getF_mem this
theorem getF_none {l : List Fl} {p : ByteArray} (h : p ∉ l.map (·.1)) : getF l p = none := by
  unfold getF
  rw [List.find?_eq_none]
  intro f hf e
  exact h (List.mem_map.2 ⟨f, hf, by simpa using e⟩)
theorem unl_eq {a b : Option Fl} (h : unl a b = 32) : a = b := by
  cases a with
  | none => cases b with
    | none => rfl
    | some g => simp [unl] at h
  | some f => cases b with
    | none => simp [unl] at h
    | some g =>
      by_cases e : f = g
      · rw [e]
      · simp [unl, e] at h
theorem unl_same (a : Option Fl) : unl a a = 32 := by cases a <;> simp [unl]
theorem chg_eq {a b : Option Fl} (h : chg a b = 32) : a = b := by
  unfold chg at h
  split at h
  · omega
  · exact unl_eq h
theorem chg_same (a : Option Fl) : chg a a = 32 := by unfold chg; rw [unl_same]; rfl

theorem rise_adj : ∀ (l : List Fl), (∀ (t : Nat) (x y : Fl), l[t]? = some x → l[t + 1]? = some y → cb x.1 y.1 < 0) → RiseF l
  | [], _ => List.Pairwise.nil
  | [x], _ => List.pairwise_singleton _ _
  | x :: y :: l, h => by
    have ih := rise_adj (y :: l) fun t a b ha hb => h (t + 1) a b (by simpa using ha) (by simpa using hb)
    have hxy : cb x.1 y.1 < 0 := h 0 x y rfl rfl
    refine List.pairwise_cons.2 ⟨fun z hz => ?_, ih⟩
    rcases List.mem_cons.1 hz with rfl | hz
    · exact hxy
    · exact cb_trans hxy ((List.pairwise_cons.1 ih).1 z hz)
theorem rise_at {l : List Fl} (h : RiseF l) {t : Nat} {x y : Fl} (hx : l[t]? = some x) (hy : l[t + 1]? = some y) : cb x.1 y.1 < 0 := by
  obtain ⟨hi, rfl⟩ := List.getElem?_eq_some_iff.1 hx
  obtain ⟨hj, rfl⟩ := List.getElem?_eq_some_iff.1 hy
  exact List.pairwise_iff_getElem.1 h t (t + 1) hi hj (by omega)

theorem drewN_two (w : World) (a b : Nat) : (w.drewN a).drewN b = w.drewN (a + b) := by simp [World.drewN, Nat.add_assoc]
theorem strs_at {w : World} {A : Option Addr} {n c : Nat} {ss : List ByteArray} (h : Strs w (.slice A n c) ss) {k : Nat} (hk : k < n) :
    ∃ (ad : Addr) (s : ByteArray), A = some ad ∧ ss[k]? = some s ∧ w.cell? (ad.add k) = some (.string s) := by
  obtain ⟨A', c', hv, h1, h2, h3, h4⟩ := h
  injection hv with e1 e2 e3
  subst e1; subst e3
  cases A with
  | none => have := h3 rfl; omega
  | some ad =>
    have hl : k < ss.length := by omega
    exact ⟨ad, ss[k], rfl, List.getElem?_eq_getElem hl, h4 ad rfl k _ (List.getElem?_eq_getElem hl)⟩
def SameG (a b : World) : Prop := a = b
def FlagTo (b : Bool) (w : World) (e : Ending) (w' : World) : Prop := e = .returned (.bool b) ∧ Below w.heap.size w w'
theorem own_base {w : World} {B B' : Nat} {ty : TypeId} {k n : Nat} {v : Value} {xs : List Value} (h : w.ownsRow B ty k v n xs) (hb : B' ≤ B) : w.ownsRow B' ty k v n xs := ⟨h.1, by
  rcases h.2 with h | ⟨g, cap, cur, hv, hg, r⟩
  · exact .inl h
  · exact .inr ⟨g, cap, cur, hv, by omega, r⟩⟩
end Go.Proofs.YtplleaimmmanhaaGreatDoor
namespace Go.Proofs.YtplleaimmmanhaaGreatDoor
open Go.RowKit

theorem addr_block (ad : Addr) (n : Nat) : (ad.add n).block = ad.block := by unfold Addr.add; split <;> rfl
theorem addr_off (ad : Addr) (n : Nat) : (ad.add n).off = ad.off + n := by unfold Addr.add; split <;> simp_all
theorem adr_flat (ad : Addr) (i k j : Nat) : adr ad i k j = ad.add (i * k + j) := by
  cases j with
  | zero => rfl
  | succ j =>
    have h : ad.add (i * k + (j + 1)) = ⟨ad.block, ad.off + (i * k + (j + 1)), none⟩ := by unfold Addr.add; rw [if_neg (by omega)]
    rw [h]
    show (⟨(ad.add (i * k)).block, (ad.add (i * k)).off + (j + 1), none⟩ : Addr) = _
    rw [addr_block, addr_off]
    congr 1
    omega
theorem reads_flat {α : Type} {k : Nat} {enc : α → List Value} {w : World} {ad : Addr} {n c : Nat} {l : List α} (hk : ∀ x, (enc x).length = k) (h0 : 0 < k) (h : Reads k enc w (.slice (some ad) n c) l) : ∀ (j : Nat) (u : Value), (l.flatMap enc)[j]? = some u → w.cell? (ad.add j) = some u := fun j u hu => by
  have hj := (List.getElem?_eq_some_iff.1 hu).1
  rw [flat_len hk] at hj
  have hi : j / k < l.length := Nat.div_lt_of_lt_mul (by rw [Nat.mul_comm]; exact hj)
  have hm : j % k < k := Nat.mod_lt _ h0
  have hd : j / k * k + j % k = j := Nat.div_add_mod' j k
  obtain ⟨ad', ha, hc⟩ := h.at_ (List.getElem?_eq_getElem hi)
  obtain rfl := Option.some.inj ha
  have := hc (j % k) u (by rw [← flat_at hk l (j / k) (j % k) _ (List.getElem?_eq_getElem hi) hm, hd]; exact hu)
  rw [adr_flat, hd] at this
  exact this
theorem cF_one (l : List Fl) : ∀ u ∈ l.flatMap cF, u.oneCell' = true := fun u hu => by
  obtain ⟨f, _, hf⟩ := List.mem_flatMap.1 hu
  simp [cF] at hf
  rcases hf with rfl | rfl | rfl <;> rfl

theorem run_append_files (w : World) (ty : TypeId) (base : Nat) (v : Value) (xs ys : List Fl) (hown : w.ownsRow base 25 3 v xs.length (xs.flatMap cF)) (A : Option Addr) (m c : Nat) (h : Reads 3 cF w (.slice A m c) ys) (hl : xs.length + ys.length ≤ 1000000) (hbase : base ≤ w.heap.size) :
    ∃ A' c' w', (Builtin.append_ #[23, 23] ty #[v, .slice A m c]).run Tryz.prog w = .ok (.slice A' (xs ++ ys).length c') w' ∧ w'.ownsRow base 25 3 (.slice A' (xs ++ ys).length c') (xs ++ ys).length ((xs ++ ys).flatMap cF) ∧ Below base w w' ∧ w.grownBy w' v.ownBlock := by
  obtain ⟨i0, hi, hz0, hz1, hz2⟩ := info_parts fileInfo
  obtain ⟨hm, hmc, hcm⟩ := h.len
  cases A with
  | none =>
    obtain ⟨A', c', hv, h1, h2, h3, h4⟩ := h
    injection hv with e1 e2 e3
    subst e1; subst e3
    have hc := h3 rfl
    subst hc
    have hm0 : m = 0 := by omega
    subst hm0
    have : ys = [] := List.eq_nil_of_length_eq_zero (by omega)
    subst this
    obtain ⟨A', c', rfl⟩ := own_form hown
    have hr := run_append_owned_none (P := Tryz.prog) (w := w) base 23 ty 25 i0 3 Tryz.underlying23 hi _ _ _ hown
    rw [List.append_nil]
    exact ⟨A', c', w, hr, hown, Below.refl _ _, World.grownBy.refl _ _⟩
  | some ad =>
    obtain ⟨v', w', hr, ho, hg, _⟩ := run_append_own (P := Tryz.prog) w base 23 ty 25 i0 (.agg #[.string ⟨#[]⟩, .int .i64 0, .string ⟨#[]⟩]) 3 40 Tryz.underlying23 hi hz0 hz1 hz2 rfl (by decide) v xs.length (xs.flatMap cF) hown ad m c (ys.flatMap cF) (by rw [flat_len cF_len, hm]) (reads_flat cF_len (by decide) h) (cF_one ys) (by unfold maxLen; omega) (by omega) hbase
    have ho2 : w'.ownsRow base 25 3 v' (xs ++ ys).length ((xs ++ ys).flatMap cF) := by rw [List.length_append, List.flatMap_append, ← hm]; exact ho
    obtain ⟨A', c', rfl⟩ := own_form ho2
    exact ⟨A', c', w', hr, ho2, (Below.refl base w).grown hg hbase fun k hk => (hown.lt k hk).1, hg⟩

theorem wpList_append_files (w : World) {ops : Array Oper} {rest : List Oper} {o : Oper} {a : Act} {Q : Exit → Act → World → Prop} (hgd : o.guard = none) (s x : Operand)
    (ho : o.op = .call { callee := .builtin .append, args := #[s, x], argTypes := #[23, 23] })
    (base : Nat) (v : Value) (xs ys : List Fl) (hs : a.eval s = v) (hown : w.ownsRow base 25 3 v xs.length (xs.flatMap cF)) (A : Option Addr) (m c : Nat) (hx : a.eval x = .slice A m c) (h : Reads 3 cF w (.slice A m c) ys) (hl : xs.length + ys.length ≤ 1000000) (hbase : base ≤ w.heap.size)
    (hk : ∀ A' c' w', w'.ownsRow base 25 3 (.slice A' (xs ++ ys).length c') (xs ++ ys).length ((xs ++ ys).flatMap cF) → Below base w w' → w.grownBy w' v.ownBlock → wpList Tryz.prog ops Q rest (a.put o.dst (.slice A' (xs ++ ys).length c')) w') : wpList Tryz.prog ops Q (o :: rest) a w := by
  obtain ⟨A', c', w', hr, h2, h3, h4⟩ := run_append_files w o.type base v xs ys hown A m c h hl hbase
  exact Lib.wpList_append_run w hgd s x _ _ ho _ _ hs hx _ _ hr (hk A' c' w' h2 h3 h4)

set_option maxHeartbeats 1000000 in
theorem grow_none (w : World) : Calls Tryz.prog 109 #[.slice none 0 0, .int .i64 0] w fun e w' => e = .returned (.slice none 0 0) ∧ w' = w := by
  go_enter Tryz.func109, Tryz.ntmps109
  go_wp2
  go_ret
  exact ⟨rfl, rfl⟩

def NoneTo (w : World) (e : Ending) (w' : World) : Prop := ∃ A c, e = .returned (.slice A 0 c) ∧ w'.ownsRow w.heap.size 25 3 (.slice A 0 c) 0 [] ∧ Below w.heap.size w w'
set_option maxHeartbeats 2000000 in
theorem grow_any (w : World) (n : Nat) (hn : n ≤ 1000000) : Calls Tryz.prog 109 #[.slice none 0 0, .int .i64 n] w (NoneTo w) := by
  rcases Nat.eq_zero_or_pos n with h0 | h0
  · subst h0
    refine (grow_none w).mono ?_
    rintro e w' ⟨he, hw⟩
    subst hw
    exact ⟨none, 0, he, World.ownsRow_nil _ _ _ _, Below.refl _ _⟩
  · obtain ⟨i0, hi, hz0, hz1, hz2⟩ := info_parts fileInfo
    obtain ⟨G, hG⟩ : ∃ G, G = grownCap w n 0 25 := ⟨_, rfl⟩
    have hGn : n ≤ G := by rw [hG]; exact grownCap_ge w _ _ _
    have hGm : G ≤ maxLen := by
      have := grownCap_le_maxLen w n 0 25 (by unfold maxLen; omega)
      rw [← hG] at this
      exact this
    obtain ⟨ROW, hROW⟩ : ∃ ROW : Array Value, ROW = #[] ++ Builtin.zeroCells (Value.agg #[.string ⟨#[]⟩, .int .i64 0, .string ⟨#[]⟩]).cells n ++ Builtin.zeroCells (Value.agg #[.string ⟨#[]⟩, .int .i64 0, .string ⟨#[]⟩]).cells (G - n) := ⟨_, rfl⟩
    have hRs : ROW.size = G * 3 := by
      rw [hROW, Array.size_append, Array.size_append, size_zeroCells, size_zeroCells]
      show 0 + n * 3 + (G - n) * 3 = G * 3
      omega
    have hold : (Builtin.firstCells i0.size 0 (.slice none 0 0)).run Tryz.prog w.drew = .ok ([] : List Value).toArray w.drew := by simp [Builtin.firstCells, Sem.run_pure]
    have hrz : ∀ ty, (Builtin.append_ #[23, 3] ty #[.slice none 0 0, .int .i64 (n : Int)]).run Tryz.prog w = .ok (.slice (some ⟨w.heap.size, 0, none⟩) n G) (w.drew.alloc (.cells ROW 25)) := fun ty => by
      have h := Lib.run_append_grow_zeros w 23 3 ty 25 i0 _ .i64 .i64 Tryz.underlying23 Tryz.underlying3 hi hz0 none 0 0 [] hold n h0 (by omega) (by omega) (by omega) (by rw [hz2]; omega) (by rw [hz2]; exact growslice_fits (by omega) (by omega))
      rw [Nat.zero_add] at h
      rw [hROW, hG]
      exact h
    have hb : (0 : Int) < (n : Int) := by omega
    have hnn : ¬ (n : Int) < 0 := by omega
    have hsub : IntKind.i64.wrap ((n : Int) - 0) = (n : Int) := by rw [IntKind.wrap_i64] <;> omega
    have O := Lib.hid (show (w.drew.alloc (.cells ROW 25)).ownsRow w.heap.size 25 3 (.slice (some ⟨w.heap.size, 0, none⟩) 0 G) 0 [] from World.ownsRow_made w.drew ROW G (Nat.le_refl _) hGm hRs)
    have B := Lib.hid (show Below w.heap.size w (w.drew.alloc (.cells ROW 25)) from ((Below.refl _ _).drew).alloc (Nat.le_refl _) _)
    have hGm2 : G ≤ 9223372036854775807 := by unfold maxLen at hGm; omega
    clear hROW hG hRs hold hi hz0 hz1 hz2 hGm
    go_enter Tryz.func109, Tryz.ntmps109
    go_wp2_with (at_builtin; refine Lib.wpList_append_run _ rfl _ _ _ _ rfl _ _ rfl rfl _ _ (hrz _) ?_)
    go_ret
    exact ⟨_, _, rfl, O.out, B.out⟩
end Go.Proofs.YtplleaimmmanhaaGreatDoor
namespace Go.Proofs.YtplleaimmmanhaaGreatDoor
open Go.RowKit

set_option maxHeartbeats 2000000 in
theorem cloneF_any (w : World) (v : Value) (l : List Fl) (h : Reads 3 cF w v l) (hl : l.length ≤ 100000) :
    Calls Tryz.prog 111 #[v] w (OwnTo 25 3 cF l w) := by
  have q : ∀ (w : World) (a : Option Addr) (n c n' c' : Nat), (binOp .eql 23 (.slice a n c) (.slice none n' c')).run Tryz.prog w = .ok (.bool a.isNone) w := fun w a n c n' c' => Lib.run_eql_slice_nil w _ _ a n c n' c' Tryz.underlying23
  obtain ⟨A, c, rfl⟩ := h.form
  have HR := Lib.hid h
  cases A with
  | none =>
    have h0 : l = [] := by
      obtain ⟨A', c', hv, h1, h2, h3, _⟩ := h
      injection hv with e1 e2 e3
      subst e1; subst e3
      have := h3 rfl
      exact List.eq_nil_of_length_eq_zero (by omega)
    subst h0
    clear h
    go_enter Tryz.func111, Tryz.ntmps111
    go_wp2
    go_ret
    exact ⟨_, rfl, World.ownsRow_nil _ _ _ _, Below.refl _ _⟩
  | some ad =>
    have hm : w.heap.size ≤ (w.alloc (.cells #[] 25)).heap.size := by simp
    have hll : ([] : List Fl).length + l.length ≤ 1000000 := by simp; omega
    have O0 := Lib.hid (show (w.alloc (.cells #[] 25)).ownsRow w.heap.size 25 3 (.slice (some ⟨w.heap.size, 0, none⟩) 0 0) ([] : List Fl).length (([] : List Fl).flatMap cF) from World.ownsRow_made w #[] 0 (Nat.le_refl _) (Nat.zero_le _) rfl)
    clear h
    go_enter Tryz.func111, Tryz.ntmps111
    go_wp2_with (at_builtin; refine wpList_append_files _ rfl _ _ rfl w.heap.size _ [] l rfl O0.out _ _ _ rfl (HR.out.alloc _) hll hm ?_; intro A' c' w5 own5 b5 hg5)
    rw [List.nil_append] at own5
    have O5 := Lib.hid own5
    have B5 := Lib.hid (Below.trans ((Below.refl _ _).alloc (Nat.le_refl _) (.cells #[] 25)) b5)
    clear own5 b5 hg5
    go_ret
    exact ⟨_, rfl, O5.out, B5.out⟩
end Go.Proofs.YtplleaimmmanhaaGreatDoor
namespace Go.Proofs.YtplleaimmmanhaaGreatDoor
open Go.RowKit

theorem nrm_congr {a b : List ByteArray} (h : ∀ s, s ∈ a ↔ s ∈ b) : nrm a = nrm b := nrm_of (nrm_rise b) fun s => by rw [nrm_mem]; exact h s
/-- A tree with a file, instead of what was at its path. -/
def putF (l : List Fl) (f : Fl) : List Fl := (l.filter fun x => decide (cb x.1 f.1 < 0)) ++ f :: (l.filter fun x => decide (0 < cb x.1 f.1))
/-- A tree without the file at a path. -/
def cutF (l : List Fl) (p : ByteArray) : List Fl := l.filter fun x => decide (x.1 ≠ p)

section
variable {l : List Fl} {s : ByteArray} {i : Nat}
theorem split_take (h : SplitF l s i) : l.take i = l.filter fun x => decide (cb x.1 s < 0) := by
  conv => rhs; rw [← List.take_append_drop i l, List.filter_append]
  rw [List.filter_eq_self.2 (fun x hx => ?_), List.filter_eq_nil_iff.2 (fun x hx => ?_), List.append_nil]
  · obtain ⟨t, ht, rfl⟩ := List.getElem_of_mem hx
    rw [List.getElem_drop]
    rw [List.length_drop] at ht
    have := h.2 (i + t) _ (by omega) (List.getElem?_eq_getElem (by omega))
    simp; omega
  · obtain ⟨t, ht, rfl⟩ := List.getElem_of_mem hx
    rw [List.getElem_take]
    rw [List.length_take] at ht
    exact decide_eq_true (h.1 t _ (by omega) (List.getElem?_eq_getElem (by omega)))
theorem split_drop (h : SplitF l s i) {j : Nat} (hij : i ≤ j) (h1 : ∀ t x, i ≤ t → t < j → l[t]? = some x → cb x.1 s = 0) (h2 : ∀ t x, j ≤ t → l[t]? = some x → cb x.1 s ≠ 0) : l.drop j = l.filter fun x => decide (0 < cb x.1 s) := by
  conv => rhs; rw [← List.take_append_drop j l, List.filter_append]
  rw [List.filter_eq_nil_iff.2 (fun x hx => ?_), List.filter_eq_self.2 (fun x hx => ?_), List.nil_append]
  · obtain ⟨t, ht, rfl⟩ := List.getElem_of_mem hx
    rw [List.getElem_drop]
    rw [List.length_drop] at ht
    have a := h.2 (j + t) _ (by omega) (List.getElem?_eq_getElem (by omega))
    have b := h2 (j + t) _ (by omega) (List.getElem?_eq_getElem (by omega))
    simp; omega
  · obtain ⟨t, ht, rfl⟩ := List.getElem_of_mem hx
    rw [List.getElem_take]
    rw [List.length_take] at ht
    rcases Nat.lt_or_ge t i with hti | hti
    · have := h.1 t _ hti (List.getElem?_eq_getElem (by omega))
      simp; omega
    · have := h1 t _ hti (by omega) (List.getElem?_eq_getElem (by omega))
      simp [this]
end
theorem put_none {l : List Fl} {f : Fl} {i : Nat} (h : SplitF l f.1 i) (hg : getF l f.1 = none) : putF l f = l.take i ++ f :: l.drop i := by
  unfold putF
  rw [split_take h, split_drop h (Nat.le_refl i) (fun t x h1 h2 => by omega) fun t x ht hx e => ?_]
  unfold getF at hg
  rw [List.find?_eq_none] at hg
  exact hg x (List.mem_of_getElem? hx) (by simpa using cb_zero e)
theorem put_some {l : List Fl} {f g : Fl} {i : Nat} (hr : RiseF l) (h : SplitF l f.1 i) (hx : l[i]? = some g) (hg : getF l f.1 = some g) : putF l f = l.take i ++ f :: l.drop (i + 1) := by
  unfold putF
  have hp := getF_path hg
  rw [split_take h, split_drop h (Nat.le_succ i) (fun t x h1 h2 hx2 => ?_) fun t x ht hx2 e => ?_]
  · obtain rfl : t = i := by omega
    rw [hx] at hx2
    rw [← Option.some.inj hx2, hp, cb_self]
  · obtain ⟨hi, e1⟩ := List.getElem?_eq_some_iff.1 hx
    obtain ⟨hj, e2⟩ := List.getElem?_eq_some_iff.1 hx2
    have := List.pairwise_iff_getElem.1 hr i t hi hj (by omega)
    rw [e1, e2, hp, ← cb_zero e, cb_self] at this
    omega
theorem put_rise {l : List Fl} (hr : RiseF l) (f : Fl) : RiseF (putF l f) := by
  unfold putF RiseF
  refine List.pairwise_append.2 ⟨hr.filter _, List.pairwise_cons.2 ⟨fun x hx => ?_, hr.filter _⟩, fun x hx y hy => ?_⟩
  · have := (List.mem_filter.1 hx).2
    have := of_decide_eq_true this
    rw [cb_swap x.1 f.1]
    omega
  · have h1 := of_decide_eq_true (List.mem_filter.1 hx).2
    rcases List.mem_cons.1 hy with rfl | hy
    · exact h1
    · have h2 := of_decide_eq_true (List.mem_filter.1 hy).2
      exact cb_trans h1 (by rw [cb_swap y.1 f.1]; omega)
theorem put_mem {l : List Fl} {f x : Fl} : x ∈ putF l f ↔ x = f ∨ (x ∈ l ∧ x.1 ≠ f.1) := by
  unfold putF
  rw [List.mem_append, List.mem_cons, List.mem_filter, List.mem_filter, decide_eq_true_iff, decide_eq_true_iff]
  constructor
  · rintro (⟨h1, h2⟩ | h | ⟨h1, h2⟩)
    · exact .inr ⟨h1, cb_ne h2⟩
    · exact .inl h
    · exact .inr ⟨h1, fun e => by rw [e, cb_self] at h2; omega⟩
  · rintro (h | ⟨h1, h2⟩)
    · exact .inr (.inl h)
    · have h0 : cb x.1 f.1 ≠ 0 := fun e => h2 (cb_zero e)
      rcases Int.lt_or_le (cb x.1 f.1) 0 with h | h
      · exact .inl ⟨h1, h⟩
      · exact .inr (.inr ⟨h1, by omega⟩)
theorem getF_iff {l : List Fl} (hr : RiseF l) {p : ByteArray} {f : Fl} : getF l p = some f ↔ f ∈ l ∧ f.1 = p := by
  constructor
  · intro h
    exact ⟨getF_mem h, getF_path h⟩
  · rintro ⟨h, rfl⟩
    exact mem_getF hr h
theorem opt_ext {a b : Option Fl} (h : ∀ f, a = some f ↔ b = some f) : a = b := by
  cases a with
  | none => cases b with
    | none => rfl
    | some g => exact absurd ((h g).2 rfl) (by simp)
  | some f => exact ((h f).1 rfl).symm
theorem get_put {l : List Fl} (hr : RiseF l) (f : Fl) (p : ByteArray) : getF (putF l f) p = if p = f.1 then some f else getF l p := by
  refine opt_ext fun g => ?_
  rw [getF_iff (put_rise hr f), put_mem]
  by_cases hp : p = f.1
  · rw [if_pos hp]
    constructor
    · rintro ⟨h | ⟨h1, h2⟩, h3⟩
      · rw [h]
      · exact absurd (h3.trans hp) h2
    · intro h
      rw [← Option.some.inj h]
      exact ⟨.inl rfl, hp.symm⟩
  · rw [if_neg hp, getF_iff hr]
    constructor
    · rintro ⟨h | ⟨h1, h2⟩, h3⟩
      · exact absurd (h3.symm.trans (by rw [h])) hp
      · exact ⟨h1, h3⟩
    · rintro ⟨h1, h2⟩
      exact ⟨.inr ⟨h1, fun e => hp (h2.symm.trans e)⟩, h2⟩
theorem cut_rise {l : List Fl} (hr : RiseF l) (p : ByteArray) : RiseF (cutF l p) := hr.filter _
theorem get_cut {l : List Fl} (hr : RiseF l) (p q : ByteArray) : getF (cutF l p) q = if q = p then none else getF l q := by
  refine opt_ext fun g => ?_
  rw [getF_iff (cut_rise hr p)]
  unfold cutF
  rw [List.mem_filter, decide_eq_true_iff]
  by_cases hq : q = p
  · rw [if_pos hq]
    constructor
    · rintro ⟨⟨h1, h2⟩, h3⟩
      exact absurd (h3.trans hq) h2
    · intro h; cases h
  · rw [if_neg hq, getF_iff hr]
    constructor
    · rintro ⟨⟨h1, h2⟩, h3⟩
      exact ⟨h1, h3⟩
    · rintro ⟨h1, h2⟩
      exact ⟨⟨h1, fun e => hq (h2.symm.trans e)⟩, h2⟩
theorem put_len (l : List Fl) (f : Fl) : (putF l f).length ≤ l.length + 1 := by
  unfold putF
  rw [List.length_append, List.length_cons]
  have h : ∀ l : List Fl, (l.filter fun x => decide (cb x.1 f.1 < 0)).length + (l.filter fun x => decide (0 < cb x.1 f.1)).length ≤ l.length := fun l => by
    induction l with
    | nil => simp
    | cons x l ih =>
      by_cases h1 : cb x.1 f.1 < 0
      · have h2 : ¬ 0 < cb x.1 f.1 := by omega
        simp only [List.filter_cons, h1, h2, decide_true, decide_false, if_true, List.length_cons]
        simp only [Bool.false_eq_true, if_false]
        omega
      · by_cases h2 : 0 < cb x.1 f.1
        · simp only [List.filter_cons, h1, h2, decide_true, decide_false, if_true, List.length_cons]
          simp only [Bool.false_eq_true, if_false]
          omega
        · simp only [List.filter_cons, h1, h2, decide_false, List.length_cons]
          simp only [Bool.false_eq_true, if_false]
          omega
  have := h l
  omega
theorem cut_len (l : List Fl) (p : ByteArray) : (cutF l p).length ≤ l.length := List.length_filter_le _ _

/-! ### What differs -/
abbrev Dl := ByteArray × Int
/-- The paths of two trees. -/
def paths2 (a b : List Fl) : List ByteArray := nrm (a.map (·.1) ++ b.map (·.1))
def diffOf (f : ByteArray → Int) (ps : List ByteArray) : List Dl := (ps.map fun p => (p, f p)).filter fun x => decide (x.2 ≠ 32)
def diffF (a b : List Fl) : List Dl := diffOf (fun p => unl (getF a p) (getF b p)) (paths2 a b)
theorem diffOf_snoc (f : ByteArray → Int) (ps : List ByteArray) (p : ByteArray) : diffOf f (ps ++ [p]) = diffOf f ps ++ (if f p ≠ 32 then [(p, f p)] else []) := by
  unfold diffOf
  rw [List.map_append, List.filter_append]
  congr 1
  by_cases h : f p = 32 <;> simp [h]
theorem diffOf_len (f : ByteArray → Int) (ps : List ByteArray) : (diffOf f ps).length ≤ ps.length := by
  unfold diffOf
  exact Nat.le_trans (List.length_filter_le _ _) (by rw [List.length_map]; exact Nat.le_refl _)
theorem paths2_len (a b : List Fl) : (paths2 a b).length ≤ a.length + b.length := by
  unfold paths2
  refine Nat.le_trans (nrm_len _) ?_
  rw [List.length_append, List.length_map, List.length_map]
  exact Nat.le_refl _
theorem paths2_mem (a b : List Fl) (p : ByteArray) : p ∈ paths2 a b ↔ p ∈ a.map (·.1) ∨ p ∈ b.map (·.1) := by unfold paths2; rw [nrm_mem, List.mem_append]
theorem diff_mem {a b : List Fl} {x : Dl} : x ∈ diffF a b ↔ x.2 = unl (getF a x.1) (getF b x.1) ∧ x.2 ≠ 32 := by
  unfold diffF diffOf
  rw [List.mem_filter, List.mem_map, decide_eq_true_iff]
  constructor
  · rintro ⟨⟨p, _, rfl⟩, h⟩
    exact ⟨rfl, h⟩
  · rintro ⟨h1, h2⟩
    refine ⟨⟨x.1, ?_, Prod.ext rfl h1.symm⟩, h2⟩
    rw [paths2_mem]
    by_cases h3 : hasP (a.map (·.1)) x.1 = true
    · exact .inl (hasP_iff.1 h3)
    · by_cases h4 : hasP (b.map (·.1)) x.1 = true
      · exact .inr (hasP_iff.1 h4)
      · rw [getF_none (fun e => h3 (hasP_iff.2 e)), getF_none (fun e => h4 (hasP_iff.2 e))] at h1
        exact absurd h1 h2
theorem diff_none {a b : List Fl} (ha : RiseF a) (hb : RiseF b) : diffF a b = [] ↔ a = b := by
  constructor
  · intro h
    refine tree_ext ha hb fun p => ?_
    refine Decidable.byContradiction fun hne => ?_
    have : (p, unl (getF a p) (getF b p)) ∈ diffF a b := diff_mem.2 ⟨rfl, fun e => hne (unl_eq e)⟩
    rw [h] at this
    cases this
  · rintro rfl
    refine List.eq_nil_iff_forall_not_mem.2 fun x hx => ?_
    obtain ⟨h1, h2⟩ := diff_mem.1 hx
    rw [unl_same] at h1
    exact h2 h1
theorem unl_turn (a b : Option Fl) : unl a b ≠ 32 ↔ unl b a ≠ 32 := by
  constructor
  · intro h e
    exact h (by rw [unl_eq e, unl_same])
  · intro h e
    exact h (by rw [unl_eq e, unl_same])
theorem diff_turn (a b : List Fl) : (diffF b a).length = (diffF a b).length := by
  have e : paths2 b a = paths2 a b := nrm_congr fun s => by rw [List.mem_append, List.mem_append, Or.comm]
  unfold diffF
  rw [e]
  generalize paths2 a b = ps
  have e2 : ∀ f g : ByteArray → Int, (∀ p, f p ≠ 32 ↔ g p ≠ 32) → (diffOf f ps).length = (diffOf g ps).length := fun f g h => by
    unfold diffOf
    induction ps with
    | nil => rfl
    | cons p ps ih =>
      rw [List.map_cons, List.map_cons, List.filter_cons, List.filter_cons]
      by_cases hf : f p ≠ 32
      · rw [if_pos (decide_eq_true hf), if_pos (decide_eq_true ((h p).1 hf)), List.length_cons, List.length_cons, ih]
      · rw [if_neg (by simpa using hf), if_neg (by have := fun e => hf ((h p).2 e); simpa using this), ih]
  exact e2 _ _ fun p => unl_turn _ _
/-- What is done of a difference: the tree has of b what was done, of a the rest. -/
def DoneTo (a b r : List Fl) (d : List Dl) : Prop := RiseF r ∧ ∀ p, getF r p = if hasP (d.map (·.1)) p = true then getF b p else getF a p
theorem done_start {a b : List Fl} (ha : RiseF a) : DoneTo a b a [] := ⟨ha, fun p => by simp [hasP]⟩
theorem hasP_snoc (d : List Dl) (x : Dl) (p : ByteArray) : hasP ((d ++ [x]).map (·.1)) p = true ↔ hasP (d.map (·.1)) p = true ∨ p = x.1 := by
  rw [hasP_iff, hasP_iff, List.map_append, List.mem_append, List.map_cons, List.map_nil, List.mem_singleton]
theorem done_cut {a b r : List Fl} {d : List Dl} {x : Dl} (h : DoneTo a b r d) (hx : getF b x.1 = none) : DoneTo a b (cutF r x.1) (d ++ [x]) := by
  refine ⟨cut_rise h.1 _, fun p => ?_⟩
  rw [get_cut h.1, h.2 p]
  by_cases hp : p = x.1
  · rw [if_pos hp, if_pos ((hasP_snoc d x p).2 (.inr hp)), hp, hx]
  · rw [if_neg hp]
    by_cases hd : hasP (d.map (·.1)) p = true
    · rw [if_pos hd, if_pos ((hasP_snoc d x p).2 (.inl hd))]
    · rw [if_neg hd, if_neg fun h => ((hasP_snoc d x p).1 h).elim hd hp]
theorem done_put {a b r : List Fl} {d : List Dl} {x : Dl} {f : Fl} (h : DoneTo a b r d) (hx : getF b x.1 = some f) : DoneTo a b (putF r f) (d ++ [x]) := by
  have hf := getF_path hx
  refine ⟨put_rise h.1 _, fun p => ?_⟩
  rw [get_put h.1, h.2 p]
  by_cases hp : p = x.1
  · rw [if_pos (by rw [hp, hf]), if_pos ((hasP_snoc d x p).2 (.inr hp)), hp, hx]
  · rw [if_neg (by rw [hf]; exact hp)]
    by_cases hd : hasP (d.map (·.1)) p = true
    · rw [if_pos hd, if_pos ((hasP_snoc d x p).2 (.inl hd))]
    · rw [if_neg hd, if_neg fun h => ((hasP_snoc d x p).1 h).elim hd hp]
theorem done_end {a b r : List Fl} (hb : RiseF b) (h : DoneTo a b r (diffF a b)) : r = b := by
  refine tree_ext h.1 hb fun p => ?_
  rw [h.2 p]
  by_cases hp : hasP ((diffF a b).map (·.1)) p = true
  · rw [if_pos hp]
  · rw [if_neg hp]
    refine Decidable.byContradiction fun hne => hp (hasP_iff.2 <| List.mem_map.2 ⟨(p, unl (getF a p) (getF b p)), diff_mem.2 ⟨rfl, fun e => hne (unl_eq e)⟩, rfl⟩)
end Go.Proofs.YtplleaimmmanhaaGreatDoor
namespace Go.Proofs.YtplleaimmmanhaaGreatDoor
open Go Go.RowKit

theorem ret_b {p q : Bool} (h : p = q) : Ending.returned (.bool p) = .returned (.bool q) := by rw [h]
def gbv (c : Int) : Bool := (decide (97 ≤ c) && decide (c ≤ 122)) || ((decide (48 ≤ c) && decide (c ≤ 57)) || (decide (c = 46) || (decide (c = 45) || decide (c = 95))))
/-- May it be a part of a path? -/
def gp (l : List UInt8) : Bool := !(l == []) && !(l == [46]) && !(l == [46, 46]) && l.all fun c => gbv (c.toNat : Int)
theorem gp_bad {l : List UInt8} {j : Nat} (h : j < l.length) (hb : gbv (l[j].toNat : Int) = false) : gp l = false := by
  have : l.all (fun c => gbv (c.toNat : Int)) = false := by
    rw [Bool.eq_false_iff]
    intro ha
    rw [List.all_eq_true] at ha
    rw [ha _ (List.getElem_mem h)] at hb
    cases hb
  unfold gp
  rw [this, Bool.and_false]
theorem gp_all {l : List UInt8} (h0 : l ≠ []) (h1 : l ≠ [46]) (h2 : l ≠ [46, 46]) (h : ∀ j (hj : j < l.length), gbv (l[j].toNat : Int) = true) : gp l = true := by
  have ha : l.all (fun c => gbv (c.toNat : Int)) = true := by
    rw [List.all_eq_true]
    intro x hx
    obtain ⟨j, hj, rfl⟩ := List.getElem_of_mem hx
    exact h j hj
  unfold gp
  rw [ha]
  simp [h0, h1, h2]
theorem bytes_eq {a b : ByteArray} (h : a.data.toList = b.data.toList) : a = b := by
  obtain ⟨⟨a⟩⟩ := a
  obtain ⟨⟨b⟩⟩ := b
  simpa using h
/-- A text cut at each stroke. -/
def spl : List UInt8 → List (List UInt8)
  | [] => [[]]
  | c :: r => if c = 47 then [] :: spl r else ((c :: (spl r).headD []) :: (spl r).tail)
theorem spl_ne : ∀ l : List UInt8, spl l ≠ []
  | [] => by simp [spl]
  | c :: r => by unfold spl; split <;> simp
theorem spl_len : ∀ l : List UInt8, (spl l).length ≤ l.length + 1
  | [] => by simp [spl]
  | c :: r => by
    have ih := spl_len r
    unfold spl
    split
    · simp; exact ih
    · simp; omega
/-- What Check says of a text. -/
def chk (l : List UInt8) : Int := if 64 < l.length then 4 else if l = [] then 5 else if (spl l).all gp then 0 else 5
theorem chk_long {l : List UInt8} (h : 64 < l.length) : chk l = 4 := if_pos h
theorem chk_empty : chk [] = 5 := rfl
theorem chk_good {l : List UInt8} (h : ¬ 64 < l.length) (h0 : l ≠ []) (ha : (spl l).all gp = true) : chk l = 0 := by unfold chk; rw [if_neg h, if_neg h0, if_pos ha]
theorem chk_bad {l : List UInt8} (h : ¬ 64 < l.length) (h0 : l ≠ []) (ha : (spl l).all gp = false) : chk l = 5 := by unfold chk; rw [if_neg h, if_neg h0, ha]; rfl
def Checked (s : ByteArray) (w : World) (e : Ending) (w' : World) : Prop := e = .returned (.int .i64 (chk s.data.toList)) ∧ Below w.heap.size w w'
theorem size_list (s : ByteArray) : s.data.toList.length = s.size := by rw [Array.length_toList]; rfl
theorem nil_of {s : ByteArray} (h : s.size = 0) : s = ⟨#[]⟩ := bytes_eq (List.eq_nil_of_length_eq_zero (by rw [size_list]; exact h))
theorem not_nil {s : ByteArray} (h : ¬ s.size = 0) : ¬ s.toList = [] ∧ s.toList.isEmpty = false := by
  have h1 : ¬ s.toList = [] := by
    rw [ByteArray.toList_eq]
    intro e
    have := size_list s
    rw [e] at this
    exact h this.symm
  exact ⟨h1, by rw [List.isEmpty_eq_false_iff]; exact h1⟩
/-- Does p lie in the folder d? -/
def und (p d : List UInt8) : Bool := if d = [] then !(p == []) else decide (d.length + 1 < p.length) && (p[d.length]? == some 47 && p.take d.length == d)
theorem und_root {p : List UInt8} (h : p ≠ []) : und p [] = true := by unfold und; rw [if_pos rfl]; simp [h]
theorem und_short {p d : List UInt8} (h : d ≠ []) (hl : ¬ d.length + 1 < p.length) : und p d = false := by unfold und; rw [if_neg h, decide_eq_false hl]; rfl
theorem und_long {p d : List UInt8} (h : d ≠ []) (hl : d.length + 1 < p.length) : und p d = (p[d.length]? == some 47 && p.take d.length == d) := by unfold und; rw [if_neg h, decide_eq_true hl]; rfl
set_option maxHeartbeats 1000000 in
theorem refUnder_any (p d : ByteArray) (w : World) (hp : p.size ≤ 1000000) (hd : d.size ≤ 1000000) : Calls Tryz.prog 106 #[.string p, .string d] w fun e w' => e = .returned (.bool (und p.data.toList d.data.toList)) ∧ w = w' := by
  by_cases hd0 : d.size = 0
  · obtain rfl := nil_of hd0
    by_cases hp0 : p.size = 0
    · obtain rfl := nil_of hp0
      go_enter Tryz.func106, Tryz.ntmps106
      go_wp2
      go_ret
      exact ⟨rfl, rfl⟩
    · obtain ⟨q1, q2⟩ := not_nil hp0
      have HU : Hid (und p.data.toList [] = true) := Lib.hid (und_root (by rw [← ByteArray.toList_eq]; exact q1))
      go_enter Tryz.func106, Tryz.ntmps106
      go_wp2
      go_ret
      exact ⟨ret_b HU.out.symm, rfl⟩
  · obtain ⟨q1, q2⟩ := not_nil hd0
    have hne : d.data.toList ≠ [] := by rw [← ByteArray.toList_eq]; exact q1
    by_cases hl : d.size + 1 < p.size
    · have hli : (d.size : Int) + 1 < (p.size : Int) := by omega
      have hli2 : (d.size : Int) < (p.size : Int) := by omega
      have hlt : d.size < p.size := by omega
      have hU := und_long (p := p.data.toList) hne (by rw [size_list, size_list]; exact hl)
      have hget : p.data.toList[d.data.toList.length]? = some p[d.size] := by rw [size_list]; exact List.getElem?_eq_getElem (by rw [size_list]; exact hlt)
      have htk : (p.extract 0 d.size).data.toList = p.data.toList.take d.data.toList.length := by rw [size_list]; exact Lib.extract_from_zero p d.size
      rw [hget, ← htk] at hU
      have HU := Lib.hid hU
      clear hU hget htk
      by_cases h47 : p[d.size] = 47
      · have b1 : ((p[d.size].toNat : Int) == 47) = true := by rw [h47]; rfl
        have b1' : (p[d.size].toNat : Int) = 47 := by rw [h47]; rfl
        by_cases he : p.extract 0 d.size = d
        · have c1 : (p.extract 0 d.size).toList = d.toList := by rw [he]
          have c2 : ((p.extract 0 d.size).toList == d.toList) = true := by rw [c1]; simp
          have HE : Hid (und p.data.toList d.data.toList = true) := by show und _ _ = true; rw [HU.out, h47, he]; simp
          clear HU h47 he
          go_enter Tryz.func106, Tryz.ntmps106
          go_wp2
          go_ret
          exact ⟨ret_b HE.out.symm, rfl⟩
        · have c1 : ¬ (p.extract 0 d.size).toList = d.toList := by rw [ByteArray.toList_eq, ByteArray.toList_eq]; exact fun e => he (bytes_eq e)
          have c2 : ((p.extract 0 d.size).toList == d.toList) = false := by rw [beq_eq_false_iff_ne]; exact c1
          have HE : Hid (und p.data.toList d.data.toList = false) := by
            show und _ _ = false
            rw [HU.out]
            have : ((p.extract 0 d.size).data.toList == d.data.toList) = false := by rw [beq_eq_false_iff_ne]; exact fun e => he (bytes_eq e)
            rw [this, Bool.and_false]
          clear HU h47 he
          go_enter Tryz.func106, Tryz.ntmps106
          go_wp2
          go_ret
          exact ⟨ret_b HE.out.symm, rfl⟩
      · have b1' : ¬ (p[d.size].toNat : Int) = 47 := fun e => h47 (UInt8.toNat_inj.1 (by show p[d.size].toNat = 47; omega))
        have b1 : ((p[d.size].toNat : Int) == 47) = false := by rw [beq_eq_false_iff_ne]; exact b1'
        have HE : Hid (und p.data.toList d.data.toList = false) := by
          show und _ _ = false
          rw [HU.out]
          have : (some p[d.size] == some (47 : UInt8)) = false := by rw [beq_eq_false_iff_ne]; exact fun e => h47 (Option.some.inj e)
          rw [this, Bool.false_and]
        clear HU h47
        by_cases he : (p.extract 0 d.size).toList = d.toList
        · have c2 : ((p.extract 0 d.size).toList == d.toList) = true := by rw [he]; simp
          go_enter Tryz.func106, Tryz.ntmps106
          go_wp2
          go_ret
          exact ⟨ret_b HE.out.symm, rfl⟩
        · have c2 : ((p.extract 0 d.size).toList == d.toList) = false := by rw [beq_eq_false_iff_ne]; exact he
          go_enter Tryz.func106, Tryz.ntmps106
          go_wp2
          go_ret
          exact ⟨ret_b HE.out.symm, rfl⟩
    · have hli : ¬ (d.size : Int) + 1 < (p.size : Int) := by omega
      have HE : Hid (und p.data.toList d.data.toList = false) := Lib.hid (und_short hne (by rw [size_list, size_list]; exact hl))
      go_enter Tryz.func106, Tryz.ntmps106
      go_wp2
      go_ret
      exact ⟨ret_b HE.out.symm, rfl⟩
theorem ret_i {a b : Int} (h : a = b) : Ending.returned (.int .i64 a) = .returned (.int .i64 b) := by rw [h]
def cls (a b : List UInt8) : Bool := !(a == []) && (!(b == []) && (und a b || und b a))
theorem cls_of {a b : List UInt8} (ha : a ≠ []) (hb : b ≠ []) : cls a b = (und a b || und b a) := by
  have h1 : (a == []) = false := by rw [beq_eq_false_iff_ne]; exact ha
  have h2 : (b == []) = false := by rw [beq_eq_false_iff_ne]; exact hb
  unfold cls
  rw [h1, h2]; rfl
set_option maxHeartbeats 1000000 in
theorem refClash_any (a b : ByteArray) (w : World) (ha : a.size ≤ 1000000) (hb : b.size ≤ 1000000) : Calls Tryz.prog 51 #[.string a, .string b] w fun e w' => e = .returned (.bool (cls a.data.toList b.data.toList)) ∧ w = w' := by
  by_cases ha0 : a.size = 0
  · obtain rfl := nil_of ha0
    go_enter Tryz.func51, Tryz.ntmps51
    go_wp2
    go_ret
    exact ⟨rfl, rfl⟩
  · obtain ⟨q1, q2⟩ := not_nil ha0
    have n1 : a.data.toList ≠ [] := by rw [← ByteArray.toList_eq]; exact q1
    by_cases hb0 : b.size = 0
    · obtain rfl := nil_of hb0
      have HE : Hid (cls a.data.toList [] = false) := by show cls _ [] = false; unfold cls; simp
      go_enter Tryz.func51, Tryz.ntmps51
      go_wp2
      go_ret
      exact ⟨ret_b HE.out.symm, rfl⟩
    · obtain ⟨q3, q4⟩ := not_nil hb0
      have n2 : b.data.toList ≠ [] := by rw [← ByteArray.toList_eq]; exact q3
      have HE : Hid (cls a.data.toList b.data.toList = (und a.data.toList b.data.toList || und b.data.toList a.data.toList)) := Lib.hid (cls_of n1 n2)
      have U1 := Lib.hid fun W => refUnder_any a b W ha hb
      have U2 := Lib.hid fun W => refUnder_any b a W hb ha
      generalize und a.data.toList b.data.toList = x at *
      generalize und b.data.toList a.data.toList = y at *
      cases x with
      | true =>
        go_enter Tryz.func51, Tryz.ntmps51
        go_wp2_with fail
        refine (U1.out _).mono ?_
        rintro e w' ⟨rfl, rfl⟩
        go_wp2_with fail
        go_ret
        exact ⟨ret_b HE.out.symm, rfl⟩
      | false =>
        go_enter Tryz.func51, Tryz.ntmps51
        go_wp2_with fail
        refine (U1.out _).mono ?_
        rintro e w' ⟨rfl, rfl⟩
        go_wp2_with fail
        refine (U2.out _).mono ?_
        rintro e w' ⟨rfl, rfl⟩
        go_wp2_with fail
        go_ret
        exact ⟨ret_b HE.out.symm, rfl⟩
theorem good_any (c : Int) (w : World) (h0 : 0 ≤ c) (h1 : c ≤ 255) : Calls Tryz.prog 139 #[.int .u8 c] w fun e w' => e = .returned (.bool (gbv c)) ∧ w = w' := by
  by_cases h46 : c = 46
  · subst h46
    have hg : Hid (true = gbv 46) := by show true = gbv 46; rfl
    go_enter Tryz.func139, Tryz.ntmps139
    go_wp2
    all_goals
      go_ret
      exact ⟨ret_b hg.out, rfl⟩
  · by_cases h45 : c = 45
    · subst h45
      have hg : Hid (true = gbv 45) := by show true = gbv 45; rfl
      go_enter Tryz.func139, Tryz.ntmps139
      go_wp2
      all_goals
        go_ret
        exact ⟨ret_b hg.out, rfl⟩
    · by_cases h95 : c = 95
      · subst h95
        have hg : Hid (true = gbv 95) := by show true = gbv 95; rfl
        go_enter Tryz.func139, Tryz.ntmps139
        go_wp2
        all_goals
          go_ret
          exact ⟨ret_b hg.out, rfl⟩
      · have b1 : (c == 46) = false := by rw [beq_eq_false_iff_ne]; exact h46
        have b2 : (c == 45) = false := by rw [beq_eq_false_iff_ne]; exact h45
        have b3 : (c == 95) = false := by rw [beq_eq_false_iff_ne]; exact h95
        go_enter Tryz.func139, Tryz.ntmps139
        go_wp2
        all_goals
          go_ret
          exact ⟨ret_b (by unfold gbv; rw [Bool.eq_iff_iff]; simp only [Bool.or_eq_true, Bool.and_eq_true, decide_eq_true_eq, Bool.false_eq_true, true_iff, false_iff] <;> omega), rfl⟩
theorem spl_snoc : ∀ (l : List UInt8) (f : List (List UInt8)) (x : List UInt8) (c : UInt8), spl l = f ++ [x] → spl (l ++ [c]) = if c = 47 then f ++ [x] ++ [[]] else f ++ [x ++ [c]]
  | [], f, x, c, h => by
    have h' : [[]] = f ++ [x] := h
    cases f with
    | nil => simp at h'; subst h'; by_cases hc : c = 47 <;> simp [spl, hc]
    | cons a f => simp at h'
  | d :: r, f, x, c, h => by
    rw [List.cons_append]
    by_cases hd : d = 47
    · rw [spl, if_pos hd] at h ⊢
      cases f with
      | nil =>
        have h2 : spl r = [] := (List.cons.inj h).2
        exact absurd h2 (spl_ne r)
      | cons a f =>
        rw [List.cons_append, List.cons.injEq] at h
        obtain ⟨rfl, h2⟩ := h
        rw [spl_snoc r f x c h2]
        split <;> rfl
    · rw [spl, if_neg hd] at h ⊢
      cases hs : spl r with
      | nil => exact absurd hs (spl_ne r)
      | cons y ys =>
        rw [hs] at h
        simp only [List.headD_cons, List.tail_cons] at h
        cases f with
        | nil =>
          rw [List.nil_append, List.cons.injEq] at h
          obtain ⟨rfl, rfl⟩ := h
          rw [spl_snoc r [] y c hs]; split <;> rfl
        | cons a f =>
          rw [List.cons_append, List.cons.injEq] at h
          obtain ⟨rfl, h2⟩ := h
          rw [spl_snoc r (y :: f) x c (by rw [hs, h2]; rfl)]
          split <;> rfl
/-- Bytes as a string. -/
def mk (l : List UInt8) : ByteArray := ⟨l.toArray⟩
theorem mk_toList (s : ByteArray) : mk s.data.toList = s := by cases s; simp [mk]
theorem toList_mk (l : List UInt8) : (mk l).data.toList = l := by simp [mk]
theorem mk_size (l : List UInt8) : (mk l).size = l.length := by rw [← size_list, toList_mk]
theorem take_one (l : List UInt8) (k : Nat) (h : k < l.length) : l.take (k + 1) = l.take k ++ [l[k]] := by
  rw [List.take_succ_eq_append_getElem h]
theorem extract_mk (s : ByteArray) (a b : Nat) : s.extract a b = mk ((s.data.toList.take b).drop a) := by
  apply bytes_eq
  rw [ByteArray.data_extract, Array.toList_extract, List.extract_eq_take_drop, toList_mk]
  simp [List.drop_take]
/-- A text's parts, put together again with strokes. -/
def jn : List (List UInt8) → List UInt8
  | [] => []
  | [x] => x
  | x :: y :: r => x ++ 47 :: jn (y :: r)
theorem jn_front (c : UInt8) (y : List UInt8) (ys : List (List UInt8)) : jn ((c :: y) :: ys) = c :: jn (y :: ys) := by
  cases ys <;> rfl
theorem jn_spl : ∀ l : List UInt8, jn (spl l) = l
  | [] => rfl
  | c :: r => by
    have ih := jn_spl r
    cases hs : spl r with
    | nil => exact absurd hs (spl_ne r)
    | cons y ys =>
      rw [hs] at ih
      by_cases hc : c = 47
      · subst hc
        rw [spl, if_pos rfl, hs]
        show [] ++ 47 :: jn (y :: ys) = _
        rw [ih]; rfl
      · rw [spl, if_neg hc, hs]
        show jn ((c :: y) :: ys) = _
        rw [jn_front, ih]
theorem jn_snoc (x : List UInt8) : ∀ f : List (List UInt8), f ≠ [] → jn (f ++ [x]) = jn f ++ 47 :: x
  | [], h => absurd rfl h
  | [y], _ => rfl
  | y :: z :: r, _ => by
    have ih := jn_snoc x (z :: r) (by simp)
    show y ++ 47 :: jn ((z :: r) ++ [x]) = (y ++ 47 :: jn (z :: r)) ++ 47 :: x
    rw [ih]; simp
theorem jn_len : ∀ f : List (List UInt8), ∀ x ∈ f, x.length ≤ (jn f).length
  | [], x, h => by cases h
  | [y], x, h => by simp at h; subst h; exact Nat.le_refl _
  | y :: z :: r, x, h => by
    show x.length ≤ (y ++ 47 :: jn (z :: r)).length
    rw [List.length_append, List.length_cons]
    rcases List.mem_cons.1 h with rfl | h
    · omega
    · have := jn_len (z :: r) x h
      omega
theorem spl_part {l x : List UInt8} (h : x ∈ spl l) : x.length ≤ l.length := by
  have := jn_len (spl l) x h
  rwa [jn_spl] at this
theorem row_set {w : World} {g : Nat} {cur : Array Value} {t : TypeId} (h : w.heap[g]? = some (.cells cur t (0, 0))) (k : Nat) (v : Value) : (w.setCell ⟨g, k, none⟩ v).heap[g]? = some (.cells (cur.setIfInBounds k v) t (0, 0)) := by
  simp [World.setCell, Array.getElem?_modify, h]
/-- A row of the call's own, its last cell: what is in it; what becomes of the row when it is written. -/
theorem own_last {w : World} {B n : Nat} {v : Value} {xs : List Value} {u : Value} (h : w.ownsRow B 9 1 v (n + 1) (xs ++ [u])) :
    ∃ g cap, v = .slice (some ⟨g, 0, none⟩) (n + 1) cap ∧ n + 1 ≤ cap ∧ cap ≤ maxLen ∧ B ≤ g ∧ w.cell? ⟨g, n, none⟩ = some u ∧ w.frozen? ⟨g, n, none⟩ = false ∧
      ∀ u', (w.setCell ⟨g, n, none⟩ u').ownsRow B 9 1 v (n + 1) (xs ++ [u']) := by
  obtain ⟨hl, h⟩ := h
  rcases h with ⟨_, h⟩ | ⟨g, cap, cur, rfl, hB, hh, hn, hm, hs, ht⟩
  · omega
  simp only [Nat.mul_one] at hl hs ht
  have hxl : xs.length = n := by simpa using hl
  have hcl : cur.toList.length = cap := by rw [Array.length_toList]; exact hs
  have hcell : cur[n]? = some u := by
    have : (cur.toList.take (n + 1))[n]? = some u := by rw [ht, List.getElem?_append_right (by omega), hxl]; simp
    rw [List.getElem?_take, if_pos (by omega)] at this
    rwa [Array.getElem?_toList] at this
  refine ⟨g, cap, rfl, hn, hm, hB, (cell_of_row w g n cur 9 (0, 0) hh).trans hcell, by simp [World.frozen?, hh], fun u' => ⟨by simpa using hl, .inr ⟨g, cap, cur.setIfInBounds n u', rfl, hB, row_set hh n u', hn, hm, by simpa using hs, ?_⟩⟩⟩
  rw [Nat.mul_one, Array.toList_setIfInBounds, List.take_set, ht, List.set_append_right _ _ (by omega), hxl]
  simp
/-- Texts in new memory of the call's own, or nil. -/
def StrsTo (B : Nat) (w : World) (ls : List ByteArray) (e : Ending) (w' : World) : Prop :=
  ∃ v, e = .returned v ∧ w'.ownsRow B 9 1 v ls.length (ls.map Value.string) ∧ Below w.heap.size w w'
/-- The state of the cutting behind k bytes. -/
def Cut (p : ByteArray) (k n : Nat) (f : List ByteArray) (x : ByteArray) : Prop := f.length = n ∧ n ≤ k ∧ x.size ≤ k ∧ spl (p.data.toList.take k) = f.map (·.data.toList) ++ [x.data.toList]
theorem cut_zero (p : ByteArray) : Cut p 0 0 [] ⟨#[]⟩ := ⟨rfl, Nat.le_refl _, Nat.le_refl _, rfl⟩
theorem cut_stroke {p : ByteArray} {k n : Nat} {f : List ByteArray} {x : ByteArray} (h : Cut p k n f x) (hk : k < p.data.toList.length) (hc : p.data.toList[k] = 47) : Cut p (k + 1) (n + 1) (f ++ [x]) ⟨#[]⟩ := by
  obtain ⟨h1, h2, h3, h4⟩ := h
  refine ⟨by simp [h1], by omega, Nat.zero_le _, ?_⟩
  rw [take_one _ _ hk, spl_snoc _ _ _ _ h4, if_pos hc]
  simp
theorem cut_byte {p : ByteArray} {k n : Nat} {f : List ByteArray} {x : ByteArray} (h : Cut p k n f x) (hk : k < p.data.toList.length) (hc : ¬ p.data.toList[k] = 47) : Cut p (k + 1) n f (x ++ p.extract k (k + 1)) := by
  obtain ⟨h1, h2, h3, h4⟩ := h
  have e : (p.extract k (k + 1)).data.toList = [p.data.toList[k]] := by
    rw [extract_mk, toList_mk, take_one _ _ hk, List.drop_append_of_le_length (by rw [List.length_take]; omega), List.drop_eq_nil_of_le (by rw [List.length_take]; omega)]; rfl
  have e2 : (x ++ p.extract k (k + 1)).data.toList = x.data.toList ++ [p.data.toList[k]] := by rw [ByteArray.data_append, Array.toList_append, e]
  refine ⟨h1, by omega, ?_, ?_⟩
  · rw [← size_list, e2, List.length_append, size_list]; simp; omega
  · rw [take_one _ _ hk, spl_snoc _ _ _ _ h4, if_neg hc, e2]
theorem refParts_none (w : World) : Calls Tryz.prog 138 #[.string ⟨#[]⟩] w fun e w' => e = .returned (.slice none 0 0) ∧ w = w' := by
  go_enter Tryz.func138, Tryz.ntmps138
  go_wp2
  go_ret
  exact ⟨rfl, rfl⟩
set_option maxRecDepth 100000 in
set_option maxHeartbeats 2000000 in
theorem refParts_any (p : ByteArray) (w : World) (hp : p.size ≤ 1000000) (hne : ¬ p.size = 0) :
    Calls Tryz.prog 138 #[.string p] w (StrsTo w.heap.size w ((spl p.data.toList).map mk)) := by
  obtain ⟨i0, hi, hz0, hz1, hz2⟩ := info_parts strInfo
  obtain ⟨q1, q2⟩ := not_nil hne
  have HSZ := Lib.hid (size_list p)
  go_enter Tryz.func138, Tryz.ntmps138
  go_wp2_with fail
  go_loopw [3, 4] (fun v i wr => ∃ (k n : Nat) (f : List ByteArray) (x : ByteArray), k ≤ p.size ∧ i = .int .i64 k ∧ Hid (Cut p k n f x) ∧ wr.ownsRow w.heap.size 9 1 v (n + 1) (f.map Value.string ++ [.string x]) ∧ Below w.heap.size w wr) (fun _ i _ => p.size - (intOf i).toNat)
  case atStart =>
    refine ⟨0, 0, [], ⟨#[]⟩, Nat.zero_le _, rfl, Lib.hid (cut_zero p), ?_, (Below.refl _ _).alloc (Nat.le_refl _) _⟩
    exact ⟨rfl, .inr ⟨w.heap.size, 1, #[.string ⟨#[]⟩], rfl, Nat.le_refl _, heap_alloc_new w _, Nat.le_refl _, by decide, rfl, rfl⟩⟩
  case round =>
    obtain ⟨k, n, f, x, hk, rfl, hat, hown, hb⟩ := hrel
    by_cases hlt : k < p.size
    · have hl : k < p.data.toList.length := by rw [HSZ.out]; exact hlt
      have hnk : n ≤ k := hat.out.2.1
      have hxk : x.size ≤ k := hat.out.2.2.1
      by_cases hc : p[k] = 47
      · have hc' : p.data.toList[k] = 47 := hc
        have HE := Lib.hid (cut_stroke hat.out hl hc')
        have ht : ((p[k].toNat : Int) == 47) = true := by rw [hc]; rfl
        clear hat hc hc'
        go_wp2_with (at_builtin; refine wpList_append_own _ rfl _ _ 66 rfl w.heap.size 9 i0 (.string { data := #[] }) 1 16 Tryz.underlying66 hi hz0 hz1 hz2 rfl (by decide) _ _ _ rfl (hown.alloc _) ⟨wr.heap.size, 0, none⟩ 1 1 [.string ⟨#[]⟩] rfl ?c1 ?c2 ?c3 ?c4 ?c5 ?c6 ?_)
        case c1 => rfl
        case c2 => exact cell_one_new _ _ _
        case c3 => intro u hu; simp at hu; subst hu; rfl
        case c4 => unfold maxLen; omega
        case c5 => omega
        case c6 => have := hb.size; simp; omega
        intro v' w2 hown2 hg2 _
        have hb2 := (hb.alloc hb.size _).grown hg2 (by have := hb.size; simp; omega) fun z hz => (hown.lt z hz).1
        clear hg2 hown hb
        go_wp2
        go_roundw
        case rel =>
          refine ⟨k + 1, n + 1, f ++ [x], ⟨#[]⟩, by omega, by go_num, HE, ?_, hb2⟩
          simpa using hown2
        case measure => simp [intOf]; omega
      · have hc' : ¬ p.data.toList[k] = 47 := hc
        have HE := Lib.hid (cut_byte hat.out hl hc')
        have ht : ((p[k].toNat : Int) == 47) = false := by
          rw [beq_eq_false_iff_ne]
          intro e
          exact hc (UInt8.toNat_inj.1 (show p[k].toNat = 47 by omega))
        obtain ⟨g, cap, rfl, hn1, hmx, hBg, hcell, hfz, hset⟩ := own_last hown
        have HS := Lib.hid hset
        unfold maxLen at hmx
        clear hat hc hc' hset hown
        have hkp : k + 1 ≤ p.size := hlt
        generalize hm : n + 1 = m at *
        have HM := Lib.hid hm
        have z1 : (0 : Int) ≤ (n : Int) := Int.natCast_nonneg _
        have z2 : (n : Int) < (m : Int) := by omega
        have z3 : IntKind.i64.wrap ((m : Int) - 1) = (n : Int) := by rw [IntKind.wrap_i64]; omega
        have z4 : (0 : Int) ≤ (k : Int) := Int.natCast_nonneg _
        have z5 : IntKind.i64.wrap ((k : Int) + 1) = ((k + 1 : Nat) : Int) := by rw [IntKind.wrap_i64]; omega
        have z6 : (k : Int) ≤ ((k + 1 : Nat) : Int) := by omega
        have z7 : ((k + 1 : Nat) : Int) ≤ (p.size : Int) := by omega
        have z8 : k ≤ k + 1 := by omega
        clear hm
        go_wp2_with fail
        go_region
        all_goals go_wp2
        all_goals go_roundw
        case rel =>
          refine ⟨k + 1, n, f, x ++ p.extract k (k + 1), hkp, by go_num, HE, ?_, ?_⟩
          · rw [HM.out]
            have h2 := HS.out (.string (x ++ p.extract k (k + 1)))
            exact h2
          · exact (hb.setCell (p := ⟨g, n, none⟩) hBg _).drew
        case measure => simp [intOf]; omega
    · obtain rfl : k = p.size := by omega
      have hall : p.data.toList.take p.size = p.data.toList := List.take_of_length_le (by rw [HSZ.out]; omega)
      have hat := hat.out
      unfold Cut at hat
      rw [hall] at hat
      have HR : Hid ((spl p.data.toList).map mk = f ++ [x]) := by
        show (spl p.data.toList).map mk = f ++ [x]
        rw [hat.2.2.2, List.map_append, List.map_map]
        congr 1
        · rw [List.map_congr_left (g := id) (fun y _ => by show mk _ = _; exact mk_toList y), List.map_id]
      have HN := Lib.hid hat.1
      clear hat hall
      go_wp2
      go_ret
      refine ⟨_, rfl, ?_, hb⟩
      rw [HR.out, List.length_append, HN.out]
      simpa using hown
/-- A row of texts that isn't empty: where it lies; what its cells hold. -/
theorem own_cells {w : World} {B : Nat} {v : Value} {ls : List ByteArray} (h : w.ownsRow B 9 1 v ls.length (ls.map Value.string)) (h0 : 0 < ls.length) :
    ∃ g cap, v = .slice (some ⟨g, 0, none⟩) ls.length cap ∧ ls.length ≤ cap ∧ cap ≤ maxLen ∧ g < w.heap.size ∧ ∀ k x, ls[k]? = some x → w.cell? ⟨g, k, none⟩ = some (.string x) := by
  obtain ⟨hl, h⟩ := h
  rcases h with ⟨_, h⟩ | ⟨g, cap, cur, rfl, hB, hh, hn, hm, hs, ht⟩
  · omega
  simp only [Nat.mul_one] at hl hs ht
  refine ⟨g, cap, rfl, hn, hm, (Array.getElem?_eq_some_iff.1 hh).1, fun k x hk => (cell_of_row w g k cur 9 (0, 0) hh).trans ?_⟩
  have hlt := (List.getElem?_eq_some_iff.1 hk).1
  have : (cur.toList.take ls.length)[k]? = some (.string x) := by rw [ht, List.getElem?_map, hk]; rfl
  rw [List.getElem?_take, if_pos hlt] at this
  rwa [Array.getElem?_toList] at this
/-- The world is as it was. -/
def SameW (a b : World) : Prop := a = b
theorem refCheck_long (p : ByteArray) (w : World) (hp : p.size ≤ 9223372036854775807) (h : 64 < p.size) : Calls Tryz.prog 104 #[.string p] w fun e w' => e = .returned (.int .i64 4) ∧ Below w.heap.size w w' := by
  have hi : (64 : Int) < (p.size : Int) := by omega
  go_enter Tryz.func104, Tryz.ntmps104
  go_wp2
  go_ret
  exact ⟨rfl, Below.refl _ _⟩
theorem refCheck_none (w : World) : Calls Tryz.prog 104 #[.string ⟨#[]⟩] w fun e w' => e = .returned (.int .i64 5) ∧ Below w.heap.size w w' := by
  go_enter Tryz.func104, Tryz.ntmps104
  go_wp2_with (go_at_call 138; refine (refParts_none _).mono ?_; rintro e w' ⟨rfl, rfl⟩)
  go_ret
  exact ⟨rfl, Below.refl _ _⟩
theorem ret_5 {p : ByteArray} {k : Nat} {x : List UInt8} (h : ¬ 64 < p.data.toList.length) (h0 : p.data.toList ≠ []) (hk : (spl p.data.toList)[k]? = some x) (hg : gp x = false) : chk p.data.toList = 5 :=
  chk_bad h h0 (by
    rw [Bool.eq_false_iff]
    intro ha
    have := List.all_eq_true.1 ha x (List.mem_of_getElem? hk)
    rw [hg] at this
    cases this)
set_option maxRecDepth 100000 in
set_option maxHeartbeats 4000000 in
theorem refCheck_main (p : ByteArray) (w : World) (h : ¬ 64 < p.size) (hne : ¬ p.size = 0) : Calls Tryz.prog 104 #[.string p] w (Checked p w) := by
  have hi : ¬ (64 : Int) < (p.size : Int) := by omega
  have hi2 : (p.size : Int) ≤ 64 := by omega
  obtain ⟨n, hn⟩ : ∃ n, (spl p.data.toList).length = n := ⟨_, rfl⟩
  have hsz := size_list p
  have hn1 : n ≤ 65 := by have := spl_len p.data.toList; omega
  have hn0 : 0 < n := by have := List.length_pos_iff.2 (spl_ne p.data.toList); omega
  have hnz : ((n : Int) == 0) = false := by rw [beq_eq_false_iff_ne]; omega
  have B5 : Hid (∀ (k : Nat) (x : List UInt8), (spl p.data.toList)[k]? = some x → gp x = false → chk p.data.toList = 5) := Lib.hid fun k x hk hg => ret_5 (by omega) (fun e => hne (by rw [← hsz, e]; rfl)) hk hg
  have B0 : Hid ((spl p.data.toList).all gp = true → chk p.data.toList = 0) := Lib.hid fun ha => chk_good (by omega) (fun e => hne (by rw [← hsz, e]; rfl)) ha
  have PL : Hid (∀ x ∈ spl p.data.toList, x.length ≤ 64) := Lib.hid fun x hx => by have := spl_part hx; omega
  go_enter Tryz.func104, Tryz.ntmps104
  go_wp2_with fail
  refine (refParts_any p w (by omega) hne).mono ?_
  rintro e w1 ⟨v, rfl, hown, hb1⟩
  obtain ⟨g, cap, rfl, hcap, hmx, hg, hcs⟩ := own_cells hown (by rw [List.length_map, hn]; exact hn0)
  rw [List.length_map, hn] at hcap ⊢
  have HN := Lib.hid hn
  have HB := Lib.hid hb1
  have HC : Hid (∀ (k : Nat) (x : List UInt8), (spl p.data.toList)[k]? = some x → w1.cell? ⟨g, k, none⟩ = some (.string (mk x))) := Lib.hid fun k x hk => hcs k (mk x) (by rw [List.getElem?_map, hk]; rfl)
  unfold maxLen at hmx
  clear hcs hown hb1 hn hsz
  go_wp2_with fail
  go_loopw [4] (fun i wr => ∃ k : Nat, i = .int .i64 k ∧ k ≤ n ∧ SameW wr w1 ∧ Hid (∀ j x, j < k → (spl p.data.toList)[j]? = some x → gp x = true)) (fun i _ => n - (intOf i).toNat)
  case atStart => exact ⟨0, rfl, Nat.zero_le _, rfl, Lib.hid fun j x hj => absurd hj (Nat.not_lt_zero _)⟩
  case round =>
    obtain ⟨k, rfl, hk, hw, hall⟩ := hrel
    unfold SameW at hw
    subst hw
    by_cases hlt : k < n
    · obtain ⟨x, hx⟩ : ∃ x, (spl p.data.toList)[k]? = some x := ⟨_, List.getElem?_eq_getElem (by rw [HN.out]; exact hlt)⟩
      have hcell := HC.out k x hx
      have hxl := PL.out x (List.mem_of_getElem? hx)
      have HX := Lib.hid hx
      clear hx
      obtain ⟨y, hy⟩ : ∃ y, mk x = y := ⟨_, rfl⟩
      have hyx : y.data.toList = x := by rw [← hy, toList_mk]
      rw [hy] at hcell
      have hys : y.size ≤ 64 := by rw [← hy, mk_size]; exact hxl
      clear hy hxl
      by_cases e0 : y.data.toList = []
      · obtain rfl := bytes_eq (b := ⟨#[]⟩) e0
        have H5 := Lib.hid (B5.out k x HX.out (by rw [← hyx]; rfl))
        clear e0 hyx
        go_wp2
        go_ret
        exact ⟨ret_i H5.out.symm, HB.out⟩
      by_cases e1 : y.data.toList = [46]
      · obtain rfl := bytes_eq (b := ⟨#[46]⟩) e1
        have H5 := Lib.hid (B5.out k x HX.out (by rw [← hyx]; rfl))
        clear e0 e1 hyx
        go_wp2
        go_ret
        exact ⟨ret_i H5.out.symm, HB.out⟩
      by_cases e2 : y.data.toList = [46, 46]
      · obtain rfl := bytes_eq (b := ⟨#[46, 46]⟩) e2
        have H5 := Lib.hid (B5.out k x HX.out (by rw [← hyx]; rfl))
        clear e0 e1 e2 hyx
        go_wp2
        go_ret
        exact ⟨ret_i H5.out.symm, HB.out⟩
      have q0 : ¬ y.toList = [] := by rw [ByteArray.toList_eq]; exact e0
      have q0' : y.toList.isEmpty = false := by rw [List.isEmpty_eq_false_iff]; exact q0
      have q1 : ¬ y.toList = [46] := by rw [ByteArray.toList_eq]; exact e1
      have q1' : (y.toList == [46]) = false := by rw [beq_eq_false_iff_ne]; exact q1
      have q2 : ¬ y.toList = [46, 46] := by rw [ByteArray.toList_eq]; exact e2
      have q2' : (y.toList == [46, 46]) = false := by rw [beq_eq_false_iff_ne]; exact q2
      have E := Lib.hid (And.intro e0 (And.intro e1 e2))
      have HYX := Lib.hid hyx
      have HYS := Lib.hid (size_list y)
      clear e0 e1 e2 hyx
      go_wp2_with fail
      go_loopw [5] (fun i wq => ∃ j : Nat, i = .int .i64 j ∧ j ≤ y.size ∧ SameW wq wr ∧ Hid (∀ i (hi : i < y.data.toList.length), i < j → gbv (y.data.toList[i].toNat : Int) = true)) (fun i _ => y.size - (intOf i).toNat)
      case atStart => exact ⟨0, rfl, Nat.zero_le _, rfl, Lib.hid fun i hi hj => absurd hj (Nat.not_lt_zero _)⟩
      case round =>
        obtain ⟨j, rfl, hj, hw, hgood⟩ := hrel
        unfold SameW at hw
        subst hw
        by_cases hjy : j < y.size
        · have hjl : j < y.data.toList.length := by rw [HYS.out]; exact hjy
          have hc0 : (0 : Int) ≤ (y[j].toNat : Int) := Int.natCast_nonneg _
          have hc1 : (y[j].toNat : Int) ≤ 255 := by have := y[j].toNat_lt; omega
          have GA := Lib.hid (good_any (y[j].toNat : Int) wr hc0 hc1)
          cases hgb : gbv (y[j].toNat : Int) with
          | false =>
            rw [hgb] at GA
            have H5 := Lib.hid (B5.out k x HX.out (by rw [← HYX.out]; exact gp_bad hjl hgb))
            clear hgb
            go_wp2_with (go_at_call 139; refine GA.out.mono ?_; rintro e w' ⟨rfl, rfl⟩)
            go_ret
            exact ⟨ret_i H5.out.symm, HB.out⟩
          | true =>
            rw [hgb] at GA
            have HG : Hid (∀ i (hi : i < y.data.toList.length), i < j + 1 → gbv (y.data.toList[i].toNat : Int) = true) := Lib.hid fun i hi hij => by
              by_cases e : i = j
              · subst e; exact hgb
              · exact hgood.out i hi (by omega)
            clear hgb hgood
            go_wp2_with (go_at_call 139; refine GA.out.mono ?_; rintro e w' ⟨rfl, rfl⟩)
            go_roundw
            case rel => exact ⟨j + 1, by go_num, hjy, rfl, HG⟩
            case measure => simp [intOf]; omega
        · have HP : Hid (∀ j x, j < k + 1 → (spl p.data.toList)[j]? = some x → gp x = true) := Lib.hid fun i z hi hz => by
            by_cases e : i = k
            · subst e
              obtain rfl : x = z := Option.some.inj (HX.out.symm.trans hz)
              rw [← HYX.out]
              exact gp_all E.out.1 E.out.2.1 E.out.2.2 fun t ht => hgood.out t ht (by rw [HYS.out] at ht; omega)
            · exact hall.out i z (by omega) hz
          clear hgood hall
          go_wp2
          go_roundw
          case rel => exact ⟨k + 1, by go_num, hlt, rfl, HP⟩
          case measure => simp [intOf]; omega
    · have H0 := Lib.hid (B0.out (by
        rw [List.all_eq_true]
        intro x hx
        obtain ⟨j, hj, rfl⟩ := List.getElem_of_mem hx
        exact hall.out j _ (by rw [HN.out] at hj; omega) (List.getElem?_eq_getElem hj)))
      clear hall
      go_wp2
      go_ret
      exact ⟨ret_i H0.out.symm, HB.out⟩
theorem refCheck_any (p : ByteArray) (w : World) (hp : p.size ≤ 9223372036854775807) : Calls Tryz.prog 104 #[.string p] w (Checked p w) := by
  by_cases h : 64 < p.size
  · refine (refCheck_long p w hp h).mono ?_
    rintro e w' ⟨rfl, hb⟩
    exact ⟨ret_i (chk_long (by rw [size_list]; exact h)).symm, hb⟩
  · by_cases h0 : p.size = 0
    · obtain rfl := nil_of h0
      exact refCheck_none w
    · exact refCheck_main p w h h0
end Go.Proofs.YtplleaimmmanhaaGreatDoor
namespace Go.Proofs.YtplleaimmmanhaaGreatDoor
open Go Go.RowKit
set_option maxHeartbeats 1000000 in
theorem under_any (p d : ByteArray) (w : World) (hp : p.size ≤ 1000000) (hd : d.size ≤ 1000000) : Calls Tryz.prog 112 #[.string p, .string d] w fun e w' => e = .returned (.bool (und p.data.toList d.data.toList)) ∧ w = w' := by
  by_cases hd0 : d.size = 0
  · obtain rfl := nil_of hd0
    by_cases hp0 : p.size = 0
    · obtain rfl := nil_of hp0
      go_enter Tryz.func112, Tryz.ntmps112
      go_wp2
      go_ret
      exact ⟨rfl, rfl⟩
    · obtain ⟨q1, q2⟩ := not_nil hp0
      have HU : Hid (und p.data.toList [] = true) := Lib.hid (und_root (by rw [← ByteArray.toList_eq]; exact q1))
      go_enter Tryz.func112, Tryz.ntmps112
      go_wp2
      go_ret
      exact ⟨ret_b HU.out.symm, rfl⟩
  · obtain ⟨q1, q2⟩ := not_nil hd0
    have hne : d.data.toList ≠ [] := by rw [← ByteArray.toList_eq]; exact q1
    by_cases hl : d.size + 1 < p.size
    · have hli : (d.size : Int) + 1 < (p.size : Int) := by omega
      have hli2 : (d.size : Int) < (p.size : Int) := by omega
      have hlt : d.size < p.size := by omega
      have hU := und_long (p := p.data.toList) hne (by rw [size_list, size_list]; exact hl)
      have hget : p.data.toList[d.data.toList.length]? = some p[d.size] := by rw [size_list]; exact List.getElem?_eq_getElem (by rw [size_list]; exact hlt)
      have htk : (p.extract 0 d.size).data.toList = p.data.toList.take d.data.toList.length := by rw [size_list]; exact Lib.extract_from_zero p d.size
      rw [hget, ← htk] at hU
      have HU := Lib.hid hU
      clear hU hget htk
      by_cases h47 : p[d.size] = 47
      · have b1 : ((p[d.size].toNat : Int) == 47) = true := by rw [h47]; rfl
        have b1' : (p[d.size].toNat : Int) = 47 := by rw [h47]; rfl
        by_cases he : p.extract 0 d.size = d
        · have c1 : (p.extract 0 d.size).toList = d.toList := by rw [he]
          have c2 : ((p.extract 0 d.size).toList == d.toList) = true := by rw [c1]; simp
          have HE : Hid (und p.data.toList d.data.toList = true) := by show und _ _ = true; rw [HU.out, h47, he]; simp
          clear HU h47 he
          go_enter Tryz.func112, Tryz.ntmps112
          go_wp2
          go_ret
          exact ⟨ret_b HE.out.symm, rfl⟩
        · have c1 : ¬ (p.extract 0 d.size).toList = d.toList := by rw [ByteArray.toList_eq, ByteArray.toList_eq]; exact fun e => he (bytes_eq e)
          have c2 : ((p.extract 0 d.size).toList == d.toList) = false := by rw [beq_eq_false_iff_ne]; exact c1
          have HE : Hid (und p.data.toList d.data.toList = false) := by
            show und _ _ = false
            rw [HU.out]
            have : ((p.extract 0 d.size).data.toList == d.data.toList) = false := by rw [beq_eq_false_iff_ne]; exact fun e => he (bytes_eq e)
            rw [this, Bool.and_false]
          clear HU h47 he
          go_enter Tryz.func112, Tryz.ntmps112
          go_wp2
          go_ret
          exact ⟨ret_b HE.out.symm, rfl⟩
      · have b1' : ¬ (p[d.size].toNat : Int) = 47 := fun e => h47 (UInt8.toNat_inj.1 (by show p[d.size].toNat = 47; omega))
        have b1 : ((p[d.size].toNat : Int) == 47) = false := by rw [beq_eq_false_iff_ne]; exact b1'
        have HE : Hid (und p.data.toList d.data.toList = false) := by
          show und _ _ = false
          rw [HU.out]
          have : (some p[d.size] == some (47 : UInt8)) = false := by rw [beq_eq_false_iff_ne]; exact fun e => h47 (Option.some.inj e)
          rw [this, Bool.false_and]
        clear HU h47
        by_cases he : (p.extract 0 d.size).toList = d.toList
        · have c2 : ((p.extract 0 d.size).toList == d.toList) = true := by rw [he]; simp
          go_enter Tryz.func112, Tryz.ntmps112
          go_wp2
          go_ret
          exact ⟨ret_b HE.out.symm, rfl⟩
        · have c2 : ((p.extract 0 d.size).toList == d.toList) = false := by rw [beq_eq_false_iff_ne]; exact he
          go_enter Tryz.func112, Tryz.ntmps112
          go_wp2
          go_ret
          exact ⟨ret_b HE.out.symm, rfl⟩
    · have hli : ¬ (d.size : Int) + 1 < (p.size : Int) := by omega
      have HE : Hid (und p.data.toList d.data.toList = false) := Lib.hid (und_short hne (by rw [size_list, size_list]; exact hl))
      go_enter Tryz.func112, Tryz.ntmps112
      go_wp2
      go_ret
      exact ⟨ret_b HE.out.symm, rfl⟩

set_option maxHeartbeats 1000000 in
theorem clash_any (a b : ByteArray) (w : World) (ha : a.size ≤ 1000000) (hb : b.size ≤ 1000000) : Calls Tryz.prog 57 #[.string a, .string b] w fun e w' => e = .returned (.bool (cls a.data.toList b.data.toList)) ∧ w = w' := by
  by_cases ha0 : a.size = 0
  · obtain rfl := nil_of ha0
    go_enter Tryz.func57, Tryz.ntmps57
    go_wp2
    go_ret
    exact ⟨rfl, rfl⟩
  · obtain ⟨q1, q2⟩ := not_nil ha0
    have n1 : a.data.toList ≠ [] := by rw [← ByteArray.toList_eq]; exact q1
    by_cases hb0 : b.size = 0
    · obtain rfl := nil_of hb0
      have HE : Hid (cls a.data.toList [] = false) := by show cls _ [] = false; unfold cls; simp
      go_enter Tryz.func57, Tryz.ntmps57
      go_wp2
      go_ret
      exact ⟨ret_b HE.out.symm, rfl⟩
    · obtain ⟨q3, q4⟩ := not_nil hb0
      have n2 : b.data.toList ≠ [] := by rw [← ByteArray.toList_eq]; exact q3
      have HE : Hid (cls a.data.toList b.data.toList = (und a.data.toList b.data.toList || und b.data.toList a.data.toList)) := Lib.hid (cls_of n1 n2)
      have U1 := Lib.hid fun W => under_any a b W ha hb
      have U2 := Lib.hid fun W => under_any b a W hb ha
      generalize und a.data.toList b.data.toList = x at *
      generalize und b.data.toList a.data.toList = y at *
      cases x with
      | true =>
        go_enter Tryz.func57, Tryz.ntmps57
        go_wp2_with fail
        refine (U1.out _).mono ?_
        rintro e w' ⟨rfl, rfl⟩
        go_wp2_with fail
        go_ret
        exact ⟨ret_b HE.out.symm, rfl⟩
      | false =>
        go_enter Tryz.func57, Tryz.ntmps57
        go_wp2_with fail
        refine (U1.out _).mono ?_
        rintro e w' ⟨rfl, rfl⟩
        go_wp2_with fail
        refine (U2.out _).mono ?_
        rintro e w' ⟨rfl, rfl⟩
        go_wp2_with fail
        go_ret
        exact ⟨ret_b HE.out.symm, rfl⟩

end Go.Proofs.YtplleaimmmanhaaGreatDoor
namespace Go.Proofs.YtplleaimmmanhaaGreatDoor
open Go.RowKit

def RiseTo (l : List Fl) (w : World) (e : Ending) (w' : World) : Prop := ∃ b : Bool, e = .returned (.bool b) ∧ (b = true ↔ RiseF l) ∧ ∃ q, w' = w.drewN q
set_option maxHeartbeats 4000000 in
theorem rises_any (w : World) (v : Value) (l : List Fl) (h : Reads 3 cF w v l) (hl : l.length ≤ 100000) :
    Calls Tryz.prog 13 #[v] w (RiseTo l w) := by
  obtain ⟨A, c, rfl⟩ := h.form
  have HO := Lib.hid h
  clear h
  go_enter Tryz.func13, Tryz.ntmps13
  go_wp2
  go_loopw [3] (fun s3 wr => ∃ k q : Nat, k ≤ l.length ∧ s3 = .int .i64 ((k + 1 : Nat) : Int) ∧ Hid (∀ (t : Nat) (x y : Fl), t < k → l[t]? = some x → l[t + 1]? = some y → cb x.1 y.1 < 0) ∧ wr = w.drewN q) (fun s3 _ => l.length + 1 - (intOf s3).toNat)
  case atStart => exact ⟨0, 0, Nat.zero_le _, rfl, Lib.hid (fun t x y ht => absurd ht (Nat.not_lt_zero _)), rfl⟩
  case round =>
    obtain ⟨k, q, hk, rfl, hp, rfl⟩ := hrel
    obtain ⟨m, hm⟩ : ∃ m, m = k + 1 := ⟨_, rfl⟩
    rw [← hm]
    have HM := Lib.hid hm
    by_cases hlt : k + 1 < l.length
    · obtain ⟨x, hx⟩ : ∃ x, l[k]? = some x := ⟨_, List.getElem?_eq_getElem (by omega)⟩
      obtain ⟨y, hy⟩ : ∃ y, l[k + 1]? = some y := ⟨_, List.getElem?_eq_getElem hlt⟩
      obtain ⟨ad, rfl, c0, c1, c2⟩ := Fils.at_ HO.out hx
      obtain ⟨ad', had, d0, d1, d2⟩ := Fils.at_ HO.out hy
      obtain rfl := Option.some.inj had
      have HX := Lib.hid hx
      have HY := Lib.hid hy
      obtain ⟨px, mx, sx⟩ := x
      obtain ⟨py, my, sy⟩ := y
      have hw : IntKind.i64.wrap ((m : Int) - 1) = (k : Int) := by rw [IntKind.wrap_i64] <;> omega
      rw [← hm] at d0 d1 d2
      have k0 : (0 : Int) ≤ (k : Int) := Int.natCast_nonneg _
      have k1 : (m : Int) < (l.length : Int) := by omega
      have k3 : (0 : Int) ≤ (m : Int) := Int.natCast_nonneg _
      have k2 : (k : Int) < (l.length : Int) := by omega
      have hlc := less_cb px py
      clear hx hy hm
      by_cases hc : cb px py < 0
      · have hls : Op.bytesLess px.toList py.toList = true := by rw [hlc]; exact decide_eq_true hc
        have HC := Lib.hid hc
        clear hlc
        go_wp2_with fail
        go_quiet (fail)
        go_wp2
        go_roundw
        case rel => exact ⟨k + 1, _, by omega, by rw [← HM.out]; go_num, Lib.hid (fun t a b ht ha hb => by
          rcases Nat.lt_or_ge t k with h1 | h1
          · exact hp.out t a b h1 ha hb
          · obtain rfl : t = k := by omega
            rw [HX.out] at ha
            rw [HY.out] at hb
            rw [← Option.some.inj ha, ← Option.some.inj hb]
            exact HC.out), rfl⟩
        case measure => have := HM.out; simp [intOf]; omega
      · have hls : Op.bytesLess px.toList py.toList = false := by rw [hlc]; exact decide_eq_false hc
        have HC := Lib.hid hc
        clear hlc
        go_wp2_with fail
        go_quiet (fail)
        go_wp2
        go_ret
        exact ⟨_, rfl, ⟨(fun h => by cases h), fun hr => absurd (rise_at hr HX.out HY.out) (Int.not_lt.2 HC.out)⟩, q + nq, drewN_two w q nq⟩
    · have hlt' : ¬ (m : Int) < (l.length : Int) := by omega
      clear hm
      go_wp2
      go_ret
      exact ⟨_, rfl, ⟨fun _ => rise_adj l fun t x y hx hy => hp.out t x y (by have := (List.getElem?_eq_some_iff.1 hy).1; omega) hx hy, fun _ => rfl⟩, _, rfl⟩
end Go.Proofs.YtplleaimmmanhaaGreatDoor
namespace Go.Proofs.YtplleaimmmanhaaGreatDoor
open Go.RowKit

def BoolTo (b : Bool) (w : World) (e : Ending) (w' : World) : Prop := e = .returned (.bool b) ∧ ∃ q, w' = w.drewN q

theorem prefix_all {α : Type} {a b : List α} {n : Nat} (h : ∀ i, i < n → a[i]? = b[i]?) (ha : a.length = n) (hb : b.length = n) : a = b := by
  apply List.ext_getElem?
  intro i
  by_cases hi : i < n
  · exact h i hi
  · rw [List.getElem?_eq_none (by omega), List.getElem?_eq_none (by omega)]

set_option maxHeartbeats 4000000 in
theorem equalF_any (w : World) (v u : Value) (a b : List Fl) (h : Reads 3 cF w v a) (g : Reads 3 cF w u b) :
    Calls Tryz.prog 92 #[v, u] w (BoolTo (decide (a = b)) w) := by
  obtain ⟨A, c, rfl⟩ := h.form
  obtain ⟨B, d, rfl⟩ := g.form
  have hn := h.len
  have gn := g.len
  have hm1 : a.length ≤ 9223372036854775807 := by have := hn.2; unfold maxLen at this; omega
  have hm2 : b.length ≤ 9223372036854775807 := by have := gn.2; unfold maxLen at this; omega
  have HA := Lib.hid h
  have HB := Lib.hid g
  clear h g hn gn
  by_cases hnm : a.length = b.length
  · have hi0 : (a.length : Int) = (b.length : Int) := by omega
    have HN := Lib.hid hnm
    clear hnm
    go_enter Tryz.func92, Tryz.ntmps92
    go_wp2
    go_loopw [5, 13] (fun _ s13 wr => ∃ k q : Nat, k ≤ b.length ∧ s13 = .int .i64 k ∧ Hid (∀ i, i < k → a[i]? = b[i]?) ∧ wr = w.drewN q) (fun _ s13 _ => b.length - (intOf s13).toNat)
    case atStart => exact ⟨0, 0, Nat.zero_le _, rfl, Lib.hid (fun i hi => absurd hi (Nat.not_lt_zero _)), rfl⟩
    case round =>
      obtain ⟨k, q, hk, rfl, hp, rfl⟩ := hrel
      by_cases hlt : k < b.length
      · obtain ⟨x, hx⟩ : ∃ x, a[k]? = some x := ⟨_, List.getElem?_eq_getElem (by rw [HN.out]; exact hlt)⟩
        obtain ⟨y, hy⟩ : ∃ y, b[k]? = some y := ⟨_, List.getElem?_eq_getElem hlt⟩
        obtain ⟨ad, rfl, c0, c1, c2⟩ := Fils.at_ HA.out hx
        obtain ⟨ad2, rfl, d0, d1, d2⟩ := Fils.at_ HB.out hy
        have HX := Lib.hid hx
        have HY := Lib.hid hy
        have k0 : (0 : Int) ≤ (k : Int) := Int.natCast_nonneg _
        have k1 : (k : Int) < (b.length : Int) := by omega
        have HNE := Lib.hid (show x ≠ y → decide (a = b) = false from fun hne => decide_eq_false fun e => by
          rw [e, hy] at hx
          exact hne (Option.some.inj hx).symm)
        clear hx hy
        by_cases hxy : x = y
        · subst hxy
          obtain ⟨p, m, s⟩ := x
          go_wp2_with fail
          go_quiet (fail)
          go_wp2
          go_roundw
          case rel => exact ⟨k + 1, _, by omega, by go_num, Lib.hid (fun i hi => by
            rcases Nat.lt_or_ge i k with h1 | h1
            · exact hp.out i h1
            · obtain rfl : i = k := by omega
              rw [HX.out, HY.out]), rfl⟩
          case measure => simp [intOf]; omega
        · have HC := Lib.hid (HNE.out hxy)
          obtain ⟨p, m, s⟩ := x
          obtain ⟨p', m', s'⟩ := y
          by_cases h1 : p = p'
          · subst h1
            by_cases h2 : m = m'
            · subst h2
              have h3 : ¬ s = s' := fun e => hxy (by rw [e])
              have e3 : ¬ s.toList = s'.toList := fun e => h3 (tl_eq e)
              have e3' : (s.toList == s'.toList) = false := by simpa using e3
              clear h3 hxy
              go_wp2_with fail
              go_quiet (fail)
              go_wp2
              go_ret
              exact ⟨by rw [HC.out]; rfl, _, drewN_two _ _ _⟩
            · have e2' : (m == m') = false := by simpa using h2
              clear hxy
              go_wp2_with fail
              go_quiet (fail)
              go_wp2
              go_ret
              exact ⟨by rw [HC.out]; rfl, _, drewN_two _ _ _⟩
          · have e1 : ¬ p.toList = p'.toList := fun e => h1 (tl_eq e)
            have e1' : (p.toList == p'.toList) = false := by simpa using e1
            clear hxy h1
            go_wp2_with fail
            go_quiet (fail)
            go_wp2
            go_ret
            exact ⟨by rw [HC.out]; rfl, _, drewN_two _ _ _⟩
      · obtain rfl : k = b.length := by omega
        have HC : Hid (decide (a = b) = true) := Lib.hid (decide_eq_true (prefix_all hp.out HN.out rfl))
        go_wp2
        go_ret
        exact ⟨by rw [HC.out]; rfl, _, rfl⟩
  · have hi0 : ¬ (a.length : Int) = (b.length : Int) := by omega
    have HC : Hid (decide (a = b) = false) := Lib.hid (decide_eq_false fun e => hnm (by rw [e]))
    clear hnm
    go_enter Tryz.func92, Tryz.ntmps92
    go_wp2
    go_ret
    exact ⟨by rw [HC.out]; rfl, 0, rfl⟩

theorem sameF_any (w : World) (v u : Value) (a b : List Fl) (h : Reads 3 cF w v a) (g : Reads 3 cF w u b) :
    Calls Tryz.prog 44 #[v, u] w (BoolTo (decide (a = b)) w) := by
  have E := Lib.hid (equalF_any w v u a b h g)
  clear h g
  go_enter Tryz.func44, Tryz.ntmps44
  go_wp2_with fail
  refine E.out.mono ?_
  rintro e w' ⟨rfl, q, rfl⟩
  go_wp2
  go_ret
  exact ⟨rfl, q, rfl⟩
end Go.Proofs.YtplleaimmmanhaaGreatDoor
namespace Go.Proofs.YtplleaimmmanhaaGreatDoor
open Go Go.RowKit

/-- A closure that takes a file and has captured one thing: what it says, wherever all below B is as it was in w0. -/
def PB (B : Nat) (w0 : World) (g : Nat) (c : Value) (p : Fl → Bool) : Prop :=
  ∀ (W : World) (x : Fl), Below B w0 W → x.1.size ≤ 1000000 → Calls Tryz.prog g #[.agg #[.string x.1, .int .i64 x.2.1, .string x.2.2], c] W fun e w' => e = .returned (.bool (p x)) ∧ Below W.heap.size W w'
def IdxTo (p : Fl → Bool) (l : List Fl) (w : World) (e : Ending) (w' : World) : Prop :=
  ∃ n : Int, e = .returned (.int .i64 n) ∧ Below w.heap.size w w' ∧ ((n = -1 ∧ l.any p = false) ∨ ∃ (i : Nat) (x : Fl), n = i ∧ l[i]? = some x ∧ p x = true ∧ (l.take i).any p = false)
def Sized (l : List Fl) : Prop := ∀ x ∈ l, x.1.size ≤ 1000000
theorem Sized.at_ {l : List Fl} (h : Sized l) {i : Nat} {x : Fl} (hx : l[i]? = some x) : x.1.size ≤ 1000000 := h x (List.mem_of_getElem? hx)

set_option maxHeartbeats 2000000 in
theorem indexF_any (w0 w : World) (B : Nat) (hb : Below B w0 w) (hB : B ≤ w.heap.size) (v : Value) (l : List Fl) (g : Nat) (c : Value) (p : Fl → Bool) (h : Reads 3 cF w v l) (hs : Sized l) (hl : l.length ≤ 100000)
    (eg : ∀ args w, (callFunc g args).run Tryz.prog w = .ok (.enter g args) w) (hp : PB B w0 g c p) :
    Calls Tryz.prog 137 #[v, .func (.func g) #[] #[c]] w (IdxTo p l w) := by
  obtain ⟨A, cap, rfl⟩ := h.form
  have hn := h.len
  have HO := Lib.hid h
  have HP := Lib.hid hp
  have HS := Lib.hid hs
  clear h hn hp hs
  go_enter Tryz.func137, Tryz.ntmps137
  go_wp2
  go_loopw [5, 8] (fun _ s8 wr => ∃ k : Nat, k ≤ l.length ∧ s8 = .int .i64 k ∧ Below w.heap.size w wr ∧ Hid ((l.take k).any p = false)) (fun _ s8 _ => l.length - (intOf s8).toNat)
  case atStart => exact ⟨0, Nat.zero_le _, rfl, Below.refl _ _, Lib.hid (by simp)⟩
  case round =>
    obtain ⟨k, hk, rfl, hb1, A1⟩ := hrel
    by_cases hlt : k < l.length
    · obtain ⟨x, hx⟩ : ∃ x, l[k]? = some x := ⟨_, List.getElem?_eq_getElem hlt⟩
      obtain ⟨ad, rfl, c0, c1, c2⟩ := Fils.at_ (HO.out.below hb1) hx
      have hcall := HP.out wr x (hb.trans (hb1.mono hB)) (HS.out.at_ hx)
      have HX := Lib.hid hx
      have HT : Hid (p x = false → (l.take (k + 1)).any p = false) := Lib.hid fun hq => by
        rw [take_snoc hx, List.any_append, A1.out]; simp [hq]
      clear hx
      cases hq : p x with
      | true =>
        rw [hq] at hcall
        have HQ := Lib.hid hq
        clear hq
        go_wp2_with (go_at_fn g; refine hcall.mono ?_; rintro e w' ⟨rfl, hb2⟩)
        go_ret
        exact ⟨_, rfl, hb1.trans (hb2.mono hb1.size), .inr ⟨k, x, rfl, HX.out, HQ.out, A1.out⟩⟩
      | false =>
        rw [hq] at hcall
        have HQ := Lib.hid hq
        clear hq
        go_wp2_with (go_at_fn g; refine hcall.mono ?_; rintro e w' ⟨rfl, hb2⟩)
        go_roundw
        case rel => exact ⟨k + 1, by omega, by go_num, hb1.trans (hb2.mono hb1.size), Lib.hid (HT.out HQ.out)⟩
        case measure => simp [intOf]; omega
    · obtain rfl : k = l.length := by omega
      go_wp2
      go_ret
      exact ⟨_, rfl, hb1, .inl ⟨rfl, by have := A1.out; rwa [List.take_length] at this⟩⟩

theorem any_hit {l : List Fl} {p : Fl → Bool} {i : Nat} {x : Fl} (hx : l[i]? = some x) (hp : p x = true) : l.any p = true := List.any_eq_true.2 ⟨x, List.mem_of_getElem? hx, hp⟩

set_option maxHeartbeats 1000000 in
theorem containsF_any (w0 w : World) (B : Nat) (hb : Below B w0 w) (hB : B ≤ w.heap.size) (v : Value) (l : List Fl) (g : Nat) (c : Value) (p : Fl → Bool) (h : Reads 3 cF w v l) (hs : Sized l) (hl : l.length ≤ 100000)
    (eg : ∀ args w, (callFunc g args).run Tryz.prog w = .ok (.enter g args) w) (hp : PB B w0 g c p) :
    Calls Tryz.prog 102 #[v, .func (.func g) #[] #[c]] w (FlagTo (l.any p) w) := by
  have S := Lib.hid (indexF_any w0 w B hb hB v l g c p h hs hl eg hp)
  obtain ⟨A, cap, rfl⟩ := h.form
  clear h hs hp
  go_enter Tryz.func102, Tryz.ntmps102
  go_wp2_with fail
  refine S.out.mono ?_
  rintro e w' ⟨n, rfl, hb1, hn⟩
  rcases hn with ⟨rfl, hn⟩ | ⟨i, x, rfl, hx, hpx, -⟩
  · have HN := Lib.hid hn
    clear hn
    go_wp2_with fail
    go_ret
    exact ⟨ret_b HN.out.symm, hb1⟩
  · have HN := Lib.hid (any_hit hx hpx)
    clear hx hpx
    go_wp2_with fail
    go_ret
    exact ⟨ret_b HN.out.symm, hb1⟩

/-! ### The closures -/
theorem enters_cut (args : Array Value) (w : World) : (callFunc 55 args).run Tryz.prog w = .ok (.enter 55 args) w := enters_of Tryz.func55 (by kernel_rfl) rfl args w
theorem enters_clear (args : Array Value) (w : World) : (callFunc 56 args).run Tryz.prog w = .ok (.enter 56 args) w := enters_of Tryz.func56 (by kernel_rfl) rfl args w
theorem enters_refuses (args : Array Value) (w : World) : (callFunc 103 args).run Tryz.prog w = .ok (.enter 103 args) w := enters_of Tryz.func103 (by kernel_rfl) rfl args w

set_option maxHeartbeats 1000000 in
theorem cut_pred (w0 : World) (B b : Nat) (q : ByteArray) (hc : w0.cell? ⟨b, 0, none⟩ = some (.string q)) (hb : b < B) (hB : B ≤ w0.heap.size) :
    PB B w0 55 (.pointer (some ⟨b, 0, none⟩)) (fun x => decide (x.1 = q)) := by
  intro W x hW _
  have c0 : W.cell? ⟨b, 0, none⟩ = some (.string q) := (hW.cell (p := ⟨b, 0, none⟩) hb).trans hc
  have hlt : b < W.heap.size := Nat.lt_of_lt_of_le hb (Nat.le_trans hB hW.size)
  obtain ⟨p, m, d⟩ := x
  clear hc hW hb hB
  by_cases h : p = q
  · subst h
    go_enter Tryz.func55, Tryz.ntmps55
    go_wp2
    go_ret
    exact ⟨by simp, (Below.refl _ _).alloc (Nat.le_refl _) _⟩
  · have e1 : ¬ p.toList = q.toList := fun e => h (tl_eq e)
    have e1' : (p.toList == q.toList) = false := by simpa using e1
    have HD := Lib.hid (decide_eq_false h)
    clear h
    go_enter Tryz.func55, Tryz.ntmps55
    go_wp2
    go_ret
    exact ⟨ret_b HD.out.symm, (Below.refl _ _).alloc (Nat.le_refl _) _⟩

set_option maxHeartbeats 1000000 in
theorem clear_pred (w0 : World) (B b : Nat) (q : ByteArray) (hq : q.size ≤ 1000000) (hc : w0.cell? ⟨b, 0, none⟩ = some (.string q)) (hb : b < B) (hB : B ≤ w0.heap.size) :
    PB B w0 56 (.pointer (some ⟨b, 0, none⟩)) (fun x => cls x.1.data.toList q.data.toList) := by
  intro W x hW hx
  have c0 : W.cell? ⟨b, 0, none⟩ = some (.string q) := (hW.cell (p := ⟨b, 0, none⟩) hb).trans hc
  have hlt : b < W.heap.size := Nat.lt_of_lt_of_le hb (Nat.le_trans hB hW.size)
  obtain ⟨p, m, d⟩ := x
  have CL := Lib.hid fun W => clash_any p q W hx hq
  clear hc hW hb hB hx
  go_enter Tryz.func56, Tryz.ntmps56
  go_wp2_with fail
  refine (CL.out _).mono ?_
  rintro e w' ⟨rfl, rfl⟩
  go_wp2_with fail
  go_ret
  exact ⟨rfl, (Below.refl _ _).alloc (Nat.le_refl _) _⟩

set_option maxHeartbeats 1000000 in
theorem refuses_pred (w0 : World) (B b : Nat) (q : ByteArray) (hq : q.size ≤ 1000000) (hc : w0.cell? ⟨b, 0, none⟩ = some (.string q)) (hb : b < B) (hB : B ≤ w0.heap.size) :
    PB B w0 103 (.pointer (some ⟨b, 0, none⟩)) (fun x => cls x.1.data.toList q.data.toList) := by
  intro W x hW hx
  have c0 : W.cell? ⟨b, 0, none⟩ = some (.string q) := (hW.cell (p := ⟨b, 0, none⟩) hb).trans hc
  have hlt : b < W.heap.size := Nat.lt_of_lt_of_le hb (Nat.le_trans hB hW.size)
  obtain ⟨p, m, d⟩ := x
  have CL := Lib.hid fun W => clash_any p q W hx hq
  clear hc hW hb hB hx
  go_enter Tryz.func103, Tryz.ntmps103
  go_wp2_with fail
  refine (CL.out _).mono ?_
  rintro e w' ⟨rfl, rfl⟩
  go_wp2_with fail
  go_ret
  exact ⟨rfl, (Below.refl _ _).alloc (Nat.le_refl _) _⟩
end Go.Proofs.YtplleaimmmanhaaGreatDoor
namespace Go.Proofs.YtplleaimmmanhaaGreatDoor
open Go Go.RowKit

/-- What is wrong with a file by itself. -/
def causeF (f : Fl) : Int := if chk f.1.data.toList ≠ 0 then chk f.1.data.toList else if ¬ (f.2.1 = 1 ∨ f.2.1 = 2) then 1 else if 4096 < f.2.2.size then 4 else 0
/-- Does the last file ahead not lie before it? -/
def lateF (a : List Fl) (f : Fl) : Bool := match a.getLast? with | some g => decide (0 ≤ cb g.1 f.1) | none => false
def clashF (a : List Fl) (p : ByteArray) : Bool := a.any fun g => cls g.1.data.toList p.data.toList
def refF (a : List Fl) (f : Fl) : Int := if causeF f ≠ 0 then causeF f else if lateF a f = true then 6 else if clashF a f.1 = true then 11 else 0
def wrongF : List Fl → List Fl → Option (Nat × Int)
  | _, [] => none
  | a, f :: r => if refF a f ≠ 0 then some (a.length, refF a f) else wrongF (a ++ [f]) r
/-- What Check says. -/
def chkF (l : List Fl) : Option (Nat × Int) := if 64 < l.length then some (64, 4) else wrongF [] l

theorem wrongF_step : ∀ (a r : List Fl), (∀ i f, r[i]? = some f → refF (a ++ r.take i) f = 0) → wrongF a r = none
  | _, [], _ => rfl
  | a, f :: r, h => by
    have h0 := h 0 f rfl
    simp only [List.take_zero, List.append_nil] at h0
    unfold wrongF
    rw [if_neg (by rw [h0]; simp)]
    refine wrongF_step (a ++ [f]) r fun i g hg => ?_
    have := h (i + 1) g (by simpa using hg)
    rw [List.take_succ_cons] at this
    rw [List.append_assoc]
    exact this
theorem wrongF_at : ∀ (a r : List Fl) (i : Nat) (f : Fl), (∀ j g, j < i → r[j]? = some g → refF (a ++ r.take j) g = 0) → r[i]? = some f → refF (a ++ r.take i) f ≠ 0 → wrongF a r = some (a.length + i, refF (a ++ r.take i) f)
  | _, [], _, _, _, h, _ => by simp at h
  | a, f :: r, 0, g, _, h, hr => by
    simp at h
    subst h
    simp only [List.take_zero, List.append_nil] at hr ⊢
    unfold wrongF
    rw [if_pos hr]
    simp
  | a, f :: r, i + 1, g, hb, h, hr => by
    have h0 := hb 0 f (by omega) rfl
    simp only [List.take_zero, List.append_nil] at h0
    unfold wrongF
    rw [if_neg (by rw [h0]; simp)]
    rw [List.take_succ_cons] at hr ⊢
    have := wrongF_at (a ++ [f]) r i g (fun j x hj hx => by
      have := hb (j + 1) x (by omega) (by simpa using hx)
      rw [List.take_succ_cons] at this
      rw [List.append_assoc]
      exact this) (by simpa using h) (by rw [List.append_assoc]; exact hr)
    rw [this, List.append_assoc]
    simp
    omega
theorem wrongF_good : ∀ (a r : List Fl), wrongF a r = none → ∀ i f, r[i]? = some f → refF (a ++ r.take i) f = 0
  | _, [], _, i, f, h => by simp at h
  | a, f :: r, h, i, g, hg => by
    unfold wrongF at h
    by_cases hr : refF a f = 0
    · rw [if_neg (by rw [hr]; simp)] at h
      cases i with
      | zero => simp at hg; subst hg; simpa using hr
      | succ i =>
        have := wrongF_good (a ++ [f]) r h i g (by simpa using hg)
        rw [List.append_assoc] at this
        rw [List.take_succ_cons]
        exact this
    · rw [if_pos hr] at h; cases h
theorem chkF_long {l : List Fl} (h : 64 < l.length) : chkF l = some (64, 4) := if_pos h
theorem chkF_good {l : List Fl} (h : ¬ 64 < l.length) (hg : ∀ i f, l[i]? = some f → refF (l.take i) f = 0) : chkF l = none := by
  unfold chkF
  rw [if_neg h]
  exact wrongF_step [] l fun i f hf => by simpa using hg i f hf
theorem chkF_bad {l : List Fl} {i : Nat} {f : Fl} (h : ¬ 64 < l.length) (hg : ∀ j g, j < i → l[j]? = some g → refF (l.take j) g = 0) (hi : l[i]? = some f) (hb : refF (l.take i) f ≠ 0) : chkF l = some (i, refF (l.take i) f) := by
  unfold chkF
  rw [if_neg h]
  have := wrongF_at [] l i f (fun j g hj hx => by simpa using hg j g hj hx) hi (by simpa using hb)
  simpa using this
theorem chkF_at {l : List Fl} (h : chkF l = none) {i : Nat} {f : Fl} (hi : l[i]? = some f) : refF (l.take i) f = 0 := by
  unfold chkF at h
  by_cases hl : 64 < l.length
  · rw [if_pos hl] at h; cases h
  · rw [if_neg hl] at h
    simpa using wrongF_good [] l h i f hi
theorem chkF_len {l : List Fl} (h : chkF l = none) : l.length ≤ 64 := by
  unfold chkF at h
  by_cases hl : 64 < l.length
  · rw [if_pos hl] at h; cases h
  · omega
theorem refF_cause {a : List Fl} {f : Fl} (h : refF a f = 0) : causeF f = 0 := by
  unfold refF at h
  by_cases hc : causeF f = 0
  · exact hc
  · rw [if_pos hc] at h; exact absurd h hc
theorem refF_late {a : List Fl} {f : Fl} (h : refF a f = 0) : lateF a f = false := by
  have hc := refF_cause h
  unfold refF at h
  rw [if_neg (by rw [hc]; simp)] at h
  by_cases hl : lateF a f = true
  · rw [if_pos hl] at h; cases h
  · simpa using hl
theorem refF_clash {a : List Fl} {f : Fl} (h : refF a f = 0) : clashF a f.1 = false := by
  have hc := refF_cause h
  have hl := refF_late h
  unfold refF at h
  rw [if_neg (by rw [hc]; simp), if_neg (by rw [hl]; simp)] at h
  by_cases hk : clashF a f.1 = true
  · rw [if_pos hk] at h; cases h
  · simpa using hk
theorem refF_zero {a : List Fl} {f : Fl} (hc : causeF f = 0) (hl : lateF a f = false) (hk : clashF a f.1 = false) : refF a f = 0 := by
  unfold refF
  rw [if_neg (by rw [hc]; simp), if_neg (by rw [hl]; simp), if_neg (by rw [hk]; simp)]
theorem causeF_path {f : Fl} (h : causeF f = 0) : chk f.1.data.toList = 0 := by
  unfold causeF at h
  by_cases hc : chk f.1.data.toList = 0
  · exact hc
  · rw [if_pos hc] at h; exact h
theorem causeF_size {f : Fl} (h : causeF f = 0) : f.1.size ≤ 64 := by
  have := causeF_path h
  unfold chk at this
  by_cases hl : 64 < f.1.data.toList.length
  · rw [if_pos hl] at this; cases this
  · rw [size_list] at hl; omega
theorem chkF_rise {l : List Fl} (h : chkF l = none) : RiseF l := by
  refine rise_adj l fun t x y hx hy => ?_
  have := refF_late (chkF_at h hy)
  unfold lateF at this
  rw [List.getLast?_take, if_neg (by omega)] at this
  have e : (l[t + 1 - 1]?).or l.getLast? = some x := by rw [Nat.add_sub_cancel, hx]; rfl
  rw [e] at this
  have := of_decide_eq_false this
  omega
end Go.Proofs.YtplleaimmmanhaaGreatDoor
namespace Go.Proofs.YtplleaimmmanhaaGreatDoor
open Go Go.RowKit

variable {F : Fence} {n : Nat} {P : Program}

/-- What may turn between two looks: the captured block, or a block that is no cells and lies from B on. -/
def May (C B : Nat) (W : World) (row : Option Nat) : Prop := ∀ r, row = some r → r = C ∨ (B ≤ r ∧ ∃ o : Obj, W.heap[r]? = some o ∧ o.isCells = false)
def Abide {β : Type} (C B : Nat) (I : β → World → Prop) : Prop := ∀ s W W' row, I s W → W.grownBy W' row → May C B W row → I s W'
theorem Abide.put {β : Type} {C B : Nat} {I : β → World → Prop} (h : Abide C B I) {s : β} {W : World} {l : Nat} {o : Obj} (o' : Obj) (hs : I s W) (hB : B ≤ l) (hl : W.heap[l]? = some o) (ho : o.isCells = false) : I s (W.putObj l o') :=
  h s W _ (some l) hs (grownBy_putObj' W l o') (fun r e => by cases e; exact .inr ⟨hB, o, hl, ho⟩)
theorem Abide.new {β : Type} {C B : Nat} {I : β → World → Prop} (h : Abide C B I) {s : β} {W : World} (o : Obj) (hs : I s W) : I s (W.alloc o) :=
  h s W _ none hs (World.grownBy_alloc W o none) (fun r e => by cases e)

/-- An iterator that turns the captured block C alone, beside what its rounds do. -/
def SeqCap {α : Type} (F : Fence) (n : Nat) (P : Program) (g : Nat) (lb : Array Value) (encs : α → Array Value) (Kp : World → World → Prop) (C : Nat) (Ok : α → Prop) (S Sp : List α → Prop) (N : Nat) (w : World) : Prop :=
  ∀ (l : Nat) (J Jx : List α → World → Prop) (W : World), Below w.heap.size w W →
    (∀ s A A' row, J s A → A.grownBy A' row → (∀ r, row = some r → r = C) → J s A') →
    (∀ pre x W1, J pre W1 → pre.length < N → Ok x → YieldAt F (n - 1) P l (encs x) W1 fun e W' =>
      (e = .returned (.bool true) ∧ J (pre ++ [x]) W' ∧ Kp W1 W') ∨ (e = .returned (.bool false) ∧ Jx (pre ++ [x]) W')) →
    J [] W →
    CallsIn F n P g (#[.func (.yield l) #[] #[]] ++ lb) W fun e W' => (∃ v, e = .returned v) ∧ ((∃ xs, S xs ∧ J xs W') ∨ (∃ pre, Sp pre ∧ Jx pre W'))

theorem range_cap {α : Type} {g : Operand} {ps : Array Tmp} {assign body : Code} {Q : Exit → Act → World → Prop} {a : Act} {w : World}
    (hro : F.round = none) (h1 : 1 ≤ n) {gf : Nat} {lb : Array Value} (hg : a.eval g = .func (.func gf) #[] lb) (hFg : F.fn gf) (eg : ∀ args w, (callFunc gf args).run P w = .ok (.enter gf args) w)
    {encs : α → Array Value} {Kp : World → World → Prop} {Ok : α → Prop} {S Sp : List α → Prop} {N C : Nat} {w0 : World} (hseq : SeqCap F (n - 1) P gf lb encs Kp C Ok S Sp N w0) (hC : C < w.heap.size)
    (hKt : ∀ {A B D : World}, Kp A B → Kp B D → Kp A D) (hKb : ∀ (W : World) (l : Nat) (o o' : Obj), w.heap.size ≤ l → W.heap[l]? = some o → o.isCells = false → o.isWalk = false → Kp W (W.putObj l o')) (hb0 : Below w0.heap.size w0 w) (hps : ∀ x, (encs x).size = ps.size)
    (I : List α → World → Prop) (Ix : Code → List α → World → Prop) (hI : Abide C w.heap.size I) (hIx : ∀ c, Abide C w.heap.size (Ix c)) (h0 : I [] w) (a₁ : α → Act)
    (hassign : ∀ (l : Nat) (x : α) (W : World) (K : Act → World → Prop), K (a₁ x) W →
      assign.wpIn (F.inRound l) (n - 1 - 1) P (Exit.then K (fun _ _ _ => False)) { tmps := (ps.zip (encs x)).foldl (fun t (p, v) => t.setIfInBounds p v) a.tmps, defers := [] } W)
    (hbody : ∀ (l : Nat) (pre : List α) (x : α) (W : World), I pre W → pre.length < N → Ok x → body.wpIn (F.inRound l) (n - 1 - 1) P (ownPostK Kp I Ix (pre ++ [x]) W) (a₁ x) W)
    (hdone : ∀ (D : Nat) (xs : List α) (W : World), w.heap.size ≤ D → S xs → I xs W → W.heap[D]? = some (.deferred (some [])) → Q .normal { a with defers := { target := .collected D, args := #[] } :: a.defers } W)
    (hstop : ∀ (D : Nat) (c : Code) (pre : List α) (W : World), w.heap.size ≤ D → Sp pre → Ix c pre W → W.heap[D]? = some (.deferred (some [])) → c.wpIn F n P Q { a with defers := { target := .collected D, args := #[] } :: a.defers } W) :
    (Code.rangeFunc g ps assign body).wpIn F n P Q a w := by
  refine wpIn_rangeFunc fun fn hfn => ?_
  rw [hro]
  obtain ⟨rec, hrec⟩ : ∃ rec : LoopState → Option Code → Loop, rec = fun st pe => { state := st, pending := pe, fn, tmps := a.tmps, params := ps, assign, body, defers := w.heap.size } := ⟨_, rfl⟩
  obtain ⟨L, hL⟩ : ∃ L, L = w.heap.size + 1 := ⟨_, rfl⟩
  obtain ⟨W1, hW1⟩ : ∃ W1, (w.alloc (.deferred (some []))).alloc (.loop (rec .ready none)) = W1 := ⟨_, rfl⟩
  have q1 : W1.heap[L]? = some (.loop (rec .ready none)) := by
    rw [← hW1, hL]
    have := World.alloc_heap_new (w.alloc (.deferred (some []))) (.loop (rec .ready none))
    rwa [World.size_alloc] at this
  have q2 : W1.heap[w.heap.size]? = some (.deferred (some [])) := by rw [← hW1]; exact (Below.heap_alloc _ _ _ (by simp)).trans (World.alloc_heap_new w _)
  have q3 : I [] W1 := by rw [← hW1]; exact hI.new _ (hI.new _ h0)
  have q4 : Below w0.heap.size w0 W1 := by rw [← hW1]; exact hb0.trans ((((Below.refl _ w).alloc (Nat.le_refl _) _).alloc (by simp) _).mono hb0.size)
  have stay : ∀ {A B : World} {row : Option Nat} {k : Nat} {o : Obj}, A.grownBy B row → (∀ r, row = some r → r = C) → w.heap.size ≤ k → A.heap[k]? = some o → B.heap[k]? = some o := fun hgr hr hk ho =>
    (hgr.block _ (Array.getElem?_eq_some_iff.1 ho).1 (fun e => by have := hr _ e.symm; omega)).trans ho
  have turn : ∀ {A : World} {row : Option Nat}, (∀ r, row = some r → r = C) → May C w.heap.size A row := fun hr r e => .inl (hr r e)
  refine ⟨L, [{ target := .collected w.heap.size, args := #[] }], W1, { target := .fn (.func gf) lb, args := #[.func (.yield L) #[] #[]] }, W1, gf, #[.func (.yield L) #[] #[]] ++ lb, W1, ?_, ?_, ?_, ?_, fun _ => h1, ?_⟩
  · rw [← hW1, hrec, hL]; exact run_enterLoop_outer _ _ _ _ _
  · simp only [resolve, hg]
    simp [go_sem]
  · intro f' hf'; simp [Target.leads] at hf'; subst hf'; exact hFg
  · simp [invoke, go_sem, eg]
  · refine (hseq L
      (fun pre W => I pre W ∧ W.heap[L]? = some (.loop (rec .ready none)) ∧ W.heap[w.heap.size]? = some (.deferred (some [])))
      (fun pre W => ∃ c, Ix c pre W ∧ W.heap[L]? = some (.loop (rec .done (some c))) ∧ W.heap[w.heap.size]? = some (.deferred (some [])))
      W1 q4 (fun s A B row hs hgr hr => ⟨hI s A B row hs.1 hgr (turn hr), stay hgr hr (by omega) hs.2.1, stay hgr hr (Nat.le_refl _) hs.2.2⟩) ?_ ⟨q3, q1, q2⟩).mono ?_
    · rintro pre x W ⟨hi, hl, hk⟩ hlen hok
      have hlt : L < W.heap.size := (Array.getElem?_eq_some_iff.1 hl).1
      have hy := run_yield (P := P) (args := encs x) hl (by rw [hrec]; exact hps x)
      rw [hrec] at hy
      obtain ⟨bz, hbz⟩ : ∃ bz : Loop, bz = { rec .ready none with state := .busy } := ⟨_, rfl⟩
      refine ⟨fn, _, assign, body, hy, roundIn_of_wpIn hfn (hassign _ x W _ ⟨_, run_beginRound hl (by rw [hrec]), ?_⟩)⟩
      rw [← hbz]
      have hl2 : (W.putObj L (.loop bz)).heap[L]? = some (.loop bz) := World.putObj_heap_same hlt
      have hk2 : (W.putObj L (.loop bz)).heap[w.heap.size]? = some (.deferred (some [])) := (World.putObj_heap_other (by omega)).trans hk
      have hw2 : Kp W (W.putObj L (.loop bz)) := hKb _ _ _ _ (by omega) hl rfl rfl
      have fin : ∀ (jump : Option Code) (W3 : World), KeepsOthers (W.putObj L (.loop bz)) W3 →
          (Instr.endRound L jump).run P W3 = .ok (.bool jump.isNone) (W3.putObj L (.loop (rec (if jump.isNone then .ready else .done) jump))) ∧
          W3.heap[L]? = some (.loop bz) ∧
          (W3.putObj L (.loop (rec (if jump.isNone then .ready else .done) jump))).heap[L]? = some (.loop (rec (if jump.isNone then .ready else .done) jump)) ∧
          (W3.putObj L (.loop (rec (if jump.isNone then .ready else .done) jump))).heap[w.heap.size]? = some (.deferred (some [])) := fun jump W3 hk3 => by
        have hl3 := hk3.same _ _ hl2 rfl
        have hr := run_endRound (P := P) jump hl3
        rw [hbz, hrec] at hr
        refine ⟨by rw [hrec]; exact hr, hl3, World.putObj_heap_same (Array.getElem?_eq_some_iff.1 hl3).1, (World.putObj_heap_other (by omega)).trans (hk3.same _ _ hk2 rfl)⟩
      refine wpIn_mono (hbody _ pre x _ (hI.put _ hi (by omega) hl rfl) hlen hok) ?_
      rintro e a3 W3 hp
      have leave : ∀ c, KeepsOthers (W.putObj L (.loop bz)) W3 ∧ Ix c (pre ++ [x]) W3 → _ := fun c (h : KeepsOthers (W.putObj L (.loop bz)) W3 ∧ Ix c (pre ++ [x]) W3) => by
        obtain ⟨hr, hl3, hl4, hk4⟩ := fin (some c) W3 h.1
        exact And.intro hr (And.intro ((hIx c).put (.loop (rec .done (some c))) h.2 (by omega) hl3 rfl) (And.intro hl4 hk4))
      cases e with
      | normal =>
        obtain ⟨hk3, hkp3, hi3⟩ := hp
        obtain ⟨hr, hl3, hl4, hk4⟩ := fin none W3 hk3
        exact ⟨_, _, hr, .inl ⟨rfl, ⟨hI.put _ hi3 (by omega) hl3 rfl, hl4, hk4⟩, hKt (hKt hw2 hkp3) (hKb _ _ _ _ (by omega) hl3 rfl rfl)⟩⟩
      | ret => have h := leave .ret hp; exact ⟨_, _, h.1, .inr ⟨rfl, .ret, h.2⟩⟩
      | exit id => have h := leave (.exit id) hp; exact ⟨_, _, h.1, .inr ⟨rfl, .exit id, h.2⟩⟩
      | goto t => have h := leave (.goto t) hp; exact ⟨_, _, h.1, .inr ⟨rfl, .goto t, h.2⟩⟩
      | panic ch => exact hp.elim
      | outgrown => exact hp.elim
    · rintro e W2 ⟨⟨v, rfl⟩, (⟨xs, hS, hi, hl, hk⟩ | ⟨pre, hSp, c, hi, hl, hk⟩)⟩
      · have hr := run_endLoop (P := P) hl (by rw [hrec]; simp)
        rw [hrec] at hr
        exact ⟨none, _, hr, hdone _ xs _ (Nat.le_refl _) hS (hI.put _ hi (by omega) hl rfl) ((World.putObj_heap_other (by omega)).trans hk)⟩
      · have hr := run_endLoop (P := P) hl (by rw [hrec]; simp)
        rw [hrec] at hr
        exact ⟨some c, _, hr, hstop _ c pre _ (Nat.le_refl _) hSp ((hIx c).put _ hi (by omega) hl rfl) ((World.putObj_heap_other (by omega)).trans hk)⟩
end Go.Proofs.YtplleaimmmanhaaGreatDoor
