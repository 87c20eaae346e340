/-
  The plain theory of paths in order: texts by their bytes; a row sorted, each text once; two such rows of the same texts are one; a tree's file by its path.
  Plain lemmas for the seat: a slice value that reads as a list of strings ('Strs'), kept below a block number.
  Rows of structs in memory: a slice whose elements have k cells each, read; files, entries, lines.
  Words for memory: a block that is known whole; bytes in a row of their own; a call that touches two blocks alone.
  (*Enc).number.
  (*Enc).Int.
  (*Enc).Text, (*Enc).Bytes, bytes.Clone, Of.
  bytes.Clone, (*Enc).Bytes, Of.
  The document's Int.
  number: a number read.
  (*Dec).Int, (*Dec).Text, (*Dec).Left, (*Dec).Err, where nothing is wrong.
  A Fault's own words, its number from 1 to 10.
-/
import Derived.Lib.Bytealg
import Derived.Lib.SlicesCompact
import Derived.Shelf.SlSortCmp.Insertion
import Derived.Test.YtplleaimmmanhaaGreatDoorProg
import Derived.WalkKit
import Derived.WalkSpells
import Derived.Laws.OwnMore
import Derived.Lib.Hide
import Derived.Deep.Draws
import Derived.WalkSmall
import Derived.Laws.Rows
import Derived.Maps.AppendAt
import Derived.Deep.AppendLies
import Derived.Deep.RegionLaw
import Derived.Deep.QuietTactic
import Derived.BigQuiet
import Derived.IntWalk
import Derived.OpenShut
import Derived.LoopTactic
import Derived.Deep.LoopGhost
import Derived.Deep.DeepCutAuto
import Derived.Deep.CutBlock
import Derived.Lib.SliceRun
import Derived.Laws.IdiomCopy
import Derived.Lib.UnsafeStr
import Derived.Lib.EndianBits
import Derived.Laws.BitsAllLaws
import Derived.WalkLawsBesides
import Derived.Deep.RegionHeld3
import Derived.Deep.RegionWith
import Derived.Lib.AppendStr
import Derived.Lib.AppendZeros
import Derived.ShutString
namespace Go.Proofs.YtplleaimmmanhaaGreatDoor
open Go.Lib Go.Sort

theorem cmp_self : ∀ l : List UInt8, compareBytes l l = 0
  | [] => rfl
  | a :: l => by
    have h : ¬ a < a := UInt8.lt_irrefl a
    simp [compareBytes, cmp_self l]
theorem cmp_zero : ∀ a b : List UInt8, compareBytes a b = 0 → a = b
  | [], [], _ => rfl
  | [], _ :: _, h => by simp [compareBytes] at h
  | _ :: _, [], h => by simp [compareBytes] at h
  | x :: a, y :: b, h => by
    unfold compareBytes at h
    by_cases h1 : x < y
    · rw [if_pos h1] at h; omega
    · by_cases h2 : y < x
      · rw [if_neg h1, if_pos h2] at h; omega
      · rw [if_neg h1, if_neg h2] at h
        have hxy : x = y := UInt8.le_antisymm (UInt8.not_lt.1 h2) (UInt8.not_lt.1 h1)
        rw [hxy, cmp_zero a b h]
theorem cmp_swap : ∀ a b : List UInt8, compareBytes b a = - compareBytes a b
  | [], [] => rfl
  | [], _ :: _ => rfl
  | _ :: _, [] => rfl
  | x :: a, y :: b => by
    unfold compareBytes
    by_cases h1 : x < y
    · have h2 : ¬ y < x := UInt8.lt_asymm h1
      rw [if_pos h1, if_neg h2, if_pos h1]; rfl
    · by_cases h2 : y < x
      · simp [h1, h2]
      · simp only [h1, h2, if_false]
        exact cmp_swap a b
theorem cmp_trans : ∀ a b c : List UInt8, compareBytes a b < 0 → compareBytes b c < 0 → compareBytes a c < 0
  | [], [], _, h, _ => by simp [compareBytes] at h
  | _ :: _, [], _, h, _ => by simp [compareBytes] at h
  | [], _ :: _, [], _, h => by simp [compareBytes] at h
  | [], _ :: _, _ :: _, _, _ => by simp [compareBytes]
  | _ :: _, _ :: _, [], _, h => by simp [compareBytes] at h
  | x :: a, y :: b, z :: c, h, g => by
    unfold compareBytes at h g ⊢
    by_cases h1 : x < y
    · by_cases g1 : y < z
      · rw [if_pos (UInt8.lt_trans h1 g1)]; omega
      · by_cases g2 : z < y
        · rw [if_neg g1, if_pos g2] at g; omega
        · have : y = z := UInt8.le_antisymm (UInt8.not_lt.1 g2) (UInt8.not_lt.1 g1)
          subst this
          rw [if_pos h1]; omega
    · by_cases h2 : y < x
      · rw [if_neg h1, if_pos h2] at h; omega
      · have : x = y := UInt8.le_antisymm (UInt8.not_lt.1 h2) (UInt8.not_lt.1 h1)
        subst this
        rw [if_neg h1, if_neg h1] at h
        by_cases g1 : x < z
        · rw [if_pos g1]; omega
        · by_cases g2 : z < x
          · rw [if_neg g1, if_pos g2] at g; omega
          · rw [if_neg g1, if_neg g2] at g ⊢
            exact cmp_trans a b c h g

/-- The order of two names. -/
def cb (a b : ByteArray) : Int := compareBytes a.data.toList b.data.toList
theorem cb_self (a : ByteArray) : cb a a = 0 := cmp_self _
theorem cb_zero {a b : ByteArray} (h : cb a b = 0) : a = b := by
  have := cmp_zero _ _ h
  obtain ⟨⟨a⟩⟩ := a
  obtain ⟨⟨b⟩⟩ := b
  simpa using this
theorem cb_swap (a b : ByteArray) : cb b a = - cb a b := cmp_swap _ _
theorem cb_trans {a b c : ByteArray} (h : cb a b < 0) (g : cb b c < 0) : cb a c < 0 := cmp_trans _ _ _ h g

abbrev Bs := List UInt8
theorem lt_dec (x y : Bs) : ltOf compareBytes x y = decide (compareBytes x y < 0) := rfl
theorem cmp_swo : SWO (ltOf compareBytes) where
  irrefl x := by rw [lt_dec, cmp_self]; rfl
  trans x y z h g := by rw [lt_dec, decide_eq_true_iff] at *; exact cmp_trans _ _ _ h g
  ntrans x y z h g := by
    rw [lt_dec, decide_eq_false_iff_not] at *
    intro hxz
    rcases Int.lt_or_le 0 (compareBytes x y) with a | a
    · have yx : compareBytes y x < 0 := by rw [cmp_swap x y]; omega
      exact g (cmp_trans _ _ _ yx hxz)
    · have e : compareBytes x y = 0 := by omega
      rw [cmp_zero _ _ e] at hxz
      exact g hxz
theorem cmp_tot (x y : Bs) (h : ltOf compareBytes x y = false) (g : ltOf compareBytes y x = false) : x = y := by
  rw [lt_dec, decide_eq_false_iff_not] at h g
  rw [cmp_swap x y] at g
  exact cmp_zero _ _ (by omega)
theorem cmp_le_lt {x y z : Bs} (h : ¬ compareBytes y x < 0) (g : compareBytes y z < 0) : compareBytes x z < 0 := by
  by_cases e : compareBytes x y = 0
  · rw [cmp_zero _ _ e]; exact g
  · rw [cmp_swap x y] at h
    exact cmp_trans _ _ _ (by omega) g

/-- A row sorted. -/
def srt (l : List Bs) : List Bs := l.mergeSort fun x y => !(ltOf compareBytes) y x
theorem srt_len (l : List Bs) : (srt l).length = l.length := List.length_mergeSort l
theorem srt_mem {x : Bs} {l : List Bs} : x ∈ srt l ↔ x ∈ l := List.mem_mergeSort
theorem srt_rises (l : List Bs) : (srt l).Pairwise (fun x y => ¬ compareBytes y x < 0) := by
  have h := List.pairwise_mergeSort (le := fun x y => !(ltOf compareBytes) y x) (fun a b c h g => by
    rw [Bool.not_eq_true'] at *
    exact cmp_swo.ntrans c b a g h) (fun a b => by
    cases h : ltOf compareBytes b a with
    | false => rfl
    | true =>
      cases g : ltOf compareBytes a b with
      | false => rfl
      | true => have := cmp_swo.trans _ _ _ h g; rw [cmp_swo.irrefl] at this; cases this) l
  exact h.imp fun {a b} h => by
    rw [Bool.not_eq_true', lt_dec, decide_eq_false_iff_not] at h
    exact h

theorem compact_both (d : Array Bs) (hs : ∀ i j, i < j → j < d.size → ¬ compareBytes d[j]! d[i]! < 0) : ∀ m, m ≤ d.size →
    (compactUpTo d m).Pairwise (fun x y => compareBytes x y < 0) ∧ ∀ x, x ∈ compactUpTo d m ↔ ∃ i, i < m ∧ d[i]! = x
  | 0, _ => ⟨List.Pairwise.nil, fun x => ⟨fun h => by simp [compactUpTo] at h, fun ⟨i, hi, _⟩ => absurd hi (Nat.not_lt_zero _)⟩⟩
  | m + 1, hm => by
    obtain ⟨h1, h2⟩ := compact_both d hs m (by omega)
    rw [compactUpTo_succ]
    cases hk : keeps d m with
    | true =>
      rw [if_pos rfl]
      refine ⟨List.pairwise_append.2 ⟨h1, List.pairwise_singleton _ _, fun x hx y hy => ?_⟩, fun x => ?_⟩
      · rw [List.mem_singleton] at hy
        subst hy
        obtain ⟨i, hi, rfl⟩ := (h2 x).1 hx
        have hne : d[m]! ≠ d[m - 1]! := by
          unfold keeps at hk
          rcases of_decide_eq_true hk with hk | hk
          · omega
          · exact hk
        have a : ¬ compareBytes d[m]! d[m - 1]! < 0 := hs _ _ (by omega) (by omega)
        have a' : compareBytes d[m - 1]! d[m]! < 0 := by
          have e := cmp_swap d[m - 1]! d[m]!
          by_cases e0 : compareBytes d[m - 1]! d[m]! = 0
          · exact absurd (cmp_zero _ _ e0).symm hne
          · omega
        by_cases him : i = m - 1
        · rw [him]; exact a'
        · exact cmp_le_lt (hs i (m - 1) (by omega) (by omega)) a'
      · rw [List.mem_append, h2 x, List.mem_singleton]
        constructor
        · rintro (⟨i, hi, e⟩ | e)
          · exact ⟨i, by omega, e⟩
          · exact ⟨m, by omega, e.symm⟩
        · rintro ⟨i, hi, e⟩
          by_cases him : i = m
          · exact .inr (by rw [← e, him])
          · exact .inl ⟨i, by omega, e⟩
    | false =>
      rw [if_neg (by decide), List.append_nil]
      have hk' : ¬ (m = 0 ∨ d[m]! ≠ d[m - 1]!) := by unfold keeps at hk; exact of_decide_eq_false hk
      have h0 : 0 < m := by
        rcases Nat.eq_zero_or_pos m with e | e
        · exact absurd (.inl e) hk'
        · exact e
      have he : d[m]! = d[m - 1]! := Decidable.byContradiction fun e => hk' (.inr e)
      refine ⟨h1, fun x => ?_⟩
      rw [h2 x]
      constructor
      · rintro ⟨i, hi, e⟩; exact ⟨i, by omega, e⟩
      · rintro ⟨i, hi, e⟩
        by_cases him : i = m
        · exact ⟨m - 1, by omega, by rw [← e, him, he]⟩
        · exact ⟨i, by omega, e⟩

theorem compact_srt (l : List Bs) : (compact (srt l)).Pairwise (fun x y => compareBytes x y < 0) ∧ ∀ x, x ∈ compact (srt l) ↔ x ∈ l := by
  have hb := compact_both (srt l).toArray (fun i j hij hj => by
    have hj' : j < (srt l).length := by simpa using hj
    have h := List.pairwise_iff_getElem.1 (srt_rises l) i j (by omega) hj' hij
    rw [getElem!_pos (srt l).toArray j hj, getElem!_pos (srt l).toArray i (by omega)]
    simpa using h) (srt l).length (by simp)
  refine ⟨hb.1, fun x => ?_⟩
  show x ∈ compactUpTo (srt l).toArray (srt l).length ↔ _
  rw [hb.2 x, ← srt_mem (l := l)]
  constructor
  · rintro ⟨i, hi, e⟩
    rw [getElem!_pos (srt l).toArray i (by simpa using hi)] at e
    rw [← e]
    simp
  · intro h
    obtain ⟨i, hi, e⟩ := List.getElem_of_mem h
    exact ⟨i, hi, by rw [getElem!_pos (srt l).toArray i (by simpa using hi)]; simpa using e⟩

/-! ### Texts -/
def bsOf (s : ByteArray) : Bs := s.data.toList
def mkB (l : Bs) : ByteArray := ⟨l.toArray⟩
theorem mkB_bsOf (s : ByteArray) : mkB (bsOf s) = s := by simp [mkB, bsOf]
theorem bsOf_mkB (l : Bs) : bsOf (mkB l) = l := by simp [mkB, bsOf]
theorem map_mkB (ss : List ByteArray) : (ss.map bsOf).map mkB = ss := by
  rw [List.map_map]
  exact (List.map_congr_left fun s _ => mkB_bsOf s).trans (List.map_id _)

/-- Paths that rise. -/
def RiseP (l : List ByteArray) : Prop := l.Pairwise fun a b => cb a b < 0
/-- A row of paths sorted, each once. -/
def nrm (ss : List ByteArray) : List ByteArray := (compact (srt (ss.map bsOf))).map mkB
theorem nrm_rise (ss : List ByteArray) : RiseP (nrm ss) := by
  refine List.pairwise_map.2 ((compact_srt (ss.map bsOf)).1.imp fun {a b} h => ?_)
  show compareBytes (bsOf (mkB a)) (bsOf (mkB b)) < 0
  rw [bsOf_mkB, bsOf_mkB]
  exact h
theorem nrm_mem (ss : List ByteArray) (s : ByteArray) : s ∈ nrm ss ↔ s ∈ ss := by
  unfold nrm
  rw [List.mem_map]
  constructor
  · rintro ⟨a, ha, rfl⟩
    obtain ⟨x, hx, rfl⟩ := List.mem_map.1 (((compact_srt (ss.map bsOf)).2 a).1 ha)
    rw [mkB_bsOf]
    exact hx
  · intro h
    exact ⟨bsOf s, ((compact_srt (ss.map bsOf)).2 _).2 (List.mem_map.2 ⟨s, h, rfl⟩), mkB_bsOf s⟩
theorem RiseP.nodup {l : List ByteArray} (h : RiseP l) : l.Nodup := h.imp fun {a b} h e => by
  rw [e, cb_self] at h
  omega
/-- Two rising rows of the same paths are one. -/
theorem rise_unique {a b : List ByteArray} (ha : RiseP a) (hb : RiseP b) (h : ∀ s, s ∈ a ↔ s ∈ b) : a = b := by
  refine List.Perm.eq_of_pairwise (le := fun x y => cb x y < 0) (fun x y _ _ h1 h2 => ?_) ha hb ((List.perm_ext_iff_of_nodup ha.nodup hb.nodup).2 h)
  rw [cb_swap x y] at h2
  omega
theorem nrm_of {a b : List ByteArray} (hb : RiseP b) (h : ∀ s, s ∈ a ↔ s ∈ b) : nrm a = b := rise_unique (nrm_rise a) hb fun s => by rw [nrm_mem]; exact h s
theorem nrm_len (ss : List ByteArray) : (nrm ss).length ≤ ss.length := by
  unfold nrm
  rw [List.length_map]
  have : ∀ (d : Array Bs) (m : Nat), (compactUpTo d m).length ≤ m := by
    intro d m
    induction m with
    | zero => simp [compactUpTo]
    | succ m ih =>
      rw [compactUpTo_succ, List.length_append]
      split <;> simp <;> omega
  have := this (srt (ss.map bsOf)).toArray (srt (ss.map bsOf)).length
  rw [srt_len, List.length_map] at this
  unfold compact
  rw [srt_len, List.length_map]
  exact this

/-! ### Files by their paths -/
abbrev Fl := ByteArray × Int × ByteArray
/-- A tree rises. -/
def RiseF (l : List Fl) : Prop := l.Pairwise fun a b => cb a.1 b.1 < 0
/-- The file at a path. -/
def getF (l : List Fl) (p : ByteArray) : Option Fl := l.find? fun f => decide (f.1 = p)
theorem cb_ne {a b : ByteArray} (h : cb a b < 0) : a ≠ b := fun e => by rw [e, cb_self] at h; omega
theorem getF_at {l : List Fl} {p : ByteArray} {i : Nat} (hr : RiseF l) (h1 : ∀ (t : Nat) (x : Fl), t < i → l[t]? = some x → cb x.1 p < 0) (h2 : ∀ (t : Nat) (x : Fl), i ≤ t → l[t]? = some x → 0 ≤ cb x.1 p) :
    getF l p = match l[i]? with | some x => if cb x.1 p = 0 then some x else none | none => none := by
  cases hi : l[i]? with
  | none =>
    unfold getF
    rw [List.find?_eq_none]
    intro x hx
    obtain ⟨t, ht, rfl⟩ := List.getElem_of_mem hx
    have : t < i := by have := List.getElem?_eq_none_iff.1 hi; omega
    have := cb_ne (h1 t _ this (List.getElem?_eq_getElem ht))
    simpa using this
  | some x =>
    have hil := (List.getElem?_eq_some_iff.1 hi).1
    have hix := (List.getElem?_eq_some_iff.1 hi).2
    by_cases hz : cb x.1 p = 0
    · simp only [hz, if_true]
      unfold getF
      rw [List.find?_eq_some_iff_getElem]
      refine ⟨by simpa using cb_zero hz, i, hil, hix, fun t ht => ?_⟩
      have := cb_ne (h1 t _ ht (List.getElem?_eq_getElem (by omega)))
      simpa using this
    · simp only [hz, if_false]
      unfold getF
      rw [List.find?_eq_none]
      intro y hy
      obtain ⟨t, ht, rfl⟩ := List.getElem_of_mem hy
      have : (l[t]).1 ≠ p := by
        rcases Nat.lt_or_ge t i with a | a
        · exact cb_ne (h1 t _ a (List.getElem?_eq_getElem ht))
        · intro e
          rcases Nat.eq_or_lt_of_le a with b | b
          · subst b
            rw [hix] at e
            exact hz (by rw [e, cb_self])
          · have h := List.pairwise_iff_getElem.1 hr i t hil ht b
            rw [hix, e] at h
            have := h2 i x (Nat.le_refl _) hi
            omega
      simpa using this
theorem getF_path {l : List Fl} {p : ByteArray} {f : Fl} (h : getF l p = some f) : f.1 = p := by
  have := List.find?_some h
  simpa using this
end Go.Proofs.YtplleaimmmanhaaGreatDoor
namespace Go.Proofs.YtplleaimmmanhaaGreatDoor
open Go.RowKit

/-- The slice value v has the strings ss, one a cell; it is nil only without room. -/
def Strs (w : World) (v : Value) (ss : List ByteArray) : Prop :=
  ∃ (A : Option Addr) (c : Nat), v = .slice A ss.length c ∧ ss.length ≤ c ∧ c ≤ maxLen ∧ (A = none → c = 0) ∧
    ∀ ad : Addr, A = some ad → ∀ (i : Nat) (s : ByteArray), ss[i]? = some s → w.cell? (ad.add i) = some (.string s)

theorem Strs.nil (w : World) : Strs w (.slice none 0 0) [] :=
  ⟨none, 0, rfl, Nat.le_refl _, Nat.zero_le _, fun _ => rfl, fun _ h => by cases h⟩

theorem Strs.keep {w w' : World} {v : Value} {ss : List ByteArray} (h : Strs w v ss) (hk : ∀ p : Addr, p.block < w.heap.size → w'.cell? p = w.cell? p) : Strs w' v ss := by
  obtain ⟨A, c, hv, h1, h2, h3, h4⟩ := h
  refine ⟨A, c, hv, h1, h2, h3, fun ad ha i s hs => ?_⟩
  have hc := h4 ad ha i s hs
  rw [hk _ (World.block_lt_of_cell? w _ hc)]
  exact hc

theorem Strs.below {w w' : World} {v : Value} {ss : List ByteArray} (h : Strs w v ss) (hb : Below w.heap.size w w') : Strs w' v ss := h.keep fun _ hp => hb.cell hp
theorem Strs.alloc {w : World} {v : Value} {ss : List ByteArray} (h : Strs w v ss) (o : Obj) : Strs (w.alloc o) v ss := h.keep fun p hp => World.cell?_alloc_lt w o p hp
theorem Strs.drew {w : World} {v : Value} {ss : List ByteArray} (h : Strs w v ss) : Strs w.drew v ss := h
theorem Strs.drewN {w : World} {v : Value} {ss : List ByteArray} (h : Strs w v ss) (n : Nat) : Strs (w.drewN n) v ss := h

/-- A store into a cell that holds no string. -/
theorem Strs.setCell {w : World} {v : Value} {ss : List ByteArray} (h : Strs w v ss) {p : Addr} {u : Value} (hu : w.cell? p = some u) (hs : ∀ s, u ≠ .string s) (x : Value) : Strs (w.setCell p x) v ss := by
  obtain ⟨A, c, hv, h1, h2, h3, h4⟩ := h
  refine ⟨A, c, hv, h1, h2, h3, fun ad ha i s hi => ?_⟩
  have hc := h4 ad ha i s hi
  rw [World.cell?_setCell_other w p _ x (fun e => by rw [← e, hu] at hc; exact hs s (Option.some.inj hc))]
  exact hc

/-- A row of the call's own reads so. -/
theorem Strs.of_own {w : World} {base : Nat} {e : TypeId} {v : Value} {n : Nat} {ss : List ByteArray} (h : w.ownsRow base e 1 v n (ss.map Value.string)) (hn : n = ss.length) : Strs w v ss := by
  subst hn
  rcases h.2 with ⟨rfl, h0⟩ | ⟨g, cap, cur, hv, hb, hg, hnc, hm, hcs, ht⟩
  · have : ss = [] := List.eq_nil_of_length_eq_zero h0
    subst this
    exact Strs.nil w
  · refine ⟨some ⟨g, 0, none⟩, cap, hv, hnc, hm, (fun h => by cases h), fun ad ha i s hs => ?_⟩
    obtain rfl := Option.some.inj ha
    exact h.cells (g := g) (by rw [hv]; rfl) i (.string s) (by simp [hs])

/-- A piece of a slice from k on, as the model spells it. -/
theorem Strs.cut {w : World} {A : Option Addr} {n c : Nat} {ss : List ByteArray} (h : Strs w (.slice A n c) ss) {k : Nat} (hk : k ≤ n) :
    Strs w (.slice (if c = k then A else A.map (·.add k)) (n - k) (c - k)) (ss.drop k) := by
  obtain ⟨A', c', hv, h1, h2, h3, h4⟩ := h
  injection hv with e1 e2 e3
  subst e1; subst e3
  have hl : (ss.drop k).length = n - k := by rw [List.length_drop, e2]
  refine ⟨_, c - k, by rw [hl], by rw [hl]; omega, by omega, ?_, ?_⟩
  · intro hA
    by_cases hc : c = k
    · omega
    · rw [if_neg hc] at hA
      have : A = none := by cases A with | none => rfl | some a => simp at hA
      have := h3 this
      omega
  · intro ad ha i s hs
    have hi : i < (ss.drop k).length := (List.getElem?_eq_some_iff.1 hs).1
    by_cases hc : c = k
    · omega
    · rw [if_neg hc] at ha
      cases A with
      | none => simp at ha
      | some a =>
        simp at ha
        subst ha
        rw [List.getElem?_drop] at hs
        have := h4 a rfl (k + i) s hs
        have e : (a.add k).add i = a.add (k + i) := by
          unfold Addr.add
          by_cases h0 : k = 0 <;> by_cases h1 : i = 0 <;> simp [h0, h1, Nat.add_assoc]
        rw [e]; exact this

/-- The first k of a slice. -/
theorem Strs.take {w : World} {A : Option Addr} {n c : Nat} {ss : List ByteArray} (h : Strs w (.slice A n c) ss) {k : Nat} (hk : k ≤ n) :
    Strs w (.slice A k c) (ss.take k) := by
  obtain ⟨A', c', hv, h1, h2, h3, h4⟩ := h
  injection hv with e1 e2 e3
  subst e1; subst e3
  have hl : (ss.take k).length = k := by rw [List.length_take]; omega
  refine ⟨A, c, by rw [hl], by omega, h2, h3, fun ad ha i s hs => h4 ad ha i s ?_⟩
  rw [List.getElem?_take] at hs
  split at hs
  · exact hs
  · cases hs

end Go.Proofs.YtplleaimmmanhaaGreatDoor
namespace Go.Proofs.YtplleaimmmanhaaGreatDoor
open Go.RowKit

theorem below_drewN {B : Nat} {a w : World} (h : Below B a w) (n : Nat) : Below B a (w.drewN n) := ⟨h.os, h.tape, h.output, h.size, h.block⟩
theorem own_keep {w w' : World} {base : Nat} {e : TypeId} {size : Nat} {v : Value} {n : Nat} {xs : List Value} (h : w.ownsRow base e size v n xs) (hb : Below w.heap.size w w') : w'.ownsRow base e size v n xs :=
  h.kept (row := none) ⟨hb.os, hb.tape, hb.output, hb.size, fun k hk _ => hb.block k hk⟩ (by
    cases h' : v.ownBlock with
    | none => exact .inl rfl
    | some k => exact .inr (by simp))
theorem own_form {w : World} {base size : Nat} {e : TypeId} {v : Value} {n : Nat} {xs : List Value} (h : w.ownsRow base e size v n xs) : ∃ A c, v = .slice A n c := by
  rcases h.2 with ⟨rfl, rfl⟩ | ⟨g, cap, cur, rfl, _⟩
  · exact ⟨_, _, rfl⟩
  · exact ⟨_, _, rfl⟩
theorem own_len {w : World} {base size : Nat} {e : TypeId} {A : Option Addr} {m c : Nat} {n : Nat} {xs : List Value} (h : w.ownsRow base e size (.slice A m c) n xs) : m = n ∧ n ≤ c ∧ c ≤ maxLen := by
  rcases h.2 with ⟨h1, rfl⟩ | ⟨g, cap, cur, h1, _, _, hn, hm, _⟩
  · injection h1 with a b d
    exact ⟨b, by omega, by rw [d]; exact Nat.zero_le _⟩
  · injection h1 with a b d
    exact ⟨b, by omega, by rw [d]; exact hm⟩

/-- Where cell j of element i stands, as a walk spells it. -/
def adr (ad : Addr) (i k : Nat) : Nat → Addr
  | 0 => ad.add (i * k)
  | j + 1 => ⟨(ad.add (i * k)).block, (ad.add (i * k)).off + (j + 1), none⟩

section
variable {α : Type} {k : Nat} {enc : α → List Value} {w w' : World} {v : Value} {l : List α}
/-- The slice value v has the elements l, each of k cells. -/
def Reads (k : Nat) (enc : α → List Value) (w : World) (v : Value) (l : List α) : Prop :=
  ∃ (A : Option Addr) (c : Nat), v = .slice A l.length c ∧ l.length ≤ c ∧ c ≤ maxLen ∧ (A = none → c = 0) ∧
    ∀ ad : Addr, A = some ad → ∀ (i : Nat) (x : α), l[i]? = some x → ∀ (j : Nat) (u : Value), (enc x)[j]? = some u → w.cell? (adr ad i k j) = some u
theorem Reads.nil (w : World) : Reads k enc w (.slice none 0 0) ([] : List α) := ⟨none, 0, rfl, Nat.le_refl _, Nat.zero_le _, fun _ => rfl, fun _ h => by cases h⟩
theorem Reads.keep (h : Reads k enc w v l) (hk : ∀ p : Addr, p.block < w.heap.size → w'.cell? p = w.cell? p) : Reads k enc w' v l := by
  obtain ⟨A, c, hv, h1, h2, h3, h4⟩ := h
  refine ⟨A, c, hv, h1, h2, h3, fun ad ha i x hx j u hu => ?_⟩
  have hc := h4 ad ha i x hx j u hu
  rw [hk _ (World.block_lt_of_cell? w _ hc)]
  exact hc
theorem Reads.below (h : Reads k enc w v l) (hb : Below w.heap.size w w') : Reads k enc w' v l := h.keep fun _ hp => hb.cell hp
theorem Reads.alloc (h : Reads k enc w v l) (o : Obj) : Reads k enc (w.alloc o) v l := h.keep fun p hp => World.cell?_alloc_lt w o p hp
theorem Reads.drewN (h : Reads k enc w v l) (n : Nat) : Reads k enc (w.drewN n) v l := h
theorem Reads.form (h : Reads k enc w v l) : ∃ A c, v = .slice A l.length c := by
  obtain ⟨A, c, hv, _⟩ := h
  exact ⟨_, _, hv⟩
theorem Reads.len {A : Option Addr} {n c : Nat} (h : Reads k enc w (.slice A n c) l) : n = l.length ∧ n ≤ c ∧ c ≤ maxLen := by
  obtain ⟨A', c', hv, h1, h2, h3, h4⟩ := h
  injection hv with e1 e2 e3
  subst e3
  exact ⟨e2, by omega, h2⟩
/-- The element i. -/
theorem Reads.at_ {A : Option Addr} {n c : Nat} (h : Reads k enc w (.slice A n c) l) {i : Nat} {x : α} (hi : l[i]? = some x) :
    ∃ ad : Addr, A = some ad ∧ ∀ (j : Nat) (u : Value), (enc x)[j]? = some u → w.cell? (adr ad i k j) = some u := by
  obtain ⟨A', c', hv, h1, h2, h3, h4⟩ := h
  injection hv with e1 e2 e3
  subst e1; subst e3
  cases A with
  | none => have := h3 rfl; have := (List.getElem?_eq_some_iff.1 hi).1; omega
  | some ad => exact ⟨ad, rfl, fun j u hu => h4 ad rfl i x hi j u hu⟩

theorem flat_len (hk : ∀ x, (enc x).length = k) : ∀ l : List α, (l.flatMap enc).length = l.length * k
  | [] => by simp
  | x :: l => by rw [List.flatMap_cons, List.length_append, hk, flat_len hk l, List.length_cons, Nat.succ_mul]; omega
theorem flat_at (hk : ∀ x, (enc x).length = k) : ∀ (l : List α) (i j : Nat) (x : α), l[i]? = some x → j < k → (l.flatMap enc)[i * k + j]? = (enc x)[j]?
  | [], i, j, x, h, _ => by simp at h
  | y :: l, 0, j, x, h, hj => by
    simp at h; subst h
    rw [List.flatMap_cons, Nat.zero_mul, Nat.zero_add, List.getElem?_append_left (by rw [hk]; exact hj)]
  | y :: l, i + 1, j, x, h, hj => by
    rw [List.flatMap_cons, Nat.succ_mul, List.getElem?_append_right (by rw [hk]; omega), hk, show i * k + k + j - k = i * k + j by omega]
    exact flat_at hk l i j x (by simpa using h) hj
theorem add_zero_addr (g m : Nat) : (⟨g, 0, none⟩ : Addr).add m = ⟨g, m, none⟩ := by
  unfold Addr.add
  split
  · rename_i h; subst h; rfl
  · simp
theorem Reads.of_own {base : Nat} {e : TypeId} (hk : ∀ x, (enc x).length = k) (h : w.ownsRow base e k v l.length (l.flatMap enc)) : Reads k enc w v l := by
  rcases h.2 with ⟨rfl, h0⟩ | ⟨g, cap, cur, hv, hb, hg, hnc, hm, hcs, ht⟩
  · have : l = [] := List.eq_nil_of_length_eq_zero h0
    subst this
    exact Reads.nil w
  · refine ⟨some ⟨g, 0, none⟩, cap, hv, hnc, hm, (fun h => by cases h), fun ad ha i x hx j u hu => ?_⟩
    obtain rfl := Option.some.inj ha
    have hj : j < k := by rw [← hk x]; exact (List.getElem?_eq_some_iff.1 hu).1
    have := h.cells (g := g) (by rw [hv]; rfl) (i * k + j) u (by rw [flat_at hk l i j x hx hj]; exact hu)
    rw [add_zero_addr] at this
    cases j with
    | zero => unfold adr; rw [add_zero_addr]; exact this
    | succ j => unfold adr; rw [add_zero_addr]; exact this
end

/-- The cells of a file. -/
def cF (f : Fl) : List Value := [.string f.1, .int .i64 f.2.1, .string f.2.2]
abbrev En := ByteArray × Int × Int × ByteArray × Int × Int
/-- The cells of an entry. -/
def cE (e : En) : List Value := [.string e.1, .int .i64 e.2.1, .int .i64 e.2.2.1, .string e.2.2.2.1, .int .i64 e.2.2.2.2.1, .int .i64 e.2.2.2.2.2]
abbrev Ln := ByteArray × Int × Int
/-- The cells of a line. -/
def cL (x : Ln) : List Value := [.string x.1, .int .u8 x.2.1, .int .u8 x.2.2]
theorem cF_len (f : Fl) : (cF f).length = 3 := rfl
theorem cE_len (e : En) : (cE e).length = 6 := rfl
theorem cL_len (x : Ln) : (cL x).length = 3 := rfl
theorem fileInfo : (Tryz.prog.info? 25).map (fun i => (i.zero, i.size, i.bytes)) = some (some (.agg #[.string ⟨#[]⟩, .int .i64 0, .string ⟨#[]⟩]), 3, 40) := by kernel_rfl
theorem entryInfo : (Tryz.prog.info? 71).map (fun i => (i.zero, i.size, i.bytes)) = some (some (.agg #[.string ⟨#[]⟩, .int .i64 0, .int .i64 0, .string ⟨#[]⟩, .int .i64 0, .int .i64 0]), 6, 64) := by kernel_rfl
theorem strInfo : (Tryz.prog.info? 9).map (fun i => (i.zero, i.size, i.bytes)) = some (some (.string { data := #[] }), 1, 16) := by kernel_rfl

theorem Fils.at_ {w : World} {A : Option Addr} {n c : Nat} {l : List Fl} (h : Reads 3 cF w (.slice A n c) l) {i : Nat} {f : Fl} (hi : l[i]? = some f) :
    ∃ ad : Addr, A = some ad ∧ w.cell? (ad.add (i * 3)) = some (.string f.1) ∧ w.cell? ⟨(ad.add (i * 3)).block, (ad.add (i * 3)).off + 1, none⟩ = some (.int .i64 f.2.1) ∧ w.cell? ⟨(ad.add (i * 3)).block, (ad.add (i * 3)).off + 2, none⟩ = some (.string f.2.2) := by
  obtain ⟨ad, ha, hc⟩ := h.at_ hi
  exact ⟨ad, ha, hc 0 _ rfl, hc 1 _ rfl, hc 2 _ rfl⟩
theorem Ents.at_ {w : World} {A : Option Addr} {n c : Nat} {l : List En} (h : Reads 6 cE w (.slice A n c) l) {i : Nat} {e : En} (hi : l[i]? = some e) :
    ∃ ad : Addr, A = some ad ∧ w.cell? (ad.add (i * 6)) = some (.string e.1) ∧ w.cell? ⟨(ad.add (i * 6)).block, (ad.add (i * 6)).off + 1, none⟩ = some (.int .i64 e.2.1) ∧ w.cell? ⟨(ad.add (i * 6)).block, (ad.add (i * 6)).off + 2, none⟩ = some (.int .i64 e.2.2.1) ∧
      w.cell? ⟨(ad.add (i * 6)).block, (ad.add (i * 6)).off + 3, none⟩ = some (.string e.2.2.2.1) ∧ w.cell? ⟨(ad.add (i * 6)).block, (ad.add (i * 6)).off + 4, none⟩ = some (.int .i64 e.2.2.2.2.1) ∧ w.cell? ⟨(ad.add (i * 6)).block, (ad.add (i * 6)).off + 5, none⟩ = some (.int .i64 e.2.2.2.2.2) := by
  obtain ⟨ad, ha, hc⟩ := h.at_ hi
  exact ⟨ad, ha, hc 0 _ rfl, hc 1 _ rfl, hc 2 _ rfl, hc 3 _ rfl, hc 4 _ rfl, hc 5 _ rfl⟩
theorem Lins.at_ {w : World} {A : Option Addr} {n c : Nat} {l : List Ln} (h : Reads 3 cL w (.slice A n c) l) {i : Nat} {f : Ln} (hi : l[i]? = some f) :
    ∃ ad : Addr, A = some ad ∧ w.cell? (ad.add (i * 3)) = some (.string f.1) ∧ w.cell? ⟨(ad.add (i * 3)).block, (ad.add (i * 3)).off + 1, none⟩ = some (.int .u8 f.2.1) ∧ w.cell? ⟨(ad.add (i * 3)).block, (ad.add (i * 3)).off + 2, none⟩ = some (.int .u8 f.2.2) := by
  obtain ⟨ad, ha, hc⟩ := h.at_ hi
  exact ⟨ad, ha, hc 0 _ rfl, hc 1 _ rfl, hc 2 _ rfl⟩
end Go.Proofs.YtplleaimmmanhaaGreatDoor
namespace Go.Proofs.YtplleaimmmanhaaGreatDoor
open Go Go.RowKit

def Blk (w : World) (g : Nat) (t : TypeId) (cs : Array Value) : Prop := w.heap[g]? = some (.cells cs t (0, 0))
section
variable {w w' : World} {g : Nat} {t : TypeId} {cs : Array Value}
theorem Blk.lt (h : Blk w g t cs) : g < w.heap.size := by
  rcases Nat.lt_or_ge g w.heap.size with hlt | hge
  · exact hlt
  · unfold Blk at h; rw [Array.getElem?_eq_none hge] at h; cases h
theorem Blk.cell (h : Blk w g t cs) (i : Nat) : w.cell? ⟨g, i, none⟩ = cs[i]? := cell_of_row w g i cs t (0, 0) h
theorem Blk.frozen (h : Blk w g t cs) (i : Nat) : w.frozen? ⟨g, i, none⟩ = false := by
  unfold Blk at h
  simp [World.frozen?, h]
theorem Blk.new (w : World) (t : TypeId) (cs : Array Value) : Blk (w.alloc (.cells cs t)) w.heap.size t cs := heap_alloc_new w _
theorem Blk.drewN (h : Blk w g t cs) (n : Nat) : Blk (w.drewN n) g t cs := h
theorem Blk.alloc (h : Blk w g t cs) (o : Obj) : Blk (w.alloc o) g t cs := (Below.heap_alloc w o g h.lt).trans h
theorem Blk.set_ (h : Blk w g t cs) (i : Nat) (u : Value) : Blk (w.setCell ⟨g, i, none⟩ u) g t (cs.setIfInBounds i u) := by
  unfold Blk at h ⊢
  simp [World.setCell, Array.getElem?_modify, h]
theorem Blk.far (h : Blk w g t cs) {p : Addr} (hp : g ≠ p.block) (u : Value) : Blk (w.setCell p u) g t cs := (Below.heap_setCell w p u g hp).trans h
theorem Blk.below {B : Nat} (h : Blk w g t cs) (hb : Below B w w') (hg : g < B) : Blk w' g t cs := (hb.block g hg).trans h
theorem Blk.grown {row : Option Nat} (h : Blk w g t cs) (hb : w.grownBy w' row) (hg : some g ≠ row) : Blk w' g t cs := (hb.block g h.lt hg).trans h
theorem Blk.ne_ {g' : Nat} {t' : TypeId} {cs' : Array Value} (h : Blk w g t cs) (h' : Blk w g' t' cs') (hne : t ≠ t') : g ≠ g' := by
  rintro rfl
  unfold Blk at h h'
  rw [h] at h'
  injection h' with h'
  injection h' with _ ht
  exact hne ht
theorem own_blk_ne {base : Nat} {e : TypeId} {size n : Nat} {v : Value} {xs : List Value} (h : w.ownsRow base e size v n xs) (hg : Blk w g t cs) (hne : e ≠ t) : v.ownBlock ≠ some g := by
  rcases h.2 with ⟨rfl, _⟩ | ⟨g', cap, cur, rfl, _, hh, _⟩
  · simp [Value.ownBlock]
  · intro he
    have : g' = g := by simpa [Value.ownBlock] using he
    subst this
    exact Blk.ne_ (t := e) hh hg hne rfl
/-- Cells laid from o on. -/
theorem Blk.setCells : ∀ (vs : List Value) (o : Nat) {w : World} {cs : Array Value}, Blk w g t cs → o + vs.length ≤ cs.size →
    ∃ cs' : Array Value, Blk (w.setCells g o vs) g t cs' ∧ cs'.size = cs.size ∧ ∀ j, cs'[j]? = if o ≤ j ∧ j < o + vs.length then vs[j - o]? else cs[j]?
  | [], o, w, cs, h, _ => ⟨cs, h, rfl, fun j => by rw [if_neg (by simp only [List.length_nil]; omega)]⟩
  | v :: vs, o, w, cs, h, hl => by
    rw [List.length_cons] at hl
    obtain ⟨cs', h1, h2, h3⟩ := Blk.setCells vs (o + 1) (h.set_ o v) (by rw [Array.size_setIfInBounds]; omega)
    refine ⟨cs', h1, by rw [h2, Array.size_setIfInBounds], fun j => ?_⟩
    rw [h3 j, List.length_cons]
    by_cases e1 : o + 1 ≤ j ∧ j < o + 1 + vs.length
    · rw [if_pos e1, if_pos (by omega)]
      obtain ⟨k, hk⟩ : ∃ k, j - o = k + 1 := ⟨j - o - 1, by omega⟩
      rw [hk, List.getElem?_cons_succ, show j - (o + 1) = k by omega]
    · rw [if_neg e1]
      by_cases e2 : j = o
      · subst e2
        rw [if_pos (by omega), Nat.sub_self, Array.getElem?_setIfInBounds_self]
        rw [if_pos (by omega)]; rfl
      · rw [if_neg (by omega), Array.getElem?_setIfInBounds_ne (by omega)]
end

/-- The bytes of a row of the call's own. -/
abbrev bc (l : List UInt8) : List Value := Lib.byteCells l
abbrev BOwn (w : World) (B : Nat) (v : Value) (l : List UInt8) : Prop := w.ownsRow B 5 1 v l.length (bc l)
theorem byteInfo : (Tryz.prog.info? 5).map (fun i => (i.zero, i.size, i.bytes)) = some (some (.int .u8 0), 1, 1) := by kernel_rfl
theorem bc_one (l : List UInt8) : ∀ u ∈ bc l, u.oneCell' = true := by
  intro u hu
  obtain ⟨b, _, rfl⟩ := List.mem_map.1 hu
  rfl
theorem bc_at {l : List UInt8} {i : Nat} {b : UInt8} (h : l[i]? = some b) : (bc l)[i]? = some (.int .u8 b.toNat) := by
  show (l.map _)[i]? = _
  rw [List.getElem?_map, h]; rfl

/-- What a call changes: block E, and the row r; what was below stands. -/
structure Touch (w w' : World) (E : Nat) (r : Option Nat) : Prop where
  os : w'.os = w.os
  tape : w'.tape = w.tape
  output : w'.output = w.output
  size : w.heap.size ≤ w'.heap.size
  block : ∀ k, k < w.heap.size → k ≠ E → some k ≠ r → w'.heap[k]? = w.heap[k]?
/-- The row is the old one or a new one. -/
def Same1 (w : World) (r r' : Option Nat) : Prop := r' = r ∨ ∃ g, r' = some g ∧ w.heap.size ≤ g
theorem Touch.refl (w : World) (E : Nat) (r : Option Nat) : Touch w w E r := ⟨rfl, rfl, rfl, Nat.le_refl _, fun _ _ _ _ => rfl⟩
theorem Touch.trans {w w1 w2 : World} {E : Nat} {r r1 : Option Nat} (h : Touch w w1 E r) (hr : Same1 w r r1) (h' : Touch w1 w2 E r1) : Touch w w2 E r :=
  ⟨h'.os.trans h.os, h'.tape.trans h.tape, h'.output.trans h.output, Nat.le_trans h.size h'.size, fun k hk hE hn =>
    (h'.block k (Nat.lt_of_lt_of_le hk h.size) hE (by rcases hr with rfl | ⟨g, rfl, hg⟩; · exact hn
                                                      · intro e; injection e with e; omega)).trans (h.block k hk hE hn)⟩
theorem Same1.trans {w w1 : World} {r r1 r2 : Option Nat} (h : Same1 w r r1) (hs : w.heap.size ≤ w1.heap.size) (h' : Same1 w1 r1 r2) : Same1 w r r2 := by
  rcases h' with rfl | ⟨g, rfl, hg⟩
  · exact h
  · exact .inr ⟨g, rfl, Nat.le_trans hs hg⟩
theorem Touch.of_below {w w' : World} {E : Nat} {r : Option Nat} (h : Below w.heap.size w w') : Touch w w' E r := ⟨h.os, h.tape, h.output, h.size, fun k hk _ _ => h.block k hk⟩
theorem Touch.below {w w' : World} {B E : Nat} {r : Option Nat} (h : Touch w w' E r) (hB : B ≤ w.heap.size) (hE : B ≤ E) (hr : ∀ g, r = some g → B ≤ g) : Below B w w' :=
  ⟨h.os, h.tape, h.output, h.size, fun k hk => h.block k (by omega) (by omega) (fun e => by have := hr k e.symm; omega)⟩
theorem Touch.blk {w w' : World} {E g : Nat} {r : Option Nat} {t : TypeId} {cs : Array Value} (h : Touch w w' E r) (hb : Blk w g t cs) (hE : g ≠ E) (hr : some g ≠ r) : Blk w' g t cs := (h.block g hb.lt hE hr).trans hb
theorem Touch.own {w w' : World} {E B size n : Nat} {e : TypeId} {r : Option Nat} {v : Value} {xs : List Value} (h : Touch w w' E r) (ho : w.ownsRow B e size v n xs) (hE : v.ownBlock ≠ some E) (hr : v.ownBlock = none ∨ v.ownBlock ≠ r) : w'.ownsRow B e size v n xs := by
  obtain ⟨hl, hb⟩ := ho
  refine ⟨hl, hb.imp id ?_⟩
  rintro ⟨g, cap, cur, rfl, hg, hh, rest⟩
  refine ⟨g, cap, cur, rfl, hg, (h.block g (Array.getElem?_eq_some_iff.1 hh).1 (fun e => hE (by rw [e]; rfl)) ?_).trans hh, rest⟩
  rcases hr with hr | hr
  · cases hr
  · exact hr
theorem Touch.of_grown {w w' : World} {E : Nat} {r : Option Nat} (h : w.grownBy w' r) : Touch w w' E r := ⟨h.os, h.tape, h.output, h.size, fun k hk _ hn => h.block k hk hn⟩

/-- An Enc: block E holds its row's value; the row holds the bytes l. -/
structure EncAt (w : World) (B E : Nat) (v : Value) (l : List UInt8) : Prop where
  blk : Blk w E 109 #[v]
  own : BOwn w B v l
  lo : B ≤ E
theorem EncAt.ne {w : World} {B E : Nat} {v : Value} {l : List UInt8} (h : EncAt w B E v l) : v.ownBlock ≠ some E := own_blk_ne h.own h.blk (by decide)
theorem EncAt.below {w w' : World} {B E : Nat} {v : Value} {l : List UInt8} (h : EncAt w B E v l) (hb : Below w.heap.size w w') : EncAt w' B E v l := ⟨h.blk.below hb h.blk.lt, own_keep h.own hb, h.lo⟩

/-- The bytes of a number. -/
def enc (u : Nat) : List UInt8 := if h : u < 128 then [UInt8.ofNat u] else UInt8.ofNat (u % 128 + 128) :: enc (u / 128)
termination_by u
decreasing_by omega
theorem enc_small {u : Nat} (h : u < 128) : enc u = [UInt8.ofNat u] := by rw [enc, dif_pos h]
theorem enc_big {u : Nat} (h : ¬ u < 128) : enc u = UInt8.ofNat (u % 128 + 128) :: enc (u / 128) := by rw [enc, dif_neg h]
/-- A number folded. -/
def zz (n : Int) : Nat := if 0 ≤ n then (2 * n).toNat else (-2 * n - 1).toNat
theorem zz_lt {n : Int} (h1 : -9223372036854775808 ≤ n) (h2 : n ≤ 9223372036854775807) : zz n < 18446744073709551616 := by unfold zz; split <;> omega
theorem zz_pos {n : Int} (h : 0 ≤ n) : (zz n : Int) = 2 * n := by unfold zz; rw [if_pos h]; omega
theorem zz_neg {n : Int} (h : ¬ 0 ≤ n) : (zz n : Int) = -2 * n - 1 := by unfold zz; rw [if_neg h]; omega
def encI (n : Int) : List UInt8 := enc (zz n)
def encT (s : ByteArray) : List UInt8 := encI s.size ++ s.data.toList
theorem enc_len_le : ∀ (k u : Nat), u < 2 ^ (7 * k) → 0 < k → (enc u).length ≤ k
  | 0, _, _, h => by omega
  | k + 1, u, h, _ => by
    by_cases hu : u < 128
    · rw [enc_small hu]; simp
    · rw [enc_big hu, List.length_cons]
      rcases Nat.eq_zero_or_pos k with rfl | hk
      · simp at h; omega
      · have h2 : u / 128 < 2 ^ (7 * k) := by
          rw [show 7 * (k + 1) = 7 * k + 7 by omega, Nat.pow_add] at h
          exact Nat.div_lt_of_lt_mul (by omega)
        have := enc_len_le k (u / 128) h2 hk
        omega
theorem enc_len {u : Nat} (h : u < 18446744073709551616) : (enc u).length ≤ 10 := enc_len_le 10 u (Nat.lt_trans h (by decide)) (by decide)

/-! Bits. -/
theorem u8_or128 : ∀ n : Fin 256, bits .or .u8 (n.val : Int) 128 = ((n.val % 128 + 128 : Nat) : Int) := by decide +kernel
theorem u8_or128' (n : Nat) (h : n < 256) : bits .or .u8 (n : Int) 128 = ((n % 128 + 128 : Nat) : Int) := u8_or128 ⟨n, h⟩
theorem u8_and127' (n : Nat) (h : n < 256) : bits .and .u8 (n : Int) 127 = ((n % 128 : Nat) : Int) := by
  have := bits_mask .u8 8 (by decide) (fun n h0 h1 => by rw [IntKind.wrap_u8']; omega) 7 (by decide) (n : Int) (by omega) (by omega)
  rw [show ((2 : Int) ^ 7 - 1) = 127 from rfl] at this
  rw [this]; omega
theorem u64_and127 (n : Nat) (h : n < 18446744073709551616) : bits .and .u64 (n : Int) 127 = ((n % 128 : Nat) : Int) := by
  have := bits_mask .u64 64 (by decide) wraps_u64 7 (by decide) (n : Int) (by omega) (by exact_mod_cast h)
  rw [show ((2 : Int) ^ 7 - 1) = 127 from rfl] at this
  rw [this]; omega
theorem u64_and1 (n : Nat) (h : n < 18446744073709551616) : bits .and .u64 (n : Int) 1 = ((n % 2 : Nat) : Int) := by
  have := bits_mask .u64 64 (by decide) wraps_u64 1 (by decide) (n : Int) (by omega) (by exact_mod_cast h)
  rw [show ((2 : Int) ^ 1 - 1) = 1 from rfl] at this
  rw [this]; omega
theorem u64_or128 (n : Nat) (h : n < 128) : bits .or .u64 (n : Int) 128 = ((n + 128 : Nat) : Int) := by
  have := bits_join_low .u64 64 (by decide) wraps_u64 7 (n : Int) 128 (by omega) (by exact_mod_cast h) (by omega) (by omega) (by decide) (by decide)
  rw [this]; omega
theorem u64_or1 (n : Nat) (h : n < 18446744073709551616) (h2 : n % 2 = 0) : bits .or .u64 (n : Int) 1 = ((n + 1 : Nat) : Int) := by
  have := bits_join .u64 64 (by decide) wraps_u64 1 (n : Int) 1 (by omega) (by omega) (by exact_mod_cast h) (by omega) (by decide) (by decide)
  rw [this]; omega
theorem u64_xor0 (n : Nat) (h : n < 18446744073709551616) : bits .xor .u64 (n : Int) 0 = (n : Int) := by
  have := u64_xor_nat n 0 h (by decide)
  rw [Nat.xor_zero] at this
  exact this
theorem nat_xor_ones (n : Nat) (h : n < 18446744073709551616) : n ^^^ 18446744073709551615 = 18446744073709551615 - n := by
  have e := BitVec.xor_allOnes (x := BitVec.ofNat 64 n)
  have e2 := congrArg BitVec.toNat e
  rw [BitVec.toNat_xor, BitVec.toNat_not, BitVec.toNat_ofNat, BitVec.toNat_allOnes, Nat.mod_eq_of_lt (by simpa using h)] at e2
  exact e2
theorem u64_xor_ones (n : Nat) (h : n < 18446744073709551616) : bits .xor .u64 (n : Int) 18446744073709551615 = ((18446744073709551615 - n : Nat) : Int) := by
  have := u64_xor_nat n 18446744073709551615 h (by decide)
  rw [nat_xor_ones n h] at this
  exact this
theorem i64_xor0 (n : Nat) (h : n < 9223372036854775808) : bits .xor .i64 (n : Int) 0 = (n : Int) := by
  show IntKind.i64.wrap ((BitVec.ofInt 64 (n : Int) ^^^ BitVec.ofInt 64 0).toNat : Int) = _
  rw [show BitVec.ofInt 64 0 = 0#64 from rfl, BitVec.xor_zero, BitVec.ofInt_natCast, BitVec.toNat_ofNat, IntKind.wrap_i64]
  omega
theorem i64_xor_neg (n : Nat) (h : n < 9223372036854775808) : bits .xor .i64 (n : Int) (-1) = -(n : Int) - 1 := by
  show IntKind.i64.wrap ((BitVec.ofInt 64 (n : Int) ^^^ BitVec.ofInt 64 (-1)).toNat : Int) = _
  rw [show BitVec.ofInt 64 (-1) = BitVec.allOnes 64 from by decide, BitVec.xor_allOnes, BitVec.toNat_not, BitVec.ofInt_natCast, BitVec.toNat_ofNat, IntKind.wrap_i64]
  omega
end Go.Proofs.YtplleaimmmanhaaGreatDoor
namespace Go.Proofs.YtplleaimmmanhaaGreatDoor
open Go Go.RowKit

/-- An Enc that had l at v has l' now. -/
def Put (w : World) (B E : Nat) (v : Value) (l' : List UInt8) (w' : World) : Prop := ∃ v', EncAt w' B E v' l' ∧ Touch w w' E v.ownBlock ∧ Same1 w v.ownBlock v'.ownBlock

theorem byte_cell {y : Nat} (h : y < 256) : [Value.int .u8 (y : Int)] = bc [UInt8.ofNat y] := by
  show _ = [Value.int .u8 ((UInt8.ofNat y).toNat : Int)]
  rw [show (UInt8.ofNat y).toNat = y by simp [UInt8.toNat_ofNat']; omega]
/-- One append, stored. -/
theorem put_step {w wr w3 : World} {B E : Nat} {v v2 v3 : Value} {l2 m : List UInt8} {cs : List Value} {o : Obj} (hE : EncAt wr B E v2 l2) (hT : Touch w wr E v.ownBlock) (hS : Same1 w v.ownBlock v2.ownBlock)
    (hc : cs = bc m) (ho : w3.ownsRow B 5 1 v3 (l2.length + m.length) (bc l2 ++ cs)) (hg : (wr.alloc o).grownBy w3 v2.ownBlock) (hat : v3.ownBlock = v2.ownBlock ∨ ∃ g, v3.ownBlock = some g ∧ wr.heap.size ≤ g) (hb : Blk w3 E 109 #[v2]) :
    EncAt (w3.setCell ⟨E, 0, none⟩ v3) B E v3 (l2 ++ m) ∧ Touch w (w3.setCell ⟨E, 0, none⟩ v3) E v.ownBlock ∧ Same1 w v.ownBlock v3.ownBlock := by
  subst hc
  have hS3 : Same1 wr v2.ownBlock v3.ownBlock := hat
  have hw3 : wr.heap.size ≤ w3.heap.size := Nat.le_trans (by simp) hg.size
  have hT3 : Touch wr w3 E v2.ownBlock := (Touch.of_below ((Below.refl wr.heap.size wr).alloc (Nat.le_refl _) o)).trans (.inl rfl) (Touch.of_grown hg)
  have hne : v3.ownBlock ≠ some E := own_blk_ne ho hb (by decide)
  have hT4 : Touch w3 (w3.setCell ⟨E, 0, none⟩ v3) E none := ⟨rfl, rfl, rfl, by simp, fun k _ hk _ => Below.heap_setCell _ _ _ _ hk⟩
  have hT4' : Touch w3 (w3.setCell ⟨E, 0, none⟩ v3) E v3.ownBlock := ⟨hT4.os, hT4.tape, hT4.output, hT4.size, fun k hk hE _ => hT4.block k hk hE (by simp)⟩
  refine ⟨⟨by have := hb.set_ 0 v3; simpa using this, ?_, hE.lo⟩, hT.trans hS (hT3.trans hS3 hT4'), hS.trans hT.size hS3⟩
  have := hT4.own ho hne (by cases h : v3.ownBlock <;> simp)
  show World.ownsRow _ B 5 1 v3 _ _
  rw [List.length_append]
  show World.ownsRow _ B 5 1 v3 _ (Lib.byteCells _)
  rw [Lib.byteCells_append]
  exact this

set_option maxRecDepth 100000 in
set_option maxHeartbeats 2000000 in
theorem number_any (w : World) (B E : Nat) (v : Value) (l : List UInt8) (u : Nat) (h : EncAt w B E v l) (hu : u < 18446744073709551616) (hl : l.length ≤ 1000000) (hBw : B ≤ w.heap.size) :
    Calls Tryz.prog 116 #[.pointer (some ⟨E, 0, none⟩), .int .u64 u] w fun e w' => e = .returned (.tuple #[]) ∧ Put w B E v (l ++ enc u) w' := by
  obtain ⟨i0, hi0, hz0, hz1, hz2⟩ := info_parts byteInfo
  have H0 := Lib.hid h
  have HU := Lib.hid hu
  clear h hu
  go_enter Tryz.func116, Tryz.ntmps116
  go_wp2_with fail
  go_loopw [1] (fun s1 wr => ∃ (x : Nat) (l2 : List UInt8) (v2 : Value) (n : Nat), s1 = .int .u64 x ∧ Hid (x < 18446744073709551616) ∧ Hid (l2 ++ enc x = l ++ enc u) ∧ Hid (l2.length = l.length + n) ∧ Hid (x < 2 ^ (7 * (10 - n)) ∧ n ≤ 10) ∧ EncAt wr B E v2 l2 ∧ Touch w wr E v.ownBlock ∧ Same1 w v.ownBlock v2.ownBlock) (fun s1 _ => (intOf s1).toNat)
  case atStart => exact ⟨u, l, v, 0, rfl, HU, Lib.hid rfl, Lib.hid rfl, Lib.hid ⟨Nat.lt_trans HU.out (by decide), by omega⟩, H0.out, Touch.refl _ _ _, .inl rfl⟩
  case round =>
    obtain ⟨x, l2, v2, n, rfl, HX, hL, hN, HP, hE, hT, hS⟩ := hrel
    have x0 : (0 : Int) ≤ (x : Int) := Int.natCast_nonneg _
    have c0 := hE.blk.cell 0
    have f0 := hE.blk.frozen 0
    have hlt := hE.blk.lt
    have HE := Lib.hid hE
    have HT := Lib.hid hT
    have HS := Lib.hid hS
    clear hE hT hS
    obtain ⟨A, c, rfl⟩ := own_form HE.out.own
    have hBr : B ≤ wr.heap.size := Nat.le_trans hBw HT.out.size
    have hl2 : l2.length ≤ 1000010 := by have := hN.out; have := HP.out.2; omega
    by_cases h128 : x < 128
    · have b1 : ¬ (128 : Int) ≤ (x : Int) := by omega
      have hy : x < 256 := by omega
      go_wp2_with (at_builtin; refine wpList_append_own_at _ rfl _ _ 54 rfl B 5 i0 _ 1 1 Tryz.underlying54 hi0 hz0 hz1 hz2 rfl (by decide) _ _ _ rfl (HE.out.own.alloc _) ⟨wr.heap.size, 0, none⟩ 1 1 [.int .u8 (x : Int)] rfl rfl ?c1 ?c2 ?c3 ?c4 ?c5 ?_)
      try case c1 => exact World.news_of_block (heap_alloc_new wr _)
      case c2 => first | rfl | (intro u hu; simp at hu; rcases hu with rfl; rfl)
      case c3 => unfold maxLen; omega
      case c4 => omega
      case c5 => first | exact hBr | omega | (simp; omega)
      intro v3 w3 hown3 hg3 _ hat3
      obtain ⟨A3, c3, rfl⟩ := own_form hown3
      have E3 : Blk w3 E 109 #[.slice A l2.length c] := (HE.out.blk.alloc _).grown hg3 (fun e => HE.out.ne e.symm)
      have c0' := E3.cell 0
      have f0' := E3.frozen 0
      have hlt3 := E3.lt
      have HPUT := Lib.hid (put_step (m := [UInt8.ofNat x]) HE.out HT.out HS.out (byte_cell hy) hown3 hg3 (hat3.imp id fun h => ⟨_, h, by first | omega | simp⟩) E3)
      clear hown3 hg3 hat3 E3
      go_wp2_with fail
      go_end0
      exact ⟨rfl, _, by rw [← hL.out, enc_small h128]; exact HPUT.out.1, HPUT.out.2.1, HPUT.out.2.2⟩
    · have b1 : (128 : Int) ≤ (x : Int) := by omega
      obtain ⟨y, hyx⟩ : ∃ y, y = x % 128 + 128 := ⟨_, rfl⟩
      have hy : y < 256 := by omega
      have hb : bits .or .u8 ((x : Int) % 256) 128 = (y : Int) := by
        have := u8_or128' (x % 256) (by omega)
        rw [show ((x % 256 : Nat) : Int) = (x : Int) % 256 by omega] at this
        rw [this, hyx]; omega
      have HY := Lib.hid hyx
      clear hyx
      go_wp2_with (at_builtin; refine wpList_append_own_at _ rfl _ _ 54 rfl B 5 i0 _ 1 1 Tryz.underlying54 hi0 hz0 hz1 hz2 rfl (by decide) _ _ _ rfl (HE.out.own.alloc _) ⟨wr.heap.size, 0, none⟩ 1 1 [.int .u8 (y : Int)] rfl rfl ?d1 ?d2 ?d3 ?d4 ?d5 ?_)
      try case d1 => exact World.news_of_block (heap_alloc_new wr _)
      case d2 => first | rfl | (intro u hu; simp at hu; rcases hu with rfl; rfl)
      case d3 => unfold maxLen; omega
      case d4 => omega
      case d5 => first | exact hBr | omega | (simp; omega)
      intro v3 w3 hown3 hg3 _ hat3
      obtain ⟨A3, c3, rfl⟩ := own_form hown3
      have E3 : Blk w3 E 109 #[.slice A l2.length c] := (HE.out.blk.alloc _).grown hg3 (fun e => HE.out.ne e.symm)
      have c0' := E3.cell 0
      have f0' := E3.frozen 0
      have hlt3 := E3.lt
      have HPUT := Lib.hid (put_step (m := [UInt8.ofNat y]) HE.out HT.out HS.out (byte_cell hy) hown3 hg3 (hat3.imp id fun h => ⟨_, h, by first | omega | simp⟩) E3)
      clear hown3 hg3 hat3 E3
      go_wp2_with fail
      have HX2 : Hid (x / 128 < 18446744073709551616) := Lib.hid (by have := HX.out; omega)
      have HL2 : Hid ((l2 ++ [UInt8.ofNat y]) ++ enc (x / 128) = l ++ enc u) := Lib.hid (by rw [← hL.out, enc_big h128, HY.out, List.append_assoc]; rfl)
      have HN2 : Hid ((l2 ++ [UInt8.ofNat y]).length = l.length + (n + 1)) := Lib.hid (by rw [List.length_append, hN.out]; rfl)
      have HP2 : Hid (x / 128 < 2 ^ (7 * (10 - (n + 1))) ∧ n + 1 ≤ 10) := Lib.hid (by
        obtain ⟨p1, p2⟩ := HP.out
        rcases Nat.lt_or_ge n 10 with h | h
        · refine ⟨?_, by omega⟩
          rw [show 7 * (10 - n) = 7 * (10 - (n + 1)) + 7 by omega, Nat.pow_add] at p1
          exact Nat.div_lt_of_lt_mul (by omega)
        · rw [show 7 * (10 - n) = 0 by omega] at p1; simp at p1; omega)
      go_roundw
      case rel => exact ⟨x / 128, _, _, n + 1, by go_num, HX2, HL2, HN2, HP2, HPUT.out.1, HPUT.out.2.1, HPUT.out.2.2⟩
      case measure => simp [intOf]; omega
end Go.Proofs.YtplleaimmmanhaaGreatDoor
namespace Go.Proofs.YtplleaimmmanhaaGreatDoor
open Go Go.RowKit

abbrev ints (ns : List Int) : Array Value := (ns.map (Value.int .i64)).toArray
theorem ints_at {ns : List Int} {i : Nat} {n : Int} (h : ns[i]? = some n) : (ints ns)[i]? = some (.int .i64 n) := by
  show (List.toArray _)[i]? = _
  rw [List.getElem?_toArray, List.getElem?_map, h]; rfl
def In64 (ns : List Int) : Prop := ∀ n ∈ ns, -9223372036854775808 ≤ n ∧ n ≤ 9223372036854775807
def encIs (ns : List Int) : List UInt8 := ns.flatMap encI
theorem encIs_take {ns : List Int} {k : Nat} {n : Int} (h : ns[k]? = some n) : encIs (ns.take (k + 1)) = encIs (ns.take k) ++ encI n := by
  have hlt := (List.getElem?_eq_some_iff.1 h).1
  have e := (List.getElem?_eq_some_iff.1 h).2
  unfold encIs
  rw [List.take_succ_eq_append_getElem hlt, e, List.flatMap_append]; simp
theorem encI_len {n : Int} (h : -9223372036854775808 ≤ n ∧ n ≤ 9223372036854775807) : (encI n).length ≤ 10 := enc_len (zz_lt h.1 h.2)
theorem encIs_len {ns : List Int} (h : In64 ns) : ∀ k, (encIs (ns.take k)).length ≤ k * 10
  | 0 => by simp [encIs]
  | k + 1 => by
    have ih := encIs_len h k
    cases e : ns[k]? with
    | none =>
      have : ns.length ≤ k := List.getElem?_eq_none_iff.1 e
      rw [List.take_of_length_le (by omega)]
      rw [List.take_of_length_le (by omega)] at ih
      omega
    | some n =>
      rw [encIs_take e, List.length_append]
      have := encI_len (h n (List.mem_of_getElem? e))
      omega

theorem zz_go {n : Int} (h : -9223372036854775808 ≤ n ∧ n ≤ 9223372036854775807) : bits .xor .u64 (IntKind.u64.wrap (IntKind.u64.wrap n * 2)) (IntKind.u64.wrap (n / 9223372036854775808)) = (zz n : Int) := by
  rw [IntKind.wrap_u64, IntKind.wrap_u64, IntKind.wrap_u64]
  by_cases h0 : 0 ≤ n
  · obtain ⟨m, rfl⟩ := Int.eq_ofNat_of_zero_le h0
    rw [show (m : Int) % 18446744073709551616 * 2 % 18446744073709551616 = ((2 * m : Nat) : Int) by omega, show (m : Int) / 9223372036854775808 % 18446744073709551616 = 0 by omega, u64_xor0 _ (by omega), zz_pos h0]
    omega
  · obtain ⟨m, hm⟩ : ∃ m : Nat, (m : Int) = 2 * n + 18446744073709551616 := ⟨(2 * n + 18446744073709551616).toNat, by omega⟩
    rw [show n % 18446744073709551616 * 2 % 18446744073709551616 = (m : Int) by omega, show n / 9223372036854775808 % 18446744073709551616 = 18446744073709551615 by omega, u64_xor_ones _ (by omega), zz_neg h0]
    omega

set_option maxRecDepth 100000 in
set_option maxHeartbeats 2000000 in
theorem encInt_any (w : World) (B E g : Nat) (v : Value) (l : List UInt8) (ns : List Int) (h : EncAt w B E v l) (hg : Blk w g 3 (ints ns)) (hn : In64 ns) (hl : l.length ≤ 900000) (hnl : ns.length ≤ 1000) (hBw : B ≤ w.heap.size) :
    Calls Tryz.prog 61 #[.pointer (some ⟨E, 0, none⟩), .slice (some ⟨g, 0, none⟩) ns.length ns.length] w fun e w' => e = .returned (.tuple #[]) ∧ Put w B E v (l ++ encIs ns) w' := by
  have H0 := Lib.hid h
  have HG := Lib.hid hg
  have HN := Lib.hid hn
  clear h hg hn
  go_enter Tryz.func61, Tryz.ntmps61
  go_wp2_with fail
  go_loopw [8] (fun s8 wr => ∃ (k : Nat) (v2 : Value), s8 = .int .i64 k ∧ k ≤ ns.length ∧ EncAt wr B E v2 (l ++ encIs (ns.take k)) ∧ Touch w wr E v.ownBlock ∧ Same1 w v.ownBlock v2.ownBlock) (fun s8 _ => ns.length - (intOf s8).toNat)
  case atStart => exact ⟨0, v, rfl, Nat.zero_le _, by simpa [encIs] using H0.out, Touch.refl _ _ _, .inl rfl⟩
  case round =>
    obtain ⟨k, v2, rfl, hk, hE, hT, hS⟩ := hrel
    have k0 : (0 : Int) ≤ (k : Int) := Int.natCast_nonneg _
    by_cases hlt : k < ns.length
    · have k1 : (k : Int) < (ns.length : Int) := by omega
      obtain ⟨n, hx⟩ : ∃ n, ns[k]? = some n := ⟨_, List.getElem?_eq_getElem hlt⟩
      have HB := Lib.hid (HN.out n (List.mem_of_getElem? hx))
      have hgr := hT.blk HG.out (HG.out.ne_ H0.out.blk (by decide)) (fun e => own_blk_ne H0.out.own HG.out (by decide) e.symm)
      have x0 : wr.cell? ⟨g, k, none⟩ = some (.int .i64 n) := by rw [hgr.cell, ints_at hx]
      have HT := Lib.hid hT
      have HE := Lib.hid hE
      have HS := Lib.hid hS
      have hxx := Lib.hid hx
      clear hT hE hS hgr hx
      go_wp2_with fail
      rw [zz_go HB.out]
      refine (number_any wr B E v2 _ (zz n) HE.out (zz_lt HB.out.1 HB.out.2) (by rw [List.length_append]; have := encIs_len HN.out k; omega) (Nat.le_trans hBw HT.out.size)).mono ?_
      rintro e w5 ⟨rfl, v5, hE5, hT5, hS5⟩
      have HE5 : Hid (EncAt w5 B E v5 (l ++ encIs (ns.take (k + 1)))) := Lib.hid (by rw [encIs_take hxx.out, ← List.append_assoc]; exact hE5)
      have HT5 := Lib.hid (HT.out.trans HS.out hT5)
      have HS5 := Lib.hid (HS.out.trans HT.out.size hS5)
      clear hE5 hT5 hS5
      go_wp2_with fail
      go_roundw
      case rel => exact ⟨k + 1, v5, by go_num, hlt, HE5.out, HT5.out, HS5.out⟩
      case measure => simp [intOf]; omega
    · obtain rfl : k = ns.length := by omega
      rw [List.take_length] at hE
      go_wp2
      go_end0
      exact ⟨rfl, v2, hE, hT, hS⟩
end Go.Proofs.YtplleaimmmanhaaGreatDoor
namespace Go.Proofs.YtplleaimmmanhaaGreatDoor
open Go Go.RowKit

abbrev strV (ss : List ByteArray) : Array Value := (ss.map Value.string).toArray
theorem strV_at {ss : List ByteArray} {i : Nat} {s : ByteArray} (h : ss[i]? = some s) : (strV ss)[i]? = some (.string s) := by
  show (List.toArray _)[i]? = _
  rw [List.getElem?_toArray, List.getElem?_map, h]; rfl
def encTs (ss : List ByteArray) : List UInt8 := ss.flatMap encT
theorem encTs_take {ss : List ByteArray} {k : Nat} {s : ByteArray} (h : ss[k]? = some s) : encTs (ss.take (k + 1)) = encTs (ss.take k) ++ encT s := by
  have hlt := (List.getElem?_eq_some_iff.1 h).1
  have e := (List.getElem?_eq_some_iff.1 h).2
  unfold encTs
  rw [List.take_succ_eq_append_getElem hlt, e, List.flatMap_append]; simp
def Few300 (ss : List ByteArray) : Prop := ∀ s ∈ ss, s.size ≤ 300
theorem encT_len {s : ByteArray} (h : s.size ≤ 300) : (encT s).length ≤ 310 := by
  unfold encT
  rw [List.length_append]
  have := encI_len (n := (s.size : Int)) ⟨by omega, by omega⟩
  have e : s.data.toList.length = s.size := Array.length_toList
  omega
set_option maxRecDepth 100000 in
theorem encTs_len {ss : List ByteArray} (h : Few300 ss) : ∀ k, (encTs (ss.take k)).length ≤ k * 310
  | 0 => by simp [encTs]
  | k + 1 => by
    have ih := encTs_len h k
    cases e : ss[k]? with
    | none =>
      have : ss.length ≤ k := List.getElem?_eq_none_iff.1 e
      rw [List.take_of_length_le (show ss.length ≤ k + 1 by omega)]
      rw [List.take_of_length_le this] at ih
      omega
    | some n =>
      rw [encTs_take e, List.length_append]
      have := encT_len (h n (List.mem_of_getElem? e))
      omega

theorem str_at {w w' : World} {base n : Nat} {v v' : Value} {xs : List Value} {s : ByteArray} {ty : TypeId} (hown : w.ownsRow base 5 1 v n xs) (h63 : n + s.size ≤ 1000000) (hbase : base ≤ w.heap.size)
    (hr : (Builtin.append_ #[54, 9] ty #[v, .string s]).run Tryz.prog w = .ok v' w') : v'.ownBlock = v.ownBlock ∨ v'.ownBlock = some w.heap.size := by
  obtain ⟨i0, hi0, hz0, hz1, hz2⟩ := info_parts byteInfo
  obtain ⟨v2, w2, hr2, _, _, h3⟩ := Lib.run_append_own_string (P := Tryz.prog) w base 54 9 ty 5 i0 Tryz.underlying54 Tryz.underlying9 hi0 hz0 hz1 hz2 v n xs hown s (by unfold maxLen; omega) (by omega) hbase
  rw [hr] at hr2
  injection hr2 with e1 e2
  subst e1
  have hxl : xs.length = n := by simpa using hown.1
  rcases hown.2 with ⟨rfl, h0⟩ | ⟨g, cap, cur, rfl, hbg, hg, hnc, hcm, hcs, htake⟩
  · by_cases hm : s.size = 0
    · rw [h3.2 ⟨rfl, hm⟩]; exact .inl rfl
    · have hr2 := run_append_nil_string (P := Tryz.prog) w 54 9 ty 5 i0 (.int .u8 0) Tryz.underlying54 Tryz.underlying9 hi0 hz0 s (by omega) (by omega) (by rw [hz2]; omega)
      rw [hr] at hr2
      injection hr2 with e1 e2
      subst e1; exact .inr rfl
  · by_cases hroom : n + s.size ≤ cap
    · have hcs' : cur.size = cap := by simpa using hcs
      have hr2 := Lib.run_append_room_string (P := Tryz.prog) w 54 9 ty 5 i0 Tryz.underlying54 Tryz.underlying9 hi0 hz1 g n cap cur hg s hroom (by omega)
      rw [hr] at hr2
      injection hr2 with e1 e2
      subst e1; exact .inl rfl
    · have holds : ∀ j u, xs[j]? = some u → w.cell? ((⟨g, 0, none⟩ : Addr).add j) = some u := hown.cells (g := g) rfl
      have hr2 := Lib.run_append_grow_string (P := Tryz.prog) w 54 9 ty 5 i0 (.int .u8 0) Tryz.underlying54 Tryz.underlying9 hi0 hz0 ⟨g, 0, none⟩ n cap xs (by rw [hz1]; simpa using hxl) holds s (by omega) (by omega) (by rw [hz2]; exact growslice_fits (by omega) (by omega))
      rw [hr] at hr2
      injection hr2 with e1 e2
      subst e1; exact .inr rfl

/-- A string's bytes behind a row's. -/
theorem append_str (w : World) (B : Nat) (v : Value) (l : List UInt8) (s : ByteArray) (ho : BOwn w B v l) (hl : l.length + s.size ≤ 1000000) (hB : B ≤ w.heap.size) :
    ∃ v' w', (∀ ty, (Builtin.append_ #[54, 9] ty #[v, .string s]).run Tryz.prog w = .ok v' w') ∧ BOwn w' B v' (l ++ s.data.toList) ∧ w.grownBy w' v.ownBlock ∧ Same1 w v.ownBlock v'.ownBlock := by
  obtain ⟨i0, hi0, hz0, hz1, hz2⟩ := info_parts byteInfo
  obtain ⟨v2, w2, hr2, h1, h2, h3⟩ := Lib.run_append_own_string (P := Tryz.prog) w B 54 9 54 5 i0 Tryz.underlying54 Tryz.underlying9 hi0 hz0 hz1 hz2 v _ _ ho s (by unfold maxLen; omega) (by omega) hB
  refine ⟨v2, w2, fun ty => hr2, ?_, h2, (str_at ho hl hB hr2).imp id fun h => ⟨_, h, Nat.le_refl _⟩⟩
  have e : s.data.toList.length = s.size := Array.length_toList
  show w2.ownsRow B 5 1 v2 _ _
  rw [List.length_append, e]
  show w2.ownsRow B 5 1 v2 _ (Lib.byteCells _)
  rw [Lib.byteCells_append]
  exact h1
theorem put_step0 {w wr w3 : World} {B E : Nat} {v v2 v3 : Value} {l2 l3 : List UInt8} (hE : EncAt wr B E v2 l2) (hT : Touch w wr E v.ownBlock) (hS : Same1 w v.ownBlock v2.ownBlock)
    (ho : BOwn w3 B v3 l3) (hg : wr.grownBy w3 v2.ownBlock) (hS3 : Same1 wr v2.ownBlock v3.ownBlock) :
    EncAt (w3.setCell ⟨E, 0, none⟩ v3) B E v3 l3 ∧ Touch w (w3.setCell ⟨E, 0, none⟩ v3) E v.ownBlock ∧ Same1 w v.ownBlock v3.ownBlock := by
  have hb : Blk w3 E 109 #[v2] := hE.blk.grown hg (fun e => hE.ne e.symm)
  have hne : v3.ownBlock ≠ some E := own_blk_ne ho hb (by decide)
  have hT4 : ∀ r, Touch w3 (w3.setCell ⟨E, 0, none⟩ v3) E r := fun r => ⟨rfl, rfl, rfl, by simp, fun k _ hk _ => Below.heap_setCell _ _ _ _ hk⟩
  refine ⟨⟨by have := hb.set_ 0 v3; simpa using this, (hT4 none).own ho hne (by cases h : v3.ownBlock <;> simp), hE.lo⟩, hT.trans hS ((Touch.of_grown hg).trans hS3 (hT4 _)), hS.trans hT.size hS3⟩

set_option maxRecDepth 100000 in
set_option maxHeartbeats 2000000 in
theorem encText_any (w : World) (B E g : Nat) (v : Value) (l : List UInt8) (ss : List ByteArray) (h : EncAt w B E v l) (hg : Blk w g 9 (strV ss)) (hn : Few300 ss) (hl : l.length ≤ 500000) (hnl : ss.length ≤ 1000) (hBw : B ≤ w.heap.size) :
    Calls Tryz.prog 62 #[.pointer (some ⟨E, 0, none⟩), .slice (some ⟨g, 0, none⟩) ss.length ss.length] w fun e w' => e = .returned (.tuple #[]) ∧ Put w B E v (l ++ encTs ss) w' := by
  obtain ⟨i0, hi0, hz0, hz1, hz2⟩ := info_parts byteInfo
  have H0 := Lib.hid h
  have HG := Lib.hid hg
  have HN := Lib.hid hn
  clear h hg hn
  go_enter Tryz.func62, Tryz.ntmps62
  go_wp2_with fail
  go_loopw [8] (fun s8 wr => ∃ (k : Nat) (v2 : Value), s8 = .int .i64 k ∧ k ≤ ss.length ∧ EncAt wr B E v2 (l ++ encTs (ss.take k)) ∧ Touch w wr E v.ownBlock ∧ Same1 w v.ownBlock v2.ownBlock) (fun s8 _ => ss.length - (intOf s8).toNat)
  case atStart => exact ⟨0, v, rfl, Nat.zero_le _, by simpa [encTs] using H0.out, Touch.refl _ _ _, .inl rfl⟩
  case round =>
    obtain ⟨k, v2, rfl, hk, hE, hT, hS⟩ := hrel
    have k0 : (0 : Int) ≤ (k : Int) := Int.natCast_nonneg _
    by_cases hlt : k < ss.length
    · have k1 : (k : Int) < (ss.length : Int) := by omega
      obtain ⟨s, hx⟩ : ∃ s, ss[k]? = some s := ⟨_, List.getElem?_eq_getElem hlt⟩
      have hsz := HN.out s (List.mem_of_getElem? hx)
      have hgr := hT.blk HG.out (HG.out.ne_ H0.out.blk (by decide)) (fun e => own_blk_ne H0.out.own HG.out (by decide) e.symm)
      have x0 : wr.cell? ⟨g, k, none⟩ = some (.string s) := by rw [hgr.cell, strV_at hx]
      have hlen := encTs_len HN.out k
      have HT := Lib.hid hT
      have HE := Lib.hid hE
      have HS := Lib.hid hS
      have hxx := Lib.hid hx
      have D := (Below.refl wr.heap.size wr).alloc (Nat.le_refl _) (.cells (ints [(s.size : Int)]) 3)
      have IN := Lib.hid (encInt_any _ B E wr.heap.size v2 _ [(s.size : Int)] (HE.out.below D) (Blk.new _ _ _) (fun n hn => by rw [List.mem_singleton.1 hn]; omega) (by rw [List.length_append]; omega) (by simp) (by have := HT.out.size; simp; omega))
      have HD := Lib.hid D
      clear hT hE hS hgr hx D
      go_wp2_with fail
      refine IN.out.mono ?_
      rintro e w5 ⟨rfl, v5, hE5, hT5, hS5⟩
      have hE5' : EncAt w5 B E v5 (l ++ encTs (ss.take k) ++ encI s.size) := by simpa [encIs] using hE5
      have hT5' : Touch wr w5 E v2.ownBlock := (Touch.of_below HD.out).trans (.inl rfl) hT5
      have hS5' : Same1 wr v2.ownBlock v5.ownBlock := hS5.imp id fun ⟨g, e, h⟩ => ⟨g, e, Nat.le_trans HD.out.size h⟩
      have hBw5 : B ≤ w5.heap.size := Nat.le_trans hBw (Nat.le_trans HT.out.size hT5'.size)
      have hli := encI_len (n := (s.size : Int)) ⟨by omega, by omega⟩
      obtain ⟨v6, w6, hr6, ho6, hg6, hs6⟩ := append_str w5 B v5 _ s hE5'.own (by rw [List.length_append, List.length_append]; omega) hBw5
      have PS := put_step0 hE5' (HT.out.trans HS.out hT5') (HS.out.trans HT.out.size hS5') ho6 hg6 hs6
      have b6 : Blk w6 E 109 #[v5] := hE5'.blk.grown hg6 (fun e => hE5'.ne e.symm)
      have c5 := hE5'.blk.cell 0
      have c6 := b6.cell 0
      have f6 := b6.frozen 0
      obtain ⟨A5, n5, c5', rfl⟩ : ∃ A n c, v5 = .slice A n c := by obtain ⟨A, c, h⟩ := own_form hE5'.own; exact ⟨A, _, c, h⟩
      obtain ⟨A6, n6, c6', rfl⟩ : ∃ A n c, v6 = .slice A n c := by obtain ⟨A, c, h⟩ := own_form ho6; exact ⟨A, _, c, h⟩
      have HPS := Lib.hid PS
      have HR6 := Lib.hid hr6
      clear hE5 hE5' hT5 hT5' hS5 hS5' ho6 hg6 hs6 b6 PS hr6 IN
      go_wp2_with (at_builtin; refine Lib.wpList_append_run _ rfl _ _ _ _ rfl _ _ rfl rfl _ _ (HR6.out _) ?_)
      have HE7 : Hid (EncAt (w6.setCell ⟨E, 0, none⟩ (.slice A6 n6 c6')) B E (.slice A6 n6 c6') (l ++ encTs (ss.take (k + 1)))) := Lib.hid (by have := HPS.out.1; rw [encTs_take hxx.out]; unfold encT; rw [← List.append_assoc, ← List.append_assoc]; exact this)
      go_roundw
      case rel => exact ⟨k + 1, _, by go_num, hlt, HE7.out, HPS.out.2.1, HPS.out.2.2⟩
      case measure => simp [intOf]; omega
    · obtain rfl : k = ss.length := by omega
      rw [List.take_length] at hE
      go_wp2
      go_end0
      exact ⟨rfl, v2, hE, hT, hS⟩
end Go.Proofs.YtplleaimmmanhaaGreatDoor
namespace Go.Proofs.YtplleaimmmanhaaGreatDoor
open Go Go.RowKit

theorem BOwn.cells {w : World} {B g c : Nat} {l : List UInt8} (h : BOwn w B (.slice (some ⟨g, 0, none⟩) l.length c) l) : ∀ j v, (bc l)[j]? = some v → w.cell? ⟨g, j, none⟩ = some v := by
  intro j v hj
  have := World.ownsRow.cells h (g := g) rfl j v hj
  rw [Addr.add_lit, Nat.zero_add] at this
  exact this
theorem q22 (w : World) (a : Option Addr) (n c n' c' : Nat) : (binOp .eql 54 (.slice a n c) (.slice none n' c')).run Tryz.prog w = .ok (.bool a.isNone) w := Lib.run_eql_slice_nil w _ _ a n c n' c' Tryz.underlying54

def Cloned (l : List UInt8) (w : World) (e : Ending) (w' : World) : Prop := ∃ v', e = .returned v' ∧ BOwn w' w.heap.size v' l ∧ Below w.heap.size w w'
set_option maxRecDepth 100000 in
set_option maxHeartbeats 1000000 in
theorem clone_any (w : World) (B : Nat) (v : Value) (l : List UInt8) (h : BOwn w B v l) (hl : l.length ≤ 1000000) : Calls Tryz.prog 118 #[v] w (Cloned l w) := by
  obtain ⟨i0, hi0, hz0, hz1, hz2⟩ := info_parts byteInfo
  have q22 := q22
  rcases h.2 with ⟨rfl, h0⟩ | ⟨g, cap, cur, rfl, _, hh, hn, hm, _⟩
  · obtain rfl := List.eq_nil_of_length_eq_zero h0
    go_enter Tryz.func118, Tryz.ntmps118
    go_wp2
    go_ret
    exact ⟨_, rfl, World.ownsRow_nil _ _ _ _, Below.refl _ _⟩
  · have HC := Lib.hid (BOwn.cells h)
    have HL : Hid ((bc l).length = l.length * 1) := Lib.hid (by rw [Lib.byteCells_length, Nat.mul_one])
    have hlt := (Array.getElem?_eq_some_iff.1 hh).1
    clear h hh hm hn
    go_enter Tryz.func118, Tryz.ntmps118
    go_wp2_with (at_builtin; refine wpList_append_own_at _ rfl _ _ 54 rfl w.heap.size 5 i0 _ 1 1 Tryz.underlying54 hi0 hz0 hz1 hz2 rfl (by decide) _ _ _ rfl (World.ownsRow_made w #[] 0 (Nat.le_refl _) (Nat.zero_le _) rfl) ⟨g, 0, none⟩ l.length cap (bc l) rfl HL.out ?c1 (bc_one l) ?c3 ?c4 ?c5 ?_)
    try case c1 =>
      intro j u hj
      first
        | (rw [Addr.add_lit, Nat.zero_add]; exact Lib.cell?_alloc_some _ (HC.out j u hj))
        | exact Lib.cell?_alloc_some _ (HC.out j u hj)
    case c3 => unfold maxLen; omega
    case c4 => omega
    case c5 => first | simp | omega
    intro v' w1 hown hg' _ hat
    go_wp2
    go_ret
    exact ⟨v', rfl, by simpa using hown, ((Below.refl _ w).alloc (Nat.le_refl _) _).grown hg' (by simp) (by intro k hk; simp [Value.ownBlock] at hk; omega)⟩

set_option maxHeartbeats 1000000 in
theorem bytes_any (w : World) (B E : Nat) (v : Value) (l : List UInt8) (h : EncAt w B E v l) (hl : l.length ≤ 1000000) : Calls Tryz.prog 64 #[.pointer (some ⟨E, 0, none⟩)] w (Cloned l w) := by
  have c0 := h.blk.cell 0
  have C := Lib.hid (clone_any w B v l h.own hl)
  have hlt := h.blk.lt
  obtain ⟨A, n, c, rfl⟩ : ∃ A n c, v = .slice A n c := by obtain ⟨A, c, h⟩ := own_form h.own; exact ⟨A, _, c, h⟩
  clear h
  go_enter Tryz.func64, Tryz.ntmps64
  go_wp2_with fail
  refine C.out.mono ?_
  rintro e w' ⟨v', rfl, ho, hb⟩
  go_wp2
  go_ret
  exact ⟨v', rfl, ho, hb⟩

/-- A Dec: block D; the bytes L in v; it stands at the place at; nothing was wrong. -/
structure DecAt (w : World) (B D : Nat) (v : Value) (L : List UInt8) (at_ : Nat) : Prop where
  blk : Blk w D 175 #[v, .int .i64 at_, .int .i64 0, .int .i64 0]
  own : BOwn w B v L
  lo : B ≤ D
theorem DecAt.ne {w : World} {B D at_ : Nat} {v : Value} {L : List UInt8} (h : DecAt w B D v L at_) : v.ownBlock ≠ some D := own_blk_ne h.own h.blk (by decide)
theorem DecAt.below {w w' : World} {B D at_ : Nat} {v : Value} {L : List UInt8} (h : DecAt w B D v L at_) (hb : Below w.heap.size w w') : DecAt w' B D v L at_ := ⟨h.blk.below hb h.blk.lt, own_keep h.own hb, h.lo⟩

set_option maxHeartbeats 1000000 in
theorem ofK_any (w : World) (B : Nat) (v : Value) (l : List UInt8) (h : BOwn w B v l) (hl : l.length ≤ 1000000) :
    Calls Tryz.prog 70 #[v] w fun e w' => ∃ D v', e = .returned (.pointer (some ⟨D, 0, none⟩)) ∧ DecAt w' w.heap.size D v' l 0 ∧ Below w.heap.size w w' := by
  have C := Lib.hid (clone_any w B v l h hl)
  obtain ⟨A, c, rfl⟩ := own_form h
  clear h
  go_enter Tryz.func70, Tryz.ntmps70
  go_wp2_with fail
  refine C.out.mono ?_
  rintro e w' ⟨v', rfl, ho, hb⟩
  have HO := Lib.hid ho
  have HB := Lib.hid hb
  obtain ⟨A2, c2, rfl⟩ := own_form ho
  clear ho hb
  go_wp2_with fail
  go_ret
  exact ⟨_, _, rfl, ⟨heap_alloc_new _ _, HO.out.alloc _, HB.out.size⟩, HB.out.alloc HB.out.size _⟩
end Go.Proofs.YtplleaimmmanhaaGreatDoor
namespace Go.Proofs.YtplleaimmmanhaaGreatDoor
open Go Go.RowKit

theorem pow_step {x n : Nat} (h128 : ¬ x < 128) (h : x < 2 ^ (7 * (10 - n)) ∧ n ≤ 10) : x / 128 < 2 ^ (7 * (10 - (n + 1))) ∧ n + 1 ≤ 10 := by
  obtain ⟨p1, p2⟩ := h
  rcases Nat.lt_or_ge n 10 with h | h
  · refine ⟨?_, by omega⟩
    rw [show 7 * (10 - n) = 7 * (10 - (n + 1)) + 7 by omega, Nat.pow_add] at p1
    exact Nat.div_lt_of_lt_mul (by omega)
  · rw [show 7 * (10 - n) = 0 by omega] at p1; simp at p1; omega
theorem zz_ref_neg {n : Int} (h : -9223372036854775808 ≤ n ∧ n ≤ 9223372036854775807) (h0 : n < 0) : bits .or .u64 (IntKind.u64.wrap (IntKind.u64.wrap (wrap64 (-wrap64 (n + 1))) * 2)) 1 = (zz n : Int) := by
  have e1 : wrap64 (n + 1) = n + 1 := IntWalk.wrap64_in _ (by omega)
  have e2 : wrap64 (-(n + 1)) = -(n + 1) := IntWalk.wrap64_in _ (by omega)
  obtain ⟨m, hm⟩ : ∃ m : Nat, (m : Int) = -(n + 1) * 2 := ⟨(-(n + 1) * 2).toNat, by omega⟩
  rw [e1, e2, IntKind.wrap_u64, IntKind.wrap_u64, show -(n + 1) % 18446744073709551616 * 2 % 18446744073709551616 = (m : Int) by omega, u64_or1 m (by omega) (by omega), zz_neg (by omega)]
  omega
theorem zz_ref_pos {n : Int} (h : -9223372036854775808 ≤ n ∧ n ≤ 9223372036854775807) (h0 : ¬ n < 0) : IntKind.u64.wrap (IntKind.u64.wrap n * 2) = (zz n : Int) := by
  rw [IntKind.wrap_u64, IntKind.wrap_u64, zz_pos (by omega)]
  omega

set_option maxRecDepth 100000 in
set_option maxHeartbeats 4000000 in
theorem refInt_any (w : World) (n : Int) (hn : -9223372036854775808 ≤ n ∧ n ≤ 9223372036854775807) : Calls Tryz.prog 65 #[.int .i64 n] w (Cloned (encI n) w) := by
  obtain ⟨i0, hi0, hz0, hz1, hz2⟩ := info_parts byteInfo
  have HN := Lib.hid hn
  clear hn
  unfold encI
  by_cases h0 : n < 0
  · go_enter Tryz.func65, Tryz.ntmps65
    go_wp2_with fail
    rw [zz_ref_neg HN.out h0]
    have HU := Lib.hid (zz_lt HN.out.1 HN.out.2)
    generalize zz n = u at *
    go_loopw [3, 4] (fun s3 s4 wr => ∃ (x : Nat) (l2 : List UInt8) (m : Nat), s3 = .int .u64 x ∧ Hid (x < 18446744073709551616) ∧ Hid (l2 ++ enc x = enc u) ∧ Hid (l2.length = m) ∧ Hid (x < 2 ^ (7 * (10 - m)) ∧ m ≤ 10) ∧ BOwn wr w.heap.size s4 l2 ∧ Below w.heap.size w wr) (fun s3 _ _ => (intOf s3).toNat)
    case atStart => exact ⟨u, [], 0, rfl, HU, Lib.hid rfl, Lib.hid rfl, Lib.hid ⟨Nat.lt_trans HU.out (by decide), by omega⟩, World.ownsRow_nil _ _ _ _, Below.refl _ _⟩
    case round =>
      obtain ⟨x, l2, m, rfl, HX, hL, hM, HP, ho, hb⟩ := hrel
      have x0 : (0 : Int) ≤ (x : Int) := Int.natCast_nonneg _
      obtain ⟨A, c, rfl⟩ := own_form ho
      have HO := Lib.hid ho
      have HB := Lib.hid hb
      have hl2 : l2.length ≤ 10 := by have := hM.out; have := HP.out.2; omega
      have hBs := hb.size
      clear ho hb
      by_cases h128 : x < 128
      · have b1 : ¬ (128 : Int) ≤ (x : Int) := by omega
        have hy : x < 256 := by omega
        go_wp2_with (at_builtin; refine wpList_append_own_at _ rfl _ _ 54 rfl w.heap.size 5 i0 _ 1 1 Tryz.underlying54 hi0 hz0 hz1 hz2 rfl (by decide) _ _ _ rfl (HO.out.alloc _) ⟨wr.heap.size, 0, none⟩ 1 1 [.int .u8 (x : Int)] rfl rfl ?a1 ?a2 ?a3 ?a4 ?a5 ?_)
        try case a1 => exact World.news_of_block (heap_alloc_new wr _)
        case a2 => first | rfl | (intro u hu; simp at hu; rcases hu with rfl; rfl)
        case a3 => unfold maxLen; omega
        case a4 => omega
        case a5 => first | exact hBs | omega | (simp; omega)
        intro v3 w3 hown3 hg3 _ hat3
        have HF : Hid (BOwn w3 w.heap.size v3 (enc u)) := Lib.hid (by
          rw [byte_cell hy] at hown3
          have : BOwn w3 w.heap.size v3 (l2 ++ [UInt8.ofNat x]) := by
            show w3.ownsRow _ 5 1 v3 _ (Lib.byteCells _)
            rw [List.length_append, Lib.byteCells_append]; exact hown3
          rw [← hL.out, enc_small h128]; exact this)
        have HB3 := Lib.hid ((HB.out.alloc HB.out.size _).grown hg3 (by simp; omega) fun z hz => (HO.out.lt z hz).1)
        clear hown3 hg3 hat3
        go_wp2_with fail
        go_ret
        exact ⟨v3, rfl, HF.out, HB3.out⟩
      · have b1 : (128 : Int) ≤ (x : Int) := by omega
        obtain ⟨y, hyx⟩ : ∃ y, y = x % 128 + 128 := ⟨_, rfl⟩
        have hy : y < 256 := by omega
        have hy2 : (y : Int) < 256 := by omega
        have hy3 : (0 : Int) ≤ (y : Int) := by omega
        have hb0 : bits .and .u64 (x : Int) 127 = ((x % 128 : Nat) : Int) := u64_and127 x HX.out
        have hb1 : bits .or .u64 ((x % 128 : Nat) : Int) 128 = (y : Int) := by rw [u64_or128 _ (by omega), hyx]
        have hm : x % 128 < 128 := by omega
        obtain ⟨z, hz⟩ : ∃ z, z = x % 128 := ⟨_, rfl⟩
        rw [← hz] at hb0 hb1
        have HY := Lib.hid hyx
        clear hyx hm hz
        go_wp2_with (at_builtin; refine wpList_append_own_at _ rfl _ _ 54 rfl w.heap.size 5 i0 _ 1 1 Tryz.underlying54 hi0 hz0 hz1 hz2 rfl (by decide) _ _ _ rfl (HO.out.alloc _) ⟨wr.heap.size, 0, none⟩ 1 1 [.int .u8 (y : Int)] rfl rfl ?b1 ?b2 ?b3 ?b4 ?b5 ?_)
        try case b1 => exact World.news_of_block (heap_alloc_new wr _)
        case b2 => first | rfl | (intro u hu; simp at hu; rcases hu with rfl; rfl)
        case b3 => unfold maxLen; omega
        case b4 => omega
        case b5 => first | exact hBs | omega | (simp; omega)
        intro v3 w3 hown3 hg3 _ hat3
        have HF : Hid (BOwn w3 w.heap.size v3 (l2 ++ [UInt8.ofNat y])) := Lib.hid (by
          rw [byte_cell hy] at hown3
          show w3.ownsRow _ 5 1 v3 _ (Lib.byteCells _)
          rw [List.length_append, Lib.byteCells_append]; exact hown3)
        have HB3 := Lib.hid ((HB.out.alloc HB.out.size _).grown hg3 (by simp; omega) fun z hz => (HO.out.lt z hz).1)
        clear hown3 hg3 hat3
        go_wp2_with fail
        have HX2 : Hid (x / 128 < 18446744073709551616) := Lib.hid (by have := HX.out; omega)
        have HL2 : Hid ((l2 ++ [UInt8.ofNat y]) ++ enc (x / 128) = enc u) := Lib.hid (by rw [← hL.out, enc_big h128, HY.out, List.append_assoc]; rfl)
        have HN2 : Hid ((l2 ++ [UInt8.ofNat y]).length = m + 1) := Lib.hid (by rw [List.length_append, hM.out]; rfl)
        have HP2 : Hid (x / 128 < 2 ^ (7 * (10 - (m + 1))) ∧ m + 1 ≤ 10) := Lib.hid (pow_step h128 HP.out)
        go_roundw
        case rel => exact ⟨x / 128, _, m + 1, by go_num, HX2, HL2, HN2, HP2, HF.out, HB3.out⟩
        case measure => simp [intOf]; omega
  · go_enter Tryz.func65, Tryz.ntmps65
    go_wp2_with fail
    rw [zz_ref_pos HN.out (by omega)]
    have HU := Lib.hid (zz_lt HN.out.1 HN.out.2)
    generalize zz n = u at *
    go_loopw [3, 4] (fun s3 s4 wr => ∃ (x : Nat) (l2 : List UInt8) (m : Nat), s3 = .int .u64 x ∧ Hid (x < 18446744073709551616) ∧ Hid (l2 ++ enc x = enc u) ∧ Hid (l2.length = m) ∧ Hid (x < 2 ^ (7 * (10 - m)) ∧ m ≤ 10) ∧ BOwn wr w.heap.size s4 l2 ∧ Below w.heap.size w wr) (fun s3 _ _ => (intOf s3).toNat)
    case atStart => exact ⟨u, [], 0, rfl, HU, Lib.hid rfl, Lib.hid rfl, Lib.hid ⟨Nat.lt_trans HU.out (by decide), by omega⟩, World.ownsRow_nil _ _ _ _, Below.refl _ _⟩
    case round =>
      obtain ⟨x, l2, m, rfl, HX, hL, hM, HP, ho, hb⟩ := hrel
      have x0 : (0 : Int) ≤ (x : Int) := Int.natCast_nonneg _
      obtain ⟨A, c, rfl⟩ := own_form ho
      have HO := Lib.hid ho
      have HB := Lib.hid hb
      have hl2 : l2.length ≤ 10 := by have := hM.out; have := HP.out.2; omega
      have hBs := hb.size
      clear ho hb
      by_cases h128 : x < 128
      · have b1 : ¬ (128 : Int) ≤ (x : Int) := by omega
        have hy : x < 256 := by omega
        go_wp2_with (at_builtin; refine wpList_append_own_at _ rfl _ _ 54 rfl w.heap.size 5 i0 _ 1 1 Tryz.underlying54 hi0 hz0 hz1 hz2 rfl (by decide) _ _ _ rfl (HO.out.alloc _) ⟨wr.heap.size, 0, none⟩ 1 1 [.int .u8 (x : Int)] rfl rfl ?c1 ?c2 ?c3 ?c4 ?c5 ?_)
        try case c1 => exact World.news_of_block (heap_alloc_new wr _)
        case c2 => first | rfl | (intro u hu; simp at hu; rcases hu with rfl; rfl)
        case c3 => unfold maxLen; omega
        case c4 => omega
        case c5 => first | exact hBs | omega | (simp; omega)
        intro v3 w3 hown3 hg3 _ hat3
        have HF : Hid (BOwn w3 w.heap.size v3 (enc u)) := Lib.hid (by
          rw [byte_cell hy] at hown3
          have : BOwn w3 w.heap.size v3 (l2 ++ [UInt8.ofNat x]) := by
            show w3.ownsRow _ 5 1 v3 _ (Lib.byteCells _)
            rw [List.length_append, Lib.byteCells_append]; exact hown3
          rw [← hL.out, enc_small h128]; exact this)
        have HB3 := Lib.hid ((HB.out.alloc HB.out.size _).grown hg3 (by simp; omega) fun z hz => (HO.out.lt z hz).1)
        clear hown3 hg3 hat3
        go_wp2_with fail
        go_ret
        exact ⟨v3, rfl, HF.out, HB3.out⟩
      · have b1 : (128 : Int) ≤ (x : Int) := by omega
        obtain ⟨y, hyx⟩ : ∃ y, y = x % 128 + 128 := ⟨_, rfl⟩
        have hy : y < 256 := by omega
        have hy2 : (y : Int) < 256 := by omega
        have hy3 : (0 : Int) ≤ (y : Int) := by omega
        have hb0 : bits .and .u64 (x : Int) 127 = ((x % 128 : Nat) : Int) := u64_and127 x HX.out
        have hb1 : bits .or .u64 ((x % 128 : Nat) : Int) 128 = (y : Int) := by rw [u64_or128 _ (by omega), hyx]
        have hm : x % 128 < 128 := by omega
        obtain ⟨z, hz⟩ : ∃ z, z = x % 128 := ⟨_, rfl⟩
        rw [← hz] at hb0 hb1
        have HY := Lib.hid hyx
        clear hyx hm hz
        go_wp2_with (at_builtin; refine wpList_append_own_at _ rfl _ _ 54 rfl w.heap.size 5 i0 _ 1 1 Tryz.underlying54 hi0 hz0 hz1 hz2 rfl (by decide) _ _ _ rfl (HO.out.alloc _) ⟨wr.heap.size, 0, none⟩ 1 1 [.int .u8 (y : Int)] rfl rfl ?d1 ?d2 ?d3 ?d4 ?d5 ?_)
        try case d1 => exact World.news_of_block (heap_alloc_new wr _)
        case d2 => first | rfl | (intro u hu; simp at hu; rcases hu with rfl; rfl)
        case d3 => unfold maxLen; omega
        case d4 => omega
        case d5 => first | exact hBs | omega | (simp; omega)
        intro v3 w3 hown3 hg3 _ hat3
        have HF : Hid (BOwn w3 w.heap.size v3 (l2 ++ [UInt8.ofNat y])) := Lib.hid (by
          rw [byte_cell hy] at hown3
          show w3.ownsRow _ 5 1 v3 _ (Lib.byteCells _)
          rw [List.length_append, Lib.byteCells_append]; exact hown3)
        have HB3 := Lib.hid ((HB.out.alloc HB.out.size _).grown hg3 (by simp; omega) fun z hz => (HO.out.lt z hz).1)
        clear hown3 hg3 hat3
        go_wp2_with fail
        have HX2 : Hid (x / 128 < 18446744073709551616) := Lib.hid (by have := HX.out; omega)
        have HL2 : Hid ((l2 ++ [UInt8.ofNat y]) ++ enc (x / 128) = enc u) := Lib.hid (by rw [← hL.out, enc_big h128, HY.out, List.append_assoc]; rfl)
        have HN2 : Hid ((l2 ++ [UInt8.ofNat y]).length = m + 1) := Lib.hid (by rw [List.length_append, hM.out]; rfl)
        have HP2 : Hid (x / 128 < 2 ^ (7 * (10 - (m + 1))) ∧ m + 1 ≤ 10) := Lib.hid (pow_step h128 HP.out)
        go_roundw
        case rel => exact ⟨x / 128, _, m + 1, by go_num, HX2, HL2, HN2, HP2, HF.out, HB3.out⟩
        case measure => simp [intOf]; omega
end Go.Proofs.YtplleaimmmanhaaGreatDoor
namespace Go.Proofs.YtplleaimmmanhaaGreatDoor
open Go Go.RowKit

/-- The cells from o on read as M. -/
def ReadsK (w : World) (g o : Nat) (M : List UInt8) : Prop := ∀ j b, M[j]? = some b → w.cell? ⟨g, o + j, none⟩ = some (.int .u8 b.toNat)

theorem ret_3 {a a' b b' : Int} (h1 : a = a') (h2 : b = b') : Ending.returned (.tuple #[.int .u64 a, .int .i64 b, .int .i64 0]) = Ending.returned (.tuple #[.int .u64 a', .int .i64 b', .int .i64 0]) := by rw [h1, h2]
/-- The low bits and the next seven. -/
theorem or_step {X q k : Nat} (hX : X < 2 ^ (7 * k)) (hX2 : X < 18446744073709551616) (hq : q * 2 ^ (7 * k) < 18446744073709551616) : bits .or .u64 (X : Int) (IntKind.u64.wrap ((q : Int) * 2 ^ (7 * k))) = ((X + q * 2 ^ (7 * k) : Nat) : Int) := by
  have e : (q : Int) * 2 ^ (7 * k) = ((q * 2 ^ (7 * k) : Nat) : Int) := by rw [Int.natCast_mul, Int.natCast_pow]; rfl
  have hm : q * 2 ^ (7 * k) % 2 ^ (7 * k) = 0 := Nat.mul_mod_left _ _
  rw [e]
  generalize q * 2 ^ (7 * k) = Y at *
  rw [IntKind.wrap_u64, Int.emod_eq_of_lt (by omega) (by omega), u64_or_nat X Y hX2 hq, Nat.or_comm, nat_join (7 * k) Y X hm hX, Nat.add_comm]

set_option maxRecDepth 100000 in
set_option maxHeartbeats 2000000 in
theorem decNum_any (w : World) (g o c u : Nat) (M rest : List UInt8) (hM : M = enc u ++ rest) (hu : u < 18446744073709551616) (hr : ReadsK w g o M) (hl : M.length ≤ 1000000) :
    Calls Tryz.prog 122 #[.slice (some ⟨g, o, none⟩) M.length c] w fun e w' => e = .returned (.tuple #[.int .u64 u, .int .i64 ((enc u).length : Nat), .int .i64 0]) ∧ w' = w := by
  have HM := Lib.hid hM
  have HU := Lib.hid hu
  have HR := Lib.hid hr
  clear hM hu hr
  go_enter Tryz.func122, Tryz.ntmps122
  go_wp2_with fail
  go_loopw [2, 9] (fun s2 s9 wr => ∃ (k X : Nat), s2 = .int .u64 X ∧ s9 = .int .i64 k ∧ wr = w ∧ k ≤ 9 ∧ Hid (X = u % 2 ^ (7 * k)) ∧ Hid (M.drop k = enc (u / 2 ^ (7 * k)) ++ rest) ∧ Hid (0 < k → 0 < u / 2 ^ (7 * k)) ∧ Hid ((enc u).length = k + (enc (u / 2 ^ (7 * k))).length)) (fun _ s9 _ => 10 - (intOf s9).toNat)
  case atStart => exact ⟨0, 0, rfl, rfl, rfl, by omega, Lib.hid (by simp; omega), Lib.hid (by simpa using HM.out), Lib.hid (by omega), Lib.hid (by simp)⟩
  case round =>
    obtain ⟨k, X, rfl, rfl, rfl, hk, hX, hD, hP, hL⟩ := hrel
    have k0 : (0 : Int) ≤ (k : Int) := Int.natCast_nonneg _
    have hq9 : Hid (u / 2 ^ (7 * k) < 2 ^ (64 - 7 * k)) := Lib.hid (by
      apply Nat.div_lt_of_lt_mul
      rw [← Nat.pow_add, show 7 * k + (64 - 7 * k) = 64 by omega]
      exact HU.out)
    have hdm : Hid (u = 2 ^ (7 * k) * (u / 2 ^ (7 * k)) + u % 2 ^ (7 * k)) := Lib.hid (Nat.div_add_mod u (2 ^ (7 * k))).symm
    obtain ⟨q, hq⟩ : ∃ q, q = u / 2 ^ (7 * k) := ⟨_, rfl⟩
    rw [← hq] at hD hP hL hq9 hdm
    rw [← hX.out] at hdm
    have HQ := Lib.hid hq
    clear hq
    have hXlt : Hid (X < 2 ^ (7 * k)) := Lib.hid (by rw [hX.out]; exact Nat.mod_lt _ (Nat.two_pow_pos _))
    by_cases h128 : q < 128
    · have hM0 : M[k]? = some (UInt8.ofNat q) := by
        have := hD.out
        rw [enc_small h128] at this
        have h2 := congrArg (fun l : List UInt8 => l[0]?) this
        simpa using h2
      have hkl := (List.getElem?_eq_some_iff.1 hM0).1
      have k1 : (k : Int) < (M.length : Int) := by omega
      have x0 : wr.cell? ⟨g, o + k, none⟩ = some (.int .u8 (q : Int)) := by
        rw [HR.out k _ hM0, show (UInt8.ofNat q).toNat = q by simp [UInt8.toNat_ofNat']; omega]
      have hRes : Hid ((X + q * 2 ^ (7 * k) : Nat) = u) := Lib.hid (by rw [Nat.mul_comm q]; have := hdm.out; omega)
      have hEl : Hid ((enc u).length = k + 1) := Lib.hid (by rw [hL.out, enc_small h128]; rfl)
      have hOr : Hid (bits .or .u64 (X : Int) (IntKind.u64.wrap ((q : Int) * 2 ^ (7 * k))) = (u : Int)) := Lib.hid (by rw [or_step hXlt.out (by have := hRes.out; have := HU.out; omega) (by have := hRes.out; have := HU.out; omega), hRes.out])
      clear hM0
      by_cases h9 : k = 9
      · have hq1 : q = 1 := by
          have a := hP.out (by omega)
          have b := hq9.out
          rw [h9] at b
          simp at b
          omega
        subst hq1
        subst h9
        have hOr9 : bits .or .u64 (X : Int) 9223372036854775808 = (u : Int) := by
          have := hOr.out
          rw [show IntKind.u64.wrap (((1 : Nat) : Int) * 2 ^ (7 * 9)) = 9223372036854775808 from by decide] at this
          exact this
        have HO9 := Lib.hid hOr9
        clear hOr9
        go_wp2_with fail
        go_ret3
        exact ⟨ret_3 HO9.out (by rw [hEl.out]; rfl), rfl⟩
      · have g9 : ((k : Int) == 9) = false := by simp; omega
        have b0 : (0 : Int) ≤ (q : Int) := Int.natCast_nonneg _
        have b1 : (q : Int) < 128 := by omega
        have b2 : bits .and .u8 (q : Int) 127 = (q : Int) := by rw [u8_and127' q (by omega), Nat.mod_eq_of_lt h128]
        by_cases hk0 : k = 0 ∧ q = 0
        · obtain ⟨rfl, rfl⟩ := hk0
          have hX0 : X = 0 := by have := hXlt.out; simp at this; exact this
          subst hX0
          have hu0 : u = 0 := by have := hRes.out; simp at this; exact this.symm
          have x1 : wr.cell? ⟨g, o, none⟩ = some (.int .u8 0) := by simpa using x0
          clear x0 b2 b1 b0 g9 k1 k0
          go_wp2_with fail
          go_ret3
          refine ⟨ret_3 (by rw [hu0]; first | rfl | decide) (by rw [hEl.out]; rfl), rfl⟩
        · have hq0 : ((q : Int) == 0) = false := by
            have := hP.out
            simp; omega
          go_wp2_with fail
          go_ret3
          exact ⟨ret_3 hOr.out (by rw [hEl.out]; omega), rfl⟩
    · have hk8 : k < 9 := by
        rcases Nat.lt_or_ge k 9 with h | h
        · exact h
        · have b := hq9.out
          rw [show k = 9 by omega] at b
          simp at b
          omega
      obtain ⟨y, hy⟩ : ∃ y, y = q % 128 + 128 := ⟨_, rfl⟩
      obtain ⟨z, hz⟩ : ∃ z, z = q % 128 := ⟨_, rfl⟩
      have hM0 : M[k]? = some (UInt8.ofNat y) := by
        have := hD.out
        rw [enc_big h128, ← hy] at this
        have h2 := congrArg (fun l : List UInt8 => l[0]?) this
        simpa using h2
      have hkl := (List.getElem?_eq_some_iff.1 hM0).1
      have k1 : (k : Int) < (M.length : Int) := by omega
      have x0 : wr.cell? ⟨g, o + k, none⟩ = some (.int .u8 (y : Int)) := by
        rw [HR.out k _ hM0, show (UInt8.ofNat y).toNat = y by simp [UInt8.toNat_ofNat']; omega]
      have e1 : u / 2 ^ (7 * (k + 1)) = q / 128 := by
        rw [show 7 * (k + 1) = 7 * k + 7 by omega, Nat.pow_add, ← Nat.div_div_eq_div_mul, ← HQ.out]
      have e2 : u % 2 ^ (7 * (k + 1)) = X + z * 2 ^ (7 * k) := by
        rw [show 7 * (k + 1) = 7 * k + 7 by omega, Nat.pow_add, Nat.mod_mul, ← HQ.out, ← hX.out, Nat.mul_comm, hz]
      have hle : z * 2 ^ (7 * k) ≤ u := by
        have : z * 2 ^ (7 * k) ≤ q * 2 ^ (7 * k) := Nat.mul_le_mul_right _ (by omega)
        have h2 := hdm.out
        rw [Nat.mul_comm] at h2
        omega
      have hOr : Hid (bits .or .u64 (X : Int) (IntKind.u64.wrap ((z : Int) * 2 ^ (7 * k))) = ((X + z * 2 ^ (7 * k) : Nat) : Int)) := Lib.hid (or_step hXlt.out (by have := hdm.out; have := HU.out; omega) (by have := HU.out; omega))
      have hX2 : Hid (X + z * 2 ^ (7 * k) = u % 2 ^ (7 * (k + 1))) := Lib.hid e2.symm
      have hD2 : Hid (M.drop (k + 1) = enc (u / 2 ^ (7 * (k + 1))) ++ rest) := Lib.hid (by
        rw [e1]
        have := hD.out
        rw [enc_big h128] at this
        rw [← List.drop_drop, this]; rfl)
      have hP2 : Hid (0 < k + 1 → 0 < u / 2 ^ (7 * (k + 1))) := Lib.hid fun _ => by rw [e1]; omega
      have hL2 : Hid ((enc u).length = k + 1 + (enc (u / 2 ^ (7 * (k + 1)))).length) := Lib.hid (by rw [e1, hL.out, enc_big h128, List.length_cons]; omega)
      have g9 : ((k : Int) == 9) = false := by simp; omega
      have b0 : (128 : Int) ≤ (y : Int) := by omega
      have b1 : (y : Int) < 256 := by omega
      have b2 : bits .and .u8 (y : Int) 127 = (z : Int) := by rw [u8_and127' y (by omega), hz]; omega
      have b3 : (0 : Int) ≤ (z : Int) := Int.natCast_nonneg _
      have b4 : (z : Int) < 128 := by omega
      clear hM0 e1 e2 hle hz hy
      go_wp2_with fail
      go_roundw
      case rel => exact ⟨k + 1, X + z * 2 ^ (7 * k), by rw [hOr.out], by go_num, trivial, hk8, hX2, hD2, hP2, hL2⟩
      case measure => simp [intOf]; omega
end Go.Proofs.YtplleaimmmanhaaGreatDoor
namespace Go.Proofs.YtplleaimmmanhaaGreatDoor
open Go Go.RowKit

/-- The number that a folded one is. -/
theorem unfold_go {n : Int} (h : -9223372036854775808 ≤ n ∧ n ≤ 9223372036854775807) : ∃ m : Nat, (zz n : Int) / 2 = (m : Int) ∧ m < 9223372036854775808 ∧
    ((zz n % 2 = 0 ∧ n = (m : Int)) ∨ (zz n % 2 = 1 ∧ n = -(m : Int) - 1)) := by
  refine ⟨zz n / 2, by omega, ?_, ?_⟩
  · have := zz_lt h.1 h.2; omega
  · by_cases h0 : 0 ≤ n
    · have := zz_pos h0; exact .inl ⟨by omega, by omega⟩
    · have := zz_neg h0; exact .inr ⟨by omega, by omega⟩

/-- A Dec that stood at at_ stands at b now. -/
def Stood (w : World) (B D : Nat) (v : Value) (L : List UInt8) (b : Nat) (w' : World) : Prop := DecAt w' B D v L b ∧ Touch w w' D none

set_option maxRecDepth 100000 in
set_option maxHeartbeats 2000000 in
theorem decInt_any (w : World) (B D at_ : Nat) (v : Value) (L rest : List UInt8) (n : Int) (h : DecAt w B D v L at_) (hL : L.drop at_ = encI n ++ rest) (hl : L.length ≤ 1000000) (hn : -9223372036854775808 ≤ n ∧ n ≤ 9223372036854775807) :
    Calls Tryz.prog 71 #[.pointer (some ⟨D, 0, none⟩)] w fun e w' => e = .returned (.int .i64 n) ∧ Stood w B D v L (at_ + (encI n).length) w' := by
  have hpos : 0 < (encI n).length := by
    unfold encI
    by_cases h1 : zz n < 128
    · rw [enc_small h1]; simp
    · rw [enc_big h1]; simp
  have hlen : L.length - at_ = (encI n).length + rest.length := by rw [← List.length_drop, hL, List.length_append]
  have hlt : at_ < L.length := by omega
  obtain ⟨A, c, rfl⟩ := own_form h.own
  rcases h.own.2 with ⟨_, h0⟩ | ⟨g, cap, cur, hv, _, hh, hnc, hm, _⟩
  · omega
  injection hv with e1 _ e3
  subst e1; subst e3
  have hcells := BOwn.cells h.own
  have c0 := h.blk.cell 0
  have c1 := h.blk.cell 1
  have c2 := h.blk.cell 2
  have f1 := h.blk.frozen 1
  have hDl := h.blk.lt
  have hcap : ¬ c = at_ := by omega
  have NUM := Lib.hid (fun W (hW : ReadsK W g at_ (L.drop at_)) => decNum_any W g at_ (c - at_) (zz n) (L.drop at_) rest hL (zz_lt hn.1 hn.2) hW (by rw [List.length_drop]; omega))
  have RD : Hid (ReadsK w g at_ (L.drop at_)) := Lib.hid fun j b hj => by
    rw [List.getElem?_drop] at hj
    exact hcells _ _ (bc_at hj)
  have H := Lib.hid h
  have HN := Lib.hid hn
  rw [List.length_drop] at NUM
  have a0 : (0 : Int) ≤ (at_ : Int) := Int.natCast_nonneg _
  have a1 : (at_ : Int) ≤ (L.length : Int) := by omega
  have a2 : at_ ≤ L.length := by omega
  unfold maxLen at hm
  clear h hn hcells hh hL
  obtain ⟨m, u1, u2, u3⟩ := unfold_go HN.out
  have hzl := zz_lt HN.out.1 HN.out.2
  obtain ⟨Z, hZ⟩ : ∃ Z, Z = zz n := ⟨_, rfl⟩
  rw [← hZ] at NUM u1 u3 hzl
  have u4 : bits .and .u64 (Z : Int) 1 = ((Z % 2 : Nat) : Int) := u64_and1 Z hzl
  have HL : Hid ((encI n).length = (enc Z).length) := Lib.hid (by rw [hZ]; rfl)
  have hst : Hid (∀ W, (∃ k, W = w.drewN k) → Stood w B D (.slice (some ⟨g, 0, none⟩) L.length c) L (at_ + (encI n).length) (W.setCell ⟨D, 1, none⟩ (.int .i64 ((at_ : Int) + ((enc Z).length : Nat))))) := Lib.hid (by
    rintro W ⟨k, rfl⟩
    have hT : Touch w ((w.drewN k).setCell ⟨D, 1, none⟩ (.int .i64 ((at_ : Int) + ((enc Z).length : Nat)))) D none := ⟨rfl, rfl, rfl, by simp, fun j _ hj _ => Below.heap_setCell _ _ _ _ hj⟩
    refine ⟨⟨?_, ?_, H.out.lo⟩, hT⟩
    · have := (H.out.blk.drewN k).set_ 1 (.int .i64 ((at_ : Int) + ((enc Z).length : Nat)))
      rw [HL.out, show ((at_ + (enc Z).length : Nat) : Int) = (at_ : Int) + ((enc Z).length : Nat) by omega]
      exact this
    · exact hT.own H.out.own H.out.ne (by simp [Value.ownBlock]))
  have hel : (enc Z).length ≤ 10 := enc_len hzl
  have hw : IntKind.i64.wrap ((at_ : Int) + ((enc Z).length : Nat)) = (at_ : Int) + ((enc Z).length : Nat) := by rw [IntKind.wrap_i64]; omega
  clear hZ hzl
  rcases u3 with ⟨p1, rfl⟩ | ⟨p1, rfl⟩
  · rw [p1] at u4
    have u5 : bits .xor .i64 (m : Int) 0 = (m : Int) := i64_xor0 m u2
    have HP1 := Lib.hid p1
    have HU2 := Lib.hid u2
    have m1 : (m : Int) ≤ 9223372036854775807 := by omega
    clear p1 u2 HN hlen hpos
    go_enter Tryz.func71, Tryz.ntmps71
    go_wp2_with fail
    go_quiet ((go_at_call 122; exact Calls.quiet_of_same (NUM.out _ (fun j b hj => RD.out j b hj))))
    go_wp2_with fail
    go_ret
    exact ⟨rfl, hst.out _ ⟨nq, rfl⟩⟩
  · rw [p1] at u4
    have u5 : bits .xor .i64 (m : Int) (-1) = -(m : Int) - 1 := i64_xor_neg m u2
    have HP1 := Lib.hid p1
    have HU2 := Lib.hid u2
    have m1 : (m : Int) ≤ 9223372036854775807 := by omega
    clear p1 u2 HN hlen hpos
    go_enter Tryz.func71, Tryz.ntmps71
    go_wp2_with fail
    go_quiet ((go_at_call 122; exact Calls.quiet_of_same (NUM.out _ (fun j b hj => RD.out j b hj))))
    go_wp2_with fail
    go_ret
    exact ⟨rfl, hst.out _ ⟨nq, rfl⟩⟩
end Go.Proofs.YtplleaimmmanhaaGreatDoor
namespace Go.Proofs.YtplleaimmmanhaaGreatDoor
open Go Go.RowKit

/-- A number below 100 in digits. -/
def dg (n : Nat) : ByteArray := if n < 10 then ⟨#[UInt8.ofNat (48 + n)]⟩ else ⟨#[UInt8.ofNat (48 + n / 10), UInt8.ofNat (48 + n % 10)]⟩
def To10 (n : Nat) : Prop := n = 1 ∨ n = 2 ∨ n = 3 ∨ n = 4 ∨ n = 5 ∨ n = 6 ∨ n = 7 ∨ n = 8 ∨ n = 9 ∨ n = 10
theorem to10 {n : Nat} (h1 : 1 ≤ n) (h2 : n ≤ 10) : To10 n := by unfold To10; omega
def To10I (n : Int) : Prop := n = 1 ∨ n = 2 ∨ n = 3 ∨ n = 4 ∨ n = 5 ∨ n = 6 ∨ n = 7 ∨ n = 8 ∨ n = 9 ∨ n = 10
theorem To10.int {n : Nat} (h : To10 n) : To10I (n : Int) := by unfold To10 at h; unfold To10I; omega
theorem sum_named (a b : ByteArray) (h : a.size + b.size ≤ 9223372036854775807) : ∃ s, s = a ++ b ∧ s.size = a.size + b.size ∧ ∀ w, (Op.stringOp .add a b).run Tryz.prog w = .ok (.string s) w := ⟨_, rfl, ByteArray.size_append, fun w => run_string_add_sum w a b h⟩

set_option maxRecDepth 100000 in
set_option maxHeartbeats 4000000 in
theorem itoa_int (n : Int) (h : To10I n) (w : World) : Calls Tryz.prog 195 #[.int .i64 n] w fun e w' => e = .returned (.string (dg n.toNat)) ∧ w' = w := by
  rcases h with rfl | rfl | rfl | rfl | rfl | rfl | rfl | rfl | rfl | rfl
  all_goals
    go_enter Tryz.func195, Tryz.ntmps195
    go_wp2
    go_ret
    exact ⟨rfl, rfl⟩
theorem itoa_any {n : Nat} (h : To10 n) (w : World) : Calls Tryz.prog 195 #[.int .i64 n] w fun e w' => e = .returned (.string (dg n)) ∧ w' = w := itoa_int n h.int w

set_option maxRecDepth 100000 in
set_option maxHeartbeats 4000000 in
theorem short_word (w : World) : Calls Tryz.prog 192 #[.int .i64 3] w fun e w' => e = .returned (.string ⟨#[115, 104, 111, 114, 116]⟩) ∧ w' = w := by
  go_enter Tryz.func192, Tryz.ntmps192
  go_wp2
  go_ret
  exact ⟨rfl, rfl⟩
set_option maxRecDepth 100000 in
set_option maxHeartbeats 4000000 in
theorem refWord_short (w : World) : Calls Tryz.prog 94 #[.int .i64 3] w fun e w' => e = .returned (.string ⟨#[115, 104, 111, 114, 116]⟩) ∧ Below w.heap.size w w' := by
  go_enter Tryz.func94, Tryz.ntmps94
  go_wp2
  go_ret
  exact ⟨rfl, (Below.refl _ _).alloc (Nat.le_refl _) _⟩
theorem one_digit (W : World) (g : Nat) (x : Int) (h1 : 48 ≤ x) (h2 : x ≤ 57) (hc : W.cell? ⟨g, 0, none⟩ = some (.int .u8 x)) : (convert 54 9 (.slice (some ⟨g, 0, none⟩) 1 1)).run Tryz.prog W = .ok (.string ⟨#[UInt8.ofNat x.toNat]⟩) W := by
  have := run_convert_bytes_back (P := Tryz.prog) W 54 9 5 ⟨g, 0, none⟩ 1 [UInt8.ofNat x.toNat] Tryz.underlying54 Tryz.underlying5 Tryz.underlying9 (fun j hj => by
    obtain rfl : j = 0 := by simpa using hj
    simp [Addr.add, hc]
    omega)
  exact this
set_option maxRecDepth 100000 in
set_option maxHeartbeats 4000000 in
theorem refDecimal_int (n : Int) (h : To10I n) (w : World) : Calls Tryz.prog 93 #[.int .i64 n] w fun e w' => e = .returned (.string (dg n.toNat)) ∧ Below w.heap.size w w' := by
  rcases h with rfl | rfl | rfl | rfl | rfl | rfl | rfl | rfl | rfl | rfl
  all_goals
    have cv : ∀ (W : World) (x : Int), 48 ≤ x → x ≤ 57 → (convert 54 9 (.slice (some ⟨W.heap.size, 0, none⟩) 1 1)).run Tryz.prog (W.alloc (.cells #[.int .u8 x] 5)) = .ok (.string ⟨#[UInt8.ofNat x.toNat]⟩) (W.alloc (.cells #[.int .u8 x] 5)) := fun W x h1 h2 => one_digit _ _ _ h1 h2 (by simp)
    have cw : ∀ (W : World) (o : Obj) (x : Int), 48 ≤ x → x ≤ 57 → (convert 54 9 (.slice (some ⟨W.heap.size + 1, 0, none⟩) 1 1)).run Tryz.prog ((W.alloc o).alloc (.cells #[.int .u8 x] 5)) = .ok (.string ⟨#[UInt8.ofNat x.toNat]⟩) ((W.alloc o).alloc (.cells #[.int .u8 x] 5)) := fun W o x h1 h2 => one_digit _ _ _ h1 h2 (by simp)
    go_enter Tryz.func93, Tryz.ntmps93
    go_wp2
    refine wp_loop_rounds 2 ?_
    rw [rounds_succ]
    go_wp2
    try (rw [rounds_succ]; go_wp2)
    go_ret
    trace_state
    refine ⟨rfl, ?_⟩
    first
      | exact (Below.refl _ _).alloc (Nat.le_refl _) _
      | exact ((Below.refl _ _).alloc (Nat.le_refl _) _).alloc (by simp) _
theorem refDecimal_any {n : Nat} (h : To10 n) (w : World) : Calls Tryz.prog 93 #[.int .i64 n] w fun e w' => e = .returned (.string (dg n)) ∧ Below w.heap.size w w' := refDecimal_int n h.int w
end Go.Proofs.YtplleaimmmanhaaGreatDoor
