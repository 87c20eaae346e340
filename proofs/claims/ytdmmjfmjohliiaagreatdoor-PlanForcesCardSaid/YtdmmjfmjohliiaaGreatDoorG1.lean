/-
  The plain theory of paths in order: texts by their bytes; a row sorted, each text once; two such rows of the same texts are one; a tree's file by its path.
  Plain lemmas for the seat: a slice value that reads as a list of strings ('Strs'), kept below a block number.
  Rows of structs in memory: a slice whose elements have k cells each, read; files, entries, lines.
  append of one list of strings to a row of the call's own, whatever the other slice is; a struct behind a row of one's own.
  index.Of, index.Stage: a tree as entries, and the entries of a stage as a tree.
  index.Stage: the files of a stage.
  DERIVED: THE SHELF's CONTRACTS AT THIS DUMP, IN PLAIN WORDS (tools/lay-plain.mjs out of 'TrydShelf.lean', which tools/lay-shelf.mjs wrote): THE SAME DECLARATIONS UNDER THE SAME NAMES: 'import', 'namespace', 'open', 'def', 'theorem' AND NOTHING ELSE: no command of the shelf's: FOR A HAND-IN. Each laying: the table of numbers ('.._ren') and one theorem, a field a fact of the dump's own or the kernel's comparison; each contract: ONE APPLICATION.
  slices.SortFunc with path.Compare and slices.Compact, at a row of the call's own: the paths sorted, each once.
  index.Conflicts, files.Paths, status.Tracked, status.allPaths: paths sorted, each once.
  slices.BinarySearchFunc at a tree that rises, (Row).find and (Row).Get: the file at a path; status.unlike and status.changed: what became of it.
  General theory of trees by path: what the walks of files share: texts less, a path among paths, a file or none, trees by what they have.
  The plain theory of a file put, of a path cut, of what differs between two trees.
-/
import Derived.Lib.Bytealg
import Derived.Lib.SlicesCompact
import Derived.Shelf.SlSortCmp.Insertion
import Derived.Test.YtdmmjfmjohliiaaGreatDoorProg
import Derived.WalkKit
import Derived.WalkSpells
import Derived.Laws.OwnMore
import Derived.Lib.Hide
import Derived.Deep.Draws
import Derived.WalkSmall
import Derived.Laws.Rows
import Derived.Maps.AppendAt
import Derived.Deep.AppendLies
import Derived.Deep.RegionLaw
import Derived.Deep.QuietTactic
import Derived.BigQuiet
import Derived.IntWalk
import Derived.OpenShut
import Derived.LoopTactic
import Derived.Deep.LoopGhost
import Derived.Deep.DeepCutAuto
import Derived.Deep.CutBlock
import Derived.Laws.AppendOwnNone
import Derived.Shelf.Small.Bits
import Derived.Shelf.Small.Strs
import Derived.Shelf.Small.Wraps
import Derived.Shelf.Strings.Search1
import Derived.Shelf.Strings.Search2
import Derived.Shelf.Strings.Search3
import Derived.Shelf.Slices.CompactS
import Derived.Ground.SlsfProg
import Derived.Shelf.SlSortCmp.Whole1
import Derived.Sort.OwnSorted
import Derived.Deep.DrawnRows
namespace Go.Proofs.YtdmmjfmjohliiaaGreatDoor
open Go.Lib Go.Sort

theorem cmp_self : ∀ l : List UInt8, compareBytes l l = 0
  | [] => rfl
  | a :: l => by
    have h : ¬ a < a := UInt8.lt_irrefl a
    simp [compareBytes, cmp_self l]
theorem cmp_zero : ∀ a b : List UInt8, compareBytes a b = 0 → a = b
  | [], [], _ => rfl
  | [], _ :: _, h => by simp [compareBytes] at h
  | _ :: _, [], h => by simp [compareBytes] at h
  | x :: a, y :: b, h => by
    unfold compareBytes at h
    by_cases h1 : x < y
    · rw [if_pos h1] at h; omega
    · by_cases h2 : y < x
      · rw [if_neg h1, if_pos h2] at h; omega
      · rw [if_neg h1, if_neg h2] at h
        have hxy : x = y := UInt8.le_antisymm (UInt8.not_lt.1 h2) (UInt8.not_lt.1 h1)
        rw [hxy, cmp_zero a b h]
theorem cmp_swap : ∀ a b : List UInt8, compareBytes b a = - compareBytes a b
  | [], [] => rfl
  | [], _ :: _ => rfl
  | _ :: _, [] => rfl
  | x :: a, y :: b => by
    unfold compareBytes
    by_cases h1 : x < y
    · have h2 : ¬ y < x := UInt8.lt_asymm h1
      rw [if_pos h1, if_neg h2, if_pos h1]; rfl
    · by_cases h2 : y < x
      · simp [h1, h2]
      · simp only [h1, h2, if_false]
        exact cmp_swap a b
theorem cmp_trans : ∀ a b c : List UInt8, compareBytes a b < 0 → compareBytes b c < 0 → compareBytes a c < 0
  | [], [], _, h, _ => by simp [compareBytes] at h
  | _ :: _, [], _, h, _ => by simp [compareBytes] at h
  | [], _ :: _, [], _, h => by simp [compareBytes] at h
  | [], _ :: _, _ :: _, _, _ => by simp [compareBytes]
  | _ :: _, _ :: _, [], _, h => by simp [compareBytes] at h
  | x :: a, y :: b, z :: c, h, g => by
    unfold compareBytes at h g ⊢
    by_cases h1 : x < y
    · by_cases g1 : y < z
      · rw [if_pos (UInt8.lt_trans h1 g1)]; omega
      · by_cases g2 : z < y
        · rw [if_neg g1, if_pos g2] at g; omega
        · have : y = z := UInt8.le_antisymm (UInt8.not_lt.1 g2) (UInt8.not_lt.1 g1)
          subst this
          rw [if_pos h1]; omega
    · by_cases h2 : y < x
      · rw [if_neg h1, if_pos h2] at h; omega
      · have : x = y := UInt8.le_antisymm (UInt8.not_lt.1 h2) (UInt8.not_lt.1 h1)
        subst this
        rw [if_neg h1, if_neg h1] at h
        by_cases g1 : x < z
        · rw [if_pos g1]; omega
        · by_cases g2 : z < x
          · rw [if_neg g1, if_pos g2] at g; omega
          · rw [if_neg g1, if_neg g2] at g ⊢
            exact cmp_trans a b c h g

/-- The order of two names. -/
def cb (a b : ByteArray) : Int := compareBytes a.data.toList b.data.toList
theorem cb_self (a : ByteArray) : cb a a = 0 := cmp_self _
theorem cb_zero {a b : ByteArray} (h : cb a b = 0) : a = b := by
  have := cmp_zero _ _ h
  obtain ⟨⟨a⟩⟩ := a
  obtain ⟨⟨b⟩⟩ := b
  simpa using this
theorem cb_swap (a b : ByteArray) : cb b a = - cb a b := cmp_swap _ _
theorem cb_trans {a b c : ByteArray} (h : cb a b < 0) (g : cb b c < 0) : cb a c < 0 := cmp_trans _ _ _ h g

abbrev Bs := List UInt8
theorem lt_dec (x y : Bs) : ltOf compareBytes x y = decide (compareBytes x y < 0) := rfl
theorem cmp_swo : SWO (ltOf compareBytes) where
  irrefl x := by rw [lt_dec, cmp_self]; rfl
  trans x y z h g := by rw [lt_dec, decide_eq_true_iff] at *; exact cmp_trans _ _ _ h g
  ntrans x y z h g := by
    rw [lt_dec, decide_eq_false_iff_not] at *
    intro hxz
    rcases Int.lt_or_le 0 (compareBytes x y) with a | a
    · have yx : compareBytes y x < 0 := by rw [cmp_swap x y]; omega
      exact g (cmp_trans _ _ _ yx hxz)
    · have e : compareBytes x y = 0 := by omega
      rw [cmp_zero _ _ e] at hxz
      exact g hxz
theorem cmp_tot (x y : Bs) (h : ltOf compareBytes x y = false) (g : ltOf compareBytes y x = false) : x = y := by
  rw [lt_dec, decide_eq_false_iff_not] at h g
  rw [cmp_swap x y] at g
  exact cmp_zero _ _ (by omega)
theorem cmp_le_lt {x y z : Bs} (h : ¬ compareBytes y x < 0) (g : compareBytes y z < 0) : compareBytes x z < 0 := by
  by_cases e : compareBytes x y = 0
  · rw [cmp_zero _ _ e]; exact g
  · rw [cmp_swap x y] at h
    exact cmp_trans _ _ _ (by omega) g

/-- A row sorted. -/
def srt (l : List Bs) : List Bs := l.mergeSort fun x y => !(ltOf compareBytes) y x
theorem srt_len (l : List Bs) : (srt l).length = l.length := List.length_mergeSort l
theorem srt_mem {x : Bs} {l : List Bs} : x ∈ srt l ↔ x ∈ l := List.mem_mergeSort
theorem srt_rises (l : List Bs) : (srt l).Pairwise (fun x y => ¬ compareBytes y x < 0) := by
  have h := List.pairwise_mergeSort (le := fun x y => !(ltOf compareBytes) y x) (fun a b c h g => by
    rw [Bool.not_eq_true'] at *
    exact cmp_swo.ntrans c b a g h) (fun a b => by
    cases h : ltOf compareBytes b a with
    | false => rfl
    | true =>
      cases g : ltOf compareBytes a b with
      | false => rfl
      | true => have := cmp_swo.trans _ _ _ h g; rw [cmp_swo.irrefl] at this; cases this) l
  exact h.imp fun {a b} h => by
    rw [Bool.not_eq_true', lt_dec, decide_eq_false_iff_not] at h
    exact h

theorem compact_both (d : Array Bs) (hs : ∀ i j, i < j → j < d.size → ¬ compareBytes d[j]! d[i]! < 0) : ∀ m, m ≤ d.size →
    (compactUpTo d m).Pairwise (fun x y => compareBytes x y < 0) ∧ ∀ x, x ∈ compactUpTo d m ↔ ∃ i, i < m ∧ d[i]! = x
  | 0, _ => ⟨List.Pairwise.nil, fun x => ⟨fun h => by simp [compactUpTo] at h, fun ⟨i, hi, _⟩ => absurd hi (Nat.not_lt_zero _)⟩⟩
  | m + 1, hm => by
    obtain ⟨h1, h2⟩ := compact_both d hs m (by omega)
    rw [compactUpTo_succ]
    cases hk : keeps d m with
    | true =>
      rw [if_pos rfl]
      refine ⟨List.pairwise_append.2 ⟨h1, List.pairwise_singleton _ _, fun x hx y hy => ?_⟩, fun x => ?_⟩
      · rw [List.mem_singleton] at hy
        subst hy
        obtain ⟨i, hi, rfl⟩ := (h2 x).1 hx
        have hne : d[m]! ≠ d[m - 1]! := by
          unfold keeps at hk
          rcases of_decide_eq_true hk with hk | hk
          · omega
          · exact hk
        have a : ¬ compareBytes d[m]! d[m - 1]! < 0 := hs _ _ (by omega) (by omega)
        have a' : compareBytes d[m - 1]! d[m]! < 0 := by
          have e := cmp_swap d[m - 1]! d[m]!
          by_cases e0 : compareBytes d[m - 1]! d[m]! = 0
          · exact absurd (cmp_zero _ _ e0).symm hne
          · omega
        by_cases him : i = m - 1
        · rw [him]; exact a'
        · exact cmp_le_lt (hs i (m - 1) (by omega) (by omega)) a'
      · rw [List.mem_append, h2 x, List.mem_singleton]
        constructor
        · rintro (⟨i, hi, e⟩ | e)
          · exact ⟨i, by omega, e⟩
          · exact ⟨m, by omega, e.symm⟩
        · rintro ⟨i, hi, e⟩
          by_cases him : i = m
          · exact .inr (by rw [← e, him])
          · exact .inl ⟨i, by omega, e⟩
    | false =>
      rw [if_neg (by decide), List.append_nil]
      have hk' : ¬ (m = 0 ∨ d[m]! ≠ d[m - 1]!) := by unfold keeps at hk; exact of_decide_eq_false hk
      have h0 : 0 < m := by
        rcases Nat.eq_zero_or_pos m with e | e
        · exact absurd (.inl e) hk'
        · exact e
      have he : d[m]! = d[m - 1]! := Decidable.byContradiction fun e => hk' (.inr e)
      refine ⟨h1, fun x => ?_⟩
      rw [h2 x]
      constructor
      · rintro ⟨i, hi, e⟩; exact ⟨i, by omega, e⟩
      · rintro ⟨i, hi, e⟩
        by_cases him : i = m
        · exact ⟨m - 1, by omega, by rw [← e, him, he]⟩
        · exact ⟨i, by omega, e⟩

theorem compact_srt (l : List Bs) : (compact (srt l)).Pairwise (fun x y => compareBytes x y < 0) ∧ ∀ x, x ∈ compact (srt l) ↔ x ∈ l := by
  have hb := compact_both (srt l).toArray (fun i j hij hj => by
    have hj' : j < (srt l).length := by simpa using hj
    have h := List.pairwise_iff_getElem.1 (srt_rises l) i j (by omega) hj' hij
    rw [getElem!_pos (srt l).toArray j hj, getElem!_pos (srt l).toArray i (by omega)]
    simpa using h) (srt l).length (by simp)
  refine ⟨hb.1, fun x => ?_⟩
  show x ∈ compactUpTo (srt l).toArray (srt l).length ↔ _
  rw [hb.2 x, ← srt_mem (l := l)]
  constructor
  · rintro ⟨i, hi, e⟩
    rw [getElem!_pos (srt l).toArray i (by simpa using hi)] at e
    rw [← e]
    simp
  · intro h
    obtain ⟨i, hi, e⟩ := List.getElem_of_mem h
    exact ⟨i, hi, by rw [getElem!_pos (srt l).toArray i (by simpa using hi)]; simpa using e⟩

/-! ### Texts -/
def bsOf (s : ByteArray) : Bs := s.data.toList
def mkB (l : Bs) : ByteArray := ⟨l.toArray⟩
theorem mkB_bsOf (s : ByteArray) : mkB (bsOf s) = s := by simp [mkB, bsOf]
theorem bsOf_mkB (l : Bs) : bsOf (mkB l) = l := by simp [mkB, bsOf]
theorem map_mkB (ss : List ByteArray) : (ss.map bsOf).map mkB = ss := by
  rw [List.map_map]
  exact (List.map_congr_left fun s _ => mkB_bsOf s).trans (List.map_id _)

/-- Paths that rise. -/
def RiseP (l : List ByteArray) : Prop := l.Pairwise fun a b => cb a b < 0
/-- A row of paths sorted, each once. -/
def nrm (ss : List ByteArray) : List ByteArray := (compact (srt (ss.map bsOf))).map mkB
theorem nrm_rise (ss : List ByteArray) : RiseP (nrm ss) := by
  refine List.pairwise_map.2 ((compact_srt (ss.map bsOf)).1.imp fun {a b} h => ?_)
  show compareBytes (bsOf (mkB a)) (bsOf (mkB b)) < 0
  rw [bsOf_mkB, bsOf_mkB]
  exact h
theorem nrm_mem (ss : List ByteArray) (s : ByteArray) : s ∈ nrm ss ↔ s ∈ ss := by
  unfold nrm
  rw [List.mem_map]
  constructor
  · rintro ⟨a, ha, rfl⟩
    obtain ⟨x, hx, rfl⟩ := List.mem_map.1 (((compact_srt (ss.map bsOf)).2 a).1 ha)
    rw [mkB_bsOf]
    exact hx
  · intro h
    exact ⟨bsOf s, ((compact_srt (ss.map bsOf)).2 _).2 (List.mem_map.2 ⟨s, h, rfl⟩), mkB_bsOf s⟩
theorem RiseP.nodup {l : List ByteArray} (h : RiseP l) : l.Nodup := h.imp fun {a b} h e => by
  rw [e, cb_self] at h
  omega
/-- Two rising rows of the same paths are one. -/
theorem rise_unique {a b : List ByteArray} (ha : RiseP a) (hb : RiseP b) (h : ∀ s, s ∈ a ↔ s ∈ b) : a = b := by
  refine List.Perm.eq_of_pairwise (le := fun x y => cb x y < 0) (fun x y _ _ h1 h2 => ?_) ha hb ((List.perm_ext_iff_of_nodup ha.nodup hb.nodup).2 h)
  rw [cb_swap x y] at h2
  omega
theorem nrm_of {a b : List ByteArray} (hb : RiseP b) (h : ∀ s, s ∈ a ↔ s ∈ b) : nrm a = b := rise_unique (nrm_rise a) hb fun s => by rw [nrm_mem]; exact h s
theorem nrm_len (ss : List ByteArray) : (nrm ss).length ≤ ss.length := by
  unfold nrm
  rw [List.length_map]
  have : ∀ (d : Array Bs) (m : Nat), (compactUpTo d m).length ≤ m := by
    intro d m
    induction m with
    | zero => simp [compactUpTo]
    | succ m ih =>
      rw [compactUpTo_succ, List.length_append]
      split <;> simp <;> omega
  have := this (srt (ss.map bsOf)).toArray (srt (ss.map bsOf)).length
  rw [srt_len, List.length_map] at this
  unfold compact
  rw [srt_len, List.length_map]
  exact this

/-! ### Files by their paths -/
abbrev Fl := ByteArray × Int × ByteArray
/-- A tree rises. -/
def RiseF (l : List Fl) : Prop := l.Pairwise fun a b => cb a.1 b.1 < 0
/-- The file at a path. -/
def getF (l : List Fl) (p : ByteArray) : Option Fl := l.find? fun f => decide (f.1 = p)
theorem cb_ne {a b : ByteArray} (h : cb a b < 0) : a ≠ b := fun e => by rw [e, cb_self] at h; omega
theorem getF_at {l : List Fl} {p : ByteArray} {i : Nat} (hr : RiseF l) (h1 : ∀ (t : Nat) (x : Fl), t < i → l[t]? = some x → cb x.1 p < 0) (h2 : ∀ (t : Nat) (x : Fl), i ≤ t → l[t]? = some x → 0 ≤ cb x.1 p) :
    getF l p = match l[i]? with | some x => if cb x.1 p = 0 then some x else none | none => none := by
  cases hi : l[i]? with
  | none =>
    unfold getF
    rw [List.find?_eq_none]
    intro x hx
    obtain ⟨t, ht, rfl⟩ := List.getElem_of_mem hx
    have : t < i := by have := List.getElem?_eq_none_iff.1 hi; omega
    have := cb_ne (h1 t _ this (List.getElem?_eq_getElem ht))
    simpa using this
  | some x =>
    have hil := (List.getElem?_eq_some_iff.1 hi).1
    have hix := (List.getElem?_eq_some_iff.1 hi).2
    by_cases hz : cb x.1 p = 0
    · simp only [hz, if_true]
      unfold getF
      rw [List.find?_eq_some_iff_getElem]
      refine ⟨by simpa using cb_zero hz, i, hil, hix, fun t ht => ?_⟩
      have := cb_ne (h1 t _ ht (List.getElem?_eq_getElem (by omega)))
      simpa using this
    · simp only [hz, if_false]
      unfold getF
      rw [List.find?_eq_none]
      intro y hy
      obtain ⟨t, ht, rfl⟩ := List.getElem_of_mem hy
      have : (l[t]).1 ≠ p := by
        rcases Nat.lt_or_ge t i with a | a
        · exact cb_ne (h1 t _ a (List.getElem?_eq_getElem ht))
        · intro e
          rcases Nat.eq_or_lt_of_le a with b | b
          · subst b
            rw [hix] at e
            exact hz (by rw [e, cb_self])
          · have h := List.pairwise_iff_getElem.1 hr i t hil ht b
            rw [hix, e] at h
            have := h2 i x (Nat.le_refl _) hi
            omega
      simpa using this
theorem getF_path {l : List Fl} {p : ByteArray} {f : Fl} (h : getF l p = some f) : f.1 = p := by
  have := List.find?_some h
  simpa using this
end Go.Proofs.YtdmmjfmjohliiaaGreatDoor
namespace Go.Proofs.YtdmmjfmjohliiaaGreatDoor
open Go.RowKit

/-- The slice value v has the strings ss, one a cell; it is nil only without room. -/
def Strs (w : World) (v : Value) (ss : List ByteArray) : Prop :=
  ∃ (A : Option Addr) (c : Nat), v = .slice A ss.length c ∧ ss.length ≤ c ∧ c ≤ maxLen ∧ (A = none → c = 0) ∧
    ∀ ad : Addr, A = some ad → ∀ (i : Nat) (s : ByteArray), ss[i]? = some s → w.cell? (ad.add i) = some (.string s)

theorem Strs.nil (w : World) : Strs w (.slice none 0 0) [] :=
  ⟨none, 0, rfl, Nat.le_refl _, Nat.zero_le _, fun _ => rfl, fun _ h => by cases h⟩

theorem Strs.keep {w w' : World} {v : Value} {ss : List ByteArray} (h : Strs w v ss) (hk : ∀ p : Addr, p.block < w.heap.size → w'.cell? p = w.cell? p) : Strs w' v ss := by
  obtain ⟨A, c, hv, h1, h2, h3, h4⟩ := h
  refine ⟨A, c, hv, h1, h2, h3, fun ad ha i s hs => ?_⟩
  have hc := h4 ad ha i s hs
  rw [hk _ (World.block_lt_of_cell? w _ hc)]
  exact hc

theorem Strs.below {w w' : World} {v : Value} {ss : List ByteArray} (h : Strs w v ss) (hb : Below w.heap.size w w') : Strs w' v ss := h.keep fun _ hp => hb.cell hp
theorem Strs.alloc {w : World} {v : Value} {ss : List ByteArray} (h : Strs w v ss) (o : Obj) : Strs (w.alloc o) v ss := h.keep fun p hp => World.cell?_alloc_lt w o p hp
theorem Strs.drew {w : World} {v : Value} {ss : List ByteArray} (h : Strs w v ss) : Strs w.drew v ss := h
theorem Strs.drewN {w : World} {v : Value} {ss : List ByteArray} (h : Strs w v ss) (n : Nat) : Strs (w.drewN n) v ss := h

/-- A store into a cell that holds no string. -/
theorem Strs.setCell {w : World} {v : Value} {ss : List ByteArray} (h : Strs w v ss) {p : Addr} {u : Value} (hu : w.cell? p = some u) (hs : ∀ s, u ≠ .string s) (x : Value) : Strs (w.setCell p x) v ss := by
  obtain ⟨A, c, hv, h1, h2, h3, h4⟩ := h
  refine ⟨A, c, hv, h1, h2, h3, fun ad ha i s hi => ?_⟩
  have hc := h4 ad ha i s hi
  rw [World.cell?_setCell_other w p _ x (fun e => by rw [← e, hu] at hc; exact hs s (Option.some.inj hc))]
  exact hc

/-- A row of the call's own reads so. -/
theorem Strs.of_own {w : World} {base : Nat} {e : TypeId} {v : Value} {n : Nat} {ss : List ByteArray} (h : w.ownsRow base e 1 v n (ss.map Value.string)) (hn : n = ss.length) : Strs w v ss := by
  subst hn
  rcases h.2 with ⟨rfl, h0⟩ | ⟨g, cap, cur, hv, hb, hg, hnc, hm, hcs, ht⟩
  · have : ss = [] := List.eq_nil_of_length_eq_zero h0
    subst this
    exact Strs.nil w
  · refine ⟨some ⟨g, 0, none⟩, cap, hv, hnc, hm, (fun h => by cases h), fun ad ha i s hs => ?_⟩
    obtain rfl := Option.some.inj ha
    exact h.cells (g := g) (by rw [hv]; rfl) i (.string s) (by simp [hs])

/-- A piece of a slice from k on, as the model spells it. -/
theorem Strs.cut {w : World} {A : Option Addr} {n c : Nat} {ss : List ByteArray} (h : Strs w (.slice A n c) ss) {k : Nat} (hk : k ≤ n) :
    Strs w (.slice (if c = k then A else A.map (·.add k)) (n - k) (c - k)) (ss.drop k) := by
  obtain ⟨A', c', hv, h1, h2, h3, h4⟩ := h
  injection hv with e1 e2 e3
  subst e1; subst e3
  have hl : (ss.drop k).length = n - k := by rw [List.length_drop, e2]
  refine ⟨_, c - k, by rw [hl], by rw [hl]; omega, by omega, ?_, ?_⟩
  · intro hA
    by_cases hc : c = k
    · omega
    · rw [if_neg hc] at hA
      have : A = none := by cases A with | none => rfl | some a => simp at hA
      have := h3 this
      omega
  · intro ad ha i s hs
    have hi : i < (ss.drop k).length := (List.getElem?_eq_some_iff.1 hs).1
    by_cases hc : c = k
    · omega
    · rw [if_neg hc] at ha
      cases A with
      | none => simp at ha
      | some a =>
        simp at ha
        subst ha
        rw [List.getElem?_drop] at hs
        have := h4 a rfl (k + i) s hs
        have e : (a.add k).add i = a.add (k + i) := by
          unfold Addr.add
          by_cases h0 : k = 0 <;> by_cases h1 : i = 0 <;> simp [h0, h1, Nat.add_assoc]
        rw [e]; exact this

/-- The first k of a slice. -/
theorem Strs.take {w : World} {A : Option Addr} {n c : Nat} {ss : List ByteArray} (h : Strs w (.slice A n c) ss) {k : Nat} (hk : k ≤ n) :
    Strs w (.slice A k c) (ss.take k) := by
  obtain ⟨A', c', hv, h1, h2, h3, h4⟩ := h
  injection hv with e1 e2 e3
  subst e1; subst e3
  have hl : (ss.take k).length = k := by rw [List.length_take]; omega
  refine ⟨A, c, by rw [hl], by omega, h2, h3, fun ad ha i s hs => h4 ad ha i s ?_⟩
  rw [List.getElem?_take] at hs
  split at hs
  · exact hs
  · cases hs

end Go.Proofs.YtdmmjfmjohliiaaGreatDoor
namespace Go.Proofs.YtdmmjfmjohliiaaGreatDoor
open Go.RowKit

theorem below_drewN {B : Nat} {a w : World} (h : Below B a w) (n : Nat) : Below B a (w.drewN n) := ⟨h.os, h.tape, h.output, h.size, h.block⟩
theorem own_keep {w w' : World} {base : Nat} {e : TypeId} {size : Nat} {v : Value} {n : Nat} {xs : List Value} (h : w.ownsRow base e size v n xs) (hb : Below w.heap.size w w') : w'.ownsRow base e size v n xs :=
  h.kept (row := none) ⟨hb.os, hb.tape, hb.output, hb.size, fun k hk _ => hb.block k hk⟩ (by
    cases h' : v.ownBlock with
    | none => exact .inl rfl
    | some k => exact .inr (by simp))
theorem own_form {w : World} {base size : Nat} {e : TypeId} {v : Value} {n : Nat} {xs : List Value} (h : w.ownsRow base e size v n xs) : ∃ A c, v = .slice A n c := by
  rcases h.2 with ⟨rfl, rfl⟩ | ⟨g, cap, cur, rfl, _⟩
  · exact ⟨_, _, rfl⟩
  · exact ⟨_, _, rfl⟩
theorem own_len {w : World} {base size : Nat} {e : TypeId} {A : Option Addr} {m c : Nat} {n : Nat} {xs : List Value} (h : w.ownsRow base e size (.slice A m c) n xs) : m = n ∧ n ≤ c ∧ c ≤ maxLen := by
  rcases h.2 with ⟨h1, rfl⟩ | ⟨g, cap, cur, h1, _, _, hn, hm, _⟩
  · injection h1 with a b d
    exact ⟨b, by omega, by rw [d]; exact Nat.zero_le _⟩
  · injection h1 with a b d
    exact ⟨b, by omega, by rw [d]; exact hm⟩

/-- Where cell j of element i stands, as a walk spells it. -/
def adr (ad : Addr) (i k : Nat) : Nat → Addr
  | 0 => ad.add (i * k)
  | j + 1 => ⟨(ad.add (i * k)).block, (ad.add (i * k)).off + (j + 1), none⟩

section
variable {α : Type} {k : Nat} {enc : α → List Value} {w w' : World} {v : Value} {l : List α}
/-- The slice value v has the elements l, each of k cells. -/
def Reads (k : Nat) (enc : α → List Value) (w : World) (v : Value) (l : List α) : Prop :=
  ∃ (A : Option Addr) (c : Nat), v = .slice A l.length c ∧ l.length ≤ c ∧ c ≤ maxLen ∧ (A = none → c = 0) ∧
    ∀ ad : Addr, A = some ad → ∀ (i : Nat) (x : α), l[i]? = some x → ∀ (j : Nat) (u : Value), (enc x)[j]? = some u → w.cell? (adr ad i k j) = some u
theorem Reads.nil (w : World) : Reads k enc w (.slice none 0 0) ([] : List α) := ⟨none, 0, rfl, Nat.le_refl _, Nat.zero_le _, fun _ => rfl, fun _ h => by cases h⟩
theorem Reads.keep (h : Reads k enc w v l) (hk : ∀ p : Addr, p.block < w.heap.size → w'.cell? p = w.cell? p) : Reads k enc w' v l := by
  obtain ⟨A, c, hv, h1, h2, h3, h4⟩ := h
  refine ⟨A, c, hv, h1, h2, h3, fun ad ha i x hx j u hu => ?_⟩
  have hc := h4 ad ha i x hx j u hu
  rw [hk _ (World.block_lt_of_cell? w _ hc)]
  exact hc
theorem Reads.below (h : Reads k enc w v l) (hb : Below w.heap.size w w') : Reads k enc w' v l := h.keep fun _ hp => hb.cell hp
theorem Reads.alloc (h : Reads k enc w v l) (o : Obj) : Reads k enc (w.alloc o) v l := h.keep fun p hp => World.cell?_alloc_lt w o p hp
theorem Reads.drewN (h : Reads k enc w v l) (n : Nat) : Reads k enc (w.drewN n) v l := h
theorem Reads.form (h : Reads k enc w v l) : ∃ A c, v = .slice A l.length c := by
  obtain ⟨A, c, hv, _⟩ := h
  exact ⟨_, _, hv⟩
theorem Reads.len {A : Option Addr} {n c : Nat} (h : Reads k enc w (.slice A n c) l) : n = l.length ∧ n ≤ c ∧ c ≤ maxLen := by
  obtain ⟨A', c', hv, h1, h2, h3, h4⟩ := h
  injection hv with e1 e2 e3
  subst e3
  exact ⟨e2, by omega, h2⟩
/-- The element i. -/
theorem Reads.at_ {A : Option Addr} {n c : Nat} (h : Reads k enc w (.slice A n c) l) {i : Nat} {x : α} (hi : l[i]? = some x) :
    ∃ ad : Addr, A = some ad ∧ ∀ (j : Nat) (u : Value), (enc x)[j]? = some u → w.cell? (adr ad i k j) = some u := by
  obtain ⟨A', c', hv, h1, h2, h3, h4⟩ := h
  injection hv with e1 e2 e3
  subst e1; subst e3
  cases A with
  | none => have := h3 rfl; have := (List.getElem?_eq_some_iff.1 hi).1; omega
  | some ad => exact ⟨ad, rfl, fun j u hu => h4 ad rfl i x hi j u hu⟩

theorem flat_len (hk : ∀ x, (enc x).length = k) : ∀ l : List α, (l.flatMap enc).length = l.length * k
  | [] => by simp
  | x :: l => by rw [List.flatMap_cons, List.length_append, hk, flat_len hk l, List.length_cons, Nat.succ_mul]; omega
theorem flat_at (hk : ∀ x, (enc x).length = k) : ∀ (l : List α) (i j : Nat) (x : α), l[i]? = some x → j < k → (l.flatMap enc)[i * k + j]? = (enc x)[j]?
  | [], i, j, x, h, _ => by simp at h
  | y :: l, 0, j, x, h, hj => by
    simp at h; subst h
    rw [List.flatMap_cons, Nat.zero_mul, Nat.zero_add, List.getElem?_append_left (by rw [hk]; exact hj)]
  | y :: l, i + 1, j, x, h, hj => by
    rw [List.flatMap_cons, Nat.succ_mul, List.getElem?_append_right (by rw [hk]; omega), hk, show i * k + k + j - k = i * k + j by omega]
    exact flat_at hk l i j x (by simpa using h) hj
theorem add_zero_addr (g m : Nat) : (⟨g, 0, none⟩ : Addr).add m = ⟨g, m, none⟩ := by
  unfold Addr.add
  split
  · rename_i h; subst h; rfl
  · simp
theorem Reads.of_own {base : Nat} {e : TypeId} (hk : ∀ x, (enc x).length = k) (h : w.ownsRow base e k v l.length (l.flatMap enc)) : Reads k enc w v l := by
  rcases h.2 with ⟨rfl, h0⟩ | ⟨g, cap, cur, hv, hb, hg, hnc, hm, hcs, ht⟩
  · have : l = [] := List.eq_nil_of_length_eq_zero h0
    subst this
    exact Reads.nil w
  · refine ⟨some ⟨g, 0, none⟩, cap, hv, hnc, hm, (fun h => by cases h), fun ad ha i x hx j u hu => ?_⟩
    obtain rfl := Option.some.inj ha
    have hj : j < k := by rw [← hk x]; exact (List.getElem?_eq_some_iff.1 hu).1
    have := h.cells (g := g) (by rw [hv]; rfl) (i * k + j) u (by rw [flat_at hk l i j x hx hj]; exact hu)
    rw [add_zero_addr] at this
    cases j with
    | zero => unfold adr; rw [add_zero_addr]; exact this
    | succ j => unfold adr; rw [add_zero_addr]; exact this
end

/-- The cells of a file. -/
def cF (f : Fl) : List Value := [.string f.1, .int .i64 f.2.1, .string f.2.2]
abbrev En := ByteArray × Int × Int × ByteArray × Int × Int
/-- The cells of an entry. -/
def cE (e : En) : List Value := [.string e.1, .int .i64 e.2.1, .int .i64 e.2.2.1, .string e.2.2.2.1, .int .i64 e.2.2.2.2.1, .int .i64 e.2.2.2.2.2]
abbrev Ln := ByteArray × Int × Int
/-- The cells of a line. -/
def cL (x : Ln) : List Value := [.string x.1, .int .u8 x.2.1, .int .u8 x.2.2]
theorem cF_len (f : Fl) : (cF f).length = 3 := rfl
theorem cE_len (e : En) : (cE e).length = 6 := rfl
theorem cL_len (x : Ln) : (cL x).length = 3 := rfl
theorem fileInfo : (Tryz.prog.info? 56).map (fun i => (i.zero, i.size, i.bytes)) = some (some (.agg #[.string ⟨#[]⟩, .int .i64 0, .string ⟨#[]⟩]), 3, 40) := by kernel_rfl
theorem entryInfo : (Tryz.prog.info? 69).map (fun i => (i.zero, i.size, i.bytes)) = some (some (.agg #[.string ⟨#[]⟩, .int .i64 0, .int .i64 0, .string ⟨#[]⟩, .int .i64 0, .int .i64 0]), 6, 64) := by kernel_rfl
theorem strInfo : (Tryz.prog.info? 9).map (fun i => (i.zero, i.size, i.bytes)) = some (some (.string { data := #[] }), 1, 16) := by kernel_rfl

theorem Fils.at_ {w : World} {A : Option Addr} {n c : Nat} {l : List Fl} (h : Reads 3 cF w (.slice A n c) l) {i : Nat} {f : Fl} (hi : l[i]? = some f) :
    ∃ ad : Addr, A = some ad ∧ w.cell? (ad.add (i * 3)) = some (.string f.1) ∧ w.cell? ⟨(ad.add (i * 3)).block, (ad.add (i * 3)).off + 1, none⟩ = some (.int .i64 f.2.1) ∧ w.cell? ⟨(ad.add (i * 3)).block, (ad.add (i * 3)).off + 2, none⟩ = some (.string f.2.2) := by
  obtain ⟨ad, ha, hc⟩ := h.at_ hi
  exact ⟨ad, ha, hc 0 _ rfl, hc 1 _ rfl, hc 2 _ rfl⟩
theorem Ents.at_ {w : World} {A : Option Addr} {n c : Nat} {l : List En} (h : Reads 6 cE w (.slice A n c) l) {i : Nat} {e : En} (hi : l[i]? = some e) :
    ∃ ad : Addr, A = some ad ∧ w.cell? (ad.add (i * 6)) = some (.string e.1) ∧ w.cell? ⟨(ad.add (i * 6)).block, (ad.add (i * 6)).off + 1, none⟩ = some (.int .i64 e.2.1) ∧ w.cell? ⟨(ad.add (i * 6)).block, (ad.add (i * 6)).off + 2, none⟩ = some (.int .i64 e.2.2.1) ∧
      w.cell? ⟨(ad.add (i * 6)).block, (ad.add (i * 6)).off + 3, none⟩ = some (.string e.2.2.2.1) ∧ w.cell? ⟨(ad.add (i * 6)).block, (ad.add (i * 6)).off + 4, none⟩ = some (.int .i64 e.2.2.2.2.1) ∧ w.cell? ⟨(ad.add (i * 6)).block, (ad.add (i * 6)).off + 5, none⟩ = some (.int .i64 e.2.2.2.2.2) := by
  obtain ⟨ad, ha, hc⟩ := h.at_ hi
  exact ⟨ad, ha, hc 0 _ rfl, hc 1 _ rfl, hc 2 _ rfl, hc 3 _ rfl, hc 4 _ rfl, hc 5 _ rfl⟩
theorem Lins.at_ {w : World} {A : Option Addr} {n c : Nat} {l : List Ln} (h : Reads 3 cL w (.slice A n c) l) {i : Nat} {f : Ln} (hi : l[i]? = some f) :
    ∃ ad : Addr, A = some ad ∧ w.cell? (ad.add (i * 3)) = some (.string f.1) ∧ w.cell? ⟨(ad.add (i * 3)).block, (ad.add (i * 3)).off + 1, none⟩ = some (.int .u8 f.2.1) ∧ w.cell? ⟨(ad.add (i * 3)).block, (ad.add (i * 3)).off + 2, none⟩ = some (.int .u8 f.2.2) := by
  obtain ⟨ad, ha, hc⟩ := h.at_ hi
  exact ⟨ad, ha, hc 0 _ rfl, hc 1 _ rfl, hc 2 _ rfl⟩
end Go.Proofs.YtdmmjfmjohliiaaGreatDoor
namespace Go.Proofs.YtdmmjfmjohliiaaGreatDoor
open Go.RowKit

theorem run_append_strs (w : World) (ty : TypeId) (base n : Nat) (v : Value) (xs ys : List ByteArray) (hown : w.ownsRow base 9 1 v n (xs.map Value.string)) (A : Option Addr) (m c : Nat) (h : Strs w (.slice A m c) ys) (hl : n + m ≤ 1000000) (hbase : base ≤ w.heap.size) :
    ∃ A' m' c' w', (Builtin.append_ #[25, 25] ty #[v, .slice A m c]).run Tryz.prog w = .ok (.slice A' m' c') w' ∧ w'.ownsRow base 9 1 (.slice A' m' c') (n + m) ((xs ++ ys).map Value.string) ∧ Below base w w' ∧ w.grownBy w' v.ownBlock := by
  obtain ⟨i0, hi, hz0, hz1, hz2⟩ := info_parts strInfo
  obtain ⟨A0, c0, hv, h1, h2, h3, h4⟩ := h
  injection hv with e1 e2 e3
  subst e1; subst e3
  cases A with
  | none =>
    have hc := h3 rfl
    subst hc
    have hm : m = 0 := by omega
    subst hm
    have : ys = [] := List.eq_nil_of_length_eq_zero (by omega)
    subst this
    obtain ⟨A', c', rfl⟩ := own_form hown
    have hr := run_append_owned_none (P := Tryz.prog) (w := w) base 25 ty 9 i0 1 Tryz.underlying25 hi _ n _ hown
    exact ⟨A', _, c', w, hr, by simpa using hown, Below.refl _ _, World.grownBy.refl _ _⟩
  | some ad =>
    obtain ⟨v', w', hr, ho, hg, _⟩ := run_append_own (P := Tryz.prog) w base 25 ty 9 i0 (.string { data := #[] }) 1 16 Tryz.underlying25 hi hz0 hz1 hz2 rfl (by decide) v n (xs.map Value.string) hown ad m c (ys.map Value.string) (by simp [e2]) (by
      intro j u hu
      rw [List.getElem?_map] at hu
      cases hs : ys[j]? with
      | none => rw [hs] at hu; cases hu
      | some s => rw [hs] at hu; cases hu; exact h4 ad rfl j s hs) (by intro u hu; obtain ⟨x, _, rfl⟩ := List.mem_map.1 hu; rfl) (by unfold maxLen; omega) (by omega) hbase
    obtain ⟨A', c', rfl⟩ := own_form ho
    exact ⟨A', _, c', w', hr, by simpa using ho, (Below.refl base w).grown hg hbase fun k hk => (hown.lt k hk).1, hg⟩

theorem wp_append_strs (w : World) {o : Oper} {a : Act} {K : Act → World → Prop} {Q : Exit → Act → World → Prop} (s x : Operand)
    (ho : o.op = .call { callee := .builtin .append, args := #[s, x], argTypes := #[25, 25] })
    (base n : Nat) (v : Value) (xs ys : List ByteArray) (hs : a.eval s = v) (hown : w.ownsRow base 9 1 v n (xs.map Value.string)) (A : Option Addr) (m c : Nat) (hx : a.eval x = .slice A m c) (h : Strs w (.slice A m c) ys) (hl : n + m ≤ 1000000) (hbase : base ≤ w.heap.size)
    (hk : ∀ A' m' c' w', w'.ownsRow base 9 1 (.slice A' m' c') (n + m) ((xs ++ ys).map Value.string) → Below base w w' → w.grownBy w' v.ownBlock → K (a.put o.dst (.slice A' m' c')) w') : o.wp Tryz.prog a w K Q := by
  obtain ⟨A', m', c', w', hr, h2, h3, h4⟩ := run_append_strs w o.type base n v xs ys hown A m c h hl hbase
  unfold Oper.wp execOp
  simp only [ho, resolve, invoke, builtin, Sem.run_bind, Sem.run_pure, Result.andThen_ok, List.map_toArray, List.map_cons, List.map_nil, hs, hx, hr]
  exact hk A' m' c' w' h2 h3 h4

theorem wpList_append_strs (w : World) {ops : Array Oper} {rest : List Oper} {o : Oper} {a : Act} {Q : Exit → Act → World → Prop} (hgd : o.guard = none) (s x : Operand)
    (ho : o.op = .call { callee := .builtin .append, args := #[s, x], argTypes := #[25, 25] })
    (base n : Nat) (v : Value) (xs ys : List ByteArray) (hs : a.eval s = v) (hown : w.ownsRow base 9 1 v n (xs.map Value.string)) (A : Option Addr) (m c : Nat) (hx : a.eval x = .slice A m c) (h : Strs w (.slice A m c) ys) (hl : n + m ≤ 1000000) (hbase : base ≤ w.heap.size)
    (hk : ∀ A' m' c' w', w'.ownsRow base 9 1 (.slice A' m' c') (n + m) ((xs ++ ys).map Value.string) → Below base w w' → w.grownBy w' v.ownBlock → wpList Tryz.prog ops Q rest (a.put o.dst (.slice A' m' c')) w') : wpList Tryz.prog ops Q (o :: rest) a w :=
  wpList_plain hgd fun _ hK => wp_append_strs w s x ho base n v xs ys hs hown A m c hx h hl hbase fun A' m' c' w' h2 h3 h4 => hK _ _ (hk A' m' c' w' h2 h3 h4)

theorem step_append_strs (w : World) {ops : Array Oper} {o : Oper} {a : Act} {K : Act → World → Prop} {Q : Exit → Act → World → Prop} {E : Prop} (hgd : o.guard = none) (s x : Operand)
    (ho : o.op = .call { callee := .builtin .append, args := #[s, x], argTypes := #[25, 25] })
    (base n : Nat) (v : Value) (xs ys : List ByteArray) (hs : a.eval s = v) (hown : w.ownsRow base 9 1 v n (xs.map Value.string)) (A : Option Addr) (m c : Nat) (hx : a.eval x = .slice A m c) (h : Strs w (.slice A m c) ys) (hl : n + m ≤ 1000000) (hbase : base ≤ w.heap.size)
    (hk : ∀ A' m' c' w', w'.ownsRow base 9 1 (.slice A' m' c') (n + m) ((xs ++ ys).map Value.string) → Below base w w' → w.grownBy w' v.ownBlock → K (a.put o.dst (.slice A' m' c')) w') :
    if Region.wanted o (yielded ops a.tmps) = true then Oper.wp Tryz.prog o a w K Q else E := by
  have hw : Region.wanted o (yielded ops a.tmps) = true := by simp [Region.wanted, hgd]
  rw [if_pos hw]
  exact wp_append_strs w s x ho base n v xs ys hs hown A m c hx h hl hbase hk


/-- What a walk wants of an element that is laid in a block of its own. -/
theorem news_one (W : World) (cs : Array Value) (t : TypeId) (j : Nat) (hj : j = W.heap.size) : ∀ (i : Nat) (u : Value), cs.toList[i]? = some u → (W.alloc (.cells cs t)).cell? ((⟨j, 0, none⟩ : Addr).add i) = some u := by
  subst hj
  exact World.news_of_block (cs := cs) (t := t) (fr := (0, 0)) (heap_alloc_new W (.cells cs t))
end Go.Proofs.YtdmmjfmjohliiaaGreatDoor
namespace Go.Proofs.YtdmmjfmjohliiaaGreatDoor
open Go.RowKit

/-- A file as an entry that is next. -/
def toE (f : Fl) : En := (f.1, 0, f.2.1, f.2.2, 0, 0)
/-- An entry's file. -/
def toF (e : En) : Fl := (e.1, e.2.2.1, e.2.2.2.1)
def stageE (l : List En) (n : Int) : List Fl := (l.filter fun e => decide (e.2.1 = n)).map toF
theorem flat_snoc {α : Type} (enc : α → List Value) (l : List α) (x : α) : (l ++ [x]).flatMap enc = l.flatMap enc ++ enc x := by simp
/-- A row of the call's own. -/
def OwnTo {α : Type} (ty : TypeId) (k : Nat) (enc : α → List Value) (l : List α) (w : World) (e : Ending) (w' : World) : Prop :=
  ∃ u, e = .returned u ∧ w'.ownsRow w.heap.size ty k u l.length (l.flatMap enc) ∧ Below w.heap.size w w'
theorem take_snoc {α : Type} {l : List α} {i : Nat} {x : α} (h : l[i]? = some x) : l.take (i + 1) = l.take i ++ [x] := by
  obtain ⟨hi, rfl⟩ := List.getElem?_eq_some_iff.1 h
  exact List.take_succ_eq_append_getElem hi

set_option maxHeartbeats 2000000 in
theorem of_any (w : World) (v : Value) (l : List Fl) (h : Reads 3 cF w v l) (hl : l.length ≤ 100000) :
    Calls Tryz.prog 27 #[v] w (OwnTo 69 6 cE (l.map toE) w) := by
  obtain ⟨A, c, rfl⟩ := h.form
  have hn := h.len
  have hnm : l.length ≤ 9223372036854775807 := by omega
  have HO := Lib.hid h
  obtain ⟨i0, hi, hz0, hz1, hz2⟩ := info_parts entryInfo
  clear h hn
  go_enter Tryz.func27, Tryz.ntmps27
  go_wp2
  go_loopw [3, 8] (fun s3 s8 wr => ∃ i : Nat, i ≤ l.length ∧ s8 = .int .i64 i ∧ Hid (wr.ownsRow w.heap.size 69 6 s3 i (((l.take i).map toE).flatMap cE)) ∧ Below w.heap.size w wr) (fun _ s8 _ => l.length - (intOf s8).toNat)
  case atStart => exact ⟨0, Nat.zero_le _, rfl, Lib.hid (World.ownsRow_nil _ _ _ _), Below.refl _ _⟩
  case round =>
    obtain ⟨i, hil, rfl, hown, hb⟩ := hrel
    by_cases hlt : i < l.length
    · obtain ⟨f, hf⟩ : ∃ f, l[i]? = some f := ⟨_, List.getElem?_eq_getElem hlt⟩
      obtain ⟨ad, rfl, c0, c1, c2⟩ := Fils.at_ (HO.out.below hb) hf
      obtain ⟨p, m, d⟩ := f
      have HF := Lib.hid hf
      have i0' : (0 : Int) ≤ (i : Int) := Int.natCast_nonneg _
      have hi1 : (i : Int) < (l.length : Int) := by omega
      have hcl := World.block_lt_of_cell? _ _ c0
      have hsz := hb.size
      have hown4 := ((hown.out.alloc (.cells #[.string p, .int .i64 m, .string d] 56)).alloc (.cells #[.string p, .int .i64 0, .int .i64 m, .string d, .int .i64 0, .int .i64 0] 69))
      have hnews := news_one (wr.alloc (.cells #[.string p, .int .i64 m, .string d] 56)) #[.string p, .int .i64 0, .int .i64 m, .string d, .int .i64 0, .int .i64 0] 69 (wr.heap.size + 1) (by simp)
      clear hf
      go_wp2_with (at_builtin; refine wpList_append_own _ rfl _ _ 24 rfl w.heap.size 69 i0 (.agg #[.string ⟨#[]⟩, .int .i64 0, .int .i64 0, .string ⟨#[]⟩, .int .i64 0, .int .i64 0]) 6 64 Tryz.underlying24 hi hz0 hz1 hz2 rfl (by decide) _ _ _ rfl hown4 ⟨wr.heap.size + 1, 0, none⟩ 1 1 [.string p, .int .i64 0, .int .i64 m, .string d, .int .i64 0, .int .i64 0] rfl rfl hnews (by simp [Value.oneCell']) (by unfold maxLen; omega) (by omega) (by simp; omega) ?_; intro v5 w5 hown5 hg5 _)
      have hb5 : Below w.heap.size w w5 := ((hb.alloc hsz _).alloc (by simp; omega) _).grown hg5 (by simp; omega) (fun k hk => (hown.out.lt k hk).1)
      clear hnews hown4 hg5
      go_roundw
      case rel => exact ⟨i + 1, by omega, by go_num, Lib.hid (by rw [take_snoc HF.out, List.map_append, List.map_cons, List.map_nil, flat_snoc]; exact hown5), hb5⟩
      case measure => simp [intOf]; omega
    · obtain rfl : i = l.length := by omega
      have HL : Hid (((l.take l.length).map toE).flatMap cE = (l.map toE).flatMap cE) := Lib.hid (by rw [List.take_length])
      go_wp2
      go_ret
      exact ⟨_, rfl, by rw [List.length_map, ← HL.out]; exact hown.out, hb⟩
end Go.Proofs.YtdmmjfmjohliiaaGreatDoor
namespace Go.Proofs.YtdmmjfmjohliiaaGreatDoor
open Go.RowKit

theorem stageE_snoc (l : List En) (e : En) (n : Int) : stageE (l ++ [e]) n = stageE l n ++ (if e.2.1 = n then [toF e] else []) := by
  unfold stageE
  rw [List.filter_append, List.map_append]
  congr 1
  by_cases h : e.2.1 = n <;> simp [h]
theorem stageE_len (l : List En) (n : Int) : (stageE l n).length ≤ l.length := by
  unfold stageE
  rw [List.length_map]
  exact List.length_filter_le _ _

set_option maxHeartbeats 2000000 in
theorem stage_any (w : World) (v : Value) (l : List En) (n : Int) (h : Reads 6 cE w v l) (hl : l.length ≤ 100000) :
    Calls Tryz.prog 50 #[v, .int .i64 n] w (OwnTo 56 3 cF (stageE l n) w) := by
  obtain ⟨A, c, rfl⟩ := h.form
  have hn := h.len
  have hnm : l.length ≤ 9223372036854775807 := by omega
  have HO := Lib.hid h
  obtain ⟨i0, hi, hz0, hz1, hz2⟩ := info_parts fileInfo
  clear h hn
  go_enter Tryz.func50, Tryz.ntmps50
  go_wp2
  go_loopw [5, 10] (fun s5 s10 wr => ∃ i : Nat, i ≤ l.length ∧ s10 = .int .i64 i ∧ Hid (wr.ownsRow w.heap.size 56 3 s5 (stageE (l.take i) n).length ((stageE (l.take i) n).flatMap cF)) ∧ Below w.heap.size w wr) (fun _ s10 _ => l.length - (intOf s10).toNat)
  case atStart => exact ⟨0, Nat.zero_le _, rfl, Lib.hid (World.ownsRow_nil _ _ _ _), Below.refl _ _⟩
  case round =>
    obtain ⟨i, hil, rfl, hown, hb⟩ := hrel
    by_cases hlt : i < l.length
    · obtain ⟨e, he⟩ : ∃ e, l[i]? = some e := ⟨_, List.getElem?_eq_getElem hlt⟩
      obtain ⟨ad, rfl, c0, c1, c2, c3, c4, c5⟩ := Ents.at_ (HO.out.below hb) he
      have HT := Lib.hid (show stageE (l.take (i + 1)) n = stageE (l.take i) n ++ (if e.2.1 = n then [toF e] else []) by rw [take_snoc he, stageE_snoc])
      have hsl := Nat.le_trans (stageE_len (l.take i) n) (by rw [List.length_take]; omega : (l.take i).length ≤ 100000)
      obtain ⟨p, st, m, d, tm, sz⟩ := e
      have i0' : (0 : Int) ≤ (i : Int) := Int.natCast_nonneg _
      have hi1 : (i : Int) < (l.length : Int) := by omega
      have hcl := World.block_lt_of_cell? _ _ c0
      have hsz := hb.size
      clear he
      by_cases hst : st = n
      · subst hst
        have hst : Hid ((if st = st then [toF (p, st, m, d, tm, sz)] else []) = [(p, m, d)]) := Lib.hid (by rw [if_pos rfl]; rfl)
        have hown4 := ((hown.out.alloc (.cells #[.string p, .int .i64 st, .int .i64 m, .string d, .int .i64 tm, .int .i64 sz] 69)).alloc (.cells #[.string p, .int .i64 m, .string d] 56))
        have hnews := news_one (wr.alloc (.cells #[.string p, .int .i64 st, .int .i64 m, .string d, .int .i64 tm, .int .i64 sz] 69)) #[.string p, .int .i64 m, .string d] 56 (wr.heap.size + 1) (by simp)
        go_wp2_with (at_builtin; refine wpList_append_own _ rfl _ _ 23 rfl w.heap.size 56 i0 (.agg #[.string ⟨#[]⟩, .int .i64 0, .string ⟨#[]⟩]) 3 40 Tryz.underlying23 hi hz0 hz1 hz2 rfl (by decide) _ _ _ rfl hown4 ⟨wr.heap.size + 1, 0, none⟩ 1 1 [.string p, .int .i64 m, .string d] rfl rfl hnews (by simp [Value.oneCell']) (by unfold maxLen; omega) (by omega) (by simp; omega) ?_; intro v5 w5 hown5 hg5 _)
        have hb5 : Below w.heap.size w w5 := ((hb.alloc hsz _).alloc (by simp; omega) _).grown hg5 (by simp; omega) (fun k hk => (hown.out.lt k hk).1)
        clear hnews hown4 hg5
        go_roundw
        case rel => exact ⟨i + 1, by omega, by go_num, Lib.hid (by rw [HT.out, hst.out, List.length_append, flat_snoc]; exact hown5), hb5⟩
        case measure => simp [intOf]; omega
      · have hst' : Hid ((if st = n then [toF (p, st, m, d, tm, sz)] else []) = ([] : List Fl)) := Lib.hid (if_neg hst)
        have hbe : (st == n) = false := by simpa using hst
        have hown4 := hown.out.alloc (.cells #[.string p, .int .i64 st, .int .i64 m, .string d, .int .i64 tm, .int .i64 sz] 69)
        have hb4 := hb.alloc hsz (.cells #[.string p, .int .i64 st, .int .i64 m, .string d, .int .i64 tm, .int .i64 sz] 69)
        go_wp2
        go_roundw
        case rel => exact ⟨i + 1, by omega, by go_num, Lib.hid (by rw [HT.out, hst'.out, List.append_nil]; exact hown4), hb4⟩
        case measure => simp [intOf]; omega
    · obtain rfl : i = l.length := by omega
      have HL : Hid (stageE (l.take l.length) n = stageE l n) := Lib.hid (by rw [List.take_length])
      go_wp2
      go_ret
      exact ⟨_, rfl, by rw [← HL.out]; exact hown.out, hb⟩
end Go.Proofs.YtdmmjfmjohliiaaGreatDoor
namespace Go.Proofs
open Go.Shelf
def Tryz.lays125_ren : Go.Shelf.Ren := ⟨fun | 125 => 114 | 128 => 137 | 129 => 138 | n => n, fun | 46 => 161 | 3 => 3 | 51 => 198 | 53 => 200 | 4 => 4 | 5 => 5 | 9 => 9 | n => n, fun | n => n⟩
theorem Tryz.lays125 : Go.Proofs.Lays.n125 Tryz.prog Tryz.lays125_ren := {
  mixed := by kernel_rfl
  f125 := Tryz.func114.trans (congrArg some (by kernel_rfl))
  f128 := Tryz.func137.trans (congrArg some (by kernel_rfl))
  f129 := Tryz.func138.trans (congrArg some (by kernel_rfl))
  t3 := Tryz.underlying3
  a3 := Tryz.isAgg3
  z3 := Tryz.sizeOf3
  v3 := Tryz.zeroValue3
  t4 := Tryz.underlying4
  a4 := Tryz.isAgg4
  z4 := Tryz.sizeOf4
  v4 := Tryz.zeroValue4
  t5 := Tryz.underlying5
  a5 := Tryz.isAgg5
  z5 := Tryz.sizeOf5
  v5 := Tryz.zeroValue5
  t9 := Tryz.underlying9
  a9 := Tryz.isAgg9
  z9 := Tryz.sizeOf9
  v9 := Tryz.zeroValue9
  t46 := Tryz.underlying161
  a46 := Tryz.isAgg161
  z46 := Tryz.sizeOf161
  v46 := Tryz.zeroValue161
  t51 := Tryz.underlying198
  a51 := Tryz.isAgg198
  z51 := Tryz.sizeOf198
  v51 := Tryz.zeroValue198
  t53 := Tryz.underlying200
  a53 := Tryz.isAgg200
  z53 := Tryz.sizeOf200
  v53 := Tryz.zeroValue200 }
/-- bits.Len: "Len returns the minimum number of bits required to represent x; the result is 0 for x == 0.": IT RETURNS 'Lib.bitLen x'; the world is as it was. (A uint has 64 bits in the model.) ITS CALLEE bits.Len64 IS MET BY ITS OWN CONTRACT OFF THE SHELF (lay that first). (LAID: no walk: one application.) -/
theorem Tryz.bits_Len (x : Int) (w : World) (h0 : 0 ≤ x) (h1 : x ≤ 18446744073709551615) :
    Calls Tryz.prog 114 #[.int .u64 x] w fun e w' => e = .returned (.int .i64 (Lib.bitLen x.toNat)) ∧ w' = w := Any.bits_Len Tryz.lays125 x w h0 h1
def Tryz.lays213_ren : Go.Shelf.Ren := ⟨fun | 213 => 139 | 265 => 149 | n => n, fun | 9 => 9 | 3 => 3 | n => n, fun | n => n⟩
theorem Tryz.lays213 : Go.Proofs.Lays.n213 Tryz.prog Tryz.lays213_ren := {
  mixed := by kernel_rfl
  f213 := Tryz.func139.trans (congrArg some (by kernel_rfl))
  f265 := Tryz.func149.trans (congrArg some (by kernel_rfl))
  t3 := Tryz.underlying3
  a3 := Tryz.isAgg3
  z3 := Tryz.sizeOf3
  v3 := Tryz.zeroValue3
  t9 := Tryz.underlying9
  a9 := Tryz.isAgg9
  z9 := Tryz.sizeOf9
  v9 := Tryz.zeroValue9 }
open Go.RowKit in
/-- internal/bytealg.CompareString (what strings.Compare calls): IT RETURNS 'Lib.compareBytes a b'; the world is as it was. (LAID: no walk: one application.) -/
theorem Tryz.bytealg_CompareString (a b : ByteArray) (w : World) :
    Calls Tryz.prog 139 #[.string a, .string b] w fun e w' => e = .returned (.int .i64 (Lib.compareBytes a.data.toList b.data.toList)) ∧ w' = w := Any.bytealg_CompareString Tryz.lays213 a b w
def Tryz.lays106_ren : Go.Shelf.Ren := ⟨fun | 106 => 115 | 213 => 139 | 265 => 149 | n => n, fun | 9 => 9 | 3 => 3 | n => n, fun | n => n⟩
theorem Tryz.lays106 : Go.Proofs.Lays.n106 Tryz.prog Tryz.lays106_ren := {
  mixed := by kernel_rfl
  f106 := Tryz.func115.trans (congrArg some (by kernel_rfl))
  f213 := Tryz.func139.trans (congrArg some (by kernel_rfl))
  f265 := Tryz.func149.trans (congrArg some (by kernel_rfl))
  t3 := Tryz.underlying3
  a3 := Tryz.isAgg3
  z3 := Tryz.sizeOf3
  v3 := Tryz.zeroValue3
  t9 := Tryz.underlying9
  a9 := Tryz.isAgg9
  z9 := Tryz.sizeOf9
  v9 := Tryz.zeroValue9 }
open Go.RowKit in
/-- strings.Compare: "Compare returns an integer comparing two strings lexicographically. The result will be 0 if a == b, -1 if a < b, and +1 if a > b.": IT RETURNS 'Lib.compareBytes a b'; the world is as it was. (LAID: no walk: one application.) -/
theorem Tryz.strings_Compare (a b : ByteArray) (w : World) :
    Calls Tryz.prog 115 #[.string a, .string b] w fun e w' => e = .returned (.int .i64 (Lib.compareBytes a.data.toList b.data.toList)) ∧ w' = w := Any.strings_Compare Tryz.lays106 a b w
def Tryz.lays143_ren : Go.Shelf.Ren := ⟨fun | 143 => 153 | 219 => 156 | 217 => 157 | 225 => 158 | 224 => 159 | 267 => 160 | 266 => 161 | 314 => 162 | n => n, fun | 9 => 9 | 3 => 3 | 4 => 4 | 5 => 5 | 46 => 161 | 146 => 223 | 51 => 198 | n => n, fun | 1 => 1 | n => n⟩
theorem Tryz.lays143 : Go.Proofs.Lays.n143 Tryz.prog Tryz.lays143_ren := {
  mixed := by kernel_rfl
  f143 := Tryz.func153.trans (congrArg some (by kernel_rfl))
  f217 := Tryz.func157.trans (congrArg some (by kernel_rfl))
  f219 := Tryz.func156.trans (congrArg some (by kernel_rfl))
  f224 := Tryz.func159.trans (congrArg some (by kernel_rfl))
  f225 := Tryz.func158.trans (congrArg some (by kernel_rfl))
  f266 := Tryz.func161.trans (congrArg some (by kernel_rfl))
  f267 := Tryz.func160.trans (congrArg some (by kernel_rfl))
  f314 := Tryz.func162.trans (congrArg some (by kernel_rfl))
  t3 := Tryz.underlying3
  a3 := Tryz.isAgg3
  z3 := Tryz.sizeOf3
  v3 := Tryz.zeroValue3
  t4 := Tryz.underlying4
  a4 := Tryz.isAgg4
  z4 := Tryz.sizeOf4
  v4 := Tryz.zeroValue4
  t5 := Tryz.underlying5
  a5 := Tryz.isAgg5
  z5 := Tryz.sizeOf5
  v5 := Tryz.zeroValue5
  t9 := Tryz.underlying9
  a9 := Tryz.isAgg9
  z9 := Tryz.sizeOf9
  v9 := Tryz.zeroValue9
  t46 := Tryz.underlying161
  a46 := Tryz.isAgg161
  z46 := Tryz.sizeOf161
  v46 := Tryz.zeroValue161
  t51 := Tryz.underlying198
  a51 := Tryz.isAgg198
  z51 := Tryz.sizeOf198
  v51 := Tryz.zeroValue198
  t146 := Tryz.underlying223
  a146 := Tryz.isAgg223
  z146 := Tryz.sizeOf223
  v146 := Tryz.zeroValue223
  g1 := by kernel_rfl }
open Go.RowKit Go.Lib in
/-- strings.Index: "Index returns the index of the first instance of substr in s, or -1 if substr is not present in s.": AT A substr OF ONE BYTE c: IT RETURNS 'Lib.indexByte s c'; the world is as it was. (LAID: no walk: one application.) -/
theorem Tryz.strings_Index_one (s : ByteArray) (c : UInt8) (w : World) :
    Calls Tryz.prog 153 #[.string s, .string ⟨#[c]⟩] w fun e w' => e = .returned (.int .i64 (Lib.indexByte s.data.toList c)) ∧ w' = w := Any.strings_Index_one Tryz.lays143 s c w
def Tryz.lays194_ren : Go.Shelf.Ren := ⟨fun | 194 => 77 | n => n, fun | 31 => 25 | 9 => 9 | 3 => 3 | 4 => 4 | 0 => 0 | n => n, fun | n => n⟩
theorem Tryz.lays194 : Go.Proofs.Lays.n194 Tryz.prog Tryz.lays194_ren := {
  mixed := by kernel_rfl
  f194 := Tryz.func77.trans (congrArg some (by kernel_rfl))
  t0 := Tryz.underlying0
  a0 := Tryz.isAgg0
  z0 := Tryz.sizeOf0
  v0 := Tryz.zeroValue0
  t3 := Tryz.underlying3
  a3 := Tryz.isAgg3
  z3 := Tryz.sizeOf3
  v3 := Tryz.zeroValue3
  t4 := Tryz.underlying4
  a4 := Tryz.isAgg4
  z4 := Tryz.sizeOf4
  v4 := Tryz.zeroValue4
  t9 := Tryz.underlying9
  a9 := Tryz.isAgg9
  z9 := Tryz.sizeOf9
  v9 := Tryz.zeroValue9
  t31 := Tryz.underlying25
  a31 := Tryz.isAgg25
  z31 := Tryz.sizeOf25
  v31 := Tryz.zeroValue25 }
open Go.RowKit Go.Lib Go.Sort in
/-- slices.Compact at []string: "Compact replaces consecutive runs of equal elements with a single copy. This is like the uniq command found on Unix. Compact modifies the contents of the slice s and returns the modified slice, which may have a smaller length. Compact zeroes the elements between the new length and the original length. The result preserves the nilness of s.": IT RETURNS THE SLICE CUT TO 'Lib.compact zs'; ITS CELLS HOLD 'Lib.compact zs', THEN ZERO VALUES up to the old length; all else is as it was, but for the count of draws. IN THE WORDS OF slices.Sort's CONTRACT ('Holds', 'putRow'): so the everyday 'slices.Sort(xs); xs = slices.Compact(xs)' goes from the one contract to the other. It asks 'zs.length ≤ cap' (every slice's: the reslicing 's[:k]' looks at it). Length 0, nil: '.._empty'. (LAID: no walk: one application.) -/
theorem Tryz.slices_Compact_string (blk off cap : Nat) (zs : List (List UInt8)) (w : World) (hH : Holds encStr w blk off zs.toArray) (hsz : zs.length ≤ 9223372036854775807) (hcap : zs.length ≤ cap) :
    Calls Tryz.prog 77 #[.slice (some ⟨blk, off, none⟩) zs.length cap] w fun e w' => e = .returned (.slice (some ⟨blk, off, none⟩) (Lib.compact zs).length cap) ∧ ∃ q, w' = putRow encStr (Sort.ahead w q) blk off (Lib.compact zs ++ List.replicate (zs.length - (Lib.compact zs).length) []).toArray := Any.slices_Compact_string Tryz.lays194 blk off cap zs w hH hsz hcap
open Go.RowKit Go.Lib Go.Sort in
/-- The same at a slice of length 0, a nil one too: it comes back as it is. (LAID: no walk: one application.) -/
theorem Tryz.slices_Compact_string_empty (a : Option Addr) (cap : Nat) (w : World) :
    Calls Tryz.prog 77 #[.slice a 0 cap] w fun e w' => e = .returned (.slice a 0 cap) ∧ w' = w := Any.slices_Compact_string_empty Tryz.lays194 a cap w
def Tryz.laysSlF6_f75_ren : Go.Shelf.Ren := ⟨fun | 6 => 75 | 15 => 114 | 14 => 113 | 28 => 137 | 29 => 138 | 20 => 129 | 21 => 130 | 22 => 131 | 23 => 132 | 24 => 133 | 25 => 134 | 26 => 135 | 27 => 136 | 46 => 144 | 47 => 145 | 48 => 146 | 49 => 147 | 50 => 148 | 57 => 154 | n => n, fun | 22 => 25 | 24 => 9 | 25 => 123 | 3 => 3 | 39 => 161 | 0 => 0 | 53 => 198 | 55 => 200 | 4 => 4 | 46 => 192 | 45 => 191 | 50 => 113 | 5 => 5 | 9 => 9 | 66 => 205 | 70 => 209 | 76 => 214 | 77 => 215 | n => n, fun | n => n⟩
theorem Tryz.laysSlF6_f75 : Go.Proofs.SlLaysF.n6 Tryz.prog Tryz.laysSlF6_f75_ren := {
  mixed := by kernel_rfl
  f6 := ⟨Tryz.f75.name, by decide, Tryz.func75.trans (congrArg some (by kernel_rfl))⟩
  f14 := ⟨Tryz.f113.name, by decide, Tryz.func113.trans (congrArg some (by kernel_rfl))⟩
  f15 := Tryz.func114.trans (congrArg some (by kernel_rfl))
  f20 := ⟨Tryz.f129.name, by decide, Tryz.func129.trans (congrArg some (by kernel_rfl))⟩
  f21 := ⟨Tryz.f130.name, by decide, Tryz.func130.trans (congrArg some (by kernel_rfl))⟩
  f22 := ⟨Tryz.f131.name, by decide, Tryz.func131.trans (congrArg some (by kernel_rfl))⟩
  f23 := ⟨Tryz.f132.name, by decide, Tryz.func132.trans (congrArg some (by kernel_rfl))⟩
  f24 := ⟨Tryz.f133.name, by decide, Tryz.func133.trans (congrArg some (by kernel_rfl))⟩
  f25 := ⟨Tryz.f134.name, by decide, Tryz.func134.trans (congrArg some (by kernel_rfl))⟩
  f26 := ⟨Tryz.f135.name, by decide, Tryz.func135.trans (congrArg some (by kernel_rfl))⟩
  f27 := ⟨Tryz.f136.name, by decide, Tryz.func136.trans (congrArg some (by kernel_rfl))⟩
  f28 := Tryz.func137.trans (congrArg some (by kernel_rfl))
  f29 := Tryz.func138.trans (congrArg some (by kernel_rfl))
  f46 := ⟨Tryz.f144.name, by decide, Tryz.func144.trans (congrArg some (by kernel_rfl))⟩
  f47 := Tryz.func145.trans (congrArg some (by kernel_rfl))
  f48 := Tryz.func146.trans (congrArg some (by kernel_rfl))
  f49 := ⟨Tryz.f147.name, by decide, Tryz.func147.trans (congrArg some (by kernel_rfl))⟩
  f50 := ⟨Tryz.f148.name, by decide, Tryz.func148.trans (congrArg some (by kernel_rfl))⟩
  f57 := ⟨Tryz.f154.name, by decide, Tryz.func154.trans (congrArg some (by kernel_rfl))⟩
  t0 := Tryz.underlying0
  a0 := Tryz.isAgg0
  z0 := Tryz.sizeOf0
  v0 := Tryz.zeroValue0
  t3 := Tryz.underlying3
  a3 := Tryz.isAgg3
  z3 := Tryz.sizeOf3
  v3 := Tryz.zeroValue3
  t4 := Tryz.underlying4
  a4 := Tryz.isAgg4
  z4 := Tryz.sizeOf4
  v4 := Tryz.zeroValue4
  t5 := Tryz.underlying5
  a5 := Tryz.isAgg5
  z5 := Tryz.sizeOf5
  v5 := Tryz.zeroValue5
  t9 := Tryz.underlying9
  a9 := Tryz.isAgg9
  z9 := Tryz.sizeOf9
  v9 := Tryz.zeroValue9
  t22 := Tryz.underlying25
  a22 := Tryz.isAgg25
  z22 := Tryz.sizeOf25
  v22 := Tryz.zeroValue25
  a24 := Tryz.isAgg9
  z24 := Tryz.sizeOf9
  t25 := Tryz.underlying123
  a25 := Tryz.isAgg123
  z25 := Tryz.sizeOf123
  v25 := Tryz.zeroValue123
  t39 := Tryz.underlying161
  a39 := Tryz.isAgg161
  z39 := Tryz.sizeOf161
  v39 := Tryz.zeroValue161
  t45 := Tryz.underlying191
  a45 := Tryz.isAgg191
  z45 := Tryz.sizeOf191
  v45 := Tryz.zeroValue191
  t46 := Tryz.underlying192
  a46 := Tryz.isAgg192
  z46 := Tryz.sizeOf192
  v46 := Tryz.zeroValue192
  t50 := Tryz.underlying113
  a50 := Tryz.isAgg113
  z50 := Tryz.sizeOf113
  v50 := Tryz.zeroValue113
  t53 := Tryz.underlying198
  a53 := Tryz.isAgg198
  z53 := Tryz.sizeOf198
  v53 := Tryz.zeroValue198
  t55 := Tryz.underlying200
  a55 := Tryz.isAgg200
  z55 := Tryz.sizeOf200
  v55 := Tryz.zeroValue200
  t66 := Tryz.underlying205
  a66 := Tryz.isAgg205
  z66 := Tryz.sizeOf205
  v66 := Tryz.zeroValue205
  t70 := Tryz.underlying209
  a70 := Tryz.isAgg209
  z70 := Tryz.sizeOf209
  v70 := Tryz.zeroValue209
  t76 := Tryz.underlying214
  a76 := Tryz.isAgg214
  z76 := Tryz.sizeOf214
  v76 := Tryz.zeroValue214
  t77 := Tryz.underlying215
  a77 := Tryz.isAgg215
  z77 := Tryz.sizeOf215
  v77 := Tryz.zeroValue215 }
end Go.Proofs
namespace Go.Proofs.YtdmmjfmjohliiaaGreatDoor
open Go.RowKit Go.Lib Go.Sort

set_option maxHeartbeats 1000000 in
theorem comp_any (a b : ByteArray) (w : World) : Calls Tryz.prog 76 #[.string a, .string b] w fun e w' => e = .returned (.int .i64 (cb a b)) ∧ w' = w := by
  have h := Tryz.strings_Compare a b w
  go_enter Tryz.func76, Tryz.ntmps76
  go_wp2_with (go_at_call 115; refine h.mono ?_; rintro e w' ⟨rfl, rfl⟩)
  go_ret
  exact ⟨rfl, rfl⟩

theorem comp_reads (blk off size : Nat) (w : World) : CmpReads Tryz.prog 76 #[] encStr compareBytes blk off size w := fun m os dk _ x y =>
  (comp_any (mkB x) (mkB y) _).mono fun e w' ⟨he, hw⟩ => ⟨by rw [he]; unfold cb; simp [mkB], 0, by rw [hw]; rfl⟩

theorem enc_bsOf (ss : List ByteArray) : (ss.map bsOf).map encStr = ss.map Value.string := by
  rw [List.map_map]
  exact List.map_congr_left fun s _ => by simp [bsOf, encStr]
theorem enc_mkB (l : List Bs) : (l.map mkB).map Value.string = l.map encStr := by
  rw [List.map_map]
  exact List.map_congr_left fun s _ => rfl

set_option maxHeartbeats 1000000 in
theorem ins_none (p : Option Addr) (cap : Nat) (fv : Value) (w : World) : Calls Tryz.prog 129 #[.slice p 0 cap, .int .i64 0, .int .i64 0, fv] w fun e w' => e = .returned (.tuple #[]) ∧ w' = w := by
  go_enter Tryz.func129, Tryz.ntmps129
  go_wp2
  refine wp_loop_rounds 1 ?_
  rw [rounds_succ]
  go_wp2
  go_end0
  exact ⟨rfl, rfl⟩
set_option maxHeartbeats 1000000 in
theorem pdq_none (p : Option Addr) (cap : Nat) (lim : Int) (fv : Value) (w : World) : Calls Tryz.prog 113 #[.slice p 0 cap, .int .i64 0, .int .i64 0, .int .i64 lim, fv] w fun e w' => e = .returned (.tuple #[]) ∧ w' = w := by
  go_enter Tryz.func113, Tryz.ntmps113
  go_wp2
  refine wp_loop_rounds 1 ?_
  rw [rounds_succ]
  go_wp2_with (go_at_call 129; refine (ins_none p cap fv _).mono ?_; rintro e w' ⟨rfl, rfl⟩)
  (try simp only [Exit.inBlock, Exit.then]); refine bodyPost_ret (results_none rfl _ _ _) rfl ?_
  exact ⟨rfl, rfl⟩
set_option maxHeartbeats 1000000 in
theorem sort_none (p : Option Addr) (cap : Nat) (fv : Value) (w : World) : Calls Tryz.prog 75 #[.slice p 0 cap, fv] w fun e w' => e = .returned (.tuple #[]) ∧ w' = w := by
  have hl := fun W => Tryz.bits_Len 0 W (by omega) (by omega)
  go_enter Tryz.func75, Tryz.ntmps75
  go_wp2_with (go_at_call 114; refine (hl _).mono ?_; rintro e w' ⟨rfl, rfl⟩)
  go_wp2_with (go_at_call 113; refine (pdq_none p cap _ fv _).mono ?_; rintro e w' ⟨rfl, rfl⟩)
  go_end0
  exact ⟨rfl, rfl⟩

def SortedTo (B : Nat) (v : Value) (n : Nat) (ss : List ByteArray) (w : World) (e : Ending) (w' : World) : Prop :=
  e = .returned (.tuple #[]) ∧ w'.ownsRow B 9 1 v n ((srt (ss.map bsOf)).map encStr) ∧ Below B w w'

theorem sort_own (w : World) (B : Nat) (v : Value) (ss : List ByteArray) (h : w.ownsRow B 9 1 v ss.length (ss.map Value.string)) (hl : ss.length ≤ 1000000) :
    Calls Tryz.prog 75 #[v, .func (.func 76) #[] #[]] w (SortedTo B v ss.length ss w) := by
  have eg : ∀ args w, (callFunc 76 args).run Tryz.prog w = .ok (.enter 76 args) w := enters_of Tryz.func76 (by kernel_rfl) rfl
  rcases Nat.eq_zero_or_pos ss.length with h0 | h0
  · have e : ss = [] := List.eq_nil_of_length_eq_zero h0
    subst e
    obtain ⟨A, c, rfl⟩ := own_form h
    refine (sort_none A c (.func (.func 76) #[] #[]) w).mono fun e w' ⟨he, hw⟩ => ?_
    subst hw
    exact ⟨he, by simpa [srt] using h, Below.refl _ _⟩
  · rcases h.2 with ⟨_, h1⟩ | ⟨g, cap, cur, rfl, hB, hb, hn, hm, hs, ht⟩
    · omega
    · rw [Nat.mul_one] at ht
      have ht' : cur.toList.take (ss.map bsOf).length = (ss.map bsOf).map encStr := by rw [enc_bsOf, List.length_map]; exact ht
      have hg : g < w.heap.size := (Array.getElem?_eq_some_iff.1 hb).1
      have hsz : (ss.map bsOf).toArray.size = ss.length := by simp
      have sf := (Any.slices_SortFunc Tryz.laysSlF6_f75 encStr (fun _ => rfl) compareBytes cmp_swo 76 #[] g 0 cap (ss.map bsOf).toArray w eg (comp_reads g 0 _ w).lays (holds_of_block hb ht') hg (by rw [hsz]; omega)).mono fun (e : Ending) (w' : World) ⟨he, d', n, os, hp, hs, hw⟩ => (⟨he, n, os, by rw [hw, ← sorted_unique_holds cmp_swo cmp_tot (ss.map bsOf).toArray d' hp hs]⟩ : e = Ending.returned (.tuple #[]) ∧ ∃ n os, w' = sortWorld encStr w g 0 n ((ss.map bsOf).toArray.toList.mergeSort fun x y => !(ltOf compareBytes) y x).toArray os)
      rw [hsz] at sf
      refine sf.mono ?_
      rintro e w' ⟨he, n, os, hw⟩
      have hw' : w' = grow (putRow encStr (Sort.ahead w n) g 0 (srt (ss.map bsOf)).toArray) os := hw
      subst hw'
      have hlen : (srt (ss.map bsOf)).length = (ss.map bsOf).length := srt_len _
      refine ⟨he, ?_, ?_⟩
      · have := ownsRow_sorted (w := w) (base := B) (n := n) (os := os) (ts := srt (ss.map bsOf)) (ss := ss.map bsOf) hlen hB hb (by rw [List.length_map]; exact hn) hm hs
        rw [List.length_map] at this
        exact this
      · exact (Below.refl B w).grown (grownBy_sorted _) (by omega) fun z hz => by
          have : z = g := by simpa using hz.symm
          omega

def CompactedTo (B : Nat) (ss : List ByteArray) (w : World) (e : Ending) (w' : World) : Prop :=
  ∃ u, e = .returned u ∧ w'.ownsRow B 9 1 u (nrm ss).length ((nrm ss).map Value.string) ∧ Below B w w'

theorem compact_own (w : World) (B : Nat) (v : Value) (n : Nat) (ss : List ByteArray) (h : w.ownsRow B 9 1 v n ((srt (ss.map bsOf)).map encStr)) (hl : ss.length ≤ 1000000) :
    Calls Tryz.prog 77 #[v] w (CompactedTo B ss w) := by
  have hn0 : n = ss.length := by have := h.1; rw [List.length_map, srt_len, List.length_map] at this; omega
  have hlen : (srt (ss.map bsOf)).length = ss.length := by rw [srt_len, List.length_map]
  subst hn0
  rcases Nat.eq_zero_or_pos ss.length with h0 | h0
  · have e : ss = [] := List.eq_nil_of_length_eq_zero h0
    subst e
    obtain ⟨A, c, rfl⟩ := own_form h
    refine (Tryz.slices_Compact_string_empty A c w).mono fun e w' ⟨he, hw⟩ => ?_
    subst hw
    exact ⟨_, he, by simpa [srt, nrm, compact, compactUpTo] using h, Below.refl _ _⟩
  · rcases h.2 with ⟨_, h1⟩ | ⟨g, cap, cur, rfl, hB, hb, hn, hm, hs, ht⟩
    · omega
    · rw [Nat.mul_one] at ht
      have ht' : cur.toList.take (srt (ss.map bsOf)).length = (srt (ss.map bsOf)).map encStr := by rw [hlen]; exact ht
      have := Tryz.slices_Compact_string g 0 cap (srt (ss.map bsOf)) w (holds_of_block hb ht') (by rw [hlen]; omega) (by rw [hlen]; exact hn)
      rw [hlen] at this
      refine this.mono fun e w' ⟨he, q, hw⟩ => ?_
      obtain ⟨ts, hts⟩ : ∃ ts, ts = compact (srt (ss.map bsOf)) ++ List.replicate (ss.length - (compact (srt (ss.map bsOf))).length) [] := ⟨_, rfl⟩
      rw [← hts] at hw
      have hk : (compact (srt (ss.map bsOf))).length ≤ ss.length := by have := nrm_len ss; unfold nrm at this; rw [List.length_map] at this; exact this
      have htl : ts.length = ss.length := by rw [hts, List.length_append, List.length_replicate]; omega
      have hw2 : w' = grow (putRow encStr (Sort.ahead w q) g 0 ts.toArray) #[] := by rw [hw, grow_empty]
      subst hw2
      have hcs : ts.length ≤ cur.size := by rw [hs, htl]; omega
      have hnl : (nrm ss).length = (compact (srt (ss.map bsOf))).length := by unfold nrm; rw [List.length_map]
      refine ⟨_, by rw [he, ← hnl], ⟨by rw [List.length_map, Nat.mul_one], .inr ⟨g, cap, _, rfl, hB, heap_sorted _ hb, by omega, hm, by simp [putCells, hs], ?_⟩⟩, ?_⟩
      · have := take_putCells cur ts hcs
        rw [Nat.mul_one]
        have e1 : ((putCells encStr 0 ts.toArray cur).toList.take ts.length).take (nrm ss).length = (ts.map encStr).take (nrm ss).length := by rw [this]
        rw [List.take_take, Nat.min_eq_left (by omega)] at e1
        rw [e1, hts, List.map_append, List.take_append_of_le_length (by rw [List.length_map]; omega), List.take_of_length_le (by rw [List.length_map]; omega)]
        unfold nrm
        rw [enc_mkB]
      · have hg : g < w.heap.size := (Array.getElem?_eq_some_iff.1 hb).1
        exact (Below.refl B w).grown (grownBy_sorted _) (by omega) fun z hz => by
          have : z = g := by simpa using hz.symm
          omega
end Go.Proofs.YtdmmjfmjohliiaaGreatDoor
namespace Go.Proofs.YtdmmjfmjohliiaaGreatDoor
open Go.RowKit

/-- The paths that are in conflict. -/
def confE (l : List En) : List ByteArray := (l.filter fun e => decide (e.2.1 ≠ 0)).map (·.1)
theorem confE_snoc (l : List En) (e : En) : confE (l ++ [e]) = confE l ++ (if e.2.1 ≠ 0 then [e.1] else []) := by
  unfold confE
  rw [List.filter_append, List.map_append]
  congr 1
  by_cases h : e.2.1 = 0 <;> simp [h]
theorem confE_len (l : List En) : (confE l).length ≤ l.length := by
  unfold confE
  rw [List.length_map]
  exact List.length_filter_le _ _
theorem str_snoc (l : List ByteArray) (s : ByteArray) : (l ++ [s]).map Value.string = l.map Value.string ++ [.string s] := by simp

/-- A row of texts of the call's own. -/
def TextsTo (ss : List ByteArray) (w : World) (e : Ending) (w' : World) : Prop :=
  ∃ u, e = .returned u ∧ w'.ownsRow w.heap.size 9 1 u ss.length (ss.map Value.string) ∧ Below w.heap.size w w'

set_option maxHeartbeats 2000000 in
theorem conflicts_any (w : World) (v : Value) (l : List En) (h : Reads 6 cE w v l) (hl : l.length ≤ 100000) :
    Calls Tryz.prog 32 #[v] w (TextsTo (nrm (confE l)) w) := by
  obtain ⟨A, c, rfl⟩ := h.form
  have hn := h.len
  have hnm : l.length ≤ 9223372036854775807 := by omega
  have HO := Lib.hid h
  obtain ⟨i0, hi, hz0, hz1, hz2⟩ := info_parts strInfo
  clear h hn
  go_enter Tryz.func32, Tryz.ntmps32
  go_wp2
  go_loopw [3, 8] (fun s3 s8 wr => ∃ i : Nat, i ≤ l.length ∧ s8 = .int .i64 i ∧ Hid (wr.ownsRow w.heap.size 9 1 s3 (confE (l.take i)).length ((confE (l.take i)).map Value.string)) ∧ Below w.heap.size w wr) (fun _ s8 _ => l.length - (intOf s8).toNat)
  case atStart => exact ⟨0, Nat.zero_le _, rfl, Lib.hid (World.ownsRow_nil _ _ _ _), Below.refl _ _⟩
  case round =>
    obtain ⟨i, hil, rfl, hown, hb⟩ := hrel
    by_cases hlt : i < l.length
    · obtain ⟨e, he⟩ : ∃ e, l[i]? = some e := ⟨_, List.getElem?_eq_getElem hlt⟩
      obtain ⟨ad, rfl, c0, c1, c2, c3, c4, c5⟩ := Ents.at_ (HO.out.below hb) he
      have HT := Lib.hid (show confE (l.take (i + 1)) = confE (l.take i) ++ (if e.2.1 ≠ 0 then [e.1] else []) by rw [take_snoc he, confE_snoc])
      have hsl := Nat.le_trans (confE_len (l.take i)) (by rw [List.length_take]; omega : (l.take i).length ≤ 100000)
      obtain ⟨p, st, m, d, tm, sz⟩ := e
      have i0' : (0 : Int) ≤ (i : Int) := Int.natCast_nonneg _
      have hi1 : (i : Int) < (l.length : Int) := by omega
      have hcl := World.block_lt_of_cell? _ _ c0
      have hsz := hb.size
      clear he
      by_cases hst : st = 0
      · subst hst
        have hst' : Hid ((if (0 : Int) ≠ 0 then [p] else []) = ([] : List ByteArray)) := Lib.hid (if_neg (by decide))
        have hown4 := hown.out.alloc (.cells #[.string p, .int .i64 0, .int .i64 m, .string d, .int .i64 tm, .int .i64 sz] 69)
        have hb4 := hb.alloc hsz (.cells #[.string p, .int .i64 0, .int .i64 m, .string d, .int .i64 tm, .int .i64 sz] 69)
        go_wp2
        go_roundw
        case rel => exact ⟨i + 1, by omega, by go_num, Lib.hid (by rw [HT.out, hst'.out, List.append_nil]; exact hown4), hb4⟩
        case measure => simp [intOf]; omega
      · have hst' : Hid ((if st ≠ 0 then [p] else []) = [p]) := Lib.hid (if_pos hst)
        have hbe : (st != 0) = true := by simpa using hst
        have hown4 := ((hown.out.alloc (.cells #[.string p, .int .i64 st, .int .i64 m, .string d, .int .i64 tm, .int .i64 sz] 69)).alloc (.cells #[.string p] 9))
        have hnews := news_one (wr.alloc (.cells #[.string p, .int .i64 st, .int .i64 m, .string d, .int .i64 tm, .int .i64 sz] 69)) #[.string p] 9 (wr.heap.size + 1) (by simp)
        go_wp2_with (at_builtin; refine wpList_append_own _ rfl _ _ 25 rfl w.heap.size 9 i0 (.string { data := #[] }) 1 16 Tryz.underlying25 hi hz0 hz1 hz2 rfl (by decide) _ _ _ rfl hown4 ⟨wr.heap.size + 1, 0, none⟩ 1 1 [.string p] rfl rfl hnews (by simp [Value.oneCell']) (by unfold maxLen; omega) (by omega) (by simp; omega) ?_; intro v5 w5 hown5 hg5 _)
        have hb5 : Below w.heap.size w w5 := ((hb.alloc hsz _).alloc (by simp; omega) _).grown hg5 (by simp; omega) (fun k hk => (hown.out.lt k hk).1)
        clear hnews hown4 hg5
        go_roundw
        case rel => exact ⟨i + 1, by omega, by go_num, Lib.hid (by rw [HT.out, hst'.out, List.length_append, str_snoc]; exact hown5), hb5⟩
        case measure => simp [intOf]; omega
    · obtain rfl : i = l.length := by omega
      rw [List.take_length] at hown
      have hcl2 := Nat.le_trans (confE_len l) hl
      go_wp2_with fail
      refine (sort_own wr _ _ _ hown.out (by omega)).mono ?_
      rintro e w2 ⟨rfl, ho2, hb2⟩
      go_wp2_with fail
      refine (compact_own w2 _ _ _ _ ho2 (by omega)).mono ?_
      rintro e w3 ⟨u, rfl, ho3, hb3⟩
      go_wp2
      go_ret
      exact ⟨_, rfl, ho3, (hb.trans hb2).trans hb3⟩

/-- The paths of trees. -/
def pathsR (rs : List (Value × List Fl)) : List ByteArray := rs.flatMap fun r => r.2.map (·.1)
theorem pathsR_snoc (rs : List (Value × List Fl)) (r : Value × List Fl) : pathsR (rs ++ [r]) = pathsR rs ++ r.2.map (·.1) := by simp [pathsR]
theorem pathsR_take (rs : List (Value × List Fl)) (i : Nat) : (pathsR (rs.take i)).length ≤ (pathsR rs).length := by
  conv => rhs; rw [← List.take_append_drop i rs]
  unfold pathsR
  rw [List.flatMap_append, List.length_append]
  omega
/-- Trees in a row. -/
def Trees (w : World) (ad : Addr) (rs : List (Value × List Fl)) : Prop := ∀ (i : Nat) (r : Value × List Fl), rs[i]? = some r → w.cell? (ad.add i) = some r.1 ∧ Reads 3 cF w r.1 r.2
theorem Trees.below {w w' : World} {ad : Addr} {rs : List (Value × List Fl)} (h : Trees w ad rs) (hb : Below w.heap.size w w') : Trees w' ad rs := fun i r hr =>
  ⟨(hb.cell (World.block_lt_of_cell? _ _ (h i r hr).1)).trans (h i r hr).1, (h i r hr).2.below hb⟩

set_option maxHeartbeats 4000000 in
theorem paths_any (w : World) (ad : Addr) (c : Nat) (rs : List (Value × List Fl)) (h : Trees w ad rs) (hl : rs.length ≤ 1000) (hp : (pathsR rs).length ≤ 100000) :
    Calls Tryz.prog 116 #[.slice (some ad) rs.length c] w (TextsTo (nrm (pathsR rs)) w) := by
  have hnm : rs.length ≤ 9223372036854775807 := by omega
  have HO := Lib.hid h
  obtain ⟨i0, hi, hz0, hz1, hz2⟩ := info_parts strInfo
  clear h
  go_enter Tryz.func116, Tryz.ntmps116
  go_wp2
  go_loopw [3, 10] (fun s3 s10 wr => ∃ i : Nat, i ≤ rs.length ∧ s10 = .int .i64 i ∧ Hid (wr.ownsRow w.heap.size 9 1 s3 (pathsR (rs.take i)).length ((pathsR (rs.take i)).map Value.string)) ∧ Below w.heap.size w wr) (fun _ s10 _ => rs.length - (intOf s10).toNat)
  case atStart => exact ⟨0, Nat.zero_le _, rfl, Lib.hid (World.ownsRow_nil _ _ _ _), Below.refl _ _⟩
  case round =>
    obtain ⟨i, hil, rfl, hown, hb⟩ := hrel
    by_cases hlt : i < rs.length
    · obtain ⟨r, hr⟩ : ∃ r, rs[i]? = some r := ⟨_, List.getElem?_eq_getElem hlt⟩
      have HT := Lib.hid (show pathsR (rs.take (i + 1)) = pathsR (rs.take i) ++ r.2.map (·.1) by rw [take_snoc hr, pathsR_snoc])
      have hle := pathsR_take rs (i + 1)
      rw [HT.out, List.length_append, List.length_map] at hle
      have c0 := ((HO.out.below hb) i r hr).1
      have hrd := (HO.out i r hr).2
      obtain ⟨rv, l⟩ := r
      obtain ⟨B, d, hrv⟩ := hrd.form
      simp only at hrv
      subst hrv
      have hnl := hrd.len
      have HR := Lib.hid hrd
      have i0' : (0 : Int) ≤ (i : Int) := Int.natCast_nonneg _
      have hi1 : (i : Int) < (rs.length : Int) := by omega
      have hcl := World.block_lt_of_cell? _ _ c0
      have hsz := hb.size
      have hlm : l.length ≤ 9223372036854775807 := by simp only at hle; omega
      obtain ⟨acc, hacc⟩ : ∃ acc, acc = pathsR (rs.take i) := ⟨_, rfl⟩
      rw [← hacc] at hown HT hle
      clear hr hrd hnl hacc
      go_wp2
      go_loopw [3, 16] (fun s3 s16 wq => ∃ j : Nat, j ≤ l.length ∧ s16 = .int .i64 j ∧ Hid (wq.ownsRow w.heap.size 9 1 s3 (acc.length + j) ((acc ++ (l.take j).map (·.1)).map Value.string)) ∧ Below w.heap.size w wq) (fun _ s16 _ => l.length - (intOf s16).toNat)
      case atStart => exact ⟨0, Nat.zero_le _, rfl, Lib.hid (by rw [List.take_zero, List.map_nil, List.append_nil]; exact hown.out), hb⟩
      case round =>
        obtain ⟨j, hjl, rfl, hown, hb⟩ := hrel
        by_cases hjt : j < l.length
        · obtain ⟨f, hf⟩ : ∃ f, l[j]? = some f := ⟨_, List.getElem?_eq_getElem hjt⟩
          obtain ⟨ad2, rfl, c0, c1, c2⟩ := Fils.at_ (HR.out.below hb) hf
          obtain ⟨p, m, dd⟩ := f
          have HE := Lib.hid (show acc ++ (l.take (j + 1)).map (fun x => x.1) = (acc ++ (l.take j).map (fun x => x.1)) ++ [p] by rw [take_snoc hf]; simp)
          have j0' : (0 : Int) ≤ (j : Int) := Int.natCast_nonneg _
          have hj1 : (j : Int) < (l.length : Int) := by omega
          have hcl := World.block_lt_of_cell? _ _ c0
          have hsz := hb.size
          have hown4 := ((hown.out.alloc (.cells #[.string p, .int .i64 m, .string dd] 56)).alloc (.cells #[.string p] 9))
          have hnews := news_one (wr.alloc (.cells #[.string p, .int .i64 m, .string dd] 56)) #[.string p] 9 (wr.heap.size + 1) (by simp)
          clear hf
          go_wp2_with (at_builtin; refine wpList_append_own _ rfl _ _ 25 rfl w.heap.size 9 i0 (.string { data := #[] }) 1 16 Tryz.underlying25 hi hz0 hz1 hz2 rfl (by decide) _ _ _ rfl hown4 ⟨wr.heap.size + 1, 0, none⟩ 1 1 [.string p] rfl rfl hnews (by simp [Value.oneCell']) (by unfold maxLen; omega) (by omega) (by simp; omega) ?_; intro v5 w5 hown5 hg5 _)
          have hb5 : Below w.heap.size w w5 := ((hb.alloc hsz _).alloc (by simp; omega) _).grown hg5 (by simp; omega) (fun k hk => (hown.out.lt k hk).1)
          clear hnews hown4 hg5
          go_roundw
          case rel => exact ⟨j + 1, by omega, by go_num, Lib.hid (by rw [HE.out, str_snoc, ← Nat.add_assoc]; exact hown5), hb5⟩
          case measure => simp [intOf]; omega
        · obtain rfl : j = l.length := by omega
          go_wp2
          go_roundw
          case rel => exact ⟨i + 1, by omega, by go_num, Lib.hid (by rw [HT.out, List.length_append, List.length_map]; rw [List.take_length] at hown; exact hown.out), hb⟩
          case measure => simp [intOf]; omega
    · obtain rfl : i = rs.length := by omega
      rw [List.take_length] at hown
      go_wp2_with fail
      refine (sort_own wr _ _ _ hown.out (by omega)).mono ?_
      rintro e w2 ⟨rfl, ho2, hb2⟩
      go_wp2_with fail
      refine (compact_own w2 _ _ _ _ ho2 (by omega)).mono ?_
      rintro e w3 ⟨u, rfl, ho3, hb3⟩
      go_wp2
      go_ret
      exact ⟨_, rfl, ho3, (hb.trans hb2).trans hb3⟩
end Go.Proofs.YtdmmjfmjohliiaaGreatDoor
namespace Go.Proofs.YtdmmjfmjohliiaaGreatDoor
open Go.RowKit

theorem fcmp_any (f : Fl) (s : ByteArray) (w : World) :
    Calls Tryz.prog 106 #[.agg #[.string f.1, .int .i64 f.2.1, .string f.2.2], .string s] w fun e w' => e = .returned (.int .i64 (cb f.1 s)) ∧ Below w.heap.size w w' := by
  go_enter Tryz.func106, Tryz.ntmps106
  go_wp2_with (go_at_call 76; refine (comp_any _ _ _).mono ?_; rintro e w' ⟨rfl, rfl⟩)
  go_ret
  exact ⟨rfl, (Below.refl _ _).alloc (Nat.le_refl _) _⟩

theorem ret_fb {a b : Int} {p q : Bool} (h : a = b) (g : p = q) : Ending.returned (.tuple #[.int .i64 a, .bool p]) = .returned (.tuple #[.int .i64 b, .bool q]) := by rw [h, g]
theorem cb_hit {x s : ByteArray} : ((cb x s == 0) : Bool) = decide (cb x s = 0) := by
  by_cases h : cb x s = 0
  · simp [h]
  · simp [h]
/-- All files ahead of i come ahead of s. -/
def SplitF (l : List Fl) (s : ByteArray) (i : Nat) : Prop := (∀ (t : Nat) (x : Fl), t < i → l[t]? = some x → cb x.1 s < 0) ∧ (∀ (t : Nat) (x : Fl), i ≤ t → l[t]? = some x → 0 ≤ cb x.1 s)
/-- Where the file at s stands, and whether it is there. -/
def FoundF (l : List Fl) (s : ByteArray) (w : World) (e : Ending) (w' : World) : Prop :=
  ∃ (i : Nat) (b : Bool), e = .returned (.tuple #[.int .i64 i, .bool b]) ∧ Below w.heap.size w w' ∧ i ≤ l.length ∧ SplitF l s i ∧ (b = true → ∃ f, l[i]? = some f ∧ getF l s = some f) ∧ (b = false → getF l s = none)

set_option maxHeartbeats 2000000 in
theorem search_any (w : World) (v : Value) (l : List Fl) (s : ByteArray) (h : Reads 3 cF w v l) (hr : RiseF l) (hl : l.length ≤ 100000) :
    Calls Tryz.prog 105 #[v, .string s, .func (.func 106) #[] #[]] w (FoundF l s w) := by
  obtain ⟨A, c, rfl⟩ := h.form
  have hn := h.len
  have HO := Lib.hid h
  have HR := Lib.hid hr
  have hrise : Hid (∀ (i j : Nat) (x y : Fl), i < j → l[i]? = some x → l[j]? = some y → cb x.1 y.1 < 0) := Lib.hid fun i j x y hij hx hy => by
    obtain ⟨hi, rfl⟩ := List.getElem?_eq_some_iff.1 hx
    obtain ⟨hj, rfl⟩ := List.getElem?_eq_some_iff.1 hy
    exact List.pairwise_iff_getElem.1 HR.out i j hi hj hij
  clear h hr hn
  go_enter Tryz.func105, Tryz.ntmps105
  go_wp2
  go_loopw [9, 10] (fun s9 s10 wr => ∃ lo hi : Nat, s9 = .int .i64 lo ∧ s10 = .int .i64 hi ∧ lo ≤ hi ∧ hi ≤ l.length ∧ Below w.heap.size w wr ∧
    Hid ((∀ (t : Nat) (x : Fl), t < lo → l[t]? = some x → cb x.1 s < 0) ∧ (∀ (t : Nat) (x : Fl), hi ≤ t → l[t]? = some x → 0 ≤ cb x.1 s))) (fun s9 s10 _ => (intOf s10).toNat - (intOf s9).toNat)
  case atStart => exact ⟨0, l.length, rfl, rfl, Nat.zero_le _, Nat.le_refl _, Below.refl _ _, ⟨fun t x ht => absurd ht (Nat.not_lt_zero _), fun t x ht hx => by have := (List.getElem?_eq_some_iff.1 hx).1; omega⟩⟩
  case round =>
    obtain ⟨lo, hi, rfl, rfl, hlh, hin, hb, I⟩ := hrel
    by_cases hlt : lo < hi
    · have hm1 : lo ≤ (lo + hi) / 2 := by omega
      have hm2 : (lo + hi) / 2 < hi := by omega
      obtain ⟨x, hx⟩ : ∃ x, l[(lo + hi) / 2]? = some x := ⟨_, List.getElem?_eq_getElem (by omega)⟩
      obtain ⟨ad, rfl, c0, c1, c2⟩ := Fils.at_ (HO.out.below hb) hx
      have HX := Lib.hid hx
      clear hx
      by_cases hyx : cb x.1 s < 0
      · go_wp2_with (go_at_call 106; refine (fcmp_any x s _).mono ?_; rintro e w' ⟨rfl, hb'⟩)
        go_roundw
        case rel => exact ⟨(lo + hi) / 2 + 1, hi, by go_num, rfl, by omega, hin, hb.trans (hb'.mono hb.size), ⟨fun t y ht hy => by
          rcases Nat.lt_or_ge t ((lo + hi) / 2) with h1 | h1
          · have := hrise.out t ((lo + hi) / 2) y x h1 hy HX.out
            exact cb_trans this hyx
          · obtain rfl : t = (lo + hi) / 2 := by omega
            rw [HX.out] at hy
            obtain rfl := Option.some.inj hy
            exact hyx, I.out.2⟩⟩
        case measure => simp [intOf]; omega
      · go_wp2_with (go_at_call 106; refine (fcmp_any x s _).mono ?_; rintro e w' ⟨rfl, hb'⟩)
        go_roundw
        case rel => exact ⟨lo, (lo + hi) / 2, rfl, by go_num, by omega, by omega, hb.trans (hb'.mono hb.size), ⟨I.out.1, fun t y ht hy => by
          rcases Nat.eq_or_lt_of_le ht with h1 | h1
          · rw [← h1, HX.out] at hy
            obtain rfl := Option.some.inj hy
            omega
          · have := hrise.out ((lo + hi) / 2) t x y h1 HX.out hy
            rcases Int.lt_or_le (cb y.1 s) 0 with h2 | h2
            · exact absurd (cb_trans this h2) (by omega)
            · exact h2⟩⟩
        case measure => simp [intOf]; omega
    · obtain rfl : hi = lo := by omega
      have HP := Lib.hid (getF_at HR.out I.out.1 I.out.2)
      by_cases hlen : hi < l.length
      · obtain ⟨x, hx⟩ : ∃ x, l[hi]? = some x := ⟨_, List.getElem?_eq_getElem hlen⟩
        obtain ⟨ad, rfl, c0, c1, c2⟩ := Fils.at_ (HO.out.below hb) hx
        have HX := Lib.hid hx
        clear hx
        go_wp2_with (go_at_call 106; refine (fcmp_any x s _).mono ?_; rintro e w' ⟨rfl, hb'⟩)
        go_ret2
        refine ⟨hi, decide (cb x.1 s = 0), ret_fb rfl cb_hit, hb.trans (hb'.mono hb.size), hin, I.out, fun hd => ⟨x, HX.out, ?_⟩, fun hd => ?_⟩
        · rw [HP.out, HX.out]; simp only [of_decide_eq_true hd, if_true]
        · rw [HP.out, HX.out]; simp only [of_decide_eq_false hd, if_false]
      · go_wp2_with fail
        go_ret2
        refine ⟨hi, false, rfl, hb, hin, I.out, (fun hd => by cases hd), fun _ => ?_⟩
        rw [HP.out, List.getElem?_eq_none (by omega)]

set_option maxHeartbeats 1000000 in
theorem find_any (w : World) (v : Value) (l : List Fl) (s : ByteArray) (h : Reads 3 cF w v l) (hr : RiseF l) (hl : l.length ≤ 100000) :
    Calls Tryz.prog 65 #[v, .string s] w (FoundF l s w) := by
  have S := Lib.hid fun W hW => search_any W v l s (h.below hW) hr hl
  clear h hr
  go_enter Tryz.func65, Tryz.ntmps65
  go_wp2_with fail
  refine (S.out _ (Below.refl _ _)).mono ?_
  rintro e w' ⟨i, b, rfl, hb, hi, h0, h1, h2⟩
  have H0 := Lib.hid h0
  have H1 := Lib.hid h1
  have H2 := Lib.hid h2
  clear h0 h1 h2
  go_wp2
  go_ret2
  exact ⟨i, b, rfl, hb, hi, H0.out, H1.out, H2.out⟩

/-- A file found, or none. -/
def gotV : Option Fl → Value
  | some f => .tuple #[.agg #[.string f.1, .int .i64 f.2.1, .string f.2.2], .bool true]
  | none => .tuple #[.agg #[.string ⟨#[]⟩, .int .i64 0, .string ⟨#[]⟩], .bool false]
def Got (o : Option Fl) (w : World) (e : Ending) (w' : World) : Prop := e = .returned (gotV o) ∧ Below w.heap.size w w'

theorem results_row_tmp {P : Program} {fn : Func} {p u : Tmp} {ty : TypeId} (h : fn.results = #[.cell p ty, .tmp u]) (tmps : Array Value) (w : World) (g : Nat) (t : TypeId) (cs : Array Value) (fr : Nat × Nat) (d : TypeDesc)
    (hp : tmps.getD p undef = .pointer (some ⟨g, 0, none⟩)) (hg : w.heap[g]? = some (.cells cs t fr))
    (hu : P.underlying ty = some d) (hd : (match d with | .struct _ | .array _ _ => true | _ => false) = true) (hi : (P.info? ty).map (·.size) = some cs.size) :
    (results fn tmps).run P w = .ok (.tuple #[.agg cs, tmps.getD u undef]) w := by
  rw [results_cell_tmp h, hp]
  simp [asAddr, run_loadVar_row w g t ty cs fr d hg hu hd hi, Result.andThen]
theorem fileSize : (Tryz.prog.info? 56).map (·.size) = some 3 := by kernel_rfl
theorem set_row (w : World) (g : Nat) (t : TypeId) (cs : Array Value) (fr : Nat × Nat) (i : Nat) (u : Value) (h : w.heap[g]? = some (.cells cs t fr)) : (w.setCell ⟨g, i, none⟩ u).heap[g]? = some (.cells (cs.setIfInBounds i u) t fr) := by
  simp [World.setCell, Array.getElem?_modify, h]

set_option maxHeartbeats 1000000 in
theorem get_any (w : World) (v : Value) (l : List Fl) (s : ByteArray) (h : Reads 3 cF w v l) (hr : RiseF l) (hl : l.length ≤ 100000) :
    Calls Tryz.prog 23 #[v, .string s] w (Got (getF l s) w) := by
  obtain ⟨W1, hW1⟩ : ∃ W1, W1 = w.alloc (.cells #[.string ⟨#[]⟩, .int .i64 0, .string ⟨#[]⟩] 56) := ⟨_, rfl⟩
  have S := Lib.hid (find_any W1 v l s (by rw [hW1]; exact h.alloc _) hr hl)
  have B1 : Below w.heap.size w W1 := by rw [hW1]; exact (Below.refl _ _).alloc (Nat.le_refl _) _
  have K1 : W1.heap[w.heap.size]? = some (.cells #[.string ⟨#[]⟩, .int .i64 0, .string ⟨#[]⟩] 56 (0, 0)) := by rw [hW1]; exact heap_alloc_new w _
  have hs1 : W1.heap.size = w.heap.size + 1 := by rw [hW1]; simp
  obtain ⟨A, c, rfl⟩ := h.form
  have HO := Lib.hid h
  clear h hr
  go_enter Tryz.func23, Tryz.ntmps23
  go_wp2_with fail
  rw [← hW1]
  refine S.out.mono ?_
  rintro e w' ⟨i, b, rfl, hb, hi, -, h1, h2⟩
  obtain ⟨g, hg⟩ : ∃ g, g = w.heap.size := ⟨_, rfl⟩
  rw [← hg] at K1 ⊢
  have K2 : w'.heap[g]? = some (.cells #[.string ⟨#[]⟩, .int .i64 0, .string ⟨#[]⟩] 56 (0, 0)) := (hb.block g (by omega)).trans K1
  have hb2 : Below w.heap.size w w' := B1.trans (hb.mono (by omega))
  have d0 := cell_of_row w' g 0 _ 56 (0, 0) K2
  have d1 := cell_of_row w' g 1 _ 56 (0, 0) K2
  have d2 := cell_of_row w' g 2 _ 56 (0, 0) K2
  have e0 : w'.frozen? ⟨g, 0, none⟩ = false := by simp [World.frozen?, K2]
  have e1 : w'.frozen? ⟨g, 1, none⟩ = false := by simp [World.frozen?, K2]
  have e2 : w'.frozen? ⟨g, 2, none⟩ = false := by simp [World.frozen?, K2]
  have HK2 := Lib.hid K2
  have HHG := Lib.hid hg
  clear hW1 K1 K2 hg S
  cases b with
  | true =>
    obtain ⟨f, hf, hg⟩ := h1 rfl
    obtain ⟨ad, rfl, c0, c1, c2⟩ := Fils.at_ (HO.out.below hb2) hf
    have hil := (List.getElem?_eq_some_iff.1 hf).1
    have HG := Lib.hid hg
    clear hf hg h1 h2
    go_wp2
    refine bodyPost_ret (results_row_tmp (fn := Tryz.f23) rfl _ _ g 56 #[.string f.1, .int .i64 f.2.1, .string f.2.2] (0, 0) _ rfl (by first | exact set_row _ _ _ _ _ _ _ (set_row _ _ _ _ _ _ _ (set_row _ _ _ _ _ _ _ HK2.out)) | simpa using set_row _ _ _ _ _ _ _ (set_row _ _ _ _ _ _ _ (set_row _ _ _ _ _ _ _ HK2.out))) Tryz.underlying56 rfl fileSize) rfl ⟨by rw [HG.out]; rfl, ?_⟩
    have hle : w.heap.size ≤ g := by rw [HHG.out]; exact Nat.le_refl _
    exact ((hb2.setCell (p := ⟨g, 0, none⟩) hle _).setCell (p := ⟨g, 1, none⟩) hle _).setCell (p := ⟨g, 2, none⟩) hle _
  | false =>
    have HG := Lib.hid (h2 rfl)
    clear h1 h2
    go_wp2
    refine bodyPost_ret (results_row_tmp (fn := Tryz.f23) rfl _ _ g 56 #[.string ⟨#[]⟩, .int .i64 0, .string ⟨#[]⟩] (0, 0) _ rfl (by first | exact set_row _ _ _ _ _ _ _ (set_row _ _ _ _ _ _ _ (set_row _ _ _ _ _ _ _ HK2.out)) | simpa using set_row _ _ _ _ _ _ _ (set_row _ _ _ _ _ _ _ (set_row _ _ _ _ _ _ _ HK2.out))) Tryz.underlying56 rfl fileSize) rfl ⟨by rw [HG.out]; rfl, ?_⟩
    have hle : w.heap.size ≤ g := by rw [HHG.out]; exact Nat.le_refl _
    exact ((hb2.setCell (p := ⟨g, 0, none⟩) hle _).setCell (p := ⟨g, 1, none⟩) hle _).setCell (p := ⟨g, 2, none⟩) hle _
end Go.Proofs.YtdmmjfmjohliiaaGreatDoor
namespace Go.Proofs.YtdmmjfmjohliiaaGreatDoor
open Go.RowKit Go.Lib

theorem less_cmp : ∀ a b : List UInt8, Op.bytesLess a b = decide (compareBytes a b < 0)
  | [], [] => rfl
  | _ :: _, [] => by simp [Op.bytesLess, compareBytes]
  | [], _ :: _ => by simp [Op.bytesLess, compareBytes]
  | x :: a, y :: b => by
    unfold Op.bytesLess compareBytes
    rw [less_cmp a b]
    by_cases h1 : x < y
    · simp [h1]
    · by_cases h2 : y < x
      · have : ¬ x = y := fun e => by rw [e] at h2; exact absurd h2 (UInt8.lt_irrefl _)
        simp [h1, h2, this]
      · have : x = y := UInt8.le_antisymm (UInt8.not_lt.1 h2) (UInt8.not_lt.1 h1)
        simp [this]
theorem less_cb (a b : ByteArray) : Op.bytesLess a.toList b.toList = decide (cb a b < 0) := by
  rw [ByteArray.toList_eq, ByteArray.toList_eq, less_cmp]
  rfl
theorem rise_split : ∀ (ss : List ByteArray) (p : ByteArray), RiseP ss → ∃ k, k ≤ ss.length ∧ (∀ t, t < k → cb (ss.getD t p) p < 0) ∧ (∀ t, k ≤ t → ¬ cb (ss.getD t p) p < 0)
  | [], p, _ => ⟨0, Nat.le_refl _, fun t h => absurd h (Nat.not_lt_zero _), fun t _ => by simp [cb_self]⟩
  | a :: l, p, h => by
    have hp := List.pairwise_cons.1 h
    by_cases ha : cb a p < 0
    · obtain ⟨k, hk, h1, h2⟩ := rise_split l p hp.2
      refine ⟨k + 1, by simpa using hk, fun t ht => ?_, fun t ht => ?_⟩
      · cases t with
        | zero => simpa using ha
        | succ t => simpa using h1 t (by omega)
      · cases t with
        | zero => omega
        | succ t => simpa using h2 t (by omega)
    · refine ⟨0, Nat.zero_le _, fun t ht => absurd ht (Nat.not_lt_zero _), fun t _ => ?_⟩
      cases t with
      | zero => simpa using ha
      | succ t =>
        intro hc
        rw [List.getD_cons_succ] at hc
        by_cases htl : t < l.length
        · have hx : l.getD t p ∈ l := by rw [List.getD_eq_getElem?_getD, List.getElem?_eq_getElem htl]; simp
          exact ha (cb_trans (hp.1 _ hx) hc)
        · rw [List.getD_eq_getElem?_getD, List.getElem?_eq_none (by omega)] at hc
          simp [cb_self] at hc
theorem rise_mem {ss : List ByteArray} {p : ByteArray} (hr : RiseP ss) {k : Nat} (h1 : ∀ t, t < k → cb (ss.getD t p) p < 0) (h2 : ∀ t, k ≤ t → ¬ cb (ss.getD t p) p < 0) : (k < ss.length ∧ ss.getD k p = p) ↔ p ∈ ss := by
  constructor
  · rintro ⟨hk, he⟩
    rw [List.getD_eq_getElem?_getD, List.getElem?_eq_getElem hk] at he
    simp at he
    rw [← he]
    exact List.getElem_mem hk
  · intro hm
    obtain ⟨t, ht, e⟩ := List.getElem_of_mem hm
    have et : ss.getD t p = p := by rw [List.getD_eq_getElem?_getD, List.getElem?_eq_getElem ht]; simpa using e
    have hkt : k ≤ t := by
      rcases Nat.lt_or_ge t k with h | h
      · have := h1 t h
        rw [et, cb_self] at this
        omega
      · exact h
    rcases Nat.eq_or_lt_of_le hkt with e1 | e1
    · subst e1
      exact ⟨ht, et⟩
    · exfalso
      have hk : k < ss.length := by omega
      have hlt := List.pairwise_iff_getElem.1 hr k t hk ht e1
      rw [e] at hlt
      refine h2 k (Nat.le_refl _) ?_
      rw [List.getD_eq_getElem?_getD, List.getElem?_eq_getElem hk]
      simpa using hlt

/-- Whether the path is there. -/
def hasP (ss : List ByteArray) (p : ByteArray) : Bool := ss.any fun x => decide (x = p)
theorem hasP_iff {ss : List ByteArray} {p : ByteArray} : hasP ss p = true ↔ p ∈ ss := by
  unfold hasP
  rw [List.any_eq_true]
  constructor
  · rintro ⟨x, hx, e⟩
    rw [← of_decide_eq_true e]
    exact hx
  · intro h
    exact ⟨p, h, decide_eq_true rfl⟩
theorem hasP_eq {ss : List ByteArray} {p : ByteArray} {q : Prop} [Decidable q] (h : q ↔ p ∈ ss) : decide q = hasP ss p := by
  rw [Bool.eq_iff_iff, decide_eq_true_iff, hasP_iff]
  exact h
/-- From one to the other, each a file or none: A, D, M, or a blank. -/
def unl : Option Fl → Option Fl → Int
  | none, none => 32
  | none, some _ => 65
  | some _, none => 68
  | some f, some g => if f = g then 32 else 77
/-- .. where what is new is not known yet. -/
def chg (a b : Option Fl) : Int := if unl a b = 65 then 63 else unl a b
theorem unl_cases (a b : Option Fl) : unl a b = 32 ∨ unl a b = 65 ∨ unl a b = 68 ∨ unl a b = 77 := by
  cases a with
  | none => cases b <;> simp [unl]
  | some f =>
    cases b with
    | none => simp [unl]
    | some g =>
      show (if f = g then (32 : Int) else 77) = 32 ∨ _
      by_cases h : f = g
      · exact .inl (if_pos h)
      · exact .inr (.inr (.inr (if_neg h)))
theorem bytes_beq (x y : ByteArray) : (x.toList == y.toList) = decide (x = y) := by
  rw [ByteArray.toList_eq, ByteArray.toList_eq]
  by_cases e : x = y
  · simp [e]
  · simp [e]
    intro h
    exact e (ByteArray.ext h)

def LetterTo (n : Int) (w : World) (e : Ending) (w' : World) : Prop := e = .returned (.int .u8 n) ∧ Below w.heap.size w w'

theorem tl_eq {x y : ByteArray} (h : x.toList = y.toList) : x = y := by
  rw [ByteArray.toList_eq, ByteArray.toList_eq] at h
  apply ByteArray.ext
  simpa using h
def flZ : Option Fl → Fl
  | some f => f
  | none => (⟨#[]⟩, 0, ⟨#[]⟩)
theorem gotV_flZ (o : Option Fl) : gotV o = .tuple #[.agg #[.string (flZ o).1, .int .i64 (flZ o).2.1, .string (flZ o).2.2], .bool o.isSome] := by cases o <;> rfl
def GotB (x : Fl) (p : Bool) (w : World) (e : Ending) (w' : World) : Prop := e = .returned (.tuple #[.agg #[.string x.1, .int .i64 x.2.1, .string x.2.2], .bool p]) ∧ Below w.heap.size w w'

/-! ### A tree is what it has at its paths -/
theorem getF_mem {l : List Fl} {p : ByteArray} {f : Fl} (h : getF l p = some f) : f ∈ l := List.mem_of_find?_eq_some h
theorem mem_getF {l : List Fl} (hr : RiseF l) {f : Fl} (h : f ∈ l) : getF l f.1 = some f := by
  obtain ⟨t, ht, e⟩ := List.getElem_of_mem h
  have hx : l[t]? = some f := by rw [List.getElem?_eq_getElem ht, e]
  rw [getF_at (i := t) hr (fun s x hs hx' => ?_) (fun s x hs hx' => ?_), hx]
  · simp [cb_self]
  · obtain ⟨hs', rfl⟩ := List.getElem?_eq_some_iff.1 hx'
    have := List.pairwise_iff_getElem.1 hr s t hs' ht hs
    rw [e] at this
    exact this
  · obtain ⟨hs', rfl⟩ := List.getElem?_eq_some_iff.1 hx'
    rcases Nat.eq_or_lt_of_le hs with e2 | e2
    · subst e2
      rw [e, cb_self]
      exact Int.le_refl _
    · have := List.pairwise_iff_getElem.1 hr t s ht hs' e2
      rw [e] at this
      rw [cb_swap f.1]
      omega
theorem tree_ext {a b : List Fl} (ha : RiseF a) (hb : RiseF b) (h : ∀ p, getF a p = getF b p) : a = b := by
  have hn : ∀ {l : List Fl}, RiseF l → l.Nodup := fun hl => hl.imp fun {x y} h e => by rw [e, cb_self] at h; omega
  refine List.Perm.eq_of_pairwise (le := fun x y : Fl => cb x.1 y.1 < 0) (fun x y _ _ h1 h2 => ?_) ha hb ((List.perm_ext_iff_of_nodup (hn ha) (hn hb)).2 fun f => ?_)
  · rw [cb_swap x.1 y.1] at h2
    omega
  · constructor
    · intro hf
      have := mem_getF ha hf
      rw [h] at this
      exact getF_mem this
    · intro hf
      have := mem_getF hb hf
      rw [← h] at this
      exact getF_mem this
theorem getF_none {l : List Fl} {p : ByteArray} (h : p ∉ l.map (·.1)) : getF l p = none := by
  unfold getF
  rw [List.find?_eq_none]
  intro f hf e
  exact h (List.mem_map.2 ⟨f, hf, by simpa using e⟩)
theorem unl_eq {a b : Option Fl} (h : unl a b = 32) : a = b := by
  cases a with
  | none => cases b with
    | none => rfl
    | some g => simp [unl] at h
  | some f => cases b with
    | none => simp [unl] at h
    | some g =>
      by_cases e : f = g
      · rw [e]
      · simp [unl, e] at h
theorem unl_same (a : Option Fl) : unl a a = 32 := by cases a <;> simp [unl]
theorem chg_eq {a b : Option Fl} (h : chg a b = 32) : a = b := by
  unfold chg at h
  split at h
  · omega
  · exact unl_eq h
theorem chg_same (a : Option Fl) : chg a a = 32 := by unfold chg; rw [unl_same]; rfl

theorem rise_adj : ∀ (l : List Fl), (∀ (t : Nat) (x y : Fl), l[t]? = some x → l[t + 1]? = some y → cb x.1 y.1 < 0) → RiseF l
  | [], _ => List.Pairwise.nil
  | [x], _ => List.pairwise_singleton _ _
  | x :: y :: l, h => by
    have ih := rise_adj (y :: l) fun t a b ha hb => h (t + 1) a b (by simpa using ha) (by simpa using hb)
    have hxy : cb x.1 y.1 < 0 := h 0 x y rfl rfl
    refine List.pairwise_cons.2 ⟨fun z hz => ?_, ih⟩
    rcases List.mem_cons.1 hz with rfl | hz
    · exact hxy
    · exact cb_trans hxy ((List.pairwise_cons.1 ih).1 z hz)
theorem rise_at {l : List Fl} (h : RiseF l) {t : Nat} {x y : Fl} (hx : l[t]? = some x) (hy : l[t + 1]? = some y) : cb x.1 y.1 < 0 := by
  obtain ⟨hi, rfl⟩ := List.getElem?_eq_some_iff.1 hx
  obtain ⟨hj, rfl⟩ := List.getElem?_eq_some_iff.1 hy
  exact List.pairwise_iff_getElem.1 h t (t + 1) hi hj (by omega)

theorem drewN_two (w : World) (a b : Nat) : (w.drewN a).drewN b = w.drewN (a + b) := by simp [World.drewN, Nat.add_assoc]
theorem strs_at {w : World} {A : Option Addr} {n c : Nat} {ss : List ByteArray} (h : Strs w (.slice A n c) ss) {k : Nat} (hk : k < n) :
    ∃ (ad : Addr) (s : ByteArray), A = some ad ∧ ss[k]? = some s ∧ w.cell? (ad.add k) = some (.string s) := by
  obtain ⟨A', c', hv, h1, h2, h3, h4⟩ := h
  injection hv with e1 e2 e3
  subst e1; subst e3
  cases A with
  | none => have := h3 rfl; omega
  | some ad =>
    have hl : k < ss.length := by omega
    exact ⟨ad, ss[k], rfl, List.getElem?_eq_getElem hl, h4 ad rfl k _ (List.getElem?_eq_getElem hl)⟩
def SameG (a b : World) : Prop := a = b
def FlagTo (b : Bool) (w : World) (e : Ending) (w' : World) : Prop := e = .returned (.bool b) ∧ Below w.heap.size w w'
theorem own_base {w : World} {B B' : Nat} {ty : TypeId} {k n : Nat} {v : Value} {xs : List Value} (h : w.ownsRow B ty k v n xs) (hb : B' ≤ B) : w.ownsRow B' ty k v n xs := ⟨h.1, by
  rcases h.2 with h | ⟨g, cap, cur, hv, hg, r⟩
  · exact .inl h
  · exact .inr ⟨g, cap, cur, hv, by omega, r⟩⟩
end Go.Proofs.YtdmmjfmjohliiaaGreatDoor
namespace Go.Proofs.YtdmmjfmjohliiaaGreatDoor
open Go.RowKit

theorem nrm_congr {a b : List ByteArray} (h : ∀ s, s ∈ a ↔ s ∈ b) : nrm a = nrm b := nrm_of (nrm_rise b) fun s => by rw [nrm_mem]; exact h s
/-- A tree with a file, instead of what was at its path. -/
def putF (l : List Fl) (f : Fl) : List Fl := (l.filter fun x => decide (cb x.1 f.1 < 0)) ++ f :: (l.filter fun x => decide (0 < cb x.1 f.1))
/-- A tree without the file at a path. -/
def cutF (l : List Fl) (p : ByteArray) : List Fl := l.filter fun x => decide (x.1 ≠ p)

section
variable {l : List Fl} {s : ByteArray} {i : Nat}
theorem split_take (h : SplitF l s i) : l.take i = l.filter fun x => decide (cb x.1 s < 0) := by
  conv => rhs; rw [← List.take_append_drop i l, List.filter_append]
  rw [List.filter_eq_self.2 (fun x hx => ?_), List.filter_eq_nil_iff.2 (fun x hx => ?_), List.append_nil]
  · obtain ⟨t, ht, rfl⟩ := List.getElem_of_mem hx
    rw [List.getElem_drop]
    rw [List.length_drop] at ht
    have := h.2 (i + t) _ (by omega) (List.getElem?_eq_getElem (by omega))
    simp; omega
  · obtain ⟨t, ht, rfl⟩ := List.getElem_of_mem hx
    rw [List.getElem_take]
    rw [List.length_take] at ht
    exact decide_eq_true (h.1 t _ (by omega) (List.getElem?_eq_getElem (by omega)))
theorem split_drop (h : SplitF l s i) {j : Nat} (hij : i ≤ j) (h1 : ∀ t x, i ≤ t → t < j → l[t]? = some x → cb x.1 s = 0) (h2 : ∀ t x, j ≤ t → l[t]? = some x → cb x.1 s ≠ 0) : l.drop j = l.filter fun x => decide (0 < cb x.1 s) := by
  conv => rhs; rw [← List.take_append_drop j l, List.filter_append]
  rw [List.filter_eq_nil_iff.2 (fun x hx => ?_), List.filter_eq_self.2 (fun x hx => ?_), List.nil_append]
  · obtain ⟨t, ht, rfl⟩ := List.getElem_of_mem hx
    rw [List.getElem_drop]
    rw [List.length_drop] at ht
    have a := h.2 (j + t) _ (by omega) (List.getElem?_eq_getElem (by omega))
    have b := h2 (j + t) _ (by omega) (List.getElem?_eq_getElem (by omega))
    simp; omega
  · obtain ⟨t, ht, rfl⟩ := List.getElem_of_mem hx
    rw [List.getElem_take]
    rw [List.length_take] at ht
    rcases Nat.lt_or_ge t i with hti | hti
    · have := h.1 t _ hti (List.getElem?_eq_getElem (by omega))
      simp; omega
    · have := h1 t _ hti (by omega) (List.getElem?_eq_getElem (by omega))
      simp [this]
end
theorem put_none {l : List Fl} {f : Fl} {i : Nat} (h : SplitF l f.1 i) (hg : getF l f.1 = none) : putF l f = l.take i ++ f :: l.drop i := by
  unfold putF
  rw [split_take h, split_drop h (Nat.le_refl i) (fun t x h1 h2 => by omega) fun t x ht hx e => ?_]
  unfold getF at hg
  rw [List.find?_eq_none] at hg
  exact hg x (List.mem_of_getElem? hx) (by simpa using cb_zero e)
theorem put_some {l : List Fl} {f g : Fl} {i : Nat} (hr : RiseF l) (h : SplitF l f.1 i) (hx : l[i]? = some g) (hg : getF l f.1 = some g) : putF l f = l.take i ++ f :: l.drop (i + 1) := by
  unfold putF
  have hp := getF_path hg
  rw [split_take h, split_drop h (Nat.le_succ i) (fun t x h1 h2 hx2 => ?_) fun t x ht hx2 e => ?_]
  · obtain rfl : t = i := by omega
    rw [hx] at hx2
    rw [← Option.some.inj hx2, hp, cb_self]
  · obtain ⟨hi, e1⟩ := List.getElem?_eq_some_iff.1 hx
    obtain ⟨hj, e2⟩ := List.getElem?_eq_some_iff.1 hx2
    have := List.pairwise_iff_getElem.1 hr i t hi hj (by omega)
    rw [e1, e2, hp, ← cb_zero e, cb_self] at this
    omega
theorem put_rise {l : List Fl} (hr : RiseF l) (f : Fl) : RiseF (putF l f) := by
  unfold putF RiseF
  refine List.pairwise_append.2 ⟨hr.filter _, List.pairwise_cons.2 ⟨fun x hx => ?_, hr.filter _⟩, fun x hx y hy => ?_⟩
  · have := (List.mem_filter.1 hx).2
    have := of_decide_eq_true this
    rw [cb_swap x.1 f.1]
    omega
  · have h1 := of_decide_eq_true (List.mem_filter.1 hx).2
    rcases List.mem_cons.1 hy with rfl | hy
    · exact h1
    · have h2 := of_decide_eq_true (List.mem_filter.1 hy).2
      exact cb_trans h1 (by rw [cb_swap y.1 f.1]; omega)
theorem put_mem {l : List Fl} {f x : Fl} : x ∈ putF l f ↔ x = f ∨ (x ∈ l ∧ x.1 ≠ f.1) := by
  unfold putF
  rw [List.mem_append, List.mem_cons, List.mem_filter, List.mem_filter, decide_eq_true_iff, decide_eq_true_iff]
  constructor
  · rintro (⟨h1, h2⟩ | h | ⟨h1, h2⟩)
    · exact .inr ⟨h1, cb_ne h2⟩
    · exact .inl h
    · exact .inr ⟨h1, fun e => by rw [e, cb_self] at h2; omega⟩
  · rintro (h | ⟨h1, h2⟩)
    · exact .inr (.inl h)
    · have h0 : cb x.1 f.1 ≠ 0 := fun e => h2 (cb_zero e)
      rcases Int.lt_or_le (cb x.1 f.1) 0 with h | h
      · exact .inl ⟨h1, h⟩
      · exact .inr (.inr ⟨h1, by omega⟩)
theorem getF_iff {l : List Fl} (hr : RiseF l) {p : ByteArray} {f : Fl} : getF l p = some f ↔ f ∈ l ∧ f.1 = p := by
  constructor
  · intro h
    exact ⟨getF_mem h, getF_path h⟩
  · rintro ⟨h, rfl⟩
    exact mem_getF hr h
theorem opt_ext {a b : Option Fl} (h : ∀ f, a = some f ↔ b = some f) : a = b := by
  cases a with
  | none => cases b with
    | none => rfl
    | some g => exact absurd ((h g).2 rfl) (by simp)
  | some f => exact ((h f).1 rfl).symm
theorem get_put {l : List Fl} (hr : RiseF l) (f : Fl) (p : ByteArray) : getF (putF l f) p = if p = f.1 then some f else getF l p := by
  refine opt_ext fun g => ?_
  rw [getF_iff (put_rise hr f), put_mem]
  by_cases hp : p = f.1
  · rw [if_pos hp]
    constructor
    · rintro ⟨h | ⟨h1, h2⟩, h3⟩
      · rw [h]
      · exact absurd (h3.trans hp) h2
    · intro h
      rw [← Option.some.inj h]
      exact ⟨.inl rfl, hp.symm⟩
  · rw [if_neg hp, getF_iff hr]
    constructor
    · rintro ⟨h | ⟨h1, h2⟩, h3⟩
      · exact absurd (h3.symm.trans (by rw [h])) hp
      · exact ⟨h1, h3⟩
    · rintro ⟨h1, h2⟩
      exact ⟨.inr ⟨h1, fun e => hp (h2.symm.trans e)⟩, h2⟩
theorem cut_rise {l : List Fl} (hr : RiseF l) (p : ByteArray) : RiseF (cutF l p) := hr.filter _
theorem get_cut {l : List Fl} (hr : RiseF l) (p q : ByteArray) : getF (cutF l p) q = if q = p then none else getF l q := by
  refine opt_ext fun g => ?_
  rw [getF_iff (cut_rise hr p)]
  unfold cutF
  rw [List.mem_filter, decide_eq_true_iff]
  by_cases hq : q = p
  · rw [if_pos hq]
    constructor
    · rintro ⟨⟨h1, h2⟩, h3⟩
      exact absurd (h3.trans hq) h2
    · intro h; cases h
  · rw [if_neg hq, getF_iff hr]
    constructor
    · rintro ⟨⟨h1, h2⟩, h3⟩
      exact ⟨h1, h3⟩
    · rintro ⟨h1, h2⟩
      exact ⟨⟨h1, fun e => hq (h2.symm.trans e)⟩, h2⟩
theorem put_len (l : List Fl) (f : Fl) : (putF l f).length ≤ l.length + 1 := by
  unfold putF
  rw [List.length_append, List.length_cons]
  have h : ∀ l : List Fl, (l.filter fun x => decide (cb x.1 f.1 < 0)).length + (l.filter fun x => decide (0 < cb x.1 f.1)).length ≤ l.length := fun l => by
    induction l with
    | nil => simp
    | cons x l ih =>
      by_cases h1 : cb x.1 f.1 < 0
      · have h2 : ¬ 0 < cb x.1 f.1 := by omega
        simp only [List.filter_cons, h1, h2, decide_true, decide_false, if_true, List.length_cons]
        simp only [Bool.false_eq_true, if_false]
        omega
      · by_cases h2 : 0 < cb x.1 f.1
        · simp only [List.filter_cons, h1, h2, decide_true, decide_false, if_true, List.length_cons]
          simp only [Bool.false_eq_true, if_false]
          omega
        · simp only [List.filter_cons, h1, h2, decide_false, List.length_cons]
          simp only [Bool.false_eq_true, if_false]
          omega
  have := h l
  omega
theorem cut_len (l : List Fl) (p : ByteArray) : (cutF l p).length ≤ l.length := List.length_filter_le _ _

/-! ### What differs -/
abbrev Dl := ByteArray × Int
/-- The paths of two trees. -/
def paths2 (a b : List Fl) : List ByteArray := nrm (a.map (·.1) ++ b.map (·.1))
def diffOf (f : ByteArray → Int) (ps : List ByteArray) : List Dl := (ps.map fun p => (p, f p)).filter fun x => decide (x.2 ≠ 32)
def diffF (a b : List Fl) : List Dl := diffOf (fun p => unl (getF a p) (getF b p)) (paths2 a b)
theorem diffOf_snoc (f : ByteArray → Int) (ps : List ByteArray) (p : ByteArray) : diffOf f (ps ++ [p]) = diffOf f ps ++ (if f p ≠ 32 then [(p, f p)] else []) := by
  unfold diffOf
  rw [List.map_append, List.filter_append]
  congr 1
  by_cases h : f p = 32 <;> simp [h]
theorem diffOf_len (f : ByteArray → Int) (ps : List ByteArray) : (diffOf f ps).length ≤ ps.length := by
  unfold diffOf
  exact Nat.le_trans (List.length_filter_le _ _) (by rw [List.length_map]; exact Nat.le_refl _)
theorem paths2_len (a b : List Fl) : (paths2 a b).length ≤ a.length + b.length := by
  unfold paths2
  refine Nat.le_trans (nrm_len _) ?_
  rw [List.length_append, List.length_map, List.length_map]
  exact Nat.le_refl _
theorem paths2_mem (a b : List Fl) (p : ByteArray) : p ∈ paths2 a b ↔ p ∈ a.map (·.1) ∨ p ∈ b.map (·.1) := by unfold paths2; rw [nrm_mem, List.mem_append]
theorem diff_mem {a b : List Fl} {x : Dl} : x ∈ diffF a b ↔ x.2 = unl (getF a x.1) (getF b x.1) ∧ x.2 ≠ 32 := by
  unfold diffF diffOf
  rw [List.mem_filter, List.mem_map, decide_eq_true_iff]
  constructor
  · rintro ⟨⟨p, _, rfl⟩, h⟩
    exact ⟨rfl, h⟩
  · rintro ⟨h1, h2⟩
    refine ⟨⟨x.1, ?_, Prod.ext rfl h1.symm⟩, h2⟩
    rw [paths2_mem]
    by_cases h3 : hasP (a.map (·.1)) x.1 = true
    · exact .inl (hasP_iff.1 h3)
    · by_cases h4 : hasP (b.map (·.1)) x.1 = true
      · exact .inr (hasP_iff.1 h4)
      · rw [getF_none (fun e => h3 (hasP_iff.2 e)), getF_none (fun e => h4 (hasP_iff.2 e))] at h1
        exact absurd h1 h2
theorem diff_none {a b : List Fl} (ha : RiseF a) (hb : RiseF b) : diffF a b = [] ↔ a = b := by
  constructor
  · intro h
    refine tree_ext ha hb fun p => ?_
    refine Decidable.byContradiction fun hne => ?_
    have : (p, unl (getF a p) (getF b p)) ∈ diffF a b := diff_mem.2 ⟨rfl, fun e => hne (unl_eq e)⟩
    rw [h] at this
    cases this
  · rintro rfl
    refine List.eq_nil_iff_forall_not_mem.2 fun x hx => ?_
    obtain ⟨h1, h2⟩ := diff_mem.1 hx
    rw [unl_same] at h1
    exact h2 h1
theorem unl_turn (a b : Option Fl) : unl a b ≠ 32 ↔ unl b a ≠ 32 := by
  constructor
  · intro h e
    exact h (by rw [unl_eq e, unl_same])
  · intro h e
    exact h (by rw [unl_eq e, unl_same])
theorem diff_turn (a b : List Fl) : (diffF b a).length = (diffF a b).length := by
  have e : paths2 b a = paths2 a b := nrm_congr fun s => by rw [List.mem_append, List.mem_append, Or.comm]
  unfold diffF
  rw [e]
  generalize paths2 a b = ps
  have e2 : ∀ f g : ByteArray → Int, (∀ p, f p ≠ 32 ↔ g p ≠ 32) → (diffOf f ps).length = (diffOf g ps).length := fun f g h => by
    unfold diffOf
    induction ps with
    | nil => rfl
    | cons p ps ih =>
      rw [List.map_cons, List.map_cons, List.filter_cons, List.filter_cons]
      by_cases hf : f p ≠ 32
      · rw [if_pos (decide_eq_true hf), if_pos (decide_eq_true ((h p).1 hf)), List.length_cons, List.length_cons, ih]
      · rw [if_neg (by simpa using hf), if_neg (by have := fun e => hf ((h p).2 e); simpa using this), ih]
  exact e2 _ _ fun p => unl_turn _ _
/-- What is done of a difference: the tree has of b what was done, of a the rest. -/
def DoneTo (a b r : List Fl) (d : List Dl) : Prop := RiseF r ∧ ∀ p, getF r p = if hasP (d.map (·.1)) p = true then getF b p else getF a p
theorem done_start {a b : List Fl} (ha : RiseF a) : DoneTo a b a [] := ⟨ha, fun p => by simp [hasP]⟩
theorem hasP_snoc (d : List Dl) (x : Dl) (p : ByteArray) : hasP ((d ++ [x]).map (·.1)) p = true ↔ hasP (d.map (·.1)) p = true ∨ p = x.1 := by
  rw [hasP_iff, hasP_iff, List.map_append, List.mem_append, List.map_cons, List.map_nil, List.mem_singleton]
theorem done_cut {a b r : List Fl} {d : List Dl} {x : Dl} (h : DoneTo a b r d) (hx : getF b x.1 = none) : DoneTo a b (cutF r x.1) (d ++ [x]) := by
  refine ⟨cut_rise h.1 _, fun p => ?_⟩
  rw [get_cut h.1, h.2 p]
  by_cases hp : p = x.1
  · rw [if_pos hp, if_pos ((hasP_snoc d x p).2 (.inr hp)), hp, hx]
  · rw [if_neg hp]
    by_cases hd : hasP (d.map (·.1)) p = true
    · rw [if_pos hd, if_pos ((hasP_snoc d x p).2 (.inl hd))]
    · rw [if_neg hd, if_neg fun h => ((hasP_snoc d x p).1 h).elim hd hp]
theorem done_put {a b r : List Fl} {d : List Dl} {x : Dl} {f : Fl} (h : DoneTo a b r d) (hx : getF b x.1 = some f) : DoneTo a b (putF r f) (d ++ [x]) := by
  have hf := getF_path hx
  refine ⟨put_rise h.1 _, fun p => ?_⟩
  rw [get_put h.1, h.2 p]
  by_cases hp : p = x.1
  · rw [if_pos (by rw [hp, hf]), if_pos ((hasP_snoc d x p).2 (.inr hp)), hp, hx]
  · rw [if_neg (by rw [hf]; exact hp)]
    by_cases hd : hasP (d.map (·.1)) p = true
    · rw [if_pos hd, if_pos ((hasP_snoc d x p).2 (.inl hd))]
    · rw [if_neg hd, if_neg fun h => ((hasP_snoc d x p).1 h).elim hd hp]
theorem done_end {a b r : List Fl} (hb : RiseF b) (h : DoneTo a b r (diffF a b)) : r = b := by
  refine tree_ext h.1 hb fun p => ?_
  rw [h.2 p]
  by_cases hp : hasP ((diffF a b).map (·.1)) p = true
  · rw [if_pos hp]
  · rw [if_neg hp]
    refine Decidable.byContradiction fun hne => hp (hasP_iff.2 <| List.mem_map.2 ⟨(p, unl (getF a p) (getF b p)), diff_mem.2 ⟨rfl, fun e => hne (unl_eq e)⟩, rfl⟩)
end Go.Proofs.YtdmmjfmjohliiaaGreatDoor
