/-
  The plain theory of paths in order: texts by their bytes; a row sorted, each text once; two such rows of the same texts are one; a tree's file by its path.
-/
import Derived.Lib.Bytealg
import Derived.Lib.SlicesCompact
import Derived.Shelf.SlSortCmp.Insertion
namespace Go.Proofs.YtanjcjnkppnhcaaDoor
open Go.Lib Go.Sort

theorem cmp_self : ∀ l : List UInt8, compareBytes l l = 0
  | [] => rfl
  | a :: l => by
    have h : ¬ a < a := UInt8.lt_irrefl a
    simp [compareBytes, cmp_self l]
theorem cmp_zero : ∀ a b : List UInt8, compareBytes a b = 0 → a = b
  | [], [], _ => rfl
  | [], _ :: _, h => by simp [compareBytes] at h
  | _ :: _, [], h => by simp [compareBytes] at h
  | x :: a, y :: b, h => by
    unfold compareBytes at h
    by_cases h1 : x < y
    · rw [if_pos h1] at h; omega
    · by_cases h2 : y < x
      · rw [if_neg h1, if_pos h2] at h; omega
      · rw [if_neg h1, if_neg h2] at h
        have hxy : x = y := UInt8.le_antisymm (UInt8.not_lt.1 h2) (UInt8.not_lt.1 h1)
        rw [hxy, cmp_zero a b h]
theorem cmp_swap : ∀ a b : List UInt8, compareBytes b a = - compareBytes a b
  | [], [] => rfl
  | [], _ :: _ => rfl
  | _ :: _, [] => rfl
  | x :: a, y :: b => by
    unfold compareBytes
    by_cases h1 : x < y
    · have h2 : ¬ y < x := UInt8.lt_asymm h1
      rw [if_pos h1, if_neg h2, if_pos h1]; rfl
    · by_cases h2 : y < x
      · simp [h1, h2]
      · simp only [h1, h2, if_false]
        exact cmp_swap a b
theorem cmp_trans : ∀ a b c : List UInt8, compareBytes a b < 0 → compareBytes b c < 0 → compareBytes a c < 0
  | [], [], _, h, _ => by simp [compareBytes] at h
  | _ :: _, [], _, h, _ => by simp [compareBytes] at h
  | [], _ :: _, [], _, h => by simp [compareBytes] at h
  | [], _ :: _, _ :: _, _, _ => by simp [compareBytes]
  | _ :: _, _ :: _, [], _, h => by simp [compareBytes] at h
  | x :: a, y :: b, z :: c, h, g => by
    unfold compareBytes at h g ⊢
    by_cases h1 : x < y
    · by_cases g1 : y < z
      · rw [if_pos (UInt8.lt_trans h1 g1)]; omega
      · by_cases g2 : z < y
        · rw [if_neg g1, if_pos g2] at g; omega
        · have : y = z := UInt8.le_antisymm (UInt8.not_lt.1 g2) (UInt8.not_lt.1 g1)
          subst this
          rw [if_pos h1]; omega
    · by_cases h2 : y < x
      · rw [if_neg h1, if_pos h2] at h; omega
      · have : x = y := UInt8.le_antisymm (UInt8.not_lt.1 h2) (UInt8.not_lt.1 h1)
        subst this
        rw [if_neg h1, if_neg h1] at h
        by_cases g1 : x < z
        · rw [if_pos g1]; omega
        · by_cases g2 : z < x
          · rw [if_neg g1, if_pos g2] at g; omega
          · rw [if_neg g1, if_neg g2] at g ⊢
            exact cmp_trans a b c h g

/-- The order of two names. -/
def cb (a b : ByteArray) : Int := compareBytes a.data.toList b.data.toList
theorem cb_self (a : ByteArray) : cb a a = 0 := cmp_self _
theorem cb_zero {a b : ByteArray} (h : cb a b = 0) : a = b := by
  have := cmp_zero _ _ h
  obtain ⟨⟨a⟩⟩ := a
  obtain ⟨⟨b⟩⟩ := b
  simpa using this
theorem cb_swap (a b : ByteArray) : cb b a = - cb a b := cmp_swap _ _
theorem cb_trans {a b c : ByteArray} (h : cb a b < 0) (g : cb b c < 0) : cb a c < 0 := cmp_trans _ _ _ h g

abbrev Bs := List UInt8
theorem lt_dec (x y : Bs) : ltOf compareBytes x y = decide (compareBytes x y < 0) := rfl
theorem cmp_swo : SWO (ltOf compareBytes) where
  irrefl x := by rw [lt_dec, cmp_self]; rfl
  trans x y z h g := by rw [lt_dec, decide_eq_true_iff] at *; exact cmp_trans _ _ _ h g
  ntrans x y z h g := by
    rw [lt_dec, decide_eq_false_iff_not] at *
    intro hxz
    rcases Int.lt_or_le 0 (compareBytes x y) with a | a
    · have yx : compareBytes y x < 0 := by rw [cmp_swap x y]; omega
      exact g (cmp_trans _ _ _ yx hxz)
    · have e : compareBytes x y = 0 := by omega
      rw [cmp_zero _ _ e] at hxz
      exact g hxz
theorem cmp_tot (x y : Bs) (h : ltOf compareBytes x y = false) (g : ltOf compareBytes y x = false) : x = y := by
  rw [lt_dec, decide_eq_false_iff_not] at h g
  rw [cmp_swap x y] at g
  exact cmp_zero _ _ (by omega)
theorem cmp_le_lt {x y z : Bs} (h : ¬ compareBytes y x < 0) (g : compareBytes y z < 0) : compareBytes x z < 0 := by
  by_cases e : compareBytes x y = 0
  · rw [cmp_zero _ _ e]; exact g
  · rw [cmp_swap x y] at h
    exact cmp_trans _ _ _ (by omega) g

/-- A row sorted. -/
def srt (l : List Bs) : List Bs := l.mergeSort fun x y => !(ltOf compareBytes) y x
theorem srt_len (l : List Bs) : (srt l).length = l.length := List.length_mergeSort l
theorem srt_mem {x : Bs} {l : List Bs} : x ∈ srt l ↔ x ∈ l := List.mem_mergeSort
theorem srt_rises (l : List Bs) : (srt l).Pairwise (fun x y => ¬ compareBytes y x < 0) := by
  have h := List.pairwise_mergeSort (le := fun x y => !(ltOf compareBytes) y x) (fun a b c h g => by
    rw [Bool.not_eq_true'] at *
    exact cmp_swo.ntrans c b a g h) (fun a b => by
    cases h : ltOf compareBytes b a with
    | false => rfl
    | true =>
      cases g : ltOf compareBytes a b with
      | false => rfl
      | true => have := cmp_swo.trans _ _ _ h g; rw [cmp_swo.irrefl] at this; cases this) l
  exact h.imp fun {a b} h => by
    rw [Bool.not_eq_true', lt_dec, decide_eq_false_iff_not] at h
    exact h

theorem compact_both (d : Array Bs) (hs : ∀ i j, i < j → j < d.size → ¬ compareBytes d[j]! d[i]! < 0) : ∀ m, m ≤ d.size →
    (compactUpTo d m).Pairwise (fun x y => compareBytes x y < 0) ∧ ∀ x, x ∈ compactUpTo d m ↔ ∃ i, i < m ∧ d[i]! = x
  | 0, _ => ⟨List.Pairwise.nil, fun x => ⟨fun h => by simp [compactUpTo] at h, fun ⟨i, hi, _⟩ => absurd hi (Nat.not_lt_zero _)⟩⟩
  | m + 1, hm => by
    obtain ⟨h1, h2⟩ := compact_both d hs m (by omega)
    rw [compactUpTo_succ]
    cases hk : keeps d m with
    | true =>
      rw [if_pos rfl]
      refine ⟨List.pairwise_append.2 ⟨h1, List.pairwise_singleton _ _, fun x hx y hy => ?_⟩, fun x => ?_⟩
      · rw [List.mem_singleton] at hy
        subst hy
        obtain ⟨i, hi, rfl⟩ := (h2 x).1 hx
        have hne : d[m]! ≠ d[m - 1]! := by
          unfold keeps at hk
          rcases of_decide_eq_true hk with hk | hk
          · omega
          · exact hk
        have a : ¬ compareBytes d[m]! d[m - 1]! < 0 := hs _ _ (by omega) (by omega)
        have a' : compareBytes d[m - 1]! d[m]! < 0 := by
          have e := cmp_swap d[m - 1]! d[m]!
          by_cases e0 : compareBytes d[m - 1]! d[m]! = 0
          · exact absurd (cmp_zero _ _ e0).symm hne
          · omega
        by_cases him : i = m - 1
        · rw [him]; exact a'
        · exact cmp_le_lt (hs i (m - 1) (by omega) (by omega)) a'
      · rw [List.mem_append, h2 x, List.mem_singleton]
        constructor
        · rintro (⟨i, hi, e⟩ | e)
          · exact ⟨i, by omega, e⟩
          · exact ⟨m, by omega, e.symm⟩
        · rintro ⟨i, hi, e⟩
          by_cases him : i = m
          · exact .inr (by rw [← e, him])
          · exact .inl ⟨i, by omega, e⟩
    | false =>
      rw [if_neg (by decide), List.append_nil]
      have hk' : ¬ (m = 0 ∨ d[m]! ≠ d[m - 1]!) := by unfold keeps at hk; exact of_decide_eq_false hk
      have h0 : 0 < m := by
        rcases Nat.eq_zero_or_pos m with e | e
        · exact absurd (.inl e) hk'
        · exact e
      have he : d[m]! = d[m - 1]! := Decidable.byContradiction fun e => hk' (.inr e)
      refine ⟨h1, fun x => ?_⟩
      rw [h2 x]
      constructor
      · rintro ⟨i, hi, e⟩; exact ⟨i, by omega, e⟩
      · rintro ⟨i, hi, e⟩
        by_cases him : i = m
        · exact ⟨m - 1, by omega, by rw [← e, him, he]⟩
        · exact ⟨i, by omega, e⟩

theorem compact_srt (l : List Bs) : (compact (srt l)).Pairwise (fun x y => compareBytes x y < 0) ∧ ∀ x, x ∈ compact (srt l) ↔ x ∈ l := by
  have hb := compact_both (srt l).toArray (fun i j hij hj => by
    have hj' : j < (srt l).length := by simpa using hj
    have h := List.pairwise_iff_getElem.1 (srt_rises l) i j (by omega) hj' hij
    rw [getElem!_pos (srt l).toArray j hj, getElem!_pos (srt l).toArray i (by omega)]
    simpa using h) (srt l).length (by simp)
  refine ⟨hb.1, fun x => ?_⟩
  show x ∈ compactUpTo (srt l).toArray (srt l).length ↔ _
  rw [hb.2 x, ← srt_mem (l := l)]
  constructor
  · rintro ⟨i, hi, e⟩
    rw [getElem!_pos (srt l).toArray i (by simpa using hi)] at e
    rw [← e]
    simp
  · intro h
    obtain ⟨i, hi, e⟩ := List.getElem_of_mem h
    exact ⟨i, hi, by rw [getElem!_pos (srt l).toArray i (by simpa using hi)]; simpa using e⟩

/-! ### Texts -/
def bsOf (s : ByteArray) : Bs := s.data.toList
def mkB (l : Bs) : ByteArray := ⟨l.toArray⟩
theorem mkB_bsOf (s : ByteArray) : mkB (bsOf s) = s := by simp [mkB, bsOf]
theorem bsOf_mkB (l : Bs) : bsOf (mkB l) = l := by simp [mkB, bsOf]
theorem map_mkB (ss : List ByteArray) : (ss.map bsOf).map mkB = ss := by
  rw [List.map_map]
  exact (List.map_congr_left fun s _ => mkB_bsOf s).trans (List.map_id _)

/-- Paths that rise. -/
def RiseP (l : List ByteArray) : Prop := l.Pairwise fun a b => cb a b < 0
/-- A row of paths sorted, each once. -/
def nrm (ss : List ByteArray) : List ByteArray := (compact (srt (ss.map bsOf))).map mkB
theorem nrm_rise (ss : List ByteArray) : RiseP (nrm ss) := by
  refine List.pairwise_map.2 ((compact_srt (ss.map bsOf)).1.imp fun {a b} h => ?_)
  show compareBytes (bsOf (mkB a)) (bsOf (mkB b)) < 0
  rw [bsOf_mkB, bsOf_mkB]
  exact h
theorem nrm_mem (ss : List ByteArray) (s : ByteArray) : s ∈ nrm ss ↔ s ∈ ss := by
  unfold nrm
  rw [List.mem_map]
  constructor
  · rintro ⟨a, ha, rfl⟩
    obtain ⟨x, hx, rfl⟩ := List.mem_map.1 (((compact_srt (ss.map bsOf)).2 a).1 ha)
    rw [mkB_bsOf]
    exact hx
  · intro h
    exact ⟨bsOf s, ((compact_srt (ss.map bsOf)).2 _).2 (List.mem_map.2 ⟨s, h, rfl⟩), mkB_bsOf s⟩
theorem RiseP.nodup {l : List ByteArray} (h : RiseP l) : l.Nodup := h.imp fun {a b} h e => by
  rw [e, cb_self] at h
  omega
/-- Two rising rows of the same paths are one. -/
theorem rise_unique {a b : List ByteArray} (ha : RiseP a) (hb : RiseP b) (h : ∀ s, s ∈ a ↔ s ∈ b) : a = b := by
  refine List.Perm.eq_of_pairwise (le := fun x y => cb x y < 0) (fun x y _ _ h1 h2 => ?_) ha hb ((List.perm_ext_iff_of_nodup ha.nodup hb.nodup).2 h)
  rw [cb_swap x y] at h2
  omega
theorem nrm_of {a b : List ByteArray} (hb : RiseP b) (h : ∀ s, s ∈ a ↔ s ∈ b) : nrm a = b := rise_unique (nrm_rise a) hb fun s => by rw [nrm_mem]; exact h s
theorem nrm_len (ss : List ByteArray) : (nrm ss).length ≤ ss.length := by
  unfold nrm
  rw [List.length_map]
  have : ∀ (d : Array Bs) (m : Nat), (compactUpTo d m).length ≤ m := by
    intro d m
    induction m with
    | zero => simp [compactUpTo]
    | succ m ih =>
      rw [compactUpTo_succ, List.length_append]
      split <;> simp <;> omega
  have := this (srt (ss.map bsOf)).toArray (srt (ss.map bsOf)).length
  rw [srt_len, List.length_map] at this
  unfold compact
  rw [srt_len, List.length_map]
  exact this

/-! ### Files by their paths -/
abbrev Fl := ByteArray × Int × ByteArray
/-- A tree rises. -/
def RiseF (l : List Fl) : Prop := l.Pairwise fun a b => cb a.1 b.1 < 0
/-- The file at a path. -/
def getF (l : List Fl) (p : ByteArray) : Option Fl := l.find? fun f => decide (f.1 = p)
theorem cb_ne {a b : ByteArray} (h : cb a b < 0) : a ≠ b := fun e => by rw [e, cb_self] at h; omega
theorem getF_at {l : List Fl} {p : ByteArray} {i : Nat} (hr : RiseF l) (h1 : ∀ (t : Nat) (x : Fl), t < i → l[t]? = some x → cb x.1 p < 0) (h2 : ∀ (t : Nat) (x : Fl), i ≤ t → l[t]? = some x → 0 ≤ cb x.1 p) :
    getF l p = match l[i]? with | some x => if cb x.1 p = 0 then some x else none | none => none := by
  cases hi : l[i]? with
  | none =>
    unfold getF
    rw [List.find?_eq_none]
    intro x hx
    obtain ⟨t, ht, rfl⟩ := List.getElem_of_mem hx
    have : t < i := by have := List.getElem?_eq_none_iff.1 hi; omega
    have := cb_ne (h1 t _ this (List.getElem?_eq_getElem ht))
    simpa using this
  | some x =>
    have hil := (List.getElem?_eq_some_iff.1 hi).1
    have hix := (List.getElem?_eq_some_iff.1 hi).2
    by_cases hz : cb x.1 p = 0
    · simp only [hz, if_true]
      unfold getF
      rw [List.find?_eq_some_iff_getElem]
      refine ⟨by simpa using cb_zero hz, i, hil, hix, fun t ht => ?_⟩
      have := cb_ne (h1 t _ ht (List.getElem?_eq_getElem (by omega)))
      simpa using this
    · simp only [hz, if_false]
      unfold getF
      rw [List.find?_eq_none]
      intro y hy
      obtain ⟨t, ht, rfl⟩ := List.getElem_of_mem hy
      have : (l[t]).1 ≠ p := by
        rcases Nat.lt_or_ge t i with a | a
        · exact cb_ne (h1 t _ a (List.getElem?_eq_getElem ht))
        · intro e
          rcases Nat.eq_or_lt_of_le a with b | b
          · subst b
            rw [hix] at e
            exact hz (by rw [e, cb_self])
          · have h := List.pairwise_iff_getElem.1 hr i t hil ht b
            rw [hix, e] at h
            have := h2 i x (Nat.le_refl _) hi
            omega
      simpa using this
theorem getF_path {l : List Fl} {p : ByteArray} {f : Fl} (h : getF l p = some f) : f.1 = p := by
  have := List.find?_some h
  simpa using this
end Go.Proofs.YtanjcjnkppnhcaaDoor
