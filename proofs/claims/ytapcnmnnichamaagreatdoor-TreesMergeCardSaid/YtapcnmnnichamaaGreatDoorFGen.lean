/-
  General theory of trees by path: what the walks of files share: texts less, a path among paths, a file or none, trees by what they have.
-/
import Derived.Test.YtapcnmnnichamaaGreatDoorSPaths
import Derived.Test.YtapcnmnnichamaaGreatDoorFFind
import Derived.Deep.DrawnRows
namespace Go.Proofs.YtapcnmnnichamaaGreatDoor
open Go.RowKit Go.Lib

theorem less_cmp : ∀ a b : List UInt8, Op.bytesLess a b = decide (compareBytes a b < 0)
  | [], [] => rfl
  | _ :: _, [] => by simp [Op.bytesLess, compareBytes]
  | [], _ :: _ => by simp [Op.bytesLess, compareBytes]
  | x :: a, y :: b => by
    unfold Op.bytesLess compareBytes
    rw [less_cmp a b]
    by_cases h1 : x < y
    · simp [h1]
    · by_cases h2 : y < x
      · have : ¬ x = y := fun e => by rw [e] at h2; exact absurd h2 (UInt8.lt_irrefl _)
        simp [h1, h2, this]
      · have : x = y := UInt8.le_antisymm (UInt8.not_lt.1 h2) (UInt8.not_lt.1 h1)
        simp [this]
theorem less_cb (a b : ByteArray) : Op.bytesLess a.toList b.toList = decide (cb a b < 0) := by
  rw [ByteArray.toList_eq, ByteArray.toList_eq, less_cmp]
  rfl
theorem rise_split : ∀ (ss : List ByteArray) (p : ByteArray), RiseP ss → ∃ k, k ≤ ss.length ∧ (∀ t, t < k → cb (ss.getD t p) p < 0) ∧ (∀ t, k ≤ t → ¬ cb (ss.getD t p) p < 0)
  | [], p, _ => ⟨0, Nat.le_refl _, fun t h => absurd h (Nat.not_lt_zero _), fun t _ => by simp [cb_self]⟩
  | a :: l, p, h => by
    have hp := List.pairwise_cons.1 h
    by_cases ha : cb a p < 0
    · obtain ⟨k, hk, h1, h2⟩ := rise_split l p hp.2
      refine ⟨k + 1, by simpa using hk, fun t ht => ?_, fun t ht => ?_⟩
      · cases t with
        | zero => simpa using ha
        | succ t => simpa using h1 t (by omega)
      · cases t with
        | zero => omega
        | succ t => simpa using h2 t (by omega)
    · refine ⟨0, Nat.zero_le _, fun t ht => absurd ht (Nat.not_lt_zero _), fun t _ => ?_⟩
      cases t with
      | zero => simpa using ha
      | succ t =>
        intro hc
        rw [List.getD_cons_succ] at hc
        by_cases htl : t < l.length
        · have hx : l.getD t p ∈ l := by rw [List.getD_eq_getElem?_getD, List.getElem?_eq_getElem htl]; simp
          exact ha (cb_trans (hp.1 _ hx) hc)
        · rw [List.getD_eq_getElem?_getD, List.getElem?_eq_none (by omega)] at hc
          simp [cb_self] at hc
theorem rise_mem {ss : List ByteArray} {p : ByteArray} (hr : RiseP ss) {k : Nat} (h1 : ∀ t, t < k → cb (ss.getD t p) p < 0) (h2 : ∀ t, k ≤ t → ¬ cb (ss.getD t p) p < 0) : (k < ss.length ∧ ss.getD k p = p) ↔ p ∈ ss := by
  constructor
  · rintro ⟨hk, he⟩
    rw [List.getD_eq_getElem?_getD, List.getElem?_eq_getElem hk] at he
    simp at he
    rw [← he]
    exact List.getElem_mem hk
  · intro hm
    obtain ⟨t, ht, e⟩ := List.getElem_of_mem hm
    have et : ss.getD t p = p := by rw [List.getD_eq_getElem?_getD, List.getElem?_eq_getElem ht]; simpa using e
    have hkt : k ≤ t := by
      rcases Nat.lt_or_ge t k with h | h
      · have := h1 t h
        rw [et, cb_self] at this
        omega
      · exact h
    rcases Nat.eq_or_lt_of_le hkt with e1 | e1
    · subst e1
      exact ⟨ht, et⟩
    · exfalso
      have hk : k < ss.length := by omega
      have hlt := List.pairwise_iff_getElem.1 hr k t hk ht e1
      rw [e] at hlt
      refine h2 k (Nat.le_refl _) ?_
      rw [List.getD_eq_getElem?_getD, List.getElem?_eq_getElem hk]
      simpa using hlt

/-- Whether the path is there. -/
def hasP (ss : List ByteArray) (p : ByteArray) : Bool := ss.any fun x => decide (x = p)
theorem hasP_iff {ss : List ByteArray} {p : ByteArray} : hasP ss p = true ↔ p ∈ ss := by
  unfold hasP
  rw [List.any_eq_true]
  constructor
  · rintro ⟨x, hx, e⟩
    rw [← of_decide_eq_true e]
    exact hx
  · intro h
    exact ⟨p, h, decide_eq_true rfl⟩
theorem hasP_eq {ss : List ByteArray} {p : ByteArray} {q : Prop} [Decidable q] (h : q ↔ p ∈ ss) : decide q = hasP ss p := by
  rw [Bool.eq_iff_iff, decide_eq_true_iff, hasP_iff]
  exact h
/-- From one to the other, each a file or none: A, D, M, or a blank. -/
def unl : Option Fl → Option Fl → Int
  | none, none => 32
  | none, some _ => 65
  | some _, none => 68
  | some f, some g => if f = g then 32 else 77
/-- .. where what is new is not known yet. -/
def chg (a b : Option Fl) : Int := if unl a b = 65 then 63 else unl a b
theorem unl_cases (a b : Option Fl) : unl a b = 32 ∨ unl a b = 65 ∨ unl a b = 68 ∨ unl a b = 77 := by
  cases a with
  | none => cases b <;> simp [unl]
  | some f =>
    cases b with
    | none => simp [unl]
    | some g =>
      show (if f = g then (32 : Int) else 77) = 32 ∨ _
      by_cases h : f = g
      · exact .inl (if_pos h)
      · exact .inr (.inr (.inr (if_neg h)))
theorem bytes_beq (x y : ByteArray) : (x.toList == y.toList) = decide (x = y) := by
  rw [ByteArray.toList_eq, ByteArray.toList_eq]
  by_cases e : x = y
  · simp [e]
  · simp [e]
    intro h
    exact e (ByteArray.ext h)

def LetterTo (n : Int) (w : World) (e : Ending) (w' : World) : Prop := e = .returned (.int .u8 n) ∧ Below w.heap.size w w'

theorem tl_eq {x y : ByteArray} (h : x.toList = y.toList) : x = y := by
  rw [ByteArray.toList_eq, ByteArray.toList_eq] at h
  apply ByteArray.ext
  simpa using h
def flZ : Option Fl → Fl
  | some f => f
  | none => (⟨#[]⟩, 0, ⟨#[]⟩)
theorem gotV_flZ (o : Option Fl) : gotV o = .tuple #[.agg #[.string (flZ o).1, .int .i64 (flZ o).2.1, .string (flZ o).2.2], .bool o.isSome] := by cases o <;> rfl
def GotB (x : Fl) (p : Bool) (w : World) (e : Ending) (w' : World) : Prop := e = .returned (.tuple #[.agg #[.string x.1, .int .i64 x.2.1, .string x.2.2], .bool p]) ∧ Below w.heap.size w w'

/-! ### A tree is what it has at its paths -/
theorem getF_mem {l : List Fl} {p : ByteArray} {f : Fl} (h : getF l p = some f) : f ∈ l := List.mem_of_find?_eq_some h
theorem mem_getF {l : List Fl} (hr : RiseF l) {f : Fl} (h : f ∈ l) : getF l f.1 = some f := by
  obtain ⟨t, ht, e⟩ := List.getElem_of_mem h
  have hx : l[t]? = some f := by rw [List.getElem?_eq_getElem ht, e]
  rw [getF_at (i := t) hr (fun s x hs hx' => ?_) (fun s x hs hx' => ?_), hx]
  · simp [cb_self]
  · obtain ⟨hs', rfl⟩ := List.getElem?_eq_some_iff.1 hx'
    have := List.pairwise_iff_getElem.1 hr s t hs' ht hs
    rw [e] at this
    exact this
  · obtain ⟨hs', rfl⟩ := List.getElem?_eq_some_iff.1 hx'
    rcases Nat.eq_or_lt_of_le hs with e2 | e2
    · subst e2
      rw [e, cb_self]
      exact Int.le_refl _
    · have := List.pairwise_iff_getElem.1 hr t s ht hs' e2
      rw [e] at this
      rw [cb_swap f.1]
      omega
theorem tree_ext {a b : List Fl} (ha : RiseF a) (hb : RiseF b) (h : ∀ p, getF a p = getF b p) : a = b := by
  have hn : ∀ {l : List Fl}, RiseF l → l.Nodup := fun hl => hl.imp fun {x y} h e => by rw [e, cb_self] at h; omega
  refine List.Perm.eq_of_pairwise (le := fun x y : Fl => cb x.1 y.1 < 0) (fun x y _ _ h1 h2 => ?_) ha hb ((List.perm_ext_iff_of_nodup (hn ha) (hn hb)).2 fun f => ?_)
  · rw [cb_swap x.1 y.1] at h2
    omega
  · constructor
    · intro hf
      have := mem_getF ha hf
      rw [h] at this
      exact getF_mem this
    · intro hf
      have := mem_getF hb hf
      rw [← h] at this
      exact getF_mem this
theorem getF_none {l : List Fl} {p : ByteArray} (h : p ∉ l.map (·.1)) : getF l p = none := by
  unfold getF
  rw [List.find?_eq_none]
  intro f hf e
  exact h (List.mem_map.2 ⟨f, hf, by simpa using e⟩)
theorem unl_eq {a b : Option Fl} (h : unl a b = 32) : a = b := by
  cases a with
  | none => cases b with
    | none => rfl
    | some g => simp [unl] at h
  | some f => cases b with
    | none => simp [unl] at h
    | some g =>
      by_cases e : f = g
      · rw [e]
      · simp [unl, e] at h
theorem unl_same (a : Option Fl) : unl a a = 32 := by cases a <;> simp [unl]
theorem chg_eq {a b : Option Fl} (h : chg a b = 32) : a = b := by
  unfold chg at h
  split at h
  · omega
  · exact unl_eq h
theorem chg_same (a : Option Fl) : chg a a = 32 := by unfold chg; rw [unl_same]; rfl

theorem rise_adj : ∀ (l : List Fl), (∀ (t : Nat) (x y : Fl), l[t]? = some x → l[t + 1]? = some y → cb x.1 y.1 < 0) → RiseF l
  | [], _ => List.Pairwise.nil
  | [x], _ => List.pairwise_singleton _ _
  | x :: y :: l, h => by
    have ih := rise_adj (y :: l) fun t a b ha hb => h (t + 1) a b (by simpa using ha) (by simpa using hb)
    have hxy : cb x.1 y.1 < 0 := h 0 x y rfl rfl
    refine List.pairwise_cons.2 ⟨fun z hz => ?_, ih⟩
    rcases List.mem_cons.1 hz with rfl | hz
    · exact hxy
    · exact cb_trans hxy ((List.pairwise_cons.1 ih).1 z hz)
theorem rise_at {l : List Fl} (h : RiseF l) {t : Nat} {x y : Fl} (hx : l[t]? = some x) (hy : l[t + 1]? = some y) : cb x.1 y.1 < 0 := by
  obtain ⟨hi, rfl⟩ := List.getElem?_eq_some_iff.1 hx
  obtain ⟨hj, rfl⟩ := List.getElem?_eq_some_iff.1 hy
  exact List.pairwise_iff_getElem.1 h t (t + 1) hi hj (by omega)

theorem drewN_two (w : World) (a b : Nat) : (w.drewN a).drewN b = w.drewN (a + b) := by simp [World.drewN, Nat.add_assoc]
theorem strs_at {w : World} {A : Option Addr} {n c : Nat} {ss : List ByteArray} (h : Strs w (.slice A n c) ss) {k : Nat} (hk : k < n) :
    ∃ (ad : Addr) (s : ByteArray), A = some ad ∧ ss[k]? = some s ∧ w.cell? (ad.add k) = some (.string s) := by
  obtain ⟨A', c', hv, h1, h2, h3, h4⟩ := h
  injection hv with e1 e2 e3
  subst e1; subst e3
  cases A with
  | none => have := h3 rfl; omega
  | some ad =>
    have hl : k < ss.length := by omega
    exact ⟨ad, ss[k], rfl, List.getElem?_eq_getElem hl, h4 ad rfl k _ (List.getElem?_eq_getElem hl)⟩
def SameG (a b : World) : Prop := a = b
def FlagTo (b : Bool) (w : World) (e : Ending) (w' : World) : Prop := e = .returned (.bool b) ∧ Below w.heap.size w w'
theorem own_base {w : World} {B B' : Nat} {ty : TypeId} {k n : Nat} {v : Value} {xs : List Value} (h : w.ownsRow B ty k v n xs) (hb : B' ≤ B) : w.ownsRow B' ty k v n xs := ⟨h.1, by
  rcases h.2 with h | ⟨g, cap, cur, hv, hg, r⟩
  · exact .inl h
  · exact .inr ⟨g, cap, cur, hv, by omega, r⟩⟩
end Go.Proofs.YtapcnmnnichamaaGreatDoor
