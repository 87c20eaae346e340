/-
  The cutter's row of chunks, and what stands between two steps.
-/
import Derived.Test.YtiefenfogjlnoaaTk
namespace Go.Proofs.Ytiefenfogjlnoaa
open Go.RowKit

abbrev Tx (w : World) (B : Nat) (v : Value) (ss : List ByteArray) : Prop := w.ownsRow B 9 1 v ss.length (ss.map Value.string)

/-- Five values a chunk. -/
def CkV (w : World) (B : Nat) : List Value → List (Ck ByteArray) → Prop
  | vals, [] => vals = []
  | vals, c :: cs => ∃ a b d e rest, vals = a :: b :: d :: .bool c.clash :: e :: rest ∧ Tx w B a c.base ∧ Tx w B b c.ours ∧ Tx w B d c.theirs ∧ Tx w B e c.out ∧ CkV w B rest cs

theorem CkV.keep {w w' : World} {B : Nat} (hk : ∀ v ss, Tx w B v ss → Tx w' B v ss) : ∀ {cs : List (Ck ByteArray)} {vals : List Value}, CkV w B vals cs → CkV w' B vals cs
  | [], _, h => h
  | _ :: _, _, ⟨a, b, d, e, rest, hv, h1, h2, h3, h4, h5⟩ => ⟨a, b, d, e, rest, hv, hk _ _ h1, hk _ _ h2, hk _ _ h3, hk _ _ h4, h5.keep hk⟩

theorem CkV.snoc {w : World} {B : Nat} {c : Ck ByteArray} {a b d e : Value} (h1 : Tx w B a c.base) (h2 : Tx w B b c.ours) (h3 : Tx w B d c.theirs) (h4 : Tx w B e c.out) : ∀ {cs : List (Ck ByteArray)} {vals : List Value}, CkV w B vals cs → CkV w B (vals ++ [a, b, d, .bool c.clash, e]) (cs ++ [c])
  | [], _, h => by rw [show _ = [] from h]; exact ⟨a, b, d, e, [], rfl, h1, h2, h3, h4, rfl⟩
  | _ :: _, _, ⟨a', b', d', e', rest, hv, g1, g2, g3, g4, g5⟩ => ⟨a', b', d', e', _, by rw [hv]; rfl, g1, g2, g3, g4, CkV.snoc h1 h2 h3 h4 g5⟩

theorem CkV.len {w : World} {B : Nat} : ∀ {cs : List (Ck ByteArray)} {vals : List Value}, CkV w B vals cs → vals.length = cs.length * 5
  | [], _, h => by rw [show _ = [] from h]; rfl
  | _ :: cs, _, ⟨_, _, _, _, rest, hv, _, _, _, _, g5⟩ => by rw [hv]; have := g5.len; simp only [List.length_cons]; omega

theorem CkV.at {w : World} {B : Nat} : ∀ {cs : List (Ck ByteArray)} {vals : List Value} {i : Nat} {c : Ck ByteArray}, CkV w B vals cs → cs[i]? = some c →
    ∃ a b d e, vals[i * 5]? = some a ∧ vals[i * 5 + 1]? = some b ∧ vals[i * 5 + 2]? = some d ∧ vals[i * 5 + 3]? = some (.bool c.clash) ∧ vals[i * 5 + 4]? = some e ∧ Tx w B a c.base ∧ Tx w B b c.ours ∧ Tx w B d c.theirs ∧ Tx w B e c.out
  | [], _, _, _, _, hi => by simp at hi
  | c0 :: cs, _, 0, c, ⟨a, b, d, e, rest, hv, g1, g2, g3, g4, _⟩, hi => by
    simp at hi
    subst hi
    rw [hv]
    exact ⟨a, b, d, e, rfl, rfl, rfl, rfl, rfl, g1, g2, g3, g4⟩
  | c0 :: cs, _, i + 1, c, ⟨a, b, d, e, rest, hv, _, _, _, _, g5⟩, hi => by
    rw [List.getElem?_cons_succ] at hi
    obtain ⟨a', b', d', e', k0, k1, k2, k3, k4, r⟩ := g5.at hi
    rw [hv]
    refine ⟨a', b', d', e', ?_, ?_, ?_, ?_, ?_, r⟩
    · rw [show (i + 1) * 5 = i * 5 + 5 by omega]; exact k0
    · rw [show (i + 1) * 5 + 1 = i * 5 + 1 + 5 by omega]; exact k1
    · rw [show (i + 1) * 5 + 2 = i * 5 + 2 + 5 by omega]; exact k2
    · rw [show (i + 1) * 5 + 3 = i * 5 + 3 + 5 by omega]; exact k3
    · rw [show (i + 1) * 5 + 4 = i * 5 + 4 + 5 by omega]; exact k4

/-- The row of chunks. -/
def OutR (w : World) (B : Nat) (v : Value) (cs : List (Ck ByteArray)) : Prop := ∃ vals, w.ownsRow B 34 5 v cs.length vals ∧ CkV w B vals cs

theorem OutR.kept {w w' : World} {B g : Nat} {t : TypeId} {v : Value} {cs : List (Ck ByteArray)} (h : OutR w B v cs) (hg : w.grownBy w' (some g)) (ty : Ty w g t) (h9 : t ≠ 9) (hne : v.ownBlock ≠ some g) : OutR w' B v cs := by
  obtain ⟨vals, h1, h2⟩ := h
  exact ⟨vals, h1.kept hg (.inr hne), h2.keep fun v ss ho => ho.kept hg (.inr (own_apart ho ty (Ne.symm h9)))⟩
theorem OutR.below {w w' : World} {B : Nat} {v : Value} {cs : List (Ck ByteArray)} (h : OutR w B v cs) (hb : Below w.heap.size w w') : OutR w' B v cs := by
  obtain ⟨vals, h1, h2⟩ := h
  exact ⟨vals, own2_keep h1 hb, h2.keep fun v ss ho => own_keep ho hb⟩
theorem OutR.ne {w : World} {B g : Nat} {t : TypeId} {v : Value} {cs : List (Ck ByteArray)} (h : OutR w B v cs) (ty : Ty w g t) (hne : t ≠ 34) : v.ownBlock ≠ some g := by
  obtain ⟨vals, h1, _⟩ := h
  exact own_apart h1 ty (Ne.symm hne)

/-- What stands between two steps of the cutter. -/
structure Cs (w0 w : World) (C : Nat) (v0 v1 v2 vp vq : Value) (xs ys zs : List ByteArray) (p q : List (Option Nat)) (i j k : Nat) (cs : List (Ck ByteArray)) : Prop where
  c : ∃ v8, Cutr w C v0 v1 v2 vp vq (.int .i64 (i : Int)) (.int .i64 (j : Int)) (.int .i64 (k : Int)) v8 ∧ OutR w w0.heap.size v8 cs
  a : Strs w0 v0 xs
  b : Strs w0 v1 ys
  d : Strs w0 v2 zs
  p1 : Pl w vp p
  p2 : Pl w vq q
  g : Below w0.heap.size w0 w
  cb : w0.heap.size ≤ C

end Go.Proofs.Ytiefenfogjlnoaa
