/-
  Words for memory: a block that is known whole; a row of names and commits of the call's own.
-/
import Derived.Test.YtkhdjlakclidoaaNOrd
import Derived.Test.YtkhdjlakclidoaaShelf
import Derived.WalkKit
import Derived.WalkSpells
import Derived.WalkSmall
import Derived.Laws.OwnMore
import Derived.Laws.Rows
import Derived.Laws.IdiomCopy
import Derived.Maps.AppendAt
import Derived.Lib.Hide
import Derived.Deep.Draws
import Derived.Deep.AppendLies
import Derived.Deep.RegionLaw
import Derived.Deep.QuietTactic
import Derived.BigQuiet
import Derived.IntWalk
import Derived.OpenShut
namespace Go.Proofs.Ytkhdjlakclidoaa
open Go.RowKit

def Blk (w : World) (g : Nat) (t : TypeId) (cs : Array Value) : Prop := w.heap[g]? = some (.cells cs t (0, 0))
section
variable {w w' : World} {g : Nat} {t : TypeId} {cs : Array Value}
theorem Blk.lt (h : Blk w g t cs) : g < w.heap.size := by
  rcases Nat.lt_or_ge g w.heap.size with hlt | hge
  · exact hlt
  · unfold Blk at h; rw [Array.getElem?_eq_none hge] at h; cases h
theorem Blk.cell (h : Blk w g t cs) (i : Nat) : w.cell? ⟨g, i, none⟩ = cs[i]? := cell_of_row w g i cs t (0, 0) h
theorem Blk.frozen (h : Blk w g t cs) (i : Nat) : w.frozen? ⟨g, i, none⟩ = false := by
  unfold Blk at h
  simp [World.frozen?, h]
theorem Blk.new (w : World) (t : TypeId) (cs : Array Value) : Blk (w.alloc (.cells cs t)) w.heap.size t cs := heap_alloc_new w _
theorem Blk.drewN (h : Blk w g t cs) (n : Nat) : Blk (w.drewN n) g t cs := h
theorem Blk.alloc (h : Blk w g t cs) (o : Obj) : Blk (w.alloc o) g t cs := (Below.heap_alloc w o g h.lt).trans h
theorem Blk.set_ (h : Blk w g t cs) (i : Nat) (u : Value) : Blk (w.setCell ⟨g, i, none⟩ u) g t (cs.setIfInBounds i u) := by
  unfold Blk at h ⊢
  simp [World.setCell, Array.getElem?_modify, h]
theorem Blk.far (h : Blk w g t cs) {p : Addr} (hp : g ≠ p.block) (u : Value) : Blk (w.setCell p u) g t cs := (Below.heap_setCell w p u g hp).trans h
theorem Blk.below {B : Nat} (h : Blk w g t cs) (hb : Below B w w') (hg : g < B) : Blk w' g t cs := (hb.block g hg).trans h
theorem Blk.grown {row : Option Nat} (h : Blk w g t cs) (hb : w.grownBy w' row) (hg : some g ≠ row) : Blk w' g t cs := (hb.block g h.lt hg).trans h
theorem Blk.ne_ {g' : Nat} {t' : TypeId} {cs' : Array Value} (h : Blk w g t cs) (h' : Blk w g' t' cs') (hne : t ≠ t') : g ≠ g' := by
  rintro rfl
  unfold Blk at h h'
  rw [h] at h'
  injection h' with h'
  injection h' with _ ht
  exact hne ht
theorem own_blk_ne {base : Nat} {e : TypeId} {size n : Nat} {v : Value} {xs : List Value} (h : w.ownsRow base e size v n xs) (hg : Blk w g t cs) (hne : e ≠ t) : v.ownBlock ≠ some g := by
  rcases h.2 with ⟨rfl, _⟩ | ⟨g', cap, cur, rfl, _, hh, _⟩
  · simp [Value.ownBlock]
  · intro he
    have : g' = g := by simpa [Value.ownBlock] using he
    subst this
    exact Blk.ne_ (t := e) hh hg hne rfl
/-- Cells laid from o on. -/
theorem Blk.setCells : ∀ (vs : List Value) (o : Nat) {w : World} {cs : Array Value}, Blk w g t cs → o + vs.length ≤ cs.size →
    ∃ cs' : Array Value, Blk (w.setCells g o vs) g t cs' ∧ cs'.size = cs.size ∧ ∀ j, cs'[j]? = if o ≤ j ∧ j < o + vs.length then vs[j - o]? else cs[j]?
  | [], o, w, cs, h, _ => ⟨cs, h, rfl, fun j => by rw [if_neg (by simp only [List.length_nil]; omega)]⟩
  | v :: vs, o, w, cs, h, hl => by
    rw [List.length_cons] at hl
    obtain ⟨cs', h1, h2, h3⟩ := Blk.setCells vs (o + 1) (h.set_ o v) (by rw [Array.size_setIfInBounds]; omega)
    refine ⟨cs', h1, by rw [h2, Array.size_setIfInBounds], fun j => ?_⟩
    rw [h3 j, List.length_cons]
    by_cases e1 : o + 1 ≤ j ∧ j < o + 1 + vs.length
    · rw [if_pos e1, if_pos (by omega)]
      obtain ⟨k, hk⟩ : ∃ k, j - o = k + 1 := ⟨j - o - 1, by omega⟩
      rw [hk, List.getElem?_cons_succ, show j - (o + 1) = k by omega]
    · rw [if_neg e1]
      by_cases e2 : j = o
      · subst e2
        rw [if_pos (by omega), Nat.sub_self, Array.getElem?_setIfInBounds_self]
        rw [if_pos (by omega)]; rfl
      · rw [if_neg (by omega), Array.getElem?_setIfInBounds_ne (by omega)]
end

theorem below_drewN {B : Nat} {a w : World} (h : Below B a w) (n : Nat) : Below B a (w.drewN n) := ⟨h.os, h.tape, h.output, h.size, h.block⟩
theorem own_keep {w w' : World} {base : Nat} {e : TypeId} {size : Nat} {v : Value} {n : Nat} {xs : List Value} (h : w.ownsRow base e size v n xs) (hb : Below w.heap.size w w') : w'.ownsRow base e size v n xs :=
  h.kept (row := none) ⟨hb.os, hb.tape, hb.output, hb.size, fun k hk _ => hb.block k hk⟩ (by
    cases h' : v.ownBlock with
    | none => exact .inl rfl
    | some k => exact .inr (by simp))
theorem own_form {w : World} {base size : Nat} {e : TypeId} {v : Value} {n : Nat} {xs : List Value} (h : w.ownsRow base e size v n xs) : ∃ A c, v = .slice A n c := by
  rcases h.2 with ⟨rfl, rfl⟩ | ⟨g, cap, cur, rfl, _⟩
  · exact ⟨_, _, rfl⟩
  · exact ⟨_, _, rfl⟩

/-- The cells of a row of names. -/
def ce (l : List Rf) : List Value := l.flatMap fun r => [Value.string r.1, .int .i64 r.2]
theorem ce_cons (r : Rf) (l : List Rf) : ce (r :: l) = .string r.1 :: .int .i64 r.2 :: ce l := by simp [ce]
theorem ce_app (a b : List Rf) : ce (a ++ b) = ce a ++ ce b := by simp [ce]
theorem ce_len : ∀ l : List Rf, (ce l).length = l.length * 2
  | [] => rfl
  | r :: l => by rw [ce_cons, List.length_cons, List.length_cons, ce_len l, List.length_cons]; omega
theorem ce_take : ∀ (l : List Rf) (k : Nat), ce (l.take k) = (ce l).take (k * 2)
  | [], k => by simp [ce]
  | r :: l, 0 => by simp [ce]
  | r :: l, k + 1 => by rw [List.take_succ_cons, ce_cons, ce_cons, ce_take l k, show (k + 1) * 2 = k * 2 + 1 + 1 by omega, List.take_succ_cons, List.take_succ_cons]
theorem ce_drop : ∀ (l : List Rf) (k : Nat), ce (l.drop k) = (ce l).drop (k * 2)
  | [], k => by simp [ce]
  | r :: l, 0 => by simp
  | r :: l, k + 1 => by rw [List.drop_succ_cons, ce_cons, ce_drop l k, show (k + 1) * 2 = k * 2 + 1 + 1 by omega, List.drop_succ_cons, List.drop_succ_cons]
theorem ce_at : ∀ (l : List Rf) (k : Nat) (r : Rf), l[k]? = some r → (ce l)[k * 2]? = some (.string r.1) ∧ (ce l)[k * 2 + 1]? = some (.int .i64 r.2)
  | [], k, r, h => by simp at h
  | x :: l, 0, r, h => by
    simp at h; subst h
    rw [ce_cons]
    exact ⟨rfl, rfl⟩
  | x :: l, k + 1, r, h => by
    have ih := ce_at l k r (by simpa using h)
    rw [ce_cons, show (k + 1) * 2 = k * 2 + 1 + 1 by omega]
    exact ⟨by simpa using ih.1, by simpa using ih.2⟩
theorem ce_one (l : List Rf) : ∀ u ∈ ce l, u.oneCell' = true := by
  intro u hu
  unfold ce at hu
  obtain ⟨r, _, hr⟩ := List.mem_flatMap.1 hu
  simp at hr
  rcases hr with rfl | rfl <;> rfl

/-- The value v is a row of its own with the names l. -/
abbrev Own (w : World) (B : Nat) (v : Value) (l : List Rf) : Prop := w.ownsRow B 43 2 v l.length (ce l)
theorem refInfo : (Try.prog.info? 43).map (fun i => (i.zero, i.size, i.bytes)) = some (some (.agg #[.string ⟨#[]⟩, .int .i64 0]), 2, 24) := by kernel_rfl

/-- Built anew from a block. -/
theorem Own.mk_ {w : World} {B g cap : Nat} {cur : Array Value} {l : List Rf} (hB : B ≤ g) (hb : Blk w g 43 cur) (hs : cur.size = cap * 2) (hm : cap ≤ maxLen) (hl : l.length ≤ cap) (hc : ∀ j, j < l.length * 2 → cur[j]? = (ce l)[j]?) :
    Own w B (.slice (some ⟨g, 0, none⟩) l.length cap) l := by
  refine ⟨ce_len l, .inr ⟨g, cap, cur, rfl, hB, hb, hl, hm, hs, ?_⟩⟩
  apply List.ext_getElem?
  intro j
  rw [List.getElem?_take]
  by_cases hj : j < l.length * 2
  · rw [if_pos hj, Array.getElem?_toList, hc j hj]
  · rw [if_neg hj, List.getElem?_eq_none (by rw [ce_len]; omega)]
theorem Own.open_ {w : World} {B : Nat} {v : Value} {l : List Rf} (h : Own w B v l) :
    (v = .slice none 0 0 ∧ l = []) ∨ ∃ g cap cur, v = .slice (some ⟨g, 0, none⟩) l.length cap ∧ B ≤ g ∧ Blk w g 43 cur ∧ l.length ≤ cap ∧ cap ≤ maxLen ∧ cur.size = cap * 2 ∧ ∀ j, j < l.length * 2 → cur[j]? = (ce l)[j]? := by
  rcases h.2 with ⟨h1, h2⟩ | ⟨g, cap, cur, hv, hg, hb, hn, hm, hs, ht⟩
  · exact .inl ⟨h1, List.eq_nil_of_length_eq_zero h2⟩
  · refine .inr ⟨g, cap, cur, hv, hg, hb, hn, hm, hs, fun j hj => ?_⟩
    rw [← ht, List.getElem?_take, if_pos hj, Array.getElem?_toList]
/-- The cells of the element k, in the walk's own spelling. -/
theorem Own.at_ {w : World} {B : Nat} {v : Value} {l : List Rf} (h : Own w B v l) {k : Nat} {r : Rf} (hk : l[k]? = some r) :
    ∃ g cap, v = .slice (some ⟨g, 0, none⟩) l.length cap ∧ w.cell? ⟨g, k * 2, none⟩ = some (.string r.1) ∧ w.cell? ⟨g, k * 2 + 1, none⟩ = some (.int .i64 r.2) ∧ w.frozen? ⟨g, k * 2, none⟩ = false ∧ w.frozen? ⟨g, k * 2 + 1, none⟩ = false ∧ l.length ≤ cap ∧ cap ≤ maxLen ∧ g < w.heap.size := by
  have hlt := (List.getElem?_eq_some_iff.1 hk).1
  rcases h.open_ with ⟨rfl, rfl⟩ | ⟨g, cap, cur, hv, hg, hb, hn, hm, hs, hc⟩
  · simp at hk
  · have e := ce_at l k r hk
    exact ⟨g, cap, hv, by rw [hb.cell, hc _ (by omega), e.1], by rw [hb.cell, hc _ (by omega), e.2], hb.frozen _, hb.frozen _, hn, hm, hb.lt⟩
end Go.Proofs.Ytkhdjlakclidoaa
