/-
  Words for memory: a block that is known whole; shelves of four cells in a row of their own.
-/
import Derived.Test.YtkhdjlakclidoaaDoorRefC
import Derived.WalkKit
import Derived.WalkSpells
import Derived.WalkSmall
import Derived.Lib.SliceRun
import Derived.Laws.OwnMore
import Derived.Laws.Rows
import Derived.Laws.IdiomCopy
import Derived.Maps.AppendAt
import Derived.Lib.Hide
import Derived.Deep.Draws
import Derived.Deep.AppendLies
import Derived.Deep.RegionLaw
import Derived.Deep.QuietTactic
import Derived.BigQuiet
import Derived.IntWalk
import Derived.OpenShut
import Derived.LoopTactic
import Derived.WalkLawsBesides
import Derived.Deep.RegionHeld3
import Derived.Deep.RegionWith
namespace Go.Proofs.YtkhdjlakclidoaaDoor
open Go Go.RowKit

def Blk (w : World) (g : Nat) (t : TypeId) (cs : Array Value) : Prop := w.heap[g]? = some (.cells cs t (0, 0))
section
variable {w w' : World} {g : Nat} {t : TypeId} {cs : Array Value}
theorem Blk.lt (h : Blk w g t cs) : g < w.heap.size := by
  rcases Nat.lt_or_ge g w.heap.size with hlt | hge
  · exact hlt
  · unfold Blk at h; rw [Array.getElem?_eq_none hge] at h; cases h
theorem Blk.cell (h : Blk w g t cs) (i : Nat) : w.cell? ⟨g, i, none⟩ = cs[i]? := cell_of_row w g i cs t (0, 0) h
theorem Blk.frozen (h : Blk w g t cs) (i : Nat) : w.frozen? ⟨g, i, none⟩ = false := by
  unfold Blk at h
  simp [World.frozen?, h]
theorem Blk.new (w : World) (t : TypeId) (cs : Array Value) : Blk (w.alloc (.cells cs t)) w.heap.size t cs := heap_alloc_new w _
theorem Blk.drewN (h : Blk w g t cs) (n : Nat) : Blk (w.drewN n) g t cs := h
theorem Blk.alloc (h : Blk w g t cs) (o : Obj) : Blk (w.alloc o) g t cs := (Below.heap_alloc w o g h.lt).trans h
theorem Blk.set_ (h : Blk w g t cs) (i : Nat) (u : Value) : Blk (w.setCell ⟨g, i, none⟩ u) g t (cs.setIfInBounds i u) := by
  unfold Blk at h ⊢
  simp [World.setCell, Array.getElem?_modify, h]
theorem Blk.far (h : Blk w g t cs) {p : Addr} (hp : g ≠ p.block) (u : Value) : Blk (w.setCell p u) g t cs := (Below.heap_setCell w p u g hp).trans h
theorem Blk.below {B : Nat} (h : Blk w g t cs) (hb : Below B w w') (hg : g < B) : Blk w' g t cs := (hb.block g hg).trans h
theorem Blk.grown {row : Option Nat} (h : Blk w g t cs) (hb : w.grownBy w' row) (hg : some g ≠ row) : Blk w' g t cs := (hb.block g h.lt hg).trans h
theorem Blk.ne_ {g' : Nat} {t' : TypeId} {cs' : Array Value} (h : Blk w g t cs) (h' : Blk w g' t' cs') (hne : t ≠ t') : g ≠ g' := by
  rintro rfl
  unfold Blk at h h'
  rw [h] at h'
  injection h' with h'
  injection h' with _ ht
  exact hne ht
theorem own_blk_ne {base : Nat} {e : TypeId} {size n : Nat} {v : Value} {xs : List Value} (h : w.ownsRow base e size v n xs) (hg : Blk w g t cs) (hne : e ≠ t) : v.ownBlock ≠ some g := by
  rcases h.2 with ⟨rfl, _⟩ | ⟨g', cap, cur, rfl, _, hh, _⟩
  · simp [Value.ownBlock]
  · intro he
    have : g' = g := by simpa [Value.ownBlock] using he
    subst this
    exact Blk.ne_ (t := e) hh hg hne rfl
/-- Cells laid from o on. -/
theorem Blk.setCells : ∀ (vs : List Value) (o : Nat) {w : World} {cs : Array Value}, Blk w g t cs → o + vs.length ≤ cs.size →
    ∃ cs' : Array Value, Blk (w.setCells g o vs) g t cs' ∧ cs'.size = cs.size ∧ ∀ j, cs'[j]? = if o ≤ j ∧ j < o + vs.length then vs[j - o]? else cs[j]?
  | [], o, w, cs, h, _ => ⟨cs, h, rfl, fun j => by rw [if_neg (by simp only [List.length_nil]; omega)]⟩
  | v :: vs, o, w, cs, h, hl => by
    rw [List.length_cons] at hl
    obtain ⟨cs', h1, h2, h3⟩ := Blk.setCells vs (o + 1) (h.set_ o v) (by rw [Array.size_setIfInBounds]; omega)
    refine ⟨cs', h1, by rw [h2, Array.size_setIfInBounds], fun j => ?_⟩
    rw [h3 j, List.length_cons]
    by_cases e1 : o + 1 ≤ j ∧ j < o + 1 + vs.length
    · rw [if_pos e1, if_pos (by omega)]
      obtain ⟨k, hk⟩ : ∃ k, j - o = k + 1 := ⟨j - o - 1, by omega⟩
      rw [hk, List.getElem?_cons_succ, show j - (o + 1) = k by omega]
    · rw [if_neg e1]
      by_cases e2 : j = o
      · subst e2
        rw [if_pos (by omega), Nat.sub_self, Array.getElem?_setIfInBounds_self]
        rw [if_pos (by omega)]; rfl
      · rw [if_neg (by omega), Array.getElem?_setIfInBounds_ne (by omega)]
end

theorem below_drewN {B : Nat} {a w : World} (h : Below B a w) (n : Nat) : Below B a (w.drewN n) := ⟨h.os, h.tape, h.output, h.size, h.block⟩
theorem own_keep {w w' : World} {base : Nat} {e : TypeId} {size : Nat} {v : Value} {n : Nat} {xs : List Value} (h : w.ownsRow base e size v n xs) (hb : Below w.heap.size w w') : w'.ownsRow base e size v n xs :=
  h.kept (row := none) ⟨hb.os, hb.tape, hb.output, hb.size, fun k hk _ => hb.block k hk⟩ (by
    cases h' : v.ownBlock with
    | none => exact .inl rfl
    | some k => exact .inr (by simp))
theorem own_form {w : World} {base size : Nat} {e : TypeId} {v : Value} {n : Nat} {xs : List Value} (h : w.ownsRow base e size v n xs) : ∃ A c, v = .slice A n c := by
  rcases h.2 with ⟨rfl, rfl⟩ | ⟨g, cap, cur, rfl, _⟩
  · exact ⟨_, _, rfl⟩
  · exact ⟨_, _, rfl⟩


/-- A shelf without an index: its commit, its folder's row as a value, its text. -/
abbrev Sf := Int × Value × ByteArray
abbrev rcs (r : Sf) : List Value := [.int .i64 r.1, .slice none 0 0, r.2.1, .string r.2.2]
def vlen : Value → Nat
  | .slice _ n _ => n
  | _ => 0
/-- A row of no file, or of one. -/
def Wk (w : World) (v : Value) : Prop := v = .slice none 0 0 ∨ ∃ xs : List Value, w.ownsRow 0 52 3 v 1 xs ∧ ∀ u ∈ xs, u.oneCell' = true
theorem Wk.one {w : World} {v : Value} (h : Wk w v) : v.oneCell' = true := by
  rcases h with rfl | ⟨xs, h, _⟩
  · rfl
  · obtain ⟨A, c, rfl⟩ := own_form h
    rfl
theorem Wk.form {w : World} {v : Value} (h : Wk w v) : ∃ A c, v = .slice A (vlen v) c ∧ vlen v ≤ 1 := by
  rcases h with rfl | ⟨xs, h, _⟩
  · exact ⟨_, _, rfl, Nat.zero_le _⟩
  · obtain ⟨A, c, rfl⟩ := own_form h
    exact ⟨_, _, rfl, Nat.le_refl _⟩
theorem Wk.below {w w' : World} {v : Value} (h : Wk w v) (hb : Below w.heap.size w w') : Wk w' v := by
  rcases h with rfl | ⟨xs, h, h1⟩
  · exact .inl rfl
  · exact .inr ⟨xs, own_keep h hb, h1⟩
theorem Wk.grown {w w' : World} {v : Value} {row : Option Nat} (h : Wk w v) (hb : w.grownBy w' row) (hr : v.ownBlock = none ∨ v.ownBlock ≠ row) : Wk w' v := by
  rcases h with rfl | ⟨xs, h, h1⟩
  · exact .inl rfl
  · exact .inr ⟨xs, h.kept hb hr, h1⟩

def sce (l : List Sf) : List Value := l.flatMap fun r => rcs r
theorem sce_cons (r : Sf) (l : List Sf) : sce (r :: l) = .int .i64 r.1 :: .slice none 0 0 :: r.2.1 :: .string r.2.2 :: sce l := by simp [sce]
theorem sce_app (a b : List Sf) : sce (a ++ b) = sce a ++ sce b := by simp [sce]
theorem sce_len : ∀ l : List Sf, (sce l).length = l.length * 4
  | [] => rfl
  | r :: l => by rw [sce_cons]; simp only [List.length_cons]; rw [sce_len l]; omega
theorem sce_take : ∀ (l : List Sf) (k : Nat), sce (l.take k) = (sce l).take (k * 4)
  | [], k => by simp [sce]
  | r :: l, 0 => by simp [sce]
  | r :: l, k + 1 => by rw [List.take_succ_cons, sce_cons, sce_cons, sce_take l k, show (k + 1) * 4 = k * 4 + 1 + 1 + 1 + 1 by omega]; rfl
theorem sce_drop : ∀ (l : List Sf) (k : Nat), sce (l.drop k) = (sce l).drop (k * 4)
  | [], k => by simp [sce]
  | r :: l, 0 => by simp
  | r :: l, k + 1 => by rw [List.drop_succ_cons, sce_cons, sce_drop l k, show (k + 1) * 4 = k * 4 + 1 + 1 + 1 + 1 by omega]; rfl
theorem sce_at : ∀ (l : List Sf) (k : Nat) (r : Sf), l[k]? = some r → (sce l)[k * 4]? = some (.int .i64 r.1) ∧ (sce l)[k * 4 + 1]? = some (.slice none 0 0) ∧ (sce l)[k * 4 + 2]? = some r.2.1 ∧ (sce l)[k * 4 + 3]? = some (.string r.2.2)
  | [], k, r, h => by simp at h
  | x :: l, 0, r, h => by
    simp at h; subst h
    rw [sce_cons]
    exact ⟨rfl, rfl, rfl, rfl⟩
  | x :: l, k + 1, r, h => by
    have ih := sce_at l k r (by simpa using h)
    rw [sce_cons, show (k + 1) * 4 = k * 4 + 1 + 1 + 1 + 1 by omega]
    exact ⟨by simpa using ih.1, by simpa using ih.2.1, by simpa using ih.2.2.1, by simpa using ih.2.2.2⟩
def Wks (w : World) (l : List Sf) : Prop := ∀ r ∈ l, Wk w r.2.1
theorem Wks.below {w w' : World} {l : List Sf} (h : Wks w l) (hb : Below w.heap.size w w') : Wks w' l := fun r hr => (h r hr).below hb
theorem sce_one {w : World} {l : List Sf} (h : Wks w l) : ∀ u ∈ sce l, u.oneCell' = true := by
  intro u hu
  unfold sce at hu
  obtain ⟨r, hm, hr⟩ := List.mem_flatMap.1 hu
  have := (h r hm).one
  simp at hr
  rcases hr with rfl | rfl | rfl | rfl <;> first | rfl | exact this
theorem sfInfo : (Tryd.prog.info? 40).map (fun i => (i.zero, i.size, i.bytes)) = some (some (.agg #[.int .i64 0, .slice none 0 0, .slice none 0 0, .string ⟨#[]⟩]), 4, 72) := by kernel_rfl
theorem fileInfo : (Tryd.prog.info? 52).map (fun i => (i.zero, i.size, i.bytes)) = some (some (.agg #[.string ⟨#[]⟩, .int .i64 0, .string ⟨#[]⟩]), 3, 40) := by kernel_rfl
/-- The value v is a row of its own with the shelves l. -/
abbrev SOwn (w : World) (B : Nat) (v : Value) (l : List Sf) : Prop := w.ownsRow B 40 4 v l.length (sce l)
theorem SOwn.mk_ {w : World} {B g cap : Nat} {cur : Array Value} {l : List Sf} (hB : B ≤ g) (hb : Blk w g 40 cur) (hs : cur.size = cap * 4) (hm : cap ≤ maxLen) (hl : l.length ≤ cap) (hc : ∀ j, j < l.length * 4 → cur[j]? = (sce l)[j]?) :
    SOwn w B (.slice (some ⟨g, 0, none⟩) l.length cap) l := by
  refine ⟨sce_len l, .inr ⟨g, cap, cur, rfl, hB, hb, hl, hm, hs, ?_⟩⟩
  apply List.ext_getElem?
  intro j
  rw [List.getElem?_take]
  by_cases hj : j < l.length * 4
  · rw [if_pos hj, Array.getElem?_toList, hc j hj]
  · rw [if_neg hj, List.getElem?_eq_none (by rw [sce_len]; omega)]
theorem SOwn.open_ {w : World} {B : Nat} {v : Value} {l : List Sf} (h : SOwn w B v l) :
    (v = .slice none 0 0 ∧ l = []) ∨ ∃ g cap cur, v = .slice (some ⟨g, 0, none⟩) l.length cap ∧ B ≤ g ∧ Blk w g 40 cur ∧ l.length ≤ cap ∧ cap ≤ maxLen ∧ cur.size = cap * 4 ∧ ∀ j, j < l.length * 4 → cur[j]? = (sce l)[j]? := by
  rcases h.2 with ⟨h1, h2⟩ | ⟨g, cap, cur, hv, hg, hb, hn, hm, hs, ht⟩
  · exact .inl ⟨h1, List.eq_nil_of_length_eq_zero h2⟩
  · refine .inr ⟨g, cap, cur, hv, hg, hb, hn, hm, hs, fun j hj => ?_⟩
    rw [← ht, List.getElem?_take, if_pos hj, Array.getElem?_toList]
theorem SOwn.at_ {w : World} {B : Nat} {v : Value} {l : List Sf} (h : SOwn w B v l) {k : Nat} {r : Sf} (hk : l[k]? = some r) :
    ∃ g cap, v = .slice (some ⟨g, 0, none⟩) l.length cap ∧ w.cell? ⟨g, k * 4, none⟩ = some (.int .i64 r.1) ∧ w.cell? ⟨g, k * 4 + 1, none⟩ = some (.slice none 0 0) ∧ w.cell? ⟨g, k * 4 + 2, none⟩ = some r.2.1 ∧ w.cell? ⟨g, k * 4 + 3, none⟩ = some (.string r.2.2) ∧ l.length ≤ cap ∧ cap ≤ maxLen ∧ g < w.heap.size := by
  have hlt := (List.getElem?_eq_some_iff.1 hk).1
  rcases h.open_ with ⟨rfl, rfl⟩ | ⟨g, cap, cur, hv, hg, hb, hn, hm, hs, hc⟩
  · simp at hk
  · have e := sce_at l k r hk
    exact ⟨g, cap, hv, by rw [hb.cell, hc _ (by omega), e.1], by rw [hb.cell, hc _ (by omega), e.2.1], by rw [hb.cell, hc _ (by omega), e.2.2.1], by rw [hb.cell, hc _ (by omega), e.2.2.2], hn, hm, hb.lt⟩

/-- What a shelf tells: its commit, how many files, its text. -/
abbrev Ky := Int × Nat × ByteArray
def key (r : Sf) : Ky := (r.1, vlen r.2.1, r.2.2)
/-- The value v is a row of its own with shelves that tell K. -/
def Stk (w : World) (B : Nat) (v : Value) (K : List Ky) : Prop := ∃ l, SOwn w B v l ∧ Wks w l ∧ l.map key = K
theorem Stk.below {w w' : World} {B : Nat} {v : Value} {K : List Ky} (h : Stk w B v K) (hb : Below w.heap.size w w') : Stk w' B v K := by
  obtain ⟨l, a, b, c⟩ := h
  exact ⟨l, own_keep a hb, b.below hb, c⟩
theorem Stk.form {w : World} {B : Nat} {v : Value} {K : List Ky} (h : Stk w B v K) : ∃ A c, v = .slice A K.length c := by
  obtain ⟨l, a, b, c⟩ := h
  obtain ⟨A, c', h⟩ := own_form a
  refine ⟨A, c', ?_⟩
  rw [← c, List.length_map]; exact h
theorem stk_nil (w : World) (B : Nat) : Stk w B (.slice none 0 0) [] := ⟨[], World.ownsRow_nil _ _ _ _, fun r hr => by simp at hr, rfl⟩
theorem Stk.lower {w : World} {B B' : Nat} {v : Value} {K : List Ky} (h : Stk w B v K) (hb : B' ≤ B) : Stk w B' v K := by
  obtain ⟨l, ⟨a, b⟩, b', c⟩ := h
  refine ⟨l, ⟨a, b.imp id ?_⟩, b', c⟩
  rintro ⟨g, cap, cur, hv, hg, r⟩
  exact ⟨g, cap, cur, hv, Nat.le_trans hb hg, r⟩

def sfHas (n : Nat) (i : Int) : Bool := decide (0 ≤ i) && decide (i < (n : Int))
theorem sf_has (n c : Nat) (A : Option Addr) (i : Int) (w : World) (_hn : n ≤ 1000) : Calls Tryd.prog 37 #[.slice A n c, .int .i64 i] w fun e w' => e = .returned (.bool (sfHas n i)) ∧ w = w' := by
  by_cases h0 : (0 : Int) ≤ i
  · by_cases h1 : i < (n : Int)
    · have hd : Hid (sfHas n i = true) := Lib.hid (by unfold sfHas; rw [decide_eq_true h0, decide_eq_true h1]; rfl)
      go_enter Tryd.func37, Tryd.ntmps37
      go_wp2
      go_ret
      exact ⟨ret_b (by rw [hd.out]), rfl⟩
    · have hd : Hid (sfHas n i = false) := Lib.hid (by unfold sfHas; rw [decide_eq_false h1, Bool.and_false])
      go_enter Tryd.func37, Tryd.ntmps37
      go_wp2
      go_ret
      exact ⟨ret_b (by rw [hd.out]), rfl⟩
  · have hd : Hid (sfHas n i = false) := Lib.hid (by unfold sfHas; rw [decide_eq_false h0, Bool.false_and])
    go_enter Tryd.func37, Tryd.ntmps37
    go_wp2
    go_ret
    exact ⟨ret_b (by rw [hd.out]), rfl⟩
#print axioms sf_has
end Go.Proofs.YtkhdjlakclidoaaDoor
