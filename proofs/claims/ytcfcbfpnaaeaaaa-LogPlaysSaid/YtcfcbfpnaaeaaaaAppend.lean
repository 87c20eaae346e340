/-
  append of one list of strings to a row of the call's own: whatever the other slice is.
-/
import Derived.Test.YtcfcbfpnaaeaaaaKnown
import Derived.Laws.AppendOwnNone
import Derived.Deep.AppendLies
namespace Go.Proofs.Ytcfcbfpnaaeaaaa
open Go.RowKit

theorem run_append_strs (w : World) (ty : TypeId) (base n : Nat) (v : Value) (xs ys : List ByteArray) (hown : w.ownsRow base 9 1 v n (xs.map Value.string)) (A : Option Addr) (m c : Nat) (h : Strs w (.slice A m c) ys) (hl : n + m ≤ 1000000) (hbase : base ≤ w.heap.size) :
    ∃ A' m' c' w', (Builtin.append_ #[24, 24] ty #[v, .slice A m c]).run Try.prog w = .ok (.slice A' m' c') w' ∧ w'.ownsRow base 9 1 (.slice A' m' c') (n + m) ((xs ++ ys).map Value.string) ∧ Below base w w' ∧ w.grownBy w' v.ownBlock := by
  obtain ⟨i0, hi, hz0, hz1, hz2⟩ := info_parts strInfo
  obtain ⟨A0, c0, hv, h1, h2, h3, h4⟩ := h
  injection hv with e1 e2 e3
  subst e1; subst e3
  cases A with
  | none =>
    have hc := h3 rfl
    subst hc
    have hm : m = 0 := by omega
    subst hm
    have : ys = [] := List.eq_nil_of_length_eq_zero (by omega)
    subst this
    obtain ⟨A', m', c', rfl⟩ := own_form hown
    have hr := run_append_owned_none (P := Try.prog) (w := w) base 24 ty 9 i0 1 Try.underlying24 hi _ n _ hown
    exact ⟨A', m', c', w, hr, by simpa using hown, Below.refl _ _, World.grownBy.refl _ _⟩
  | some ad =>
    obtain ⟨v', w', hr, ho, hg, _⟩ := run_append_own (P := Try.prog) w base 24 ty 9 i0 (.string { data := #[] }) 1 16 Try.underlying24 hi hz0 hz1 hz2 rfl (by decide) v n (xs.map Value.string) hown ad m c (ys.map Value.string) (by simp [e2]) (by
      intro j u hu
      rw [List.getElem?_map] at hu
      cases hs : ys[j]? with
      | none => rw [hs] at hu; cases hu
      | some s => rw [hs] at hu; cases hu; exact h4 ad rfl j s hs) (by intro u hu; obtain ⟨x, _, rfl⟩ := List.mem_map.1 hu; rfl) (by unfold maxLen; omega) (by omega) hbase
    obtain ⟨A', m', c', rfl⟩ := own_form ho
    exact ⟨A', m', c', w', hr, by simpa using ho, (Below.refl base w).grown hg hbase fun k hk => (hown.lt k hk).1, hg⟩

theorem wp_append_strs (w : World) {o : Oper} {a : Act} {K : Act → World → Prop} {Q : Exit → Act → World → Prop} (s x : Operand)
    (ho : o.op = .call { callee := .builtin .append, args := #[s, x], argTypes := #[24, 24] })
    (base n : Nat) (v : Value) (xs ys : List ByteArray) (hs : a.eval s = v) (hown : w.ownsRow base 9 1 v n (xs.map Value.string)) (A : Option Addr) (m c : Nat) (hx : a.eval x = .slice A m c) (h : Strs w (.slice A m c) ys) (hl : n + m ≤ 1000000) (hbase : base ≤ w.heap.size)
    (hk : ∀ A' m' c' w', w'.ownsRow base 9 1 (.slice A' m' c') (n + m) ((xs ++ ys).map Value.string) → Below base w w' → w.grownBy w' v.ownBlock → K (a.put o.dst (.slice A' m' c')) w') : o.wp Try.prog a w K Q := by
  obtain ⟨A', m', c', w', hr, h2, h3, h4⟩ := run_append_strs w o.type base n v xs ys hown A m c h hl hbase
  unfold Oper.wp execOp
  simp only [ho, resolve, invoke, builtin, Sem.run_bind, Sem.run_pure, Result.andThen_ok, List.map_toArray, List.map_cons, List.map_nil, hs, hx, hr]
  exact hk A' m' c' w' h2 h3 h4

theorem wpList_append_strs (w : World) {ops : Array Oper} {rest : List Oper} {o : Oper} {a : Act} {Q : Exit → Act → World → Prop} (hgd : o.guard = none) (s x : Operand)
    (ho : o.op = .call { callee := .builtin .append, args := #[s, x], argTypes := #[24, 24] })
    (base n : Nat) (v : Value) (xs ys : List ByteArray) (hs : a.eval s = v) (hown : w.ownsRow base 9 1 v n (xs.map Value.string)) (A : Option Addr) (m c : Nat) (hx : a.eval x = .slice A m c) (h : Strs w (.slice A m c) ys) (hl : n + m ≤ 1000000) (hbase : base ≤ w.heap.size)
    (hk : ∀ A' m' c' w', w'.ownsRow base 9 1 (.slice A' m' c') (n + m) ((xs ++ ys).map Value.string) → Below base w w' → w.grownBy w' v.ownBlock → wpList Try.prog ops Q rest (a.put o.dst (.slice A' m' c')) w') : wpList Try.prog ops Q (o :: rest) a w :=
  wpList_plain hgd fun _ hK => wp_append_strs w s x ho base n v xs ys hs hown A m c hx h hl hbase fun A' m' c' w' h2 h3 h4 => hK _ _ (hk A' m' c' w' h2 h3 h4)

theorem step_append_strs (w : World) {ops : Array Oper} {o : Oper} {a : Act} {K : Act → World → Prop} {Q : Exit → Act → World → Prop} {E : Prop} (hgd : o.guard = none) (s x : Operand)
    (ho : o.op = .call { callee := .builtin .append, args := #[s, x], argTypes := #[24, 24] })
    (base n : Nat) (v : Value) (xs ys : List ByteArray) (hs : a.eval s = v) (hown : w.ownsRow base 9 1 v n (xs.map Value.string)) (A : Option Addr) (m c : Nat) (hx : a.eval x = .slice A m c) (h : Strs w (.slice A m c) ys) (hl : n + m ≤ 1000000) (hbase : base ≤ w.heap.size)
    (hk : ∀ A' m' c' w', w'.ownsRow base 9 1 (.slice A' m' c') (n + m) ((xs ++ ys).map Value.string) → Below base w w' → w.grownBy w' v.ownBlock → K (a.put o.dst (.slice A' m' c')) w') :
    if Region.wanted o (yielded ops a.tmps) = true then Oper.wp Try.prog o a w K Q else E := by
  have hw : Region.wanted o (yielded ops a.tmps) = true := by simp [Region.wanted, hgd]
  rw [if_pos hw]
  exact wp_append_strs w s x ho base n v xs ys hs hown A m c hx h hl hbase hk

/-- The empty row that is made first. -/
theorem own_made (w : World) : (w.alloc (.cells #[] 9)).ownsRow w.heap.size 9 1 (.slice (some ⟨w.heap.size, 0, none⟩) 0 0) 0 (([] : List ByteArray).map Value.string) :=
  World.ownsRow_made w #[] 0 (Nat.le_refl _) (Nat.zero_le _) rfl

theorem strs_one (w : World) (s : ByteArray) : Strs (w.alloc (.cells #[.string s] 9)) (.slice (some ⟨w.heap.size, 0, none⟩) 1 1) [s] :=
  ⟨some ⟨w.heap.size, 0, none⟩, 1, rfl, Nat.le_refl _, by unfold maxLen; omega, (fun h => by cases h), fun ad ha i x hx => by
    obtain rfl := Option.some.inj ha
    cases i with
    | zero => simp at hx; subst hx; exact cell_of_row _ _ 0 _ 9 (0, 0) (heap_alloc_new w _)
    | succ i => simp at hx⟩

theorem Log.parts {w : World} {v1 v2 : Value} {bk fk : List ByteArray} (h : Log w (.agg #[v1, v2]) bk fk) : Strs w v1 bk ∧ Strs w v2 fk := by
  obtain ⟨vb, vf, hv, hb, hf⟩ := h
  simp at hv
  obtain ⟨rfl, rfl⟩ := hv
  exact ⟨hb, hf⟩

/-- What stands through a round: the log's two cells, the act's two cells, the four slices, and all that came in. -/
structure Now (w0 w : World) (b q : Nat) (v1 v2 v3 v4 : Value) (o : Int) (s : ByteArray) (bk fk : List ByteArray) : Prop where
  t : Two w b v1 v2
  d : Two w q (.int .i64 o) (.string s)
  s1 : Strs w v1 bk
  s2 : Strs w v2 fk
  s3 : Strs w v3 bk
  s4 : Strs w v4 fk
  g : Below w0.heap.size w0 w

theorem Now.below {w0 w w' : World} {b q : Nat} {v1 v2 v3 v4 : Value} {o : Int} {s : ByteArray} {bk fk : List ByteArray} (h : Now w0 w b q v1 v2 v3 v4 o s bk fk) (hb : Below w.heap.size w w') : Now w0 w' b q v1 v2 v3 v4 o s bk fk :=
  ⟨h.t.below hb, h.d.below hb, h.s1.below hb, h.s2.below hb, h.s3.below hb, h.s4.below hb, h.g.trans (hb.mono h.g.size)⟩

/-- Where the ways of an act meet: h lies in block M. -/
def Met (M j : Nat) (w4 : World) (x4 x5 : Value) (w : World) : Prop :=
  ∃ (A3 A4 A5 A6 : Option Addr) (m3 c3 m4 c4 m5 c5 m6 c6 : Nat) (bk fk : List ByteArray), x4 = .slice A3 m3 c3 ∧ x5 = .slice A4 m4 c4 ∧ Two w M (.slice A5 m5 c5) (.slice A6 m6 c6) ∧
    Strs w (.slice A5 m5 c5) (lastOf bk) ∧ Strs w (.slice A6 m6 c6) fk ∧ Strs w (.slice A3 m3 c3) bk ∧ Strs w (.slice A4 m4 c4) fk ∧ bk.length ≤ 65 ∧ fk.length ≤ j + 1 ∧ Below M w4 w

theorem lastOf_few (bk : List ByteArray) (h : bk.length ≤ 64) : lastOf bk = bk := by
  unfold lastOf
  rw [show bk.length - 64 = 0 by omega]
  rfl

theorem Strs.put {w : World} {b : Nat} {A : Option Addr} {m c : Nat} {B : Option Addr} {n d : Nat} {v : Value} {ss : List ByteArray} (h : Two w b (.slice A m c) (.slice B n d)) (g : Strs w v ss) (x' y' : Value) :
    Strs ((w.setCell ⟨b, 0, none⟩ x').setCell ⟨b, 1, none⟩ y') v ss := by
  have h1 : (w.setCell ⟨b, 0, none⟩ x').cell? ⟨b, 1, none⟩ = some (.slice B n d) := by rw [World.cell?_setCell_other _ _ _ _ (by simp)]; exact h.c1
  exact (g.setCell h.c0 (by simp) x').setCell h1 (by simp) y'

theorem lastOf_len (bk : List ByteArray) : (lastOf bk).length ≤ 64 := by unfold lastOf; rw [List.length_drop]; omega

/-- A slice of one text, in the newest block, behind an append to another row. -/
theorem strs_far {W w' : World} {s : ByteArray} {row : Option Nat} (h : Strs (W.alloc (.cells #[.string s] 9)) (.slice (some ⟨W.heap.size, 0, none⟩) 1 1) [s]) (hg : (W.alloc (.cells #[.string s] 9)).grownBy w' row) (hne : some W.heap.size ≠ row) :
    Strs w' (.slice (some ⟨W.heap.size, 0, none⟩) 1 1) [s] := by
  obtain ⟨A', c', hv, h1, h2, h3, h4⟩ := h
  injection hv with e1 e2 e3
  subst e1; subst e3
  refine ⟨_, _, rfl, h1, h2, h3, fun ad ha i x hx => ?_⟩
  obtain rfl := Option.some.inj ha
  have hc := h4 _ rfl i x hx
  rw [hg.cell_far _ (World.block_lt_of_cell? _ _ hc) (by cases i <;> simpa [Addr.add] using hne)]
  exact hc

end Go.Proofs.Ytcfcbfpnaaeaaaa
