/-
  append of one list of strings to a row of the call's own, whatever the other slice is; a struct behind a row of one's own.
-/
import Derived.Test.YtanjcjnkppnhcaaDoorSMem
import Derived.Laws.AppendOwnNone
namespace Go.Proofs.YtanjcjnkppnhcaaDoor
open Go.RowKit

theorem run_append_strs (w : World) (ty : TypeId) (base n : Nat) (v : Value) (xs ys : List ByteArray) (hown : w.ownsRow base 9 1 v n (xs.map Value.string)) (A : Option Addr) (m c : Nat) (h : Strs w (.slice A m c) ys) (hl : n + m ≤ 1000000) (hbase : base ≤ w.heap.size) :
    ∃ A' m' c' w', (Builtin.append_ #[58, 58] ty #[v, .slice A m c]).run Tryd.prog w = .ok (.slice A' m' c') w' ∧ w'.ownsRow base 9 1 (.slice A' m' c') (n + m) ((xs ++ ys).map Value.string) ∧ Below base w w' ∧ w.grownBy w' v.ownBlock := by
  obtain ⟨i0, hi, hz0, hz1, hz2⟩ := info_parts strInfo
  obtain ⟨A0, c0, hv, h1, h2, h3, h4⟩ := h
  injection hv with e1 e2 e3
  subst e1; subst e3
  cases A with
  | none =>
    have hc := h3 rfl
    subst hc
    have hm : m = 0 := by omega
    subst hm
    have : ys = [] := List.eq_nil_of_length_eq_zero (by omega)
    subst this
    obtain ⟨A', c', rfl⟩ := own_form hown
    have hr := run_append_owned_none (P := Tryd.prog) (w := w) base 58 ty 9 i0 1 Tryd.underlying58 hi _ n _ hown
    exact ⟨A', _, c', w, hr, by simpa using hown, Below.refl _ _, World.grownBy.refl _ _⟩
  | some ad =>
    obtain ⟨v', w', hr, ho, hg, _⟩ := run_append_own (P := Tryd.prog) w base 58 ty 9 i0 (.string { data := #[] }) 1 16 Tryd.underlying58 hi hz0 hz1 hz2 rfl (by decide) v n (xs.map Value.string) hown ad m c (ys.map Value.string) (by simp [e2]) (by
      intro j u hu
      rw [List.getElem?_map] at hu
      cases hs : ys[j]? with
      | none => rw [hs] at hu; cases hu
      | some s => rw [hs] at hu; cases hu; exact h4 ad rfl j s hs) (by intro u hu; obtain ⟨x, _, rfl⟩ := List.mem_map.1 hu; rfl) (by unfold maxLen; omega) (by omega) hbase
    obtain ⟨A', c', rfl⟩ := own_form ho
    exact ⟨A', _, c', w', hr, by simpa using ho, (Below.refl base w).grown hg hbase fun k hk => (hown.lt k hk).1, hg⟩

theorem wp_append_strs (w : World) {o : Oper} {a : Act} {K : Act → World → Prop} {Q : Exit → Act → World → Prop} (s x : Operand)
    (ho : o.op = .call { callee := .builtin .append, args := #[s, x], argTypes := #[58, 58] })
    (base n : Nat) (v : Value) (xs ys : List ByteArray) (hs : a.eval s = v) (hown : w.ownsRow base 9 1 v n (xs.map Value.string)) (A : Option Addr) (m c : Nat) (hx : a.eval x = .slice A m c) (h : Strs w (.slice A m c) ys) (hl : n + m ≤ 1000000) (hbase : base ≤ w.heap.size)
    (hk : ∀ A' m' c' w', w'.ownsRow base 9 1 (.slice A' m' c') (n + m) ((xs ++ ys).map Value.string) → Below base w w' → w.grownBy w' v.ownBlock → K (a.put o.dst (.slice A' m' c')) w') : o.wp Tryd.prog a w K Q := by
  obtain ⟨A', m', c', w', hr, h2, h3, h4⟩ := run_append_strs w o.type base n v xs ys hown A m c h hl hbase
  unfold Oper.wp execOp
  simp only [ho, resolve, invoke, builtin, Sem.run_bind, Sem.run_pure, Result.andThen_ok, List.map_toArray, List.map_cons, List.map_nil, hs, hx, hr]
  exact hk A' m' c' w' h2 h3 h4

theorem wpList_append_strs (w : World) {ops : Array Oper} {rest : List Oper} {o : Oper} {a : Act} {Q : Exit → Act → World → Prop} (hgd : o.guard = none) (s x : Operand)
    (ho : o.op = .call { callee := .builtin .append, args := #[s, x], argTypes := #[58, 58] })
    (base n : Nat) (v : Value) (xs ys : List ByteArray) (hs : a.eval s = v) (hown : w.ownsRow base 9 1 v n (xs.map Value.string)) (A : Option Addr) (m c : Nat) (hx : a.eval x = .slice A m c) (h : Strs w (.slice A m c) ys) (hl : n + m ≤ 1000000) (hbase : base ≤ w.heap.size)
    (hk : ∀ A' m' c' w', w'.ownsRow base 9 1 (.slice A' m' c') (n + m) ((xs ++ ys).map Value.string) → Below base w w' → w.grownBy w' v.ownBlock → wpList Tryd.prog ops Q rest (a.put o.dst (.slice A' m' c')) w') : wpList Tryd.prog ops Q (o :: rest) a w :=
  wpList_plain hgd fun _ hK => wp_append_strs w s x ho base n v xs ys hs hown A m c hx h hl hbase fun A' m' c' w' h2 h3 h4 => hK _ _ (hk A' m' c' w' h2 h3 h4)

theorem step_append_strs (w : World) {ops : Array Oper} {o : Oper} {a : Act} {K : Act → World → Prop} {Q : Exit → Act → World → Prop} {E : Prop} (hgd : o.guard = none) (s x : Operand)
    (ho : o.op = .call { callee := .builtin .append, args := #[s, x], argTypes := #[58, 58] })
    (base n : Nat) (v : Value) (xs ys : List ByteArray) (hs : a.eval s = v) (hown : w.ownsRow base 9 1 v n (xs.map Value.string)) (A : Option Addr) (m c : Nat) (hx : a.eval x = .slice A m c) (h : Strs w (.slice A m c) ys) (hl : n + m ≤ 1000000) (hbase : base ≤ w.heap.size)
    (hk : ∀ A' m' c' w', w'.ownsRow base 9 1 (.slice A' m' c') (n + m) ((xs ++ ys).map Value.string) → Below base w w' → w.grownBy w' v.ownBlock → K (a.put o.dst (.slice A' m' c')) w') :
    if Region.wanted o (yielded ops a.tmps) = true then Oper.wp Tryd.prog o a w K Q else E := by
  have hw : Region.wanted o (yielded ops a.tmps) = true := by simp [Region.wanted, hgd]
  rw [if_pos hw]
  exact wp_append_strs w s x ho base n v xs ys hs hown A m c hx h hl hbase hk


/-- What a walk wants of an element that is laid in a block of its own. -/
theorem news_one (W : World) (cs : Array Value) (t : TypeId) (j : Nat) (hj : j = W.heap.size) : ∀ (i : Nat) (u : Value), cs.toList[i]? = some u → (W.alloc (.cells cs t)).cell? ((⟨j, 0, none⟩ : Addr).add i) = some u := by
  subst hj
  exact World.news_of_block (cs := cs) (t := t) (fr := (0, 0)) (heap_alloc_new W (.cells cs t))
end Go.Proofs.YtanjcjnkppnhcaaDoor
