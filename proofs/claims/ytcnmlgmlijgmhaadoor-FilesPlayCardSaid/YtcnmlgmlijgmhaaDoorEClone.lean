/-
  appends of entries; slices.Clone of entries.
-/
import Derived.Test.YtcnmlgmlijgmhaaDoorMApp
import Derived.Lib.SliceRun
namespace Go.Proofs.YtcnmlgmlijgmhaaDoor
open Go.RowKit

theorem cE_one (l : List En) : ∀ u ∈ l.flatMap cE, u.oneCell' = true := fun u hu => by
  obtain ⟨f, _, hf⟩ := List.mem_flatMap.1 hu
  simp [cE] at hf
  rcases hf with rfl | rfl | rfl | rfl | rfl | rfl <;> rfl

theorem run_append_ents (w : World) (ty : TypeId) (base : Nat) (v : Value) (xs ys : List En) (hown : w.ownsRow base 60 6 v xs.length (xs.flatMap cE)) (A : Option Addr) (m c : Nat) (h : Reads 6 cE w (.slice A m c) ys) (hl : xs.length + ys.length ≤ 1000000) (hbase : base ≤ w.heap.size) :
    ∃ A' c' w', (Builtin.append_ #[63, 63] ty #[v, .slice A m c]).run Tryd.prog w = .ok (.slice A' (xs ++ ys).length c') w' ∧ w'.ownsRow base 60 6 (.slice A' (xs ++ ys).length c') (xs ++ ys).length ((xs ++ ys).flatMap cE) ∧ Below base w w' ∧ w.grownBy w' v.ownBlock := by
  obtain ⟨i0, hi, hz0, hz1, hz2⟩ := info_parts entryInfo
  obtain ⟨hm, hmc, hcm⟩ := h.len
  cases A with
  | none =>
    obtain ⟨A', c', hv, h1, h2, h3, h4⟩ := h
    injection hv with e1 e2 e3
    subst e1; subst e3
    have hc := h3 rfl
    subst hc
    have hm0 : m = 0 := by omega
    subst hm0
    have : ys = [] := List.eq_nil_of_length_eq_zero (by omega)
    subst this
    obtain ⟨A', c', rfl⟩ := own_form hown
    have hr := run_append_owned_none (P := Tryd.prog) (w := w) base 63 ty 60 i0 6 Tryd.underlying63 hi _ _ _ hown
    rw [List.append_nil]
    exact ⟨A', c', w, hr, hown, Below.refl _ _, World.grownBy.refl _ _⟩
  | some ad =>
    obtain ⟨v', w', hr, ho, hg, _⟩ := run_append_own (P := Tryd.prog) w base 63 ty 60 i0 (.agg #[.string ⟨#[]⟩, .int .i64 0, .int .i64 0, .string ⟨#[]⟩, .int .i64 0, .int .i64 0]) 6 64 Tryd.underlying63 hi hz0 hz1 hz2 rfl (by decide) v xs.length (xs.flatMap cE) hown ad m c (ys.flatMap cE) (by rw [flat_len cE_len, hm]) (reads_flat cE_len (by decide) h) (cE_one ys) (by unfold maxLen; omega) (by omega) hbase
    have ho2 : w'.ownsRow base 60 6 v' (xs ++ ys).length ((xs ++ ys).flatMap cE) := by rw [List.length_append, List.flatMap_append, ← hm]; exact ho
    obtain ⟨A', c', rfl⟩ := own_form ho2
    exact ⟨A', c', w', hr, ho2, (Below.refl base w).grown hg hbase fun k hk => (hown.lt k hk).1, hg⟩

theorem wpList_append_ents (w : World) {ops : Array Oper} {rest : List Oper} {o : Oper} {a : Act} {Q : Exit → Act → World → Prop} (hgd : o.guard = none) (s x : Operand)
    (ho : o.op = .call { callee := .builtin .append, args := #[s, x], argTypes := #[63, 63] })
    (base : Nat) (v : Value) (xs ys : List En) (hs : a.eval s = v) (hown : w.ownsRow base 60 6 v xs.length (xs.flatMap cE)) (A : Option Addr) (m c : Nat) (hx : a.eval x = .slice A m c) (h : Reads 6 cE w (.slice A m c) ys) (hl : xs.length + ys.length ≤ 1000000) (hbase : base ≤ w.heap.size)
    (hk : ∀ A' c' w', w'.ownsRow base 60 6 (.slice A' (xs ++ ys).length c') (xs ++ ys).length ((xs ++ ys).flatMap cE) → Below base w w' → w.grownBy w' v.ownBlock → wpList Tryd.prog ops Q rest (a.put o.dst (.slice A' (xs ++ ys).length c')) w') : wpList Tryd.prog ops Q (o :: rest) a w := by
  obtain ⟨A', c', w', hr, h2, h3, h4⟩ := run_append_ents w o.type base v xs ys hown A m c h hl hbase
  exact Lib.wpList_append_run w hgd s x _ _ ho _ _ hs hx _ _ hr (hk A' c' w' h2 h3 h4)


set_option maxHeartbeats 2000000 in
theorem cloneE_any (w : World) (v : Value) (l : List En) (h : Reads 6 cE w v l) (hl : l.length ≤ 100000) :
    Calls Tryd.prog 63 #[v] w (OwnTo 60 6 cE l w) := by
  have q : ∀ (w : World) (a : Option Addr) (n c n' c' : Nat), (binOp .eql 63 (.slice a n c) (.slice none n' c')).run Tryd.prog w = .ok (.bool a.isNone) w := fun w a n c n' c' => Lib.run_eql_slice_nil w _ _ a n c n' c' Tryd.underlying63
  obtain ⟨A, c, rfl⟩ := h.form
  have HR := Lib.hid h
  cases A with
  | none =>
    have h0 : l = [] := by
      obtain ⟨A', c', hv, h1, h2, h3, _⟩ := h
      injection hv with e1 e2 e3
      subst e1; subst e3
      have := h3 rfl
      exact List.eq_nil_of_length_eq_zero (by omega)
    subst h0
    clear h
    go_enter Tryd.func63, Tryd.ntmps63
    go_wp2
    go_ret
    exact ⟨_, rfl, World.ownsRow_nil _ _ _ _, Below.refl _ _⟩
  | some ad =>
    have hm : w.heap.size ≤ (w.alloc (.cells #[] 60)).heap.size := by simp
    have hll : ([] : List En).length + l.length ≤ 1000000 := by simp; omega
    have O0 := Lib.hid (show (w.alloc (.cells #[] 60)).ownsRow w.heap.size 60 6 (.slice (some ⟨w.heap.size, 0, none⟩) 0 0) ([] : List En).length (([] : List En).flatMap cE) from World.ownsRow_made w #[] 0 (Nat.le_refl _) (Nat.zero_le _) rfl)
    clear h
    go_enter Tryd.func63, Tryd.ntmps63
    go_wp2_with (at_builtin; refine wpList_append_ents _ rfl _ _ rfl w.heap.size _ [] l rfl O0.out _ _ _ rfl (HR.out.alloc _) hll hm ?_; intro A' c' w5 own5 b5 hg5)
    rw [List.nil_append] at own5
    have O5 := Lib.hid own5
    have B5 := Lib.hid (Below.trans ((Below.refl _ _).alloc (Nat.le_refl _) (.cells #[] 60)) b5)
    clear own5 b5 hg5
    go_ret
    exact ⟨_, rfl, O5.out, B5.out⟩
end Go.Proofs.YtcnmlgmlijgmhaaDoor
