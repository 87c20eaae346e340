/-
  appends of ops (what a disk has still to bring down).
-/
import Derived.Test.YtcnmlgmlijgmhaaDoorMApp
import Derived.Lib.SliceRun
namespace Go.Proofs.YtcnmlgmlijgmhaaDoor
open Go.RowKit

/-- An operation: its kind, from, to, and the file's mode, time, inode, bytes. -/
abbrev Ov := Int × ByteArray × ByteArray × Int × Int × Int × ByteArray
def cO (o : Ov) : List Value := [.int .i64 o.1, .string o.2.1, .string o.2.2.1, .int .i64 o.2.2.2.1, .int .i64 o.2.2.2.2.1, .int .i64 o.2.2.2.2.2.1, .string o.2.2.2.2.2.2]
theorem cO_len (o : Ov) : (cO o).length = 7 := rfl
theorem opInfo : (Tryd.prog.info? 80).map (fun i => (i.zero, i.size, i.bytes)) = some (some (.agg #[.int .i64 0, .string ⟨#[]⟩, .string ⟨#[]⟩, .int .i64 0, .int .i64 0, .int .i64 0, .string ⟨#[]⟩]), 7, 80) := by kernel_rfl

theorem cO_one (l : List Ov) : ∀ u ∈ l.flatMap cO, u.oneCell' = true := fun u hu => by
  obtain ⟨f, _, hf⟩ := List.mem_flatMap.1 hu
  simp [cO] at hf
  rcases hf with rfl | rfl | rfl | rfl | rfl | rfl | rfl <;> rfl

theorem run_append_ops (w : World) (ty : TypeId) (base : Nat) (v : Value) (xs ys : List Ov) (hown : w.ownsRow base 80 7 v xs.length (xs.flatMap cO)) (A : Option Addr) (m c : Nat) (h : Reads 7 cO w (.slice A m c) ys) (hl : xs.length + ys.length ≤ 1000000) (hbase : base ≤ w.heap.size) :
    ∃ A' c' w', (Builtin.append_ #[72, 72] ty #[v, .slice A m c]).run Tryd.prog w = .ok (.slice A' (xs ++ ys).length c') w' ∧ w'.ownsRow base 80 7 (.slice A' (xs ++ ys).length c') (xs ++ ys).length ((xs ++ ys).flatMap cO) ∧ Below base w w' ∧ w.grownBy w' v.ownBlock := by
  obtain ⟨i0, hi, hz0, hz1, hz2⟩ := info_parts opInfo
  obtain ⟨hm, hmc, hcm⟩ := h.len
  cases A with
  | none =>
    obtain ⟨A', c', hv, h1, h2, h3, h4⟩ := h
    injection hv with e1 e2 e3
    subst e1; subst e3
    have hc := h3 rfl
    subst hc
    have hm0 : m = 0 := by omega
    subst hm0
    have : ys = [] := List.eq_nil_of_length_eq_zero (by omega)
    subst this
    obtain ⟨A', c', rfl⟩ := own_form hown
    have hr := run_append_owned_none (P := Tryd.prog) (w := w) base 72 ty 80 i0 7 Tryd.underlying72 hi _ _ _ hown
    rw [List.append_nil]
    exact ⟨A', c', w, hr, hown, Below.refl _ _, World.grownBy.refl _ _⟩
  | some ad =>
    obtain ⟨v', w', hr, ho, hg, _⟩ := run_append_own (P := Tryd.prog) w base 72 ty 80 i0 (.agg #[.int .i64 0, .string ⟨#[]⟩, .string ⟨#[]⟩, .int .i64 0, .int .i64 0, .int .i64 0, .string ⟨#[]⟩]) 7 80 Tryd.underlying72 hi hz0 hz1 hz2 rfl (by decide) v xs.length (xs.flatMap cO) hown ad m c (ys.flatMap cO) (by rw [flat_len cO_len, hm]) (reads_flat cO_len (by decide) h) (cO_one ys) (by unfold maxLen; omega) (by omega) hbase
    have ho2 : w'.ownsRow base 80 7 v' (xs ++ ys).length ((xs ++ ys).flatMap cO) := by rw [List.length_append, List.flatMap_append, ← hm]; exact ho
    obtain ⟨A', c', rfl⟩ := own_form ho2
    exact ⟨A', c', w', hr, ho2, (Below.refl base w).grown hg hbase fun k hk => (hown.lt k hk).1, hg⟩

theorem wpList_append_ops (w : World) {ops : Array Oper} {rest : List Oper} {o : Oper} {a : Act} {Q : Exit → Act → World → Prop} (hgd : o.guard = none) (s x : Operand)
    (ho : o.op = .call { callee := .builtin .append, args := #[s, x], argTypes := #[72, 72] })
    (base : Nat) (v : Value) (xs ys : List Ov) (hs : a.eval s = v) (hown : w.ownsRow base 80 7 v xs.length (xs.flatMap cO)) (A : Option Addr) (m c : Nat) (hx : a.eval x = .slice A m c) (h : Reads 7 cO w (.slice A m c) ys) (hl : xs.length + ys.length ≤ 1000000) (hbase : base ≤ w.heap.size)
    (hk : ∀ A' c' w', w'.ownsRow base 80 7 (.slice A' (xs ++ ys).length c') (xs ++ ys).length ((xs ++ ys).flatMap cO) → Below base w w' → w.grownBy w' v.ownBlock → wpList Tryd.prog ops Q rest (a.put o.dst (.slice A' (xs ++ ys).length c')) w') : wpList Tryd.prog ops Q (o :: rest) a w := by
  obtain ⟨A', c', w', hr, h2, h3, h4⟩ := run_append_ops w o.type base v xs ys hown A m c h hl hbase
  exact Lib.wpList_append_run w hgd s x _ _ ho _ _ hs hx _ _ hr (hk A' c' w' h2 h3 h4)



end Go.Proofs.YtcnmlgmlijgmhaaDoor
