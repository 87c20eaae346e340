/-
  append of edits to a row of the call's own; slices.Clone of edits; a slice of edits cut.
-/
import Derived.Test.YtdpoeagmeiedcaaDoorP9
import Derived.Laws.AppendOwnNone
import Derived.Lib.SliceRun
import Derived.Lib.AppendZeros
namespace Go.Proofs.YtdpoeagmeiedcaaDoor
open Go Go.RowKit

theorem addr_block (ad : Addr) (n : Nat) : (ad.add n).block = ad.block := by unfold Addr.add; split <;> rfl
theorem addr_off (ad : Addr) (n : Nat) : (ad.add n).off = ad.off + n := by unfold Addr.add; split <;> simp_all
theorem adr_flat (ad : Addr) (i k j : Nat) : adr ad i k j = ad.add (i * k + j) := by
  cases j with
  | zero => rfl
  | succ j =>
    have h : ad.add (i * k + (j + 1)) = ⟨ad.block, ad.off + (i * k + (j + 1)), none⟩ := by unfold Addr.add; rw [if_neg (by omega)]
    rw [h]
    show (⟨(ad.add (i * k)).block, (ad.add (i * k)).off + (j + 1), none⟩ : Addr) = _
    rw [addr_block, addr_off]
    congr 1
    omega
theorem reads_flat {α : Type} {k : Nat} {enc : α → List Value} {w : World} {ad : Addr} {n c : Nat} {l : List α} (hk : ∀ x, (enc x).length = k) (h0 : 0 < k) (h : Reads k enc w (.slice (some ad) n c) l) : ∀ (j : Nat) (u : Value), (l.flatMap enc)[j]? = some u → w.cell? (ad.add j) = some u := fun j u hu => by
  have hj := (List.getElem?_eq_some_iff.1 hu).1
  rw [flat_len hk] at hj
  have hi : j / k < l.length := Nat.div_lt_of_lt_mul (by rw [Nat.mul_comm]; exact hj)
  have hm : j % k < k := Nat.mod_lt _ h0
  have hd : j / k * k + j % k = j := Nat.div_add_mod' j k
  obtain ⟨ad', ha, hc⟩ := h.at_ (List.getElem?_eq_getElem hi)
  obtain rfl := Option.some.inj ha
  have := hc (j % k) u (by rw [← flat_at hk l (j / k) (j % k) _ (List.getElem?_eq_getElem hi) hm, hd]; exact hu)
  rw [adr_flat, hd] at this
  exact this
theorem cEd_one (l : List EdI) : ∀ u ∈ l.flatMap cEd, u.oneCell' = true := fun u hu => by
  obtain ⟨f, _, hf⟩ := List.mem_flatMap.1 hu
  simp [cEd] at hf
  rcases hf with rfl | rfl <;> rfl

theorem run_append_eds (w : World) (ty : TypeId) (base : Nat) (v : Value) (xs ys : List EdI) (hown : w.ownsRow base 66 2 v xs.length (xs.flatMap cEd)) (A : Option Addr) (m c : Nat) (h : Reads 2 cEd w (.slice A m c) ys) (hl : xs.length + ys.length ≤ 1000000) (hbase : base ≤ w.heap.size) :
    ∃ A' c' w', (Builtin.append_ #[25, 25] ty #[v, .slice A m c]).run Tryd.prog w = .ok (.slice A' (xs ++ ys).length c') w' ∧ w'.ownsRow base 66 2 (.slice A' (xs ++ ys).length c') (xs ++ ys).length ((xs ++ ys).flatMap cEd) ∧ Below base w w' ∧ w.grownBy w' v.ownBlock := by
  obtain ⟨i0, hi, hz0, hz1, hz2⟩ := info_parts editInfo
  obtain ⟨hm, hmc, hcm⟩ := h.len
  cases A with
  | none =>
    obtain ⟨A', c', hv, h1, h2, h3, h4⟩ := h
    injection hv with e1 e2 e3
    subst e1; subst e3
    have hc := h3 rfl
    subst hc
    have hm0 : m = 0 := by omega
    subst hm0
    have : ys = [] := List.eq_nil_of_length_eq_zero (by omega)
    subst this
    obtain ⟨A', c', rfl⟩ := own_formP hown
    have hr := run_append_owned_none (P := Tryd.prog) (w := w) base 25 ty 66 i0 2 Tryd.underlying25 hi _ _ _ hown
    rw [List.append_nil]
    exact ⟨A', c', w, hr, hown, Below.refl _ _, World.grownBy.refl _ _⟩
  | some ad =>
    obtain ⟨v', w', hr, ho, hg, _⟩ := run_append_own (P := Tryd.prog) w base 25 ty 66 i0 (.agg #[.int .i64 0, .string ⟨#[]⟩]) 2 24 Tryd.underlying25 hi hz0 hz1 hz2 rfl (by decide) v xs.length (xs.flatMap cEd) hown ad m c (ys.flatMap cEd) (by rw [flat_len cEd_len, hm]) (reads_flat cEd_len (by decide) h) (cEd_one ys) (by unfold maxLen; omega) (by omega) hbase
    have ho2 : w'.ownsRow base 66 2 v' (xs ++ ys).length ((xs ++ ys).flatMap cEd) := by rw [List.length_append, List.flatMap_append, ← hm]; exact ho
    obtain ⟨A', c', rfl⟩ := own_formP ho2
    exact ⟨A', c', w', hr, ho2, (Below.refl base w).grown hg hbase fun k hk => (hown.lt k hk).1, hg⟩

theorem wpList_append_eds (w : World) {ops : Array Oper} {rest : List Oper} {o : Oper} {a : Act} {Q : Exit → Act → World → Prop} (hgd : o.guard = none) (s x : Operand)
    (ho : o.op = .call { callee := .builtin .append, args := #[s, x], argTypes := #[25, 25] })
    (base : Nat) (v : Value) (xs ys : List EdI) (hs : a.eval s = v) (hown : w.ownsRow base 66 2 v xs.length (xs.flatMap cEd)) (A : Option Addr) (m c : Nat) (hx : a.eval x = .slice A m c) (h : Reads 2 cEd w (.slice A m c) ys) (hl : xs.length + ys.length ≤ 1000000) (hbase : base ≤ w.heap.size)
    (hk : ∀ A' c' w', w'.ownsRow base 66 2 (.slice A' (xs ++ ys).length c') (xs ++ ys).length ((xs ++ ys).flatMap cEd) → Below base w w' → w.grownBy w' v.ownBlock → wpList Tryd.prog ops Q rest (a.put o.dst (.slice A' (xs ++ ys).length c')) w') : wpList Tryd.prog ops Q (o :: rest) a w := by
  obtain ⟨A', c', w', hr, h2, h3, h4⟩ := run_append_eds w o.type base v xs ys hown A m c h hl hbase
  exact Lib.wpList_append_run w hgd s x _ _ ho _ _ hs hx _ _ hr (hk A' c' w' h2 h3 h4)

section
variable {α : Type} {k : Nat} {enc : α → List Value} {w : World} {A : Option Addr} {n c : Nat} {l : List α}
theorem Reads.front (h : Reads k enc w (.slice A n c) l) {i : Nat} (hi : i ≤ n) : Reads k enc w (.slice A i c) (l.take i) := by
  obtain ⟨hn, hnc, hcm⟩ := h.len
  obtain ⟨A', c', hv, h1, h2, h3, h4⟩ := h
  injection hv with e1 e2 e3
  subst e1; subst e3
  refine ⟨A, c, by rw [List.length_take, Nat.min_eq_left (by omega)], by rw [List.length_take]; omega, hcm, h3, fun ad ha j x hx => h4 ad ha j x ?_⟩
  rw [List.getElem?_take] at hx
  split at hx
  · exact hx
  · cases hx
theorem Reads.cut (h : Reads k enc w (.slice A n c) l) {i : Nat} (hi : i ≤ n) : Reads k enc w (.slice (if c = i then A else A.map (·.add (i * k))) (n - i) (c - i)) (l.drop i) := by
  obtain ⟨hn, hnc, hcm⟩ := h.len
  obtain ⟨A', c', hv, h1, h2, h3, h4⟩ := h
  injection hv with e1 e2 e3
  subst e1; subst e3
  refine ⟨_, c - i, by rw [List.length_drop, hn], by rw [List.length_drop]; omega, by omega, ?_, ?_⟩
  · intro hA
    by_cases hc : c = i
    · omega
    · rw [if_neg hc] at hA
      have : A = none := by cases A with | none => rfl | some a => simp at hA
      have := h3 this
      omega
  · intro ad ha j x hx u v hv
    rw [List.getElem?_drop] at hx
    have hj := (List.getElem?_eq_some_iff.1 hx).1
    by_cases hc : c = i
    · omega
    · rw [if_neg hc] at ha
      cases A with
      | none => simp at ha
      | some a =>
        simp at ha
        subst ha
        have := h4 a rfl (i + j) x hx u v hv
        rw [adr_flat] at this ⊢
        have e : (a.add (i * k)).add (j * k + u) = a.add ((i + j) * k + u) := by
          rw [Nat.add_mul, Nat.add_assoc]
          generalize i * k = p
          generalize j * k + u = q
          unfold Addr.add
          by_cases hp : p = 0
          · subst hp; simp
          · by_cases hq : q = 0
            · subst hq; simp [hp]
            · simp [hp, hq, Nat.add_assoc]
        rw [e]
        exact this
end

set_option maxHeartbeats 2000000 in
theorem cloneEd_any (w : World) (v : Value) (l : List EdI) (h : Reads 2 cEd w v l) (hl : l.length ≤ 100000) :
    Calls Tryd.prog 48 #[v] w (OwnTo 66 2 cEd l w) := by
  have q : ∀ (w : World) (a : Option Addr) (n c n' c' : Nat), (binOp .eql 25 (.slice a n c) (.slice none n' c')).run Tryd.prog w = .ok (.bool a.isNone) w := fun w a n c n' c' => Lib.run_eql_slice_nil w _ _ a n c n' c' Tryd.underlying25
  obtain ⟨A, c, rfl⟩ := h.form
  have HR := Lib.hid h
  cases A with
  | none =>
    have h0 : l = [] := by
      obtain ⟨A', c', hv, h1, h2, h3, _⟩ := h
      injection hv with e1 e2 e3
      subst e1; subst e3
      have := h3 rfl
      exact List.eq_nil_of_length_eq_zero (by omega)
    subst h0
    clear h
    go_enter Tryd.func48, Tryd.ntmps48
    go_wp2
    go_ret
    exact ⟨_, rfl, World.ownsRow_nil _ _ _ _, Below.refl _ _⟩
  | some ad =>
    have hm : w.heap.size ≤ (w.alloc (.cells #[] 66)).heap.size := by simp
    have hll : ([] : List EdI).length + l.length ≤ 1000000 := by simp; omega
    have O0 := Lib.hid (show (w.alloc (.cells #[] 66)).ownsRow w.heap.size 66 2 (.slice (some ⟨w.heap.size, 0, none⟩) 0 0) ([] : List EdI).length (([] : List EdI).flatMap cEd) from World.ownsRow_made w #[] 0 (Nat.le_refl _) (Nat.zero_le _) rfl)
    clear h
    go_enter Tryd.func48, Tryd.ntmps48
    go_wp2_with (at_builtin; refine wpList_append_eds _ rfl _ _ rfl w.heap.size _ [] l rfl O0.out _ _ _ rfl (HR.out.alloc _) hll hm ?_; intro A' c' w5 own5 b5 hg5)
    rw [List.nil_append] at own5
    have O5 := Lib.hid own5
    have B5 := Lib.hid (Below.trans ((Below.refl _ _).alloc (Nat.le_refl _) (.cells #[] 66)) b5)
    clear own5 b5 hg5
    go_ret
    exact ⟨_, rfl, O5.out, B5.out⟩
end Go.Proofs.YtdpoeagmeiedcaaDoor
