/-
  append of one tree to a row of the call's own, whatever the other slice is; slices.Grow of none; slices.Concat.
-/
import Derived.Test.YtplleaimmmanhaaDoorFGen
import Derived.Laws.AppendOwnNone
import Derived.Lib.AppendZerosOnto
namespace Go.Proofs.YtplleaimmmanhaaDoor
open Go.RowKit

theorem addr_block (ad : Addr) (n : Nat) : (ad.add n).block = ad.block := by unfold Addr.add; split <;> rfl
theorem addr_off (ad : Addr) (n : Nat) : (ad.add n).off = ad.off + n := by unfold Addr.add; split <;> simp_all
theorem adr_flat (ad : Addr) (i k j : Nat) : adr ad i k j = ad.add (i * k + j) := by
  cases j with
  | zero => rfl
  | succ j =>
    have h : ad.add (i * k + (j + 1)) = ⟨ad.block, ad.off + (i * k + (j + 1)), none⟩ := by unfold Addr.add; rw [if_neg (by omega)]
    rw [h]
    show (⟨(ad.add (i * k)).block, (ad.add (i * k)).off + (j + 1), none⟩ : Addr) = _
    rw [addr_block, addr_off]
    congr 1
    omega
theorem reads_flat {α : Type} {k : Nat} {enc : α → List Value} {w : World} {ad : Addr} {n c : Nat} {l : List α} (hk : ∀ x, (enc x).length = k) (h0 : 0 < k) (h : Reads k enc w (.slice (some ad) n c) l) : ∀ (j : Nat) (u : Value), (l.flatMap enc)[j]? = some u → w.cell? (ad.add j) = some u := fun j u hu => by
  have hj := (List.getElem?_eq_some_iff.1 hu).1
  rw [flat_len hk] at hj
  have hi : j / k < l.length := Nat.div_lt_of_lt_mul (by rw [Nat.mul_comm]; exact hj)
  have hm : j % k < k := Nat.mod_lt _ h0
  have hd : j / k * k + j % k = j := Nat.div_add_mod' j k
  obtain ⟨ad', ha, hc⟩ := h.at_ (List.getElem?_eq_getElem hi)
  obtain rfl := Option.some.inj ha
  have := hc (j % k) u (by rw [← flat_at hk l (j / k) (j % k) _ (List.getElem?_eq_getElem hi) hm, hd]; exact hu)
  rw [adr_flat, hd] at this
  exact this
theorem cF_one (l : List Fl) : ∀ u ∈ l.flatMap cF, u.oneCell' = true := fun u hu => by
  obtain ⟨f, _, hf⟩ := List.mem_flatMap.1 hu
  simp [cF] at hf
  rcases hf with rfl | rfl | rfl <;> rfl

theorem run_append_files (w : World) (ty : TypeId) (base : Nat) (v : Value) (xs ys : List Fl) (hown : w.ownsRow base 42 3 v xs.length (xs.flatMap cF)) (A : Option Addr) (m c : Nat) (h : Reads 3 cF w (.slice A m c) ys) (hl : xs.length + ys.length ≤ 1000000) (hbase : base ≤ w.heap.size) :
    ∃ A' c' w', (Builtin.append_ #[23, 23] ty #[v, .slice A m c]).run Tryd.prog w = .ok (.slice A' (xs ++ ys).length c') w' ∧ w'.ownsRow base 42 3 (.slice A' (xs ++ ys).length c') (xs ++ ys).length ((xs ++ ys).flatMap cF) ∧ Below base w w' ∧ w.grownBy w' v.ownBlock := by
  obtain ⟨i0, hi, hz0, hz1, hz2⟩ := info_parts fileInfo
  obtain ⟨hm, hmc, hcm⟩ := h.len
  cases A with
  | none =>
    obtain ⟨A', c', hv, h1, h2, h3, h4⟩ := h
    injection hv with e1 e2 e3
    subst e1; subst e3
    have hc := h3 rfl
    subst hc
    have hm0 : m = 0 := by omega
    subst hm0
    have : ys = [] := List.eq_nil_of_length_eq_zero (by omega)
    subst this
    obtain ⟨A', c', rfl⟩ := own_form hown
    have hr := run_append_owned_none (P := Tryd.prog) (w := w) base 23 ty 42 i0 3 Tryd.underlying23 hi _ _ _ hown
    rw [List.append_nil]
    exact ⟨A', c', w, hr, hown, Below.refl _ _, World.grownBy.refl _ _⟩
  | some ad =>
    obtain ⟨v', w', hr, ho, hg, _⟩ := run_append_own (P := Tryd.prog) w base 23 ty 42 i0 (.agg #[.string ⟨#[]⟩, .int .i64 0, .string ⟨#[]⟩]) 3 40 Tryd.underlying23 hi hz0 hz1 hz2 rfl (by decide) v xs.length (xs.flatMap cF) hown ad m c (ys.flatMap cF) (by rw [flat_len cF_len, hm]) (reads_flat cF_len (by decide) h) (cF_one ys) (by unfold maxLen; omega) (by omega) hbase
    have ho2 : w'.ownsRow base 42 3 v' (xs ++ ys).length ((xs ++ ys).flatMap cF) := by rw [List.length_append, List.flatMap_append, ← hm]; exact ho
    obtain ⟨A', c', rfl⟩ := own_form ho2
    exact ⟨A', c', w', hr, ho2, (Below.refl base w).grown hg hbase fun k hk => (hown.lt k hk).1, hg⟩

theorem wpList_append_files (w : World) {ops : Array Oper} {rest : List Oper} {o : Oper} {a : Act} {Q : Exit → Act → World → Prop} (hgd : o.guard = none) (s x : Operand)
    (ho : o.op = .call { callee := .builtin .append, args := #[s, x], argTypes := #[23, 23] })
    (base : Nat) (v : Value) (xs ys : List Fl) (hs : a.eval s = v) (hown : w.ownsRow base 42 3 v xs.length (xs.flatMap cF)) (A : Option Addr) (m c : Nat) (hx : a.eval x = .slice A m c) (h : Reads 3 cF w (.slice A m c) ys) (hl : xs.length + ys.length ≤ 1000000) (hbase : base ≤ w.heap.size)
    (hk : ∀ A' c' w', w'.ownsRow base 42 3 (.slice A' (xs ++ ys).length c') (xs ++ ys).length ((xs ++ ys).flatMap cF) → Below base w w' → w.grownBy w' v.ownBlock → wpList Tryd.prog ops Q rest (a.put o.dst (.slice A' (xs ++ ys).length c')) w') : wpList Tryd.prog ops Q (o :: rest) a w := by
  obtain ⟨A', c', w', hr, h2, h3, h4⟩ := run_append_files w o.type base v xs ys hown A m c h hl hbase
  exact Lib.wpList_append_run w hgd s x _ _ ho _ _ hs hx _ _ hr (hk A' c' w' h2 h3 h4)

set_option maxHeartbeats 1000000 in
theorem grow_none (w : World) : Calls Tryd.prog 73 #[.slice none 0 0, .int .i64 0] w fun e w' => e = .returned (.slice none 0 0) ∧ w' = w := by
  go_enter Tryd.func73, Tryd.ntmps73
  go_wp2
  go_ret
  exact ⟨rfl, rfl⟩

def NoneTo (w : World) (e : Ending) (w' : World) : Prop := ∃ A c, e = .returned (.slice A 0 c) ∧ w'.ownsRow w.heap.size 42 3 (.slice A 0 c) 0 [] ∧ Below w.heap.size w w'
set_option maxHeartbeats 2000000 in
theorem grow_any (w : World) (n : Nat) (hn : n ≤ 1000000) : Calls Tryd.prog 73 #[.slice none 0 0, .int .i64 n] w (NoneTo w) := by
  rcases Nat.eq_zero_or_pos n with h0 | h0
  · subst h0
    refine (grow_none w).mono ?_
    rintro e w' ⟨he, hw⟩
    subst hw
    exact ⟨none, 0, he, World.ownsRow_nil _ _ _ _, Below.refl _ _⟩
  · obtain ⟨i0, hi, hz0, hz1, hz2⟩ := info_parts fileInfo
    obtain ⟨G, hG⟩ : ∃ G, G = grownCap w n 0 42 := ⟨_, rfl⟩
    have hGn : n ≤ G := by rw [hG]; exact grownCap_ge w _ _ _
    have hGm : G ≤ maxLen := by
      have := grownCap_le_maxLen w n 0 42 (by unfold maxLen; omega)
      rw [← hG] at this
      exact this
    obtain ⟨ROW, hROW⟩ : ∃ ROW : Array Value, ROW = #[] ++ Builtin.zeroCells (Value.agg #[.string ⟨#[]⟩, .int .i64 0, .string ⟨#[]⟩]).cells n ++ Builtin.zeroCells (Value.agg #[.string ⟨#[]⟩, .int .i64 0, .string ⟨#[]⟩]).cells (G - n) := ⟨_, rfl⟩
    have hRs : ROW.size = G * 3 := by
      rw [hROW, Array.size_append, Array.size_append, size_zeroCells, size_zeroCells]
      show 0 + n * 3 + (G - n) * 3 = G * 3
      omega
    have hold : (Builtin.firstCells i0.size 0 (.slice none 0 0)).run Tryd.prog w.drew = .ok ([] : List Value).toArray w.drew := by simp [Builtin.firstCells, Sem.run_pure]
    have hrz : ∀ ty, (Builtin.append_ #[23, 3] ty #[.slice none 0 0, .int .i64 (n : Int)]).run Tryd.prog w = .ok (.slice (some ⟨w.heap.size, 0, none⟩) n G) (w.drew.alloc (.cells ROW 42)) := fun ty => by
      have h := Lib.run_append_grow_zeros w 23 3 ty 42 i0 _ .i64 .i64 Tryd.underlying23 Tryd.underlying3 hi hz0 none 0 0 [] hold n h0 (by omega) (by omega) (by omega) (by rw [hz2]; omega) (by rw [hz2]; exact growslice_fits (by omega) (by omega))
      rw [Nat.zero_add] at h
      rw [hROW, hG]
      exact h
    have hb : (0 : Int) < (n : Int) := by omega
    have hnn : ¬ (n : Int) < 0 := by omega
    have hsub : IntKind.i64.wrap ((n : Int) - 0) = (n : Int) := by rw [IntKind.wrap_i64] <;> omega
    have O := Lib.hid (show (w.drew.alloc (.cells ROW 42)).ownsRow w.heap.size 42 3 (.slice (some ⟨w.heap.size, 0, none⟩) 0 G) 0 [] from World.ownsRow_made w.drew ROW G (Nat.le_refl _) hGm hRs)
    have B := Lib.hid (show Below w.heap.size w (w.drew.alloc (.cells ROW 42)) from ((Below.refl _ _).drew).alloc (Nat.le_refl _) _)
    have hGm2 : G ≤ 9223372036854775807 := by unfold maxLen at hGm; omega
    clear hROW hG hRs hold hi hz0 hz1 hz2 hGm
    go_enter Tryd.func73, Tryd.ntmps73
    go_wp2_with (at_builtin; refine Lib.wpList_append_run _ rfl _ _ _ _ rfl _ _ rfl rfl _ _ (hrz _) ?_)
    go_ret
    exact ⟨_, _, rfl, O.out, B.out⟩
end Go.Proofs.YtplleaimmmanhaaDoor
