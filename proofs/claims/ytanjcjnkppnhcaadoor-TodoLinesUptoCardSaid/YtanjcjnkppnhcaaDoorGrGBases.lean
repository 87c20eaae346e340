/-
  Only, Bases, Base.
-/
import Derived.Test.YtanjcjnkppnhcaaDoorGrGRow
import Derived.Maps.AppendAt
namespace Go.Proofs.YtanjcjnkppnhcaaDoor.G
open Go.RowKit

def half (k : Nat) (p q : Nat → Bool) : Nat → Bool := fun i => if i < k then p i else q i
theorem half_set {n k : Nat} (p q : Nat → Bool) : mkL n (fun i => if i = k then p k else half k p q i) = mkL n (half (k + 1) p q) :=
  mkL_ext fun i _ => by
    unfold half
    by_cases e : i = k
    · subst e; rw [if_pos rfl, if_pos (by omega)]
    · rw [if_neg e]
      by_cases h : i < k
      · rw [if_pos h, if_pos (by omega)]
      · rw [if_neg h, if_neg (by omega)]
theorem half_zero {n : Nat} (p q : Nat → Bool) : mkL n (half 0 p q) = mkL n q := mkL_ext fun i _ => by unfold half; rw [if_neg (by omega)]
theorem half_all {n : Nat} (p q : Nat → Bool) : mkL n (half n p q) = mkL n p := mkL_ext fun i hi => by unfold half; rw [if_pos hi]
theorem half_at {k : Nat} (p q : Nat → Bool) : half k p q k = q k := by unfold half; rw [if_neg (by omega)]

section
variable {P : Program} (w : World)
theorem run_append_of_nil (base : Nat) (t ty e : TypeId) (i : TypeInfo) (size : Nat) (ht : P.underlying t = some (.slice e)) (hi : P.info? e = some i)
    (v : Value) (n : Nat) (xs : List Value) (hown : w.ownsRow base e size v n xs) (c : Nat) : (Builtin.append_ #[t, t] ty #[v, .slice none 0 c]).run P w = .ok v w := by
  rcases hown.2 with ⟨rfl, rfl⟩ | ⟨g, cap, cur, rfl, _, _, hnc, _⟩
  · simp [Builtin.append_, run_underlying ht, sizeOf, typeInfo, hi, Builtin.lenOf, Builtin.firstCells]
  · simp [Builtin.append_, run_underlying ht, sizeOf, typeInfo, hi, Builtin.lenOf, Builtin.firstCells, hnc, storeCells]

theorem run_append_ints (base : Nat) (t ty e : TypeId) (i : TypeInfo) (z : Value) (bytes : Nat) (ht : P.underlying t = some (.slice e)) (hi : P.info? e = some i) (hz : i.zero = some z)
    (hsize : i.size = 1) (hby : i.bytes = bytes) (hzs : z.cells.size = 1)
    (v : Value) (n : Nat) (xs : List Value) (hown : w.ownsRow base e 1 v n xs) (A : Option Addr) (c : Nat) (l : List Int) (hr : Ints w (.slice A l.length c) l)
    (h63 : n + l.length ≤ maxLen) (hbytes : (n + l.length) * bytes ≤ 140737488355328) (hbase : base ≤ w.heap.size) :
    ∃ v' w', (Builtin.append_ #[t, t] ty #[v, .slice A l.length c]).run P w = .ok v' w' ∧ w'.ownsRow base e 1 v' (n + l.length) (xs ++ ivs l) ∧ w.grownBy w' v.ownBlock := by
  rcases A with _ | ad
  · have hl : l.length = 0 := by
      obtain ⟨A', c', hv, h1, _, h3, _⟩ := hr
      injection hv with e1 e2 e3
      have := h3 e1.symm
      omega
    have : l = [] := List.eq_nil_of_length_eq_zero hl
    subst this
    exact ⟨v, w, run_append_of_nil w base t ty e i 1 ht hi v n xs hown c, by simpa using hown, World.grownBy.refl w _⟩
  · have hcells : ∀ j u, (ivs l)[j]? = some u → w.cell? (ad.add j) = some u := by
      intro j u hu
      rw [List.getElem?_map] at hu
      cases hx : l[j]? with
      | none => rw [hx] at hu; cases hu
      | some x =>
        rw [hx] at hu
        obtain rfl := Option.some.inj hu
        obtain ⟨ad', h, hc⟩ := hr.cell hx
        injection h with h
        subst h
        exact hc
    obtain ⟨v', w', hrun, h2, h3, _, h5⟩ := run_append_own_at (P := P) w base t ty e i z 1 bytes ht hi hz hsize hby hzs (by omega) v n xs hown ad l.length c (ivs l) (by simp) hcells (by simp [Value.oneCell']) h63 hbytes hbase
    exact ⟨v', w', hrun, h2, h3⟩

theorem wpList_append_ints {ops : Array Oper} {rest : List Oper} {o : Oper} {a : Act} {Q : Exit → Act → World → Prop} (hgd : o.guard = none) (s x : Operand) (t : TypeId)
    (ho : o.op = .call { callee := .builtin .append, args := #[s, x], argTypes := #[t, t] })
    (base : Nat) (e : TypeId) (i : TypeInfo) (z : Value) (bytes : Nat) (ht : P.underlying t = some (.slice e)) (hi : P.info? e = some i) (hz : i.zero = some z)
    (hsize : i.size = 1) (hby : i.bytes = bytes) (hzs : z.cells.size = 1)
    (v : Value) (n : Nat) (xs : List Value) (hs : a.eval s = v) (hown : w.ownsRow base e 1 v n xs) (A : Option Addr) (c : Nat) (l : List Int) (hx : a.eval x = .slice A l.length c) (hr : Ints w (.slice A l.length c) l)
    (h63 : n + l.length ≤ maxLen) (hbytes : (n + l.length) * bytes ≤ 140737488355328) (hbase : base ≤ w.heap.size)
    (h : ∀ v' w', w'.ownsRow base e 1 v' (n + l.length) (xs ++ ivs l) → w.grownBy w' v.ownBlock → wpList P ops Q rest (a.put o.dst v') w') : wpList P ops Q (o :: rest) a w :=
  wpList_plain hgd fun _ hK => by
    obtain ⟨v', w', hrun, h2, h3⟩ := run_append_ints (P := P) w base t o.type e i z bytes ht hi hz hsize hby hzs v n xs hown A c l hr h63 hbytes hbase
    unfold Oper.wp execOp
    simp only [ho, resolve, invoke, builtin, Sem.run_bind, Sem.run_pure, Result.andThen_ok, List.map_toArray, List.map_cons, List.map_nil, hs, hx, hrun]
    exact hK _ _ (h v' w' h2 h3)
end

set_option maxHeartbeats 2000000 in
theorem only_any (w : World) (v : Value) (gs : List (List Int)) (a b : Int) (hG : Rows w v gs) (hN : gs.length ≤ 2000) :
    Calls Tryd.prog 13 #[v, .int .i64 a, .int .i64 b] w (Nums w (onlL gs a b)) := by
  have hb0 := (Below.refl w.heap.size w).alloc (Nat.le_refl _) (.cells #[.int .i64 a] 3)
  have HR := Lib.hid (reach_any (w.alloc (.cells #[.int .i64 a] 3)) v _ gs [a] (hG.below hb0) (Ints.lit w #[.int .i64 a] 3 [a] rfl (by simp [maxLen])) hN)
  have HG := Lib.hid hG
  clear hG
  go_enter Tryd.func13, Tryd.ntmps13
  go_wp2_with fail
  refine HR.out.mono ?_
  rintro e w1 ⟨g1, rfl, ho1, hb⟩
  have hb1 := hb0.trans (hb.mono hb0.size)
  replace ho1 := own_le ho1 hb0.size
  have hb2 := hb1.alloc hb1.size (.cells #[.int .i64 b] 3)
  have HR2 := Lib.hid (reach_any (w1.alloc (.cells #[.int .i64 b] 3)) v _ gs [b] (HG.out.below hb2) (Ints.lit w1 #[.int .i64 b] 3 [b] rfl (by simp [maxLen])) hN)
  clear hb hb0 HR HG
  go_wp2_with fail
  refine HR2.out.mono ?_
  rintro e w2 ⟨g2, rfl, ho2, hb⟩
  have ho3 := own_keep (own_keep ho1 ((Below.refl _ _).alloc (Nat.le_refl _) (.cells #[.int .i64 b] 3))) hb
  have hne : g1 ≠ g2 := by
    have h1 := (ho1.lt g1 rfl).2
    have h2 := (ho2.lt g2 rfl).1
    simp at h2
    omega
  have hb3 := hb2.trans (hb.mono hb2.size)
  replace ho2 := own_le ho2 hb2.size
  rw [← half_zero (onl gs a b) (anc gs [a])] at ho3
  have HE : Hid (∀ k, onl gs a b k = (anc gs [a] k && !anc gs [b] k)) := Lib.hid fun k => rfl
  have HL : Hid (∀ n, rowF n (onl gs a b) = rowF n (onl gs a b)) := Lib.hid fun n => rfl
  have Hres : Hid (onlL gs a b = rowF (gs.length + 1) (onl gs a b)) := Lib.hid rfl
  clear ho1 hb2 hb HR2 HL
  generalize onl gs a b = p at *
  generalize anc gs [a] = f at *
  generalize anc gs [b] = f2 at *
  generalize hnn : gs.length + 1 = N at *
  have hN1 : N ≤ 2001 := by omega
  clear hnn
  go_wp2_with fail
  go_loopw [19] (fun s19 wr => ∃ k : Nat, k ≤ N ∧ s19 = .int .i64 k ∧ wr.ownsRow w.heap.size 4 1 (sl g1 N) N (bv (mkL N (half k p f))) ∧ wr.ownsRow w.heap.size 4 1 (sl g2 N) N (bv (mkL N f2)) ∧ Below w.heap.size w wr) (fun s19 _ => N - (intOf s19).toNat)
  case atStart => exact ⟨0, Nat.zero_le _, rfl, ho3, ho2, hb3⟩
  case round =>
    clear ho3 ho2 hb3
    obtain ⟨k, hk, rfl, h1, h2, hb⟩ := hrel
    have k0 : (0 : Int) ≤ (k : Int) := Int.natCast_nonneg _
    by_cases hlt : k < N
    · have k1 : (k : Int) < (N : Int) := by omega
      have c1 := bools_at h1 hlt
      rw [half_at] at c1
      have c2 := bools_at h2 hlt
      have z1 := h1.frozenAt k
      obtain ⟨h3, hg⟩ := bools_set (k := k) h1 (p k)
      rw [half_set] at h3
      rw [HE.out] at h3 hg
      have h4 := h2.kept hg (.inr (by simp [Value.ownBlock]; exact fun e => hne e.symm))
      have hb5 : Below w.heap.size w (wr.setCell ⟨g1, k, none⟩ (.bool (f k && !f2 k))) := hb.setCell (h1.lt g1 rfl).1 _
      have H3 := Lib.hid h3
      have H4 := Lib.hid h4
      have H5 := Lib.hid hb5
      clear h1 h2 hb h3 h4 hb5 hg
      generalize f k = x at *
      generalize f2 k = y at *
      cases x <;> cases y
      all_goals
        simp only [Bool.not_true, Bool.not_false, Bool.and_true, Bool.and_false] at H3 H4 H5
        go_wp2
        go_roundw
        case rel => exact ⟨k + 1, by omega, by go_num, H3.out, H4.out, H5.out⟩
        case measure => simp [intOf]; omega
    · obtain rfl : k = N := by omega
      rw [half_all] at h1
      have HR := Lib.hid (row_any wr _ g1 _ p h1 (by omega))
      clear h1 h2
      go_wp2_with fail
      refine HR.out.mono ?_
      rintro e w3 ⟨x, rfl, ho, hb6⟩
      have hz := hb.size
      go_wp2
      go_ret
      rw [Hres.out]
      exact ⟨x, rfl, own_le ho hz, hb.trans (hb6.mono hz)⟩

end Go.Proofs.YtanjcjnkppnhcaaDoor.G
