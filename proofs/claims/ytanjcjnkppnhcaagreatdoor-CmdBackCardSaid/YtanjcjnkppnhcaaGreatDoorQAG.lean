/-
  The laws' own small functions: rows alike; few; the reference's Check.
  The reference's Marks, rising, Ancestors, Is.
  todo.Plain, rectoref17.Plain: the picks that bring what one commit has beyond another.
-/
import Derived.Test.YtanjcjnkppnhcaaGreatDoorQAF
import Derived.Outline
import Derived.Test.YtanjcjnkppnhcaaGreatDoorQAD
import Derived.Maps.AppendAt

namespace Go.Proofs.YtanjcjnkppnhcaaGreatDoor.G
open Go.RowKit

set_option maxHeartbeats 4000000 in
theorem refCheck_any (w : World) (v : Value) (gs : List (List Int)) (hG : Rows w v gs) :
    Calls Tryz.prog 13 #[v] w (Says w (chk gs)) := by
  obtain ⟨A, c, rfl⟩ := hG.form
  have hlen := hG.len
  have hl63 : gs.length ≤ 9223372036854775807 := by have h1 := hlen.2.1; have h2 := hlen.2.2; unfold maxLen at h2; omega
  have HG := Lib.hid hG
  clear hG hlen
  by_cases hbig : 1024 < gs.length
  · have HC : Hid (chk gs = 4) := Lib.hid (by unfold chk; rw [if_pos hbig])
    have hb1 : (1024 : Int) < (gs.length : Int) := by omega
    clear hbig
    go_enter Tryz.func13, Tryz.ntmps13
    go_wp2
    go_ret
    exact ⟨by rw [HC.out]; rfl, Below.refl _ _⟩
  · have HC : Hid (chk gs = chkR 0 gs) := Lib.hid (by unfold chk; rw [if_neg hbig])
    have hb1 : (gs.length : Int) ≤ 1024 := by omega
    clear hbig
    go_enter Tryz.func13, Tryz.ntmps13
    go_wp2_with fail
    go_loopw [3] (fun s12 wr => ∃ k n : Nat, k ≤ gs.length ∧ s12 = .int .i64 k ∧ Hid (chk gs = chkR k (gs.drop k)) ∧ wr = w.drewN n) (fun s12 _ => gs.length - (intOf s12).toNat)
    case atStart => exact ⟨0, 0, Nat.zero_le _, rfl, HC, rfl⟩
    case round =>
      clear HC
      obtain ⟨k, n, hk, rfl, HC, rfl⟩ := hrel
      have k0 : (0 : Int) ≤ (k : Int) := Int.natCast_nonneg _
      by_cases hlt : k < gs.length
      · have k1 : (k : Int) < (gs.length : Int) := by omega
        obtain ⟨l, hl⟩ : ∃ l, gs[k]? = some l := ⟨_, List.getElem?_eq_getElem hlt⟩
        have HK := Lib.hid (chkR_at hl)
        obtain ⟨ad, u, rfl, c1, hu⟩ := HG.out.cell hl
        obtain ⟨B, d, rfl⟩ := hu.form
        have hll : l.length ≤ 9223372036854775807 := by have h1 := hu.len.2.1; have h2 := hu.len.2.2; unfold maxLen at h2; omega
        have HU := Lib.hid hu
        clear hl hu
        by_cases h3 : 2 < l.length
        · have h3' : (2 : Int) < (l.length : Int) := by omega
          have HB := Lib.hid (bad_long (i := k) h3)
          clear h3
          go_wp2
          go_ret
          exact ⟨by rw [HC.out, HK.out, HB.out]; rfl, below_drewN (Below.refl _ w) n⟩
        · have h3' : (l.length : Int) ≤ 2 := by omega
          go_wp2_with fail
          go_loop [4] (fun s19 => ∃ j : Nat, j ≤ l.length ∧ s19 = .int .i64 j ∧ Hid (∀ x ∈ l.take j, 1 ≤ x ∧ x ≤ (k : Int))) (fun s19 => l.length - (intOf s19).toNat)
          case atStart => exact ⟨0, Nat.zero_le _, rfl, Lib.hid (by simp)⟩
          case round =>
            obtain ⟨j, hj, rfl, HT⟩ := hrel
            have j0 : (0 : Int) ≤ (j : Int) := Int.natCast_nonneg _
            by_cases hlj : j < l.length
            · have j1 : (j : Int) < (l.length : Int) := by omega
              obtain ⟨x, hx⟩ : ∃ x, l[j]? = some x := ⟨_, List.getElem?_eq_getElem hlj⟩
              obtain ⟨ab, rfl, c2⟩ := HU.out.cell hx
              have Hx := Lib.hid hx
              clear hx
              by_cases h1 : x < 1
              · have HB := Lib.hid (bad_first (i := k) (List.mem_of_getElem? Hx.out) (.inl h1))
                go_wp2
                go_ret
                exact ⟨by rw [HC.out, HK.out, HB.out]; rfl, below_drewN (Below.refl _ w) n⟩
              · have h1' : 1 ≤ x := by omega
                by_cases h2 : (k : Int) < x
                · have HB := Lib.hid (bad_first (i := k) (List.mem_of_getElem? Hx.out) (.inr h2))
                  go_wp2
                  go_ret
                  exact ⟨by rw [HC.out, HK.out, HB.out]; rfl, below_drewN (Below.refl _ w) n⟩
                · have h2' : x ≤ (k : Int) := by omega
                  go_wp2
                  go_round
                  case rel => exact ⟨j + 1, by omega, by go_num, Lib.hid (take_all HT.out Hx.out ⟨h1', h2'⟩)⟩
                  case measure => simp [intOf]; omega
            · obtain rfl : j = l.length := by omega
              have HA : Hid (∀ x ∈ l, 1 ≤ x ∧ x ≤ (k : Int)) := Lib.hid (by have := HT.out; rwa [List.take_length] at this)
              clear HT
              have HB := Lib.hid (bad_rest HA.out (show l.length ≤ 2 by omega))
              by_cases h4 : l.length = 2
              · have h4' : ((l.length : Int) == 2) = true := by rw [beq_iff_eq]; omega
                obtain ⟨x, hx⟩ : ∃ x, l[0]? = some x := ⟨_, List.getElem?_eq_getElem (by omega)⟩
                obtain ⟨y, hy⟩ : ∃ y, l[1]? = some y := ⟨_, List.getElem?_eq_getElem (by omega)⟩
                obtain ⟨ab, rfl, c2⟩ := HU.out.cell hx
                obtain ⟨ab', hab, c3⟩ := HU.out.cell hy
                obtain rfl := Option.some.inj hab
                have c5 : w.cell? ab = some (.int .i64 x) := by have := c2; unfold Addr.add at this; exact this
                have c6 : w.cell? ⟨ab.block, ab.off + 1, none⟩ = some (.int .i64 y) := by have := c3; unfold Addr.add at this; exact this
                clear c2 c3
                have q2 : 0 < l.length := by omega
                have q3 : 1 < l.length := by omega
                by_cases hxy : x = y
                · have HB2 : Hid (bad k l = 6) := Lib.hid (by rw [HB.out, if_pos ⟨h4, by rw [hx, hy, hxy]⟩])
                  have e1 : (x == y) = true := by rw [beq_iff_eq]; exact hxy
                  clear hx hy hab h3 h4 HA HB hxy
                  go_wp2_with fail
                  go_quiet (fail)
                  go_wp2
                  go_ret
                  exact ⟨by rw [HC.out, HK.out, HB2.out]; rfl, below_drewN (below_drewN (Below.refl _ w) n) nq⟩
                · have HB2 : Hid (bad k l = 0) := Lib.hid (by rw [HB.out, if_neg (fun h => hxy (by have := h.2; rw [hx, hy] at this; injection this))])
                  have e1 : (x == y) = false := by rw [beq_eq_false_iff_ne]; exact hxy
                  clear hx hy hab h3 h4 HA HB hxy
                  go_wp2_with fail
                  go_quiet (fail)
                  go_wp2_with fail
                  go_roundw
                  case rel => exact ⟨k + 1, n + nq, by omega, by go_num, Lib.hid (by rw [HC.out, HK.out, HB2.out]; rfl), rfl⟩
                  case measure => simp [intOf]; omega
              · have h4' : ((l.length : Int) == 2) = false := by rw [beq_eq_false_iff_ne]; omega
                have HB2 : Hid (bad k l = 0) := Lib.hid (by rw [HB.out, if_neg (fun h => h4 h.1)])
                clear h3 h4 HA HB
                go_wp2_with fail
                go_quiet (fail)
                go_wp2_with fail
                go_roundw
                case rel => exact ⟨k + 1, n + nq, by omega, by go_num, Lib.hid (by rw [HC.out, HK.out, HB2.out]; rfl), rfl⟩
                case measure => simp [intOf]; omega
      · obtain rfl : k = gs.length := by omega
        have HE : Hid (chk gs = 0) := Lib.hid (by rw [HC.out, List.drop_length]; rfl)
        go_wp2
        go_ret
        exact ⟨by rw [HE.out]; rfl, below_drewN (Below.refl _ w) n⟩

end Go.Proofs.YtanjcjnkppnhcaaGreatDoor.G

namespace Go.Proofs.YtanjcjnkppnhcaaGreatDoor.G
open Go.RowKit

/-- What stands while the marks are carried down: those at m and above have handed theirs on. -/
structure RI (gs : List (List Int)) (cs : List Int) (m : Nat) (S : List Bool) : Prop where
  len : S.length = gs.length
  sound : ∀ i : Nat, S[i]? = some true → Anc gs cs ((i : Int) + 1)
  base : ∀ c ∈ cs, 1 ≤ c → c ≤ gs.length → S[c.toNat - 1]? = some true
  done : ∀ (y : Nat) (l : List Int), m ≤ y → S[y]? = some true → gs[y]? = some l → ∀ p ∈ l, S[p.toNat - 1]? = some true

theorem set_true {S : List Bool} {i j : Nat} (hi : i < S.length) : (S.set i true)[j]? = some true ↔ j = i ∨ S[j]? = some true := by
  rw [List.getElem?_set]
  by_cases e : i = j
  · subst e; rw [if_pos rfl, if_pos hi]; simp
  · rw [if_neg e]
    constructor
    · exact .inr
    · rintro (h | h)
      · exact absurd h.symm e
      · exact h

theorem RI.keep {gs : List (List Int)} {m j : Nat} {S : List Bool} {l : List Int} {p : Int} (ok : Ok gs) (hlen : S.length = gs.length) (hl : gs[m]? = some l) (hm : S[m]? = some true) (hp : l[j]? = some p) (ht : ∀ q ∈ l.take j, S[q.toNat - 1]? = some true) :
    (S.set (p.toNat - 1) true)[m]? = some true ∧ ∀ q ∈ l.take (j + 1), (S.set (p.toNat - 1) true)[q.toNat - 1]? = some true := by
  have hml := (List.getElem?_eq_some_iff.1 hl).1
  obtain ⟨p1, p2⟩ := ok m l hl p (List.mem_of_getElem? hp)
  have hlt : p.toNat - 1 < S.length := by omega
  exact ⟨(set_true hlt).2 (.inr hm), take_all (fun q hq => (set_true hlt).2 (.inr (ht q hq))) hp ((set_true hlt).2 (.inl rfl))⟩
theorem RI.all {gs : List (List Int)} {cs : List Int} {S : List Bool} (h : RI gs cs 0 S) : S = mkL gs.length (fun i => anc gs cs (i + 1)) := by
  have full : ∀ x : Int, Anc gs cs x → S[x.toNat - 1]? = some true := by
    intro x hx
    induction hx with
    | base h1 h2 h3 => exact h.base _ h1 h2 h3
    | @step y p hy h1 h2 h3 ih =>
      have hv := hy.vld
      obtain ⟨l, hl⟩ : ∃ l, gs[y.toNat - 1]? = some l := ⟨_, List.getElem?_eq_getElem (by omega)⟩
      refine h.done _ l (Nat.zero_le _) ih hl p ?_
      unfold par at h1
      rw [List.getD_eq_getElem?_getD, hl] at h1
      exact h1
  refine mkL_of h.len fun i hi => ?_
  have hlt : i < S.length := by rw [h.len]; exact hi
  cases ha : anc gs cs (i + 1) with
  | true =>
    have := full _ (anc_iff.1 ha)
    rwa [show (((i + 1 : Nat) : Int)).toNat - 1 = i by omega] at this
  | false =>
    rw [List.getElem?_eq_getElem hlt]
    cases hb : S[i] with
    | false => rfl
    | true =>
      have := h.sound i (by rw [List.getElem?_eq_getElem hlt, hb])
      rw [anc_iff.2 (by rwa [show ((i + 1 : Nat) : Int) = (i : Int) + 1 by omega])] at ha
      cases ha

/-- While the first ones are marked. -/
structure RB (gs : List (List Int)) (cs : List Int) (k : Nat) (S : List Bool) : Prop where
  len : S.length = gs.length
  sound : ∀ i : Nat, S[i]? = some true → Anc gs cs ((i : Int) + 1)
  base : ∀ c ∈ cs.take k, 1 ≤ c → c ≤ gs.length → S[c.toNat - 1]? = some true
theorem RB.zero (gs : List (List Int)) (cs : List Int) : RB gs cs 0 (List.replicate gs.length false) :=
  ⟨by simp, fun i h => by rw [List.getElem?_replicate] at h; split at h <;> simp at h, by simp⟩
theorem RB.no {gs : List (List Int)} {cs : List Int} {k : Nat} {S : List Bool} {c : Int} (h : RB gs cs k S) (hc : cs[k]? = some c) (hn : ¬(1 ≤ c ∧ c ≤ gs.length)) : RB gs cs (k + 1) S :=
  ⟨h.len, h.sound, take_all (P := fun c => 1 ≤ c → c ≤ gs.length → S[c.toNat - 1]? = some true) h.base hc fun a b => absurd ⟨a, b⟩ hn⟩
end Go.Proofs.YtanjcjnkppnhcaaGreatDoor.G

namespace Go.Proofs.YtanjcjnkppnhcaaGreatDoor
open Go Go.RowKit

theorem rStepInfo : (Tryz.prog.info? 81).map (fun i => (i.zero, i.size, i.bytes)) = some (some (.agg #[.string ⟨#[]⟩, .int .i64 0, .string ⟨#[]⟩]), 3, 40) := by kernel_rfl
theorem run_append_rsteps (w : World) (ty : TypeId) (base : Nat) (v : Value) (xs ys : List Fl) (hown : w.ownsRow base 81 3 v xs.length (xs.flatMap cF)) (A : Option Addr) (m c : Nat) (h : Reads 3 cF w (.slice A m c) ys) (hl : xs.length + ys.length ≤ 1000000) (hbase : base ≤ w.heap.size) :
    ∃ A' c' w', (Builtin.append_ #[28, 28] ty #[v, .slice A m c]).run Tryz.prog w = .ok (.slice A' (xs ++ ys).length c') w' ∧ w'.ownsRow base 81 3 (.slice A' (xs ++ ys).length c') (xs ++ ys).length ((xs ++ ys).flatMap cF) ∧ Below base w w' ∧ w.grownBy w' v.ownBlock := by
  obtain ⟨i0, hi, hz0, hz1, hz2⟩ := info_parts rStepInfo
  obtain ⟨hm, hmc, hcm⟩ := h.len
  cases A with
  | none =>
    obtain ⟨A', c', hv, h1, h2, h3, h4⟩ := h
    injection hv with e1 e2 e3
    subst e1; subst e3
    have hc := h3 rfl
    subst hc
    have hm0 : m = 0 := by omega
    subst hm0
    have : ys = [] := List.eq_nil_of_length_eq_zero (by omega)
    subst this
    obtain ⟨A', c', rfl⟩ := own_form hown
    have hr := run_append_owned_none (P := Tryz.prog) (w := w) base 28 ty 81 i0 3 Tryz.underlying28 hi _ _ _ hown
    rw [List.append_nil]
    exact ⟨A', c', w, hr, hown, Below.refl _ _, World.grownBy.refl _ _⟩
  | some ad =>
    obtain ⟨v', w', hr, ho, hg, _⟩ := run_append_own (P := Tryz.prog) w base 28 ty 81 i0 (.agg #[.string ⟨#[]⟩, .int .i64 0, .string ⟨#[]⟩]) 3 40 Tryz.underlying28 hi hz0 hz1 hz2 rfl (by decide) v xs.length (xs.flatMap cF) hown ad m c (ys.flatMap cF) (by rw [flat_len cF_len, hm]) (reads_flat cF_len (by decide) h) (cF_one ys) (by unfold maxLen; omega) (by omega) hbase
    have ho2 : w'.ownsRow base 81 3 v' (xs ++ ys).length ((xs ++ ys).flatMap cF) := by rw [List.length_append, List.flatMap_append, ← hm]; exact ho
    obtain ⟨A', c', rfl⟩ := own_form ho2
    exact ⟨A', c', w', hr, ho2, (Below.refl base w).grown hg hbase fun k hk => (hown.lt k hk).1, hg⟩

theorem wpList_append_rsteps (w : World) {ops : Array Oper} {rest : List Oper} {o : Oper} {a : Act} {Q : Exit → Act → World → Prop} (hgd : o.guard = none) (s x : Operand)
    (ho : o.op = .call { callee := .builtin .append, args := #[s, x], argTypes := #[28, 28] })
    (base : Nat) (v : Value) (xs ys : List Fl) (hs : a.eval s = v) (hown : w.ownsRow base 81 3 v xs.length (xs.flatMap cF)) (A : Option Addr) (m c : Nat) (hx : a.eval x = .slice A m c) (h : Reads 3 cF w (.slice A m c) ys) (hl : xs.length + ys.length ≤ 1000000) (hbase : base ≤ w.heap.size)
    (hk : ∀ A' c' w', w'.ownsRow base 81 3 (.slice A' (xs ++ ys).length c') (xs ++ ys).length ((xs ++ ys).flatMap cF) → Below base w w' → w.grownBy w' v.ownBlock → wpList Tryz.prog ops Q rest (a.put o.dst (.slice A' (xs ++ ys).length c')) w') : wpList Tryz.prog ops Q (o :: rest) a w := by
  obtain ⟨A', c', w', hr, h2, h3, h4⟩ := run_append_rsteps w o.type base v xs ys hown A m c h hl hbase
  exact Lib.wpList_append_run w hgd s x _ _ ho _ _ hs hx _ _ hr (hk A' c' w' h2 h3 h4)

theorem reads_one_rstep {w : World} {g : Nat} (x : Fl) (z : Blk w g 81 #[.string x.1, .int .i64 x.2.1, .string x.2.2]) : Reads 3 cF w (.slice (some ⟨g, 0, none⟩) 1 1) [x] := by
  refine ⟨some ⟨g, 0, none⟩, 1, rfl, Nat.le_refl _, by decide, by simp, fun ad hA i y hy j u hu => ?_⟩
  obtain rfl := Option.some.inj hA
  match i, hy with
  | 0, hy =>
    simp at hy
    subst hy
    match j, hu with
    | 0, hu => simp [cF] at hu; subst hu; exact z.cell 0
    | 1, hu => simp [cF] at hu; subst hu; exact z.cell 1
    | 2, hu => simp [cF] at hu; subst hu; exact z.cell 2
    | j + 3, hu => simp [cF] at hu
  | i + 1, hy => simp at hy
def bPick : ByteArray := ⟨#[112, 105, 99, 107]⟩
end Go.Proofs.YtanjcjnkppnhcaaGreatDoor
