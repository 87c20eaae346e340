/-
  slices.Insert at a row of names: all ways in one contract.
-/
import Derived.Test.YtkhdjlakclidoaaNIns2
namespace Go.Proofs.Ytkhdjlakclidoaa
open Go.RowKit

/-- A row came of a row: its own block, or a new one. -/
def Came (w : World) (v v' : Value) : Prop := v'.ownBlock = v.ownBlock ∨ ∃ g, v'.ownBlock = some g ∧ w.heap.size ≤ g
/-- The row has the names l; nothing but the old row's block was touched. -/
def Rowed (w : World) (B : Nat) (v : Value) (l : List Rf) (e : Ending) (w' : World) : Prop := ∃ v', e = .returned v' ∧ Own w' B v' l ∧ w.grownBy w' v.ownBlock ∧ Came w v v'

theorem grown_cell (w : World) (g p : Nat) (u : Value) : w.grownBy (w.setCell ⟨g, p, none⟩ u) (some g) :=
  ⟨rfl, rfl, rfl, by simp, fun k _ hk => Below.heap_setCell _ _ _ _ (fun e => hk (by rw [e]))⟩
theorem grown_setCells (g : Nat) : ∀ (vs : List Value) (o : Nat) (w : World), w.grownBy (w.setCells g o vs) (some g)
  | [], _, w => World.grownBy.refl w _
  | v :: r, o, w => World.grownBy.trans (grown_cell w g o v) (grown_setCells g r (o + 1) (w.setCell ⟨g, o, none⟩ v))
theorem below_setCells {B : Nat} {a : World} (b : Nat) (hb : B ≤ b) : ∀ (vs : List Value) (o : Nat) {w : World}, Below B a w → Below B a (w.setCells b o vs)
  | [], _, _, h => h
  | v :: r, o, _, h => below_setCells b hb r (o + 1) (h.setCell (p := ⟨b, o, none⟩) hb v)

theorem insR_length (l : List Rf) (i : Nat) (r : Rf) (h : i ≤ l.length) : (insR l i r).length = l.length + 1 := by
  unfold insR; simp; omega
theorem ce_ins (l : List Rf) (i : Nat) (r : Rf) (h : i ≤ l.length) (j : Nat) : (ce (insR l i r))[j]? = if j < i * 2 then (ce l)[j]? else if j < (i + 1) * 2 then (rc r)[j - i * 2]? else (ce l)[j - 2]? := by
  have hl : (ce (l.take i)).length = i * 2 := by rw [ce_len, List.length_take]; omega
  unfold insR
  rw [ce_app, ce_cons, List.getElem?_append, hl]
  by_cases h1 : j < i * 2
  · rw [if_pos h1, if_pos h1, ce_take, List.getElem?_take, if_pos h1]
  · rw [if_neg h1, if_neg h1]
    by_cases h2 : j < (i + 1) * 2
    · rw [if_pos h2]
      rcases (show j - i * 2 = 0 ∨ j - i * 2 = 1 by omega) with e | e <;> rw [e] <;> rfl
    · rw [if_neg h2]
      obtain ⟨k, hk⟩ : ∃ k, j - i * 2 = k + 1 + 1 := ⟨j - i * 2 - 2, by omega⟩
      rw [hk, List.getElem?_cons_succ, List.getElem?_cons_succ, ce_drop, List.getElem?_drop]
      congr 1
      omega

theorem insert_any (w : World) (B : Nat) (v : Value) (l : List Rf) (r : Rf) (i vb : Nat) (hO : Own w B v l) (hi : i ≤ l.length) (hfew : l.length ≤ 1000) (hvb : Blk w vb 43 #[.string r.1, .int .i64 r.2]) (hne : v.ownBlock ≠ some vb) (hBw : B ≤ w.heap.size) :
    Calls Try.prog 25 #[v, .int .i64 i, .slice (some ⟨vb, 0, none⟩) 1 1] w (Rowed w B v (insR l i r)) := by
  obtain ⟨i0, hi0, hz0, hz1, hz2⟩ := info_parts refInfo
  rcases Nat.eq_or_lt_of_le hi with he | hlt
  · -- at the end
    subst he
    have hins : insR l l.length r = l ++ [r] := by simp [insR]
    obtain ⟨A, c, rfl⟩ := own_form hO
    have HO := Lib.hid hO
    have HI := Lib.hid hins
    have HV := Lib.hid hvb
    have hcap : l.length ≤ c ∧ c ≤ 9223372036854775807 := by
      rcases hO.open_ with ⟨h, h2⟩ | ⟨g', cap', cur, hv, hB, hb, hn, hmx, hs, hcs⟩
      · injection h with _ _ h3
        rw [h2, h3]; simp
      · injection hv with _ _ h3
        subst h3
        unfold maxLen at hmx
        omega
    clear hO hins hvb
    by_cases hcl : c = l.length
    · subst hcl
      go_enter Try.func25, Try.ntmps25
      go_wp2_with (at_builtin; refine wpList_append_own_at _ rfl _ _ 27 rfl B 43 i0 _ 2 24 Try.underlying27 hi0 hz0 hz1 hz2 rfl (by decide) _ _ _ rfl HO.out ⟨vb, 0, none⟩ 1 1 (rc r) rfl rfl ?c1 ?c2 ?c3 ?c4 hBw ?_)
      case c1 => exact World.news_of_block HV.out
      case c2 => intro u hu; simp at hu; rcases hu with rfl | rfl <;> rfl
      case c3 => unfold maxLen; omega
      case c4 => omega
      intro v' w' hown' hg' _ hat
      go_wp2_with fail
      go_ret
      refine ⟨v', rfl, ?_, hg', ?_⟩
      · rw [HI.out]
        show w'.ownsRow B 43 2 v' _ _
        rw [List.length_append, ce_app]
        exact hown'
      · rcases hat with h | h
        · exact .inl h
        · exact .inr ⟨_, h, Nat.le_refl _⟩
    · go_enter Try.func25, Try.ntmps25
      go_wp2_with (at_builtin; refine wpList_append_own_at _ rfl _ _ 27 rfl B 43 i0 _ 2 24 Try.underlying27 hi0 hz0 hz1 hz2 rfl (by decide) _ _ _ rfl HO.out ⟨vb, 0, none⟩ 1 1 (rc r) rfl rfl ?c1 ?c2 ?c3 ?c4 hBw ?_)
      case c1 => exact World.news_of_block HV.out
      case c2 => intro u hu; simp at hu; rcases hu with rfl | rfl <;> rfl
      case c3 => unfold maxLen; omega
      case c4 => omega
      intro v' w' hown' hg' _ hat
      go_wp2_with fail
      go_ret
      refine ⟨v', rfl, ?_, hg', ?_⟩
      · rw [HI.out]
        show w'.ownsRow B 43 2 v' _ _
        rw [List.length_append, ce_app]
        exact hown'
      · rcases hat with h | h
        · exact .inl h
        · exact .inr ⟨_, h, Nat.le_refl _⟩
  · rcases hO.open_ with ⟨_, h0⟩ | ⟨g, cap, cur, hv, hB, hb, hn, hmx, hs, hcs⟩
    · subst h0; simp at hlt
    subst hv
    have hil := insR_length l i r hi
    have hdl : (ce (l.drop i)).length = (l.length - i) * 2 := by rw [ce_len, List.length_drop]
    rcases Nat.lt_or_ge cap (l.length + 1) with hr | hr
    · refine (insert_grow w B g cap i vb l r hO hlt hr hfew hvb).mono ?_
      rintro e w' ⟨G, ROW, rfl, h1, h2, h3, h4, rfl⟩
      have b0 := Blk.new w 43 ROW
      obtain ⟨c1, b1, s1, x1⟩ := Blk.setCells (rc r) (i * 2) (b0.drewN 1) (by simp; omega)
      obtain ⟨c2, b2, s2, x2⟩ := Blk.setCells (ce (l.drop i)) ((i + 1) * 2) (b1.drewN 1) (by rw [hdl]; omega)
      have hbl : Below w.heap.size w ((((w.alloc (.cells ROW 43)).drew.setCells w.heap.size (i * 2) (rc r)).drew).setCells w.heap.size ((i + 1) * 2) (ce (l.drop i))) :=
        below_setCells _ (Nat.le_refl _) _ _ ((below_setCells _ (Nat.le_refl _) _ _ (((Below.refl _ _).alloc (Nat.le_refl _) _).drew)).drew)
      refine ⟨_, rfl, ?_, ⟨hbl.os, hbl.tape, hbl.output, hbl.size, fun k hk _ => hbl.block k hk⟩, .inr ⟨_, rfl, Nat.le_refl _⟩⟩
      have := Own.mk_ (l := insR l i r) hBw b2 (by rw [s2, s1, h3]) h2 (by rw [hil]; exact h1) (fun j hj => by
        rw [hil] at hj
        rw [x2, x1, ce_ins l i r hi, hdl]
        by_cases q1 : j < i * 2
        · rw [if_neg (by omega), if_neg (by omega), if_pos q1, h4 j q1]
        · by_cases q2 : j < (i + 1) * 2
          · rw [if_neg (by omega), if_pos (by simp; omega), if_neg q1, if_pos q2]
          · rw [if_pos (by omega), if_neg q1, if_neg q2, ce_drop, List.getElem?_drop]
            congr 1
            omega)
      rw [hil] at this
      exact this
    · have hvg : vb ≠ g := fun e => hne (by rw [e]; rfl)
      refine (insert_shift w B g cap i vb l r hO hlt hr hvb hvg).mono ?_
      rintro e w' ⟨rfl, rfl⟩
      obtain ⟨c1, b1, s1, x1⟩ := Blk.setCells (ce (l.drop i)) ((i + 1) * 2) (hb.drewN 1) (by rw [hdl]; omega)
      obtain ⟨c2, b2, s2, x2⟩ := Blk.setCells (rc r) (i * 2) b1 (by simp; omega)
      refine ⟨_, rfl, ?_, ?_, .inl rfl⟩
      · have := Own.mk_ (l := insR l i r) hB b2 (by rw [s2, s1, hs]) hmx (by rw [hil]; exact hr) (fun j hj => by
          rw [hil] at hj
          rw [x2, x1, ce_ins l i r hi, hdl]
          by_cases q1 : j < i * 2
          · rw [if_neg (by omega), if_neg (by omega), if_pos q1, hcs j (by omega)]
          · by_cases q2 : j < (i + 1) * 2
            · rw [if_pos (by simp; omega), if_neg q1, if_pos q2]
            · rw [if_neg (by simp; omega), if_pos (by omega), if_neg q1, if_neg q2, ce_drop, List.getElem?_drop]
              congr 1
              omega)
        rw [hil] at this
        exact this
      · have k1 := grown_setCells g (ce (l.drop i)) ((i + 1) * 2) w.drew
        have k2 := grown_setCells g (rc r) (i * 2) (w.drew.setCells g ((i + 1) * 2) (ce (l.drop i)))
        have k := World.grownBy.trans k1 k2
        exact ⟨k.os, k.tape, k.output, k.size, k.block⟩
end Go.Proofs.Ytkhdjlakclidoaa
