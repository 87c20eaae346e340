/-
  slices.Insert at a row of shelves: all ways in one contract.
-/
import Derived.Test.YtkhdjlakclidoaaDoorSfI2
namespace Go.Proofs.YtkhdjlakclidoaaDoor
open Go Go.RowKit

/-- A row came of a row: its own block, or a new one. -/
def SCame (w : World) (v v' : Value) : Prop := v'.ownBlock = v.ownBlock ∨ ∃ g, v'.ownBlock = some g ∧ w.heap.size ≤ g
/-- The row has the shelves l; nothing but the old row's block was touched. -/
def SRowed (w : World) (B : Nat) (v : Value) (l : List Sf) (e : Ending) (w' : World) : Prop := ∃ v', e = .returned v' ∧ SOwn w' B v' l ∧ w.grownBy w' v.ownBlock ∧ SCame w v v'

theorem grown_cell (w : World) (g p : Nat) (u : Value) : w.grownBy (w.setCell ⟨g, p, none⟩ u) (some g) :=
  ⟨rfl, rfl, rfl, by simp, fun k _ hk => Below.heap_setCell _ _ _ _ (fun e => hk (by rw [e]))⟩
theorem grown_setCells (g : Nat) : ∀ (vs : List Value) (o : Nat) (w : World), w.grownBy (w.setCells g o vs) (some g)
  | [], _, w => World.grownBy.refl w _
  | v :: r, o, w => World.grownBy.trans (grown_cell w g o v) (grown_setCells g r (o + 1) (w.setCell ⟨g, o, none⟩ v))
theorem below_setCells {B : Nat} {a : World} (b : Nat) (hb : B ≤ b) : ∀ (vs : List Value) (o : Nat) {w : World}, Below B a w → Below B a (w.setCells b o vs)
  | [], _, _, h => h
  | v :: r, o, _, h => below_setCells b hb r (o + 1) (h.setCell (p := ⟨b, o, none⟩) hb v)

/-- s with r put at i. -/
def insR (l : List Sf) (i : Nat) (r : Sf) : List Sf := l.take i ++ r :: l.drop i
theorem append_33 (w : World) (A A' : Option Addr) (n c m c' : Nat) (ty ty' : TypeId) : (Builtin.append_ #[34, 33] ty #[.slice A n c, .slice A' m c']).run Tryd.prog w = (Builtin.append_ #[34, 34] ty' #[.slice A n c, .slice A' m c']).run Tryd.prog w := by
  have u33 : ∀ w, (underlying 33).run Tryd.prog w = .ok (.slice 40) w := run_underlying Tryd.underlying33
  have u34 : ∀ w, (underlying 34).run Tryd.prog w = .ok (.slice 40) w := run_underlying Tryd.underlying34
  unfold Builtin.append_
  simp [u33, u34]

theorem insR_length (l : List Sf) (i : Nat) (r : Sf) (h : i ≤ l.length) : (insR l i r).length = l.length + 1 := by
  unfold insR; simp; omega
theorem sce_ins (l : List Sf) (i : Nat) (r : Sf) (h : i ≤ l.length) (j : Nat) : (sce (insR l i r))[j]? = if j < i * 4 then (sce l)[j]? else if j < (i + 1) * 4 then (rcs r)[j - i * 4]? else (sce l)[j - 4]? := by
  have hl : (sce (l.take i)).length = i * 4 := by rw [sce_len, List.length_take]; omega
  unfold insR
  rw [sce_app, sce_cons, List.getElem?_append, hl]
  by_cases h1 : j < i * 4
  · rw [if_pos h1, if_pos h1, sce_take, List.getElem?_take, if_pos h1]
  · rw [if_neg h1, if_neg h1]
    by_cases h2 : j < (i + 1) * 4
    · rw [if_pos h2]
      rcases (show j - i * 4 = 0 ∨ j - i * 4 = 1 ∨ j - i * 4 = 2 ∨ j - i * 4 = 3 by omega) with e | e | e | e <;> rw [e] <;> rfl
    · rw [if_neg h2]
      obtain ⟨k, hk⟩ : ∃ k, j - i * 4 = k + 1 + 1 + 1 + 1 := ⟨j - i * 4 - 4, by omega⟩
      rw [hk, List.getElem?_cons_succ, List.getElem?_cons_succ, List.getElem?_cons_succ, List.getElem?_cons_succ, sce_drop, List.getElem?_drop]
      congr 1
      omega

set_option maxRecDepth 100000 in
set_option maxHeartbeats 4000000 in
theorem insert_any (w : World) (B : Nat) (v : Value) (l : List Sf) (r : Sf) (i vb : Nat) (hO : SOwn w B v l) (hi : i ≤ l.length) (hfew : l.length ≤ 1000) (h1 : ∀ u ∈ sce l, u.oneCell' = true) (hr1 : r.2.1.oneCell' = true) (hvb : Blk w vb 40 (rcs r).toArray) (hne : v.ownBlock ≠ some vb) (hBw : B ≤ w.heap.size) :
    Calls Tryd.prog 34 #[v, .int .i64 i, .slice (some ⟨vb, 0, none⟩) 1 1] w (SRowed w B v (insR l i r)) := by
  obtain ⟨i0, hi0, hz0, hz1, hz2⟩ := info_parts sfInfo
  rcases Nat.eq_or_lt_of_le hi with he | hlt
  · -- at the end
    subst he
    have hins : insR l l.length r = l ++ [r] := by simp [insR]
    obtain ⟨A, c, rfl⟩ := own_form hO
    have HO := Lib.hid hO
    have HI := Lib.hid hins
    have HV := Lib.hid hvb
    have hcap : l.length ≤ c ∧ c ≤ 9223372036854775807 := by
      rcases hO.open_ with ⟨h, h2⟩ | ⟨g', cap', cur, hv, hB, hb, hn, hmx, hs, hcs⟩
      · injection h with _ _ h3
        rw [h2, h3]; simp
      · injection hv with _ _ h3
        subst h3
        unfold maxLen at hmx
        omega
    clear hO hins hvb
    obtain ⟨v2, w2, hrun0, hown', hg', _, hat⟩ := run_append_own_at (P := Tryd.prog) w B 34 0 40 i0 _ 4 72 Tryd.underlying34 hi0 hz0 hz1 hz2 rfl (by decide) (.slice A l.length c) l.length (sce l) HO.out ⟨vb, 0, none⟩ 1 1 (rcs r) rfl (World.news_of_block HV.out) (rcs_one hr1) (by unfold maxLen; omega) (by omega) hBw
    have hrun : ∀ ty, (Builtin.append_ #[34, 33] ty #[.slice A l.length c, .slice (some ⟨vb, 0, none⟩) 1 1]).run Tryd.prog w = .ok v2 w2 := fun ty => (append_33 w _ _ _ _ _ _ ty 0).trans hrun0
    clear hrun0
    by_cases hcl : c = l.length
    · subst hcl
      go_enter Tryd.func34, Tryd.ntmps34
      go_wp2_with (at_builtin; refine Lib.wpList_append_run _ rfl _ _ 34 33 rfl _ _ rfl rfl _ _ (hrun _) ?_)
      go_ret
      refine ⟨v2, rfl, ?_, hg', ?_⟩
      · rw [HI.out]
        show w2.ownsRow B 40 4 v2 _ _
        rw [List.length_append, sce_app]
        exact hown'
      · rcases hat with h | h
        · exact .inl h
        · exact .inr ⟨_, h, Nat.le_refl _⟩
    · go_enter Tryd.func34, Tryd.ntmps34
      go_wp2_with (at_builtin; refine Lib.wpList_append_run _ rfl _ _ 34 33 rfl _ _ rfl rfl _ _ (hrun _) ?_)
      go_ret
      refine ⟨v2, rfl, ?_, hg', ?_⟩
      · rw [HI.out]
        show w2.ownsRow B 40 4 v2 _ _
        rw [List.length_append, sce_app]
        exact hown'
      · rcases hat with h | h
        · exact .inl h
        · exact .inr ⟨_, h, Nat.le_refl _⟩
  · rcases hO.open_ with ⟨_, h0⟩ | ⟨g, cap, cur, hv, hB, hb, hn, hmx, hs, hcs⟩
    · subst h0; simp at hlt
    subst hv
    have hil := insR_length l i r hi
    have hdl : (sce (l.drop i)).length = (l.length - i) * 4 := by rw [sce_len, List.length_drop]
    rcases Nat.lt_or_ge cap (l.length + 1) with hr | hr
    · refine (insert_grow w B g cap i vb l r hO hlt hr hfew h1 hr1 hvb).mono ?_
      rintro e w' ⟨G, ROW, rfl, k1, k2, k3, k4, rfl⟩
      have b0 := Blk.new w 40 ROW
      obtain ⟨c1, b1, s1, x1⟩ := Blk.setCells (rcs r) (i * 4) (b0.drewN 1) (by simp; omega)
      obtain ⟨c2, b2, s2, x2⟩ := Blk.setCells (sce (l.drop i)) ((i + 1) * 4) (b1.drewN 1) (by rw [hdl]; omega)
      have hbl : Below w.heap.size w ((((w.alloc (.cells ROW 40)).drew.setCells w.heap.size (i * 4) (rcs r)).drew).setCells w.heap.size ((i + 1) * 4) (sce (l.drop i))) :=
        below_setCells _ (Nat.le_refl _) _ _ ((below_setCells _ (Nat.le_refl _) _ _ (((Below.refl _ _).alloc (Nat.le_refl _) _).drew)).drew)
      refine ⟨_, rfl, ?_, ⟨hbl.os, hbl.tape, hbl.output, hbl.size, fun k hk _ => hbl.block k hk⟩, .inr ⟨_, rfl, Nat.le_refl _⟩⟩
      have := SOwn.mk_ (l := insR l i r) hBw b2 (by rw [s2, s1, k3]) k2 (by rw [hil]; exact k1) (fun j hj => by
        rw [hil] at hj
        rw [x2, x1, sce_ins l i r hi, hdl]
        by_cases q1 : j < i * 4
        · rw [if_neg (by omega), if_neg (by omega), if_pos q1, k4 j q1]
        · by_cases q2 : j < (i + 1) * 4
          · rw [if_neg (by omega), if_pos (by simp; omega), if_neg q1, if_pos q2]
          · rw [if_pos (by omega), if_neg q1, if_neg q2, sce_drop, List.getElem?_drop]
            congr 1
            omega)
      rw [hil] at this
      exact this
    · have hvg : vb ≠ g := fun e => hne (by rw [e]; rfl)
      refine (insert_shift w B g cap i vb l r hO hlt hr h1 hr1 hvb hvg).mono ?_
      rintro e w' ⟨rfl, rfl⟩
      obtain ⟨c1, b1, s1, x1⟩ := Blk.setCells (sce (l.drop i)) ((i + 1) * 4) (hb.drewN 1) (by rw [hdl]; omega)
      obtain ⟨c2, b2, s2, x2⟩ := Blk.setCells (rcs r) (i * 4) b1 (by simp; omega)
      refine ⟨_, rfl, ?_, ?_, .inl rfl⟩
      · have := SOwn.mk_ (l := insR l i r) hB b2 (by rw [s2, s1, hs]) hmx (by rw [hil]; exact hr) (fun j hj => by
          rw [hil] at hj
          rw [x2, x1, sce_ins l i r hi, hdl]
          by_cases q1 : j < i * 4
          · rw [if_neg (by omega), if_neg (by omega), if_pos q1, hcs j (by omega)]
          · by_cases q2 : j < (i + 1) * 4
            · rw [if_pos (by simp; omega), if_neg q1, if_pos q2]
            · rw [if_neg (by simp; omega), if_pos (by omega), if_neg q1, if_neg q2, sce_drop, List.getElem?_drop]
              congr 1
              omega)
        rw [hil] at this
        exact this
      · have k1 := grown_setCells g (sce (l.drop i)) ((i + 1) * 4) w.drew
        have k2 := grown_setCells g (rcs r) (i * 4) (w.drew.setCells g ((i + 1) * 4) (sce (l.drop i)))
        have k := World.grownBy.trans k1 k2
        exact ⟨k.os, k.tape, k.output, k.size, k.block⟩
end Go.Proofs.YtkhdjlakclidoaaDoor
