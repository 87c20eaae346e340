/-
  The closed play 'known' answers true.
-/
import Derived.Test.YtgcgfflkhlehoaaGCheck
import Derived.Deep.DeepCutAuto
import Derived.Deep.CutBlock
namespace Go.Proofs.Ytgcgfflkhlehoaa
open Go.RowKit

def YesB (w : World) (e : Ending) (w' : World) : Prop := e = .returned (.bool true) ∧ Below w.heap.size w w'

abbrev g0 : List (List Int) := [[], [1], [1], [2, 3]]
theorem ok0 : Ok g0 := by
  intro i l h p hp
  match i, h with
  | 0, h => simp at h; subst h; simp at hp
  | 1, h => simp at h; subst h; simp at hp; omega
  | 2, h => simp at h; subst h; simp at hp; omega
  | 3, h => simp at h; subst h; simp at hp; omega
  | i + 4, h => simp at h
theorem two0 : ∀ l ∈ g0, l.length ≤ 2 := by decide
theorem val1 : ancR g0 [2] = [1, 2] := by unfold ancR; rw [anc_reck ok0]; decide
theorem val2 : onlL g0 4 2 = [3, 4] := by unfold onlL onl; rw [anc_reck ok0, anc_reck ok0]; decide
theorem val3 : isB g0 1 4 = true := by unfold isB; rw [anc_reck ok0]; decide
theorem val4 : isB g0 4 1 = false := by unfold isB; rw [anc_reck ok0]; decide
theorem com0 (a b : Int) : com g0 a b = fun i => ancC g0 [a] i && ancC g0 [b] i := by funext i; unfold com; rw [anc_reck ok0, anc_reck ok0]
theorem val5 : basL g0 2 3 = [1] := by unfold basL bas pars; rw [com0, anc_reck ok0]; decide
theorem val6 : basL g0 4 3 = [3] := by unfold basL bas pars; rw [com0, anc_reck ok0]; decide
theorem val7 : base1 g0 2 3 = 1 := by unfold base1; rw [val5]; rfl
theorem val8 : chk g0 = 0 := by decide
theorem val9 : chk [[5]] = 1 := by decide

/-- Rows laid in a block of its own. -/
theorem Rows.lit {w : World} {g n : Nat} {t : TypeId} {us : Array Value} {gs : List (List Int)} (hb : Blk w g t us) (hn : us.size = n) (hl : gs.length = n) (hm : n ≤ maxLen)
    (h : ∀ (i : Nat) (l : List Int), gs[i]? = some l → ∃ u, us[i]? = some u ∧ Ints w u l) : Rows w (.slice (some ⟨g, 0, none⟩) n n) gs := by
  subst hn
  refine ⟨_, _, by rw [hl], by omega, hm, (fun h => by cases h), fun ad ha i l hi => ?_⟩
  obtain rfl := Option.some.inj ha
  obtain ⟨u, hu, hI⟩ := h i l hi
  refine ⟨u, ?_, hI⟩
  have hadd : (⟨g, 0, none⟩ : Addr).add i = ⟨g, i, none⟩ := by unfold Addr.add; split <;> simp_all
  rw [hadd, hb.cell, hu]

set_option maxHeartbeats 4000000 in
theorem known_yes (w : World) : Calls Try.prog 6 #[] w (YesB w) := by
  have e1 : ∀ (X : World) (o : Obj), (X.alloc o).heap.size = X.heap.size + 1 := fun X o => by simp
  have b1 := (Below.refl w.heap.size w).alloc (Nat.le_refl _) (.cells #[.int .i64 1] 3)
  have b2 := b1.alloc b1.size (.cells #[.int .i64 1] 3)
  have b3 := b2.alloc b2.size (.cells #[.int .i64 2, .int .i64 3] 3)
  have i1 := Ints.lit w #[.int .i64 1] 3 [1] rfl (by simp [maxLen])
  have i2 := Ints.lit (w.alloc (.cells #[.int .i64 1] 3)) #[.int .i64 1] 3 [1] rfl (by simp [maxLen])
  have i3 := Ints.lit ((w.alloc (.cells #[.int .i64 1] 3)).alloc (.cells #[.int .i64 1] 3)) #[.int .i64 2, .int .i64 3] 3 [2, 3] rfl (by simp [maxLen])
  rw [e1] at i2
  rw [e1, e1] at i3
  have i1 := (i1.alloc (.cells #[.int .i64 1] 3)).alloc (.cells #[.int .i64 2, .int .i64 3] 3)
  have i2 := i2.alloc (.cells #[.int .i64 2, .int .i64 3] 3)
  have hz : (((w.alloc (.cells #[.int .i64 1] 3)).alloc (.cells #[.int .i64 1] 3)).alloc (.cells #[.int .i64 2, .int .i64 3] 3)).heap.size = w.heap.size + 1 + 1 + 1 := by rw [e1, e1, e1]
  have k := Blk.new (((w.alloc (.cells #[.int .i64 1] 3)).alloc (.cells #[.int .i64 1] 3)).alloc (.cells #[.int .i64 2, .int .i64 3] 3)) 30 #[.slice none 0 0, .slice (some ⟨w.heap.size, 0, none⟩) 1 1, .slice (some ⟨w.heap.size + 1, 0, none⟩) 1 1, .slice (some ⟨w.heap.size + 1 + 1, 0, none⟩) 2 2]
  rw [hz] at k
  have b4 := b3.alloc b3.size (.cells #[.slice none 0 0, .slice (some ⟨w.heap.size, 0, none⟩) 1 1, .slice (some ⟨w.heap.size + 1, 0, none⟩) 1 1, .slice (some ⟨w.heap.size + 1 + 1, 0, none⟩) 2 2] 30)
  have hG : Rows ((((w.alloc (.cells #[.int .i64 1] 3)).alloc (.cells #[.int .i64 1] 3)).alloc (.cells #[.int .i64 2, .int .i64 3] 3)).alloc (.cells #[.slice none 0 0, .slice (some ⟨w.heap.size, 0, none⟩) 1 1, .slice (some ⟨w.heap.size + 1, 0, none⟩) 1 1, .slice (some ⟨w.heap.size + 1 + 1, 0, none⟩) 2 2] 30)) (.slice (some ⟨w.heap.size + 1 + 1 + 1, 0, none⟩) 4 4) g0 := by
    refine Rows.lit k rfl rfl (by simp [maxLen]) fun i l hi => ?_
    match i, hi with
    | 0, hi => simp at hi; subst hi; exact ⟨_, rfl, Ints.nil _⟩
    | 1, hi => simp at hi; subst hi; exact ⟨_, rfl, i1.alloc _⟩
    | 2, hi => simp at hi; subst hi; exact ⟨_, rfl, i2.alloc _⟩
    | 3, hi => simp at hi; subst hi; exact ⟨_, rfl, i3.alloc _⟩
    | i + 4, hi => simp at hi
  have HG := Lib.hid hG
  clear k hz i1 i2 i3 b1 b2 b3 e1 hG
  go_enter Try.func6, Try.ntmps6
  go_upto_region 2 with fail
  generalize ((((w.alloc (.cells #[.int .i64 1] 3)).alloc (.cells #[.int .i64 1] 3)).alloc (.cells #[.int .i64 2, .int .i64 3] 3)).alloc (.cells #[.slice none 0 0, .slice (some ⟨w.heap.size, 0, none⟩) 1 1, .slice (some ⟨w.heap.size + 1, 0, none⟩) 1 1, .slice (some ⟨w.heap.size + 1 + 1, 0, none⟩) 2 2] 30)) = W at *
  generalize Value.slice (some ⟨w.heap.size + 1 + 1 + 1, 0, none⟩) 4 4 = v at *
  have c0 := (Below.refl W.heap.size W).alloc (Nat.le_refl _) (.cells #[.int .i64 2] 3)
  have A1 := Lib.hid (ancestors_any _ v _ g0 [2] (HG.out.below c0) (Ints.lit W #[.int .i64 2] 3 [2] rfl (by simp [maxLen])) (by decide))
  rw [val1] at A1
  go_wp2_with fail
  refine A1.out.mono ?_
  rintro e w1 ⟨x1, rfl, o1, d1⟩
  have c1 := c0.trans (d1.mono c0.size)
  clear A1 c0 d1
  obtain ⟨X1, y1, rfl⟩ := own_form o1
  clear o1
  have A2 := Lib.hid (only_any w1 v g0 4 2 (HG.out.below c1) (by decide))
  rw [val2] at A2
  go_wp2_with fail
  refine A2.out.mono ?_
  rintro e w2 ⟨x2, rfl, o2, d2⟩
  have c2 := c1.trans (d2.mono c1.size)
  clear A2 c1 d2
  obtain ⟨X2, y2, rfl⟩ := own_form o2
  have J2 := Lib.hid (Ints.of_own o2 rfl)
  clear o2
  have A3 := Lib.hid (check_any w2 v g0 (HG.out.below c2))
  rw [val8] at A3
  go_wp2_with fail
  refine A3.out.mono ?_
  rintro e w3 ⟨rfl, d3⟩
  have J3 := Lib.hid (J2.out.below d3)
  have c3 := c2.trans (d3.mono c2.size)
  clear A3 c2 d3 J2
  have A4 := Lib.hid (is_any w3 v g0 1 4 (HG.out.below c3) (by decide))
  rw [val3] at A4
  go_wp2_with fail
  refine A4.out.mono ?_
  rintro e w4 ⟨rfl, d4⟩
  have J4 := Lib.hid (J3.out.below d4)
  have c4 := c3.trans (d4.mono c3.size)
  clear A4 c3 d4 J3
  have A5 := Lib.hid (is_any w4 v g0 4 1 (HG.out.below c4) (by decide))
  rw [val4] at A5
  go_wp2_with fail
  refine A5.out.mono ?_
  rintro e w5 ⟨rfl, d5⟩
  have J5 := Lib.hid (J4.out.below d5)
  have c5 := c4.trans (d5.mono c4.size)
  clear A5 c4 d5 J4
  have A6 := Lib.hid (base_any w5 v g0 2 3 (HG.out.below c5) (by decide) two0)
  rw [val7] at A6
  go_wp2_with fail
  refine A6.out.mono ?_
  rintro e w6 ⟨rfl, d6⟩
  have J6 := Lib.hid (J5.out.below d6)
  have c6 := c5.trans (d6.mono c5.size)
  clear A6 c5 d6 J5
  have A7 := Lib.hid (bases_any w6 v g0 4 3 (HG.out.below c6) (by decide) two0)
  rw [val6] at A7
  go_wp2_with fail
  refine A7.out.mono ?_
  rintro e w7 ⟨x7, rfl, o7, d7⟩
  have J7 := J6.out.below d7
  have c7 := c6.trans (d7.mono c6.size)
  clear A7 c6 d7 J6
  obtain ⟨X7, y7, rfl⟩ := own_form o7
  clear o7
  obtain ⟨ad, rfl, k1⟩ := J7.cell (k := 0) (x := 3) rfl
  have k2 : w7.cell? ad = some (.int .i64 3) := by have := k1; unfold Addr.add at this; exact this
  clear k1 J7
  have e1 := (Below.refl w7.heap.size w7).alloc (Nat.le_refl _) (.cells #[.int .i64 5] 3)
  have e2 := e1.alloc e1.size (.cells #[.slice (some ⟨w7.heap.size, 0, none⟩) 1 1] 30)
  have z1 : (w7.alloc (.cells #[.int .i64 5] 3)).heap.size = w7.heap.size + 1 := by simp
  have q1 := Ints.lit w7 #[.int .i64 5] 3 [5] rfl (by simp [maxLen])
  have q2 := Blk.new (w7.alloc (.cells #[.int .i64 5] 3)) 30 #[.slice (some ⟨w7.heap.size, 0, none⟩) 1 1]
  rw [z1] at q2
  have q3 : Rows ((w7.alloc (.cells #[.int .i64 5] 3)).alloc (.cells #[.slice (some ⟨w7.heap.size, 0, none⟩) 1 1] 30)) (.slice (some ⟨w7.heap.size + 1, 0, none⟩) 1 1) [[5]] := by
    refine Rows.lit q2 rfl rfl (by simp [maxLen]) fun i l hi => ?_
    match i, hi with
    | 0, hi => simp at hi; subst hi; exact ⟨_, rfl, q1.alloc _⟩
    | i + 1, hi => simp at hi
  have A8 := Lib.hid (check_any _ _ [[5]] q3)
  rw [val9] at A8
  have hb8 := b4.trans ((c7.trans (e2.mono c7.size)).mono b4.size)
  clear e1 q1 q2 q3 z1 c7 b4
  have hz8 := hb8.size
  have HB8 := Lib.hid hb8
  clear hb8 e2
  go_wp2_with fail
  refine A8.out.mono ?_
  rintro e w8 ⟨rfl, d8⟩
  go_wp2
  go_ret
  exact ⟨rfl, HB8.out.trans (d8.mono hz8)⟩

end Go.Proofs.Ytgcgfflkhlehoaa
