/-
  The closed play 'known' answers true.
-/
import Derived.Test.YtcfcbfpnaaeaaaaSame
namespace Go.Proofs.Ytcfcbfpnaaeaaaa
open Go.RowKit

theorem Log.form {w : World} {v : Value} {back forth : List ByteArray} (h : Log w v back forth) :
    ∃ A m c B n d, v = .agg #[.slice A m c, .slice B n d] := by
  obtain ⟨vb, vf, rfl, hb, hf⟩ := h
  obtain ⟨A, m, c, rfl⟩ := hb.form
  obtain ⟨B, n, d, rfl⟩ := hf.form
  exact ⟨_, _, _, _, _, _, rfl⟩

theorem Log.lens {w : World} {A B : Option Addr} {m c n d : Nat} {back forth : List ByteArray} (h : Log w (.agg #[.slice A m c, .slice B n d]) back forth) : m = back.length ∧ n = forth.length := by
  obtain ⟨vb, vf, hv, hb, hf⟩ := h
  simp at hv
  obtain ⟨rfl, rfl⟩ := hv
  exact ⟨hb.len.1, hf.len.1⟩

theorem Log.below {w w' : World} {v : Value} {back forth : List ByteArray} (h : Log w v back forth) (hb : Below w.heap.size w w') : Log w' v back forth := by
  obtain ⟨vb, vf, rfl, h1, h2⟩ := h
  exact ⟨_, _, rfl, h1.below hb, h2.below hb⟩

theorem Log.empty (w : World) : Log w (.agg #[.slice none 0 0, .slice none 0 0]) [] [] := ⟨_, _, rfl, Strs.nil w, Strs.nil w⟩

theorem cell_set_same (w : World) (p : Addr) (u x : Value) (h : w.cell? p = some u) : (w.setCell p x).cell? p = some x := by
  rw [World.cell?_setCell_same w p x h]

/-- A store of a whole Log into its two cells. -/
theorem Two.put {w : World} {b : Nat} {x y : Value} (h : Two w b x y) (x' y' : Value) : Two ((w.setCell ⟨b, 0, none⟩ x').setCell ⟨b, 1, none⟩ y') b x' y' := by
  have h1 : (w.setCell ⟨b, 0, none⟩ x').cell? ⟨b, 1, none⟩ = some y := by rw [World.cell?_setCell_other _ _ _ _ (by simp)]; exact h.c1
  refine ⟨?_, cell_set_same _ _ y _ h1, ?_, ?_, ?_⟩
  · rw [World.cell?_setCell_other _ _ _ _ (by simp)]; exact cell_set_same _ _ x _ h.c0
  · simp [h.z0]
  · simp [h.z1]
  · simpa [World.setCell] using h.lt

theorem Log.put {w : World} {b : Nat} {A : Option Addr} {m c : Nat} {B : Option Addr} {n d : Nat} {v : Value} {back forth : List ByteArray} (h : Two w b (.slice A m c) (.slice B n d)) (g : Log w v back forth) (x' y' : Value) :
    Log ((w.setCell ⟨b, 0, none⟩ x').setCell ⟨b, 1, none⟩ y') v back forth := by
  obtain ⟨vb, vf, rfl, g1, g2⟩ := g
  have h1 : (w.setCell ⟨b, 0, none⟩ x').cell? ⟨b, 1, none⟩ = some (.slice B n d) := by rw [World.cell?_setCell_other _ _ _ _ (by simp)]; exact h.c1
  exact ⟨_, _, rfl, (g1.setCell h.c0 (by simp) x').setCell h1 (by simp) y', (g2.setCell h.c0 (by simp) x').setCell h1 (by simp) y'⟩

abbrev sa : ByteArray := { data := #[97] }
abbrev sb : ByteArray := { data := #[98] }

set_option maxRecDepth 100000 in
set_option maxHeartbeats 4000000 in
theorem known_yes (w : World) : Calls Try.prog 6 #[] w (YesB w) := by
  go_enter Try.func6, Try.ntmps6
  go_wp2_with fail
  refine (do_any _ _ [] [] sa (Log.empty _) (by simp)).mono ?_
  rintro e w1 ⟨v1, rfl, hl1, hb1⟩
  obtain ⟨A1, m1, c1, B1, n1, d1, rfl⟩ := hl1.form
  obtain ⟨rfl, rfl⟩ := hl1.lens
  replace hl1 : Log w1 (.agg #[.slice A1 1 c1, .slice B1 0 d1]) [sa] [] := hl1
  rw [show (lastOf ([] ++ [sa])).length = 1 from rfl, show ([] : List ByteArray).length = 0 from rfl]
  have T1 := Two.new w1 (.slice A1 1 c1) (.slice B1 0 d1) 26
  have H1 := hl1.below ((Below.refl w1.heap.size w1).alloc (Nat.le_refl _) (.cells #[.slice A1 1 c1, .slice B1 0 d1] 26))
  have G1 := hb1.alloc hb1.size (.cells #[.slice A1 1 c1, .slice B1 0 d1] 26)
  go_wp2_with fail
  refine (undo_some _ _ [] [] sa sb H1 (by simp) (by simp)).mono ?_
  rintro e w2 ⟨v2, rfl, hl2, hb2⟩
  obtain ⟨A2, m2, c2, B2, n2, d2, rfl⟩ := hl2.form
  obtain ⟨rfl, rfl⟩ := hl2.lens
  replace T1 := T1.below hb2
  replace H1 := H1.below hb2
  replace G1 := G1.trans (hb2.mono G1.size)
  rw [show (([] : List ByteArray) ++ [sb]).length = 1 from rfl, show ([] : List ByteArray).length = 0 from rfl]
  replace hl2 : Log w2 (.agg #[.slice A2 0 c2, .slice B2 1 d2]) [] [sb] := hl2
  have E2 := (Below.refl w2.heap.size w2).alloc (Nat.le_refl _) (.cells #[.slice A2 0 c2, .slice B2 1 d2] 26)
  have T2 := Two.new w2 (.slice A2 0 c2) (.slice B2 1 d2) 26
  replace T1 := T1.below E2
  replace H1 := H1.below E2
  have H2 := hl2.below E2
  replace G1 := G1.trans (E2.mono G1.size)
  go_wp2_with fail
  refine (redo_some _ _ [] [] sb sa H2 (by simp) (by simp)).mono ?_
  rintro e w3 ⟨v3, rfl, hl3, hb3⟩
  obtain ⟨A3, m3, c3, B3, n3, d3, rfl⟩ := hl3.form
  obtain ⟨rfl, rfl⟩ := hl3.lens
  rw [show (lastOf ([] ++ [sa])).length = 1 from rfl, show ([] : List ByteArray).length = 0 from rfl]
  replace hl3 : Log w3 (.agg #[.slice A3 1 c3, .slice B3 0 d3]) [sa] [] := hl3
  have E3 := (Below.refl w3.heap.size w3).alloc (Nat.le_refl _) (.cells #[.slice A3 1 c3, .slice B3 0 d3] 26)
  have T3 := Two.new w3 (.slice A3 1 c3) (.slice B3 0 d3) 26
  replace T1 := (T1.below hb3).below E3
  replace T2 := (T2.below hb3).below E3
  replace H1 := (H1.below hb3).below E3
  have H3 := hl3.below E3
  replace G1 := (G1.trans (hb3.mono G1.size))
  replace G1 := G1.trans (E3.mono G1.size)
  go_wp2_with fail
  refine (redo_none _ _ [sa] _ H3).mono ?_
  rintro e w4 ⟨v4, rfl, hl4, hb4⟩
  obtain ⟨A4, m4, c4, B4, n4, d4, rfl⟩ := hl4.form
  have E4 := (Below.refl w4.heap.size w4).alloc (Nat.le_refl _) (.cells #[.slice A4 m4 c4, .slice B4 n4 d4] 26)
  replace T1 := (T1.below hb4).below E4
  replace T2 := (T2.below hb4).below E4
  replace T3 := (T3.below hb4).below E4
  replace H1 := (H1.below hb4).below E4
  replace H3 := (H3.below hb4).below E4
  replace G1 := (G1.trans (hb4.mono G1.size))
  replace G1 := G1.trans (E4.mono G1.size)
  have t10 := T1.c0
  have t11 := T1.c1
  have t21 := T2.c1
  have t30 := T3.c0
  have t31 := T3.c1
  clear T1 T2 T3 E2 E3 E4 hb1 hb2 hb3 hb4 hl1 hl2 hl3 hl4 H2
  go_wp2_with fail
  refine (same_yes _ _ _ [sa] [] H3 H1).mono ?_
  rintro e w5 ⟨rfl, hb5⟩
  go_wp2
  go_ret
  exact ⟨rfl, G1.trans (hb5.mono G1.size)⟩

end Go.Proofs.Ytcfcbfpnaaeaaaa
