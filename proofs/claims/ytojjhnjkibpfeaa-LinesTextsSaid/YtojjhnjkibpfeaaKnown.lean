/-
  The closed play 'known' of the lines answers true.
-/
import Derived.Test.YtojjhnjkibpfeaaEqual
namespace Go.Proofs.Ytojjhnjkibpfeaa
open Go.RowKit

def YesB (w : World) (e : Ending) (w' : World) : Prop := e = .returned (.bool true) ∧ Below w.heap.size w w'
theorem below_drewN {B : Nat} {a w : World} (h : Below B a w) (n : Nat) : Below B a (w.drewN n) := ⟨h.os, h.tape, h.output, h.size, h.block⟩

abbrev L1 : ByteArray := ⟨#[97, 10]⟩
abbrev L2 : ByteArray := ⟨#[10]⟩
abbrev L3 : ByteArray := ⟨#[98]⟩
abbrev L4 : ByteArray := ⟨#[120]⟩

theorem pre_one {k : Nat} (h : IsPre [L1, L2, L3] [L1] k) : k = 1 := by
  obtain ⟨h1, h2, h3, h4⟩ := h
  simp at h1 h2
  rcases Nat.lt_or_ge k 1 with h | h
  · obtain rfl : k = 0 := by omega
    exact absurd rfl (h4 (by simp) (by simp))
  · omega
theorem suf_one {k : Nat} (h : IsSuf [L1, L2, L3] [L4, L3] k) : k = 1 := by
  obtain ⟨h1, h2, h3, h4⟩ := h
  simp at h1 h2
  rcases Nat.lt_or_ge k 1 with h | h
  · obtain rfl : k = 0 := by omega
    exact absurd rfl (h4 (by simp) (by simp))
  · rcases Nat.lt_or_ge k 2 with h' | h'
    · omega
    · have := h3 1 (by omega)
      simp at this

theorem Strs.two (w : World) (x y : ByteArray) : Strs (w.alloc (.cells #[.string x, .string y] 9)) (.slice (some ⟨w.heap.size, 0, none⟩) 2 2) [x, y] := by
  refine ⟨some ⟨w.heap.size, 0, none⟩, 2, rfl, by simp, by unfold maxLen; omega, (fun h => by cases h), fun ad ha i s hs => ?_⟩
  obtain rfl := Option.some.inj ha
  have hh := heap_alloc_new w (.cells #[.string x, .string y] 9)
  rw [Addr.add_lit]
  have := cell_of_row _ w.heap.size (0 + i) #[.string x, .string y] 9 (0, 0) hh
  rw [this]
  match i, hs with
  | 0, hs => simp at hs; subst hs; rfl
  | 1, hs => simp at hs; subst hs; rfl

set_option maxRecDepth 100000 in
set_option maxHeartbeats 4000000 in
theorem known_yes (w : World) : Calls Try.prog 9 #[] w (YesB w) := by
  go_enter Try.func9, Try.ntmps9
  go_wp2_with fail
  refine (split_any _ ⟨#[97, 10, 10, 98]⟩ (by decide)).mono ?_
  rintro e w1 ⟨v1, rfl, hown, hb1⟩
  replace hown : w1.ownsRow w.heap.size 9 1 v1 3 ([.string L1, .string L2, .string L3]) := hown
  rcases id hown.2 with ⟨_, h0⟩ | ⟨g, cap, _, rfl, hgb, _, hcap, _⟩
  · cases h0
  have hS : Strs w1 (.slice (some ⟨g, 0, none⟩) 3 cap) [L1, L2, L3] := Strs.of_own (ss := [L1, L2, L3]) hown rfl
  have c1 : w1.cell? ⟨g, 1, none⟩ = some (.string L2) := hown.cells (g := g) rfl 1 _ rfl
  have c2 : w1.cell? ⟨g, 2, none⟩ = some (.string L3) := hown.cells (g := g) rfl 2 _ rfl
  have hJ : Calls Try.prog 14 #[.slice (some ⟨g, 0, none⟩) 3 cap] w1 fun e w' => e = .returned (.string ⟨#[97, 10, 10, 98]⟩) ∧ Below w1.heap.size w1 w' := join_own w1 w.heap.size 3 _ [[97, 10], [10], [98]] rfl hown (by decide) (by decide)
  clear hown
  go_wp2_with fail
  refine hJ.mono ?_
  rintro e w2 ⟨rfl, hb2⟩
  replace hS := hS.below hb2
  replace hb1 := hb1.trans (hb2.mono hb1.size)
  have hW1 : Calls Try.prog 11 #[.string L3] w2 fun e w' => e = .returned (.bool false) ∧ w2 = w' := whole_any w2 L3 (by decide)
  have hW2 : Calls Try.prog 11 #[.string ⟨#[98, 10]⟩] w2 fun e w' => e = .returned (.bool true) ∧ w2 = w' := whole_any w2 ⟨#[98, 10]⟩ (by decide)
  clear hb2 c1 c2
  go_wp2_with fail
  refine hW1.mono ?_
  rintro e w3 ⟨rfl, rfl⟩
  go_wp2_with fail
  refine hW2.mono ?_
  rintro e w3 ⟨rfl, rfl⟩
  go_wp2_with fail
  refine (prefix_any w2 _ _ [L1, L2, L3] [L1] hS (hS.take (k := 1) (by omega))).mono ?_
  rintro e w3 ⟨n, q, hP, rfl, rfl⟩
  obtain rfl := pre_one hP
  clear hP
  go_wp2_with fail
  have e3 := (Below.refl _ (w2.drewN q)).alloc (Nat.le_refl _) (.cells #[.string L4, .string L3] 9)
  refine (suffix_any _ _ _ [L1, L2, L3] [L4, L3] ((hS.drewN q).below e3) (Strs.two (w2.drewN q) L4 L3)).mono ?_
  rintro e w3 ⟨n, q2, hP, rfl, rfl⟩
  obtain rfl := suf_one hP
  clear hP
  go_wp2_with fail
  refine (linesEqual_yes _ _ _ [L1, L2, L3] (((hS.drewN q).below e3).drewN q2) (((hS.drewN q).below e3).drewN q2)).mono ?_
  rintro e w3 ⟨q3, rfl, rfl⟩
  go_wp2
  go_ret
  exact ⟨rfl, below_drewN ((below_drewN hb1 q).alloc hb1.size _) _⟩

end Go.Proofs.Ytojjhnjkibpfeaa
