/-
  rectolaw14.known is true.
-/
import Derived.Test.YtplleaimmmanhaaDoorFKn
namespace Go.Proofs.YtplleaimmmanhaaDoor
open Go Go.RowKit

theorem own_first {w : World} {B : Nat} {e : TypeId} {k : Nat} {v : Value} {n : Nat} {xs : List Value} (h : w.ownsRow B e k v n xs) (hn : 0 < n) :
    ∃ g cap, v = .slice (some ⟨g, 0, none⟩) n cap ∧ n ≤ cap ∧ cap ≤ 9223372036854775807 ∧ g < w.heap.size := by
  rcases h.2 with ⟨_, h0⟩ | ⟨g, cap, cur, hv, hg, hgb, hnc, hcm, _⟩
  · omega
  · exact ⟨g, cap, hv, hnc, by unfold maxLen at hcm; omega, (Array.getElem?_eq_some_iff.1 hgb).1⟩

theorem kn_gotV : gotV (some fB) = .tuple #[.agg #[.string ⟨#[98]⟩, .int .i64 1, .string ⟨#[120]⟩], .bool true] := rfl
set_option maxRecDepth 100000 in
set_option maxHeartbeats 4000000 in
theorem known_yes (w : World) : Calls Tryd.prog 7 #[] w (YesTo w) := by
  have P1 := Lib.hid (put_any w (.slice none 0 0) [] fB (Reads.nil w) List.Pairwise.nil (by decide))
  rw [kn_put1] at P1
  go_enter Tryd.func7, Tryd.ntmps7
  go_wp2_with fail
  refine P1.out.mono ?_
  rintro e w1 ⟨v1, rfl, o1, b1⟩
  have P2 := Lib.hid (put_any w1 v1 [fB] fA (Reads.of_own cF_len o1) kn_rise1 (by decide))
  rw [kn_put2] at P2
  have B1 := Lib.hid b1
  clear P1 o1 b1
  go_wp2_with fail
  refine P2.out.mono ?_
  rintro e w2 ⟨v2, rfl, o2, b2⟩
  have R2 := Lib.hid (Reads.of_own cF_len o2)
  have G2 := Lib.hid (get_any w2 v2 [fA, fB] ⟨#[98]⟩ R2.out kn_rise2 (by decide))
  rw [kn_get] at G2
  have O2 := Lib.hid (own_base (B' := w.heap.size) o2 B1.out.size)
  have B2 := Lib.hid (B1.out.trans (b2.mono B1.out.size))
  clear P2 o2 b2 B1
  go_wp2_with fail
  refine G2.out.mono ?_
  rintro e w3 ⟨rfl, b3⟩
  obtain ⟨W3, hW3⟩ : ∃ W3, W3 = w3.alloc (.cells #[.string ⟨#[98]⟩, .int .i64 1, .string ⟨#[120]⟩] 42) := ⟨_, rfl⟩
  have a3 : Below w3.heap.size w3 W3 := by rw [hW3]; exact (Below.refl _ _).alloc (Nat.le_refl _) _
  obtain ⟨q, hQ⟩ : ∃ q, q = w3.heap.size := ⟨_, rfl⟩
  have k3 : Hid (W3.heap[q]? = some (.cells #[.string ⟨#[98]⟩, .int .i64 1, .string ⟨#[120]⟩] 42 (0, 0))) := Lib.hid (by rw [hW3, hQ]; exact heap_alloc_new w3 _)
  have q3 : Hid (q < W3.heap.size) := Lib.hid (by rw [hW3, hQ]; simp)
  have b23 : Below w2.heap.size w2 W3 := b3.trans (a3.mono b3.size)
  have B3 := Lib.hid (B2.out.trans (b23.mono B2.out.size))
  have O3 := Lib.hid (own_keep O2.out b23)
  have R3 := Lib.hid (R2.out.below b23)
  have P3 := Lib.hid (put_any W3 v2 [fA, fB] fC R3.out kn_rise2 (by decide))
  rw [kn_put3] at P3
  obtain ⟨gr, cr, rfl, hcr, hcm, hgr⟩ := own_first O3.out (by decide)
  clear G2 b3 a3 b23 O2 R2 B2
  rw [kn_gotV]
  go_wp2_with fail
  rw [← hW3, ← hQ]
  clear hW3 hQ
  refine P3.out.mono ?_
  rintro e w4 ⟨v4, rfl, o4, b4⟩
  obtain ⟨A4, c4, hv4⟩ := own_form o4
  simp only [List.length_cons, List.length_nil, Nat.zero_add, Nat.reduceAdd] at hv4
  subst hv4
  have R4 := Lib.hid (R3.out.below b4)
  have O4 := Lib.hid (own_keep O3.out b4)
  have Q4 := Lib.hid (Reads.of_own cF_len o4)
  have B4 := Lib.hid (B3.out.trans (b4.mono B3.out.size))
  have k4 : Hid (w4.heap[q]? = some (.cells #[.string ⟨#[98]⟩, .int .i64 1, .string ⟨#[120]⟩] 42 (0, 0))) := Lib.hid ((b4.block q q3.out).trans k3.out)
  have q4 : Hid (q < w4.heap.size) := Lib.hid (Nat.lt_of_lt_of_le q3.out b4.size)
  have D4 := Lib.hid (diff_any w4 _ (.slice A4 2 c4) [fA, fB] [fA, fC] R4.out Q4.out kn_rise2 kn_rise3 (by decide) (by decide))
  rw [kn_diff] at D4
  clear P3 o4 b4 R3 O3 B3 k3 q3
  go_wp2_with fail
  refine D4.out.mono ?_
  rintro e w5 ⟨v5, rfl, o5, b5⟩
  have R5 := Lib.hid (R4.out.below b5)
  have O5 := Lib.hid (own_keep O4.out b5)
  have Q5 := Lib.hid (Q4.out.below b5)
  have B5 := Lib.hid (B4.out.trans (b5.mono B4.out.size))
  have k5 : Hid (w5.heap[q]? = some (.cells #[.string ⟨#[98]⟩, .int .i64 1, .string ⟨#[120]⟩] 42 (0, 0))) := Lib.hid ((b5.block q q4.out).trans k4.out)
  have q5 : Hid (q < w5.heap.size) := Lib.hid (Nat.lt_of_lt_of_le q4.out b5.size)
  have D5 := Lib.hid o5
  obtain ⟨gd, cd, rfl, hcd, hcdm, hgd⟩ := own_first o5 (by decide)
  have P5 := Lib.hid (paths_two w5 _ (.slice A4 2 c4) [fA, fB] [fA, fC] R5.out Q5.out (by decide) (by decide))
  rw [kn_paths] at P5
  obtain ⟨W5, hW5⟩ : ∃ W5, W5 = w5.alloc (.cells #[.slice (some ⟨gr, 0, none⟩) 2 cr, .slice A4 2 c4] 23) := ⟨_, rfl⟩
  have a5 : Below w5.heap.size w5 W5 := by rw [hW5]; exact (Below.refl _ _).alloc (Nat.le_refl _) _
  have HW5 := Lib.hid hW5
  simp only [List.length_cons, List.length_nil, Nat.zero_add, Nat.reduceAdd] at P5
  rw [← hW5] at P5
  clear D4 o5 b5 R4 O4 Q4 B4 k4 q4 hW5
  go_wp2_with fail
  rw [← HW5.out]
  refine P5.out.mono ?_
  rintro e w6 ⟨v6, rfl, o6, b6⟩
  have b56 : Below w5.heap.size w5 w6 := a5.trans (b6.mono a5.size)
  have R6 := Lib.hid (R5.out.below b56)
  have Q6 := Lib.hid (Q5.out.below b56)
  have B6 := Lib.hid (B5.out.trans (b56.mono B5.out.size))
  have D6 := Lib.hid (own_keep D5.out b56)
  have O6 := own_keep O5.out b56
  have x0 : w6.cell? ⟨gr, 0, none⟩ = some (.string ⟨#[97]⟩) := O6.cellAt 0 (by decide)
  have k6 := (b56.block q q5.out).trans k5.out
  have y0 := cell_of_row w6 q 2 _ 42 (0, 0) k6
  obtain ⟨A6, c6, rfl⟩ := own_form o6
  have C6 := Lib.hid (checkF_any w6 _ [fA, fB] R6.out kn_sized (by decide))
  rw [kn_check] at C6
  clear P5 R5 O5 Q5 B5 k5 q5 D5 o6 b6 a5 b56 O6 k6 HW5
  go_wp2_with fail
  refine C6.out.mono ?_
  rintro e w7 h7
  obtain ⟨rfl, b7⟩ : e = .returned .nilIface ∧ Below w6.heap.size w6 w7 := by
    rcases h7 with ⟨_, he, hb⟩ | ⟨i, k, F, ho, _⟩
    · exact ⟨he, hb⟩
    · cases ho
  have R7 := Lib.hid (R6.out.below b7)
  have Q7 := Lib.hid (Q6.out.below b7)
  have B7 := Lib.hid (B6.out.trans (b7.mono B6.out.size))
  have D7 := own_keep D6.out b7
  have x1 : w7.cell? ⟨gd, 1, none⟩ = some (.string ⟨#[77]⟩) := D7.cellAt 1 (by decide)
  have U7 := Lib.hid (cut_any w7 _ [fA, fB] ⟨#[97]⟩ R7.out kn_sized.paths (by decide))
  rw [kn_cut] at U7
  clear C6 h7 R6 Q6 B6 D6 D7 b7 x0 y0
  go_wp2_with fail
  refine U7.out.mono ?_
  rintro e w8 ⟨v8, rfl, r8, b8⟩
  obtain ⟨A8, c8, rfl⟩ := r8.form
  have R8 := Lib.hid (R7.out.below b8)
  have Q8 := Lib.hid (Q7.out.below b8)
  have B8 := Lib.hid (B7.out.trans (b8.mono B7.out.size))
  have L8 := Lib.hid (clear_any w8 _ [fA, fB] ⟨#[97, 47, 120]⟩ R8.out kn_sized.paths (by decide) (by decide))
  rw [kn_clear] at L8
  clear U7 r8 b8 R7 Q7 B7 x1
  go_wp2_with fail
  refine L8.out.mono ?_
  rintro e w9 ⟨v9, rfl, r9, b9⟩
  obtain ⟨A9, c9, rfl⟩ := r9.form
  have B9 := Lib.hid (B8.out.trans (b9.mono B8.out.size))
  have S9 := Lib.hid (sameF_any w9 _ (.slice A4 2 c4) [fA, fB] [fA, fC] (R8.out.below b9) (Q8.out.below b9))
  rw [kn_same] at S9
  clear L8 r9 b9 R8 Q8 B8
  go_wp2_with fail
  refine S9.out.mono ?_
  rintro e w10 ⟨rfl, n10, rfl⟩
  go_wp2_with fail
  go_ret
  exact ⟨rfl, below_drewN B9.out _⟩
end Go.Proofs.YtplleaimmmanhaaDoor
