/-
  known of shelves.
-/
import Derived.Test.YtkhdjlakclidoaaDoorSfE
import Derived.Test.YtkhdjlakclidoaaDoorSfP
import Derived.Test.YtkhdjlakclidoaaDoorSfU
import Derived.Test.YtkhdjlakclidoaaDoorSfV
namespace Go.Proofs.YtkhdjlakclidoaaDoor
open Go Go.RowKit

theorem known_text : (⟨(txtTo [((2 : Int), 1, (⟨#[98]⟩ : ByteArray)), ((1 : Int), 0, (⟨#[97]⟩ : ByteArray))] 2).toArray⟩ : ByteArray) = ⟨#[48, 58, 32, 98, 32, 40, 50, 44, 32, 48, 47, 49, 41, 10, 49, 58, 32, 97, 32, 40, 49, 44, 32, 48, 47, 48, 41, 10]⟩ := by
  simp only [txtTo, lineS, lineB, dgs, List.getElem?_cons_zero, List.getElem?_cons_succ, Lib.decDigits_one (show 0 < 10 by decide), Lib.decDigits_one (show 1 < 10 by decide), Lib.decDigits_one (show (2 : Int).toNat < 10 by decide), Lib.decDigits_one (show (1 : Int).toNat < 10 by decide)]
  rfl

abbrev k1 : Ky := (1, 0, ⟨#[97]⟩)
abbrev k2 : Ky := (2, 1, ⟨#[98]⟩)
theorem Stk.mk1 {w : World} {B : Nat} {v : Value} {K : List Ky} (h : Stk w B v K) {n : Nat} (hn : K.length = n) : ∃ A c, v = .slice A n c := by
  subst hn; exact h.form
theorem wk_new (w : World) (x y z : Value) (hx : x.oneCell' = true) (hy : y.oneCell' = true) (hz : z.oneCell' = true) : Wk (w.alloc (.cells #[x, y, z] 52)) (.slice (some ⟨w.heap.size, 0, none⟩) 1 1) := by
  refine .inr ⟨[x, y, z], ⟨rfl, .inr ⟨w.heap.size, 1, #[x, y, z], rfl, Nat.zero_le _, heap_alloc_new w _, Nat.le_refl _, by decide, rfl, rfl⟩⟩, ?_⟩
  intro u hu
  simp at hu
  rcases hu with rfl | rfl | rfl <;> assumption

set_option maxRecDepth 100000 in
set_option maxHeartbeats 4000000 in
theorem sf_known (w : World) : Calls Tryd.prog 22 #[] w fun e w' => e = .returned (.bool true) ∧ Below w.heap.size w w' := by
  have P1 := Lib.hid (sf_push w w.heap.size (.slice none 0 0) [] 1 0 0 none ⟨#[97]⟩ (stk_nil _ _) (by decide) (.inl rfl))
  go_enter Tryd.func22, Tryd.ntmps22
  go_wp2_with fail
  refine P1.out.mono ?_
  rintro e w1 ⟨v1, rfl, S1, B1⟩
  obtain ⟨A1, c1, rfl⟩ := S1.mk1 (n := 1) rfl
  have S1 : Stk w1 w.heap.size (.slice A1 1 c1) [k1] := S1
  have HS1 := Lib.hid S1
  have HB1 := Lib.hid B1
  have D1 := (Below.refl w1.heap.size w1).alloc (Nat.le_refl _) (.cells #[.string ⟨#[112]⟩, .int .i64 1, .string ⟨#[]⟩] 52)
  have P2 := Lib.hid (sf_push (w1.alloc (.cells #[.string ⟨#[112]⟩, .int .i64 1, .string ⟨#[]⟩] 52)) w.heap.size (.slice A1 1 c1) [k1] 2 1 1 (some ⟨w1.heap.size, 0, none⟩) ⟨#[98]⟩ (S1.below D1) (by decide) (wk_new _ _ _ _ rfl rfl rfl))
  have HD1 := Lib.hid D1
  clear P1 S1 B1 D1
  go_wp2_with fail
  refine P2.out.mono ?_
  rintro e w2 ⟨v2, rfl, S2, B2⟩
  obtain ⟨A2, c2, rfl⟩ := S2.mk1 (n := 2) rfl
  have S2 : Stk w2 _ (.slice A2 2 c2) [k2, k1] := S2
  have B12 : Below w1.heap.size w1 w2 := HD1.out.trans (B2.mono HD1.out.size)
  have HB2 := Lib.hid (HB1.out.trans (B12.mono HB1.out.size))
  have HS12 := Lib.hid (HS1.out.below B12)
  have HS2 := Lib.hid S2
  have G2 := sf_get_yes w2 _ (.slice A2 2 c2) [k2, k1] 0 2 1 ⟨#[98]⟩ S2 (by decide) rfl
  rw [show ((0 : Nat) : Int) = 0 from rfl] at G2
  have G2 := Lib.hid G2
  clear P2 S2 B2 B12 HD1
  go_wp2_with fail
  refine G2.out.mono ?_
  rintro e w3 ⟨A3, c3, rfl, B3⟩
  have D3 := B3.trans (((Below.refl w3.heap.size w3).alloc (Nat.le_refl _) (.cells #[.int .i64 2, .slice none 0 0, .slice A3 1 c3, .string ⟨#[98]⟩] 40)).mono B3.size)
  have R3 : Blk (w3.alloc (.cells #[.int .i64 2, .slice none 0 0, .slice A3 1 c3, .string ⟨#[98]⟩] 40)) w3.heap.size 40 #[.int .i64 2, .slice none 0 0, .slice A3 1 c3, .string ⟨#[98]⟩] := heap_alloc_new _ _
  have HR3 := Lib.hid R3
  have HD3 := Lib.hid D3
  have HB3 := Lib.hid (HB2.out.trans (D3.mono HB2.out.size))
  have HS13 := Lib.hid (HS12.out.below D3)
  have HS23 := Lib.hid (HS2.out.below D3)
  clear B3 D3 R3 G2
  go_wp2_with fail
  generalize w3.alloc (.cells #[.int .i64 2, .slice none 0 0, .slice A3 1 c3, .string ⟨#[98]⟩] 40) = W3 at *
  generalize w3.heap.size = x3 at *
  have D := sf_drop W3 _ (.slice A2 2 c2) [k2, k1] 0 HS23.out (by decide) (by decide)
  rw [show ((0 : Nat) : Int) = 0 from rfl] at D
  refine D.mono ?_
  rintro e w4 ⟨v4, rfl, S4, B4⟩
  have S4 : Stk w4 _ v4 [k1] := S4
  obtain ⟨A4, c4, rfl⟩ := S4.mk1 (n := 1) rfl
  have HR4 := Lib.hid (HR3.out.below B4 HR3.out.lt)
  have HB4 := Lib.hid (HB3.out.trans (B4.mono HB3.out.size))
  have HS14 := Lib.hid (HS13.out.below B4)
  have HS24 := Lib.hid (HS23.out.below B4)
  have HS4 := Lib.hid S4
  have G4 := Lib.hid (sf_get_no w4 A2 2 c2 2 (by decide) (by decide))
  clear D S4 B4 HR3 HB3 HS13 HS23 HS12 HS1 HS2 HB1 HB2 HD3 S1 S2 G2
  go_wp2_with fail
  refine G4.out.mono ?_
  rintro e w5 ⟨rfl, B5⟩
  have D5 := B5.trans (((Below.refl w5.heap.size w5).alloc (Nat.le_refl _) (.cells #[.int .i64 0, .slice none 0 0, .slice none 0 0, .string ⟨#[]⟩] 40)).mono B5.size)
  have R5 := HR4.out.below B5 HR4.out.lt
  have x0 : w5.cell? ⟨x3, 0, none⟩ = some (.int .i64 2) := R5.cell 0
  have hx3 : x3 < w5.heap.size := R5.lt
  have y : ∃ g, A4 = some ⟨g, 0, none⟩ ∧ w5.cell? ⟨g, 0, none⟩ = some (.int .i64 1) ∧ g < w5.heap.size ∧ 1 ≤ c4 := by
    obtain ⟨g, h1, h2, _, _, _, h3, _, h4⟩ := Stk.at0 (K := [k1]) (k := 0) (HS4.out.below B5) rfl
    exact ⟨g, h1, by simpa using h2, h4, h3⟩
  obtain ⟨g, rfl, y0, hg, hc4⟩ := y
  have HB5 := Lib.hid (HB4.out.trans (D5.mono HB4.out.size))
  have HS15 := Lib.hid (HS14.out.below D5)
  have HS25 := Lib.hid (HS24.out.below D5)
  have HS45 := Lib.hid (HS4.out.below D5)
  have T5 := Lib.hid (sf_text _ _ (.slice A2 2 c2) [k2, k1] HS25.out (by decide) (by
    intro r hr
    simp at hr
    rcases hr with rfl | rfl
    · exact ⟨⟨2, rfl, by decide⟩, by decide, by decide⟩
    · exact ⟨⟨1, rfl, by decide⟩, by decide, by decide⟩))
  clear R5 D5 B5 G4 HS14 HS24 HR4 HB4 HS4
  go_wp2_with fail
  refine T5.out.mono ?_
  rintro e w6 ⟨rfl, B6⟩
  have SM := sf_same w6 _ _ _ _ [k1] (HS45.out.below B6) (HS15.out.below B6) (by decide) (fun r hr => by simp at hr; subst hr; rfl)
  have HB6 := Lib.hid (HB5.out.trans (B6.mono HB5.out.size))
  have HM := Lib.hid SM
  clear SM B6
  rw [show (⟨(txtTo [k2, k1] [k2, k1].length).toArray⟩ : ByteArray) = _ from known_text]
  go_wp2_with fail
  refine HM.out.mono ?_
  rintro e w7 ⟨rfl, B7⟩
  have HB7 := Lib.hid (HB6.out.trans (B7.mono HB6.out.size))
  clear B7
  go_wp2_with fail
  go_ret
  exact ⟨rfl, HB7.out⟩
#print axioms sf_known
end Go.Proofs.YtkhdjlakclidoaaDoor
