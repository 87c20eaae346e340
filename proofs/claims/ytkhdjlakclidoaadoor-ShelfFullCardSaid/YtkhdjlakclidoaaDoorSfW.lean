/-
  The walk of ShelfFull.
-/
import Derived.Test.YtkhdjlakclidoaaDoorSfK
namespace Go.Proofs.YtkhdjlakclidoaaDoor
open Go Go.RowKit

/-- Shelves n, .., 1. -/
def kk : Nat → List Ky
  | 0 => []
  | n + 1 => ((n : Int) + 1, 0, ⟨#[]⟩) :: kk n
theorem kk_len : ∀ n, (kk n).length = n
  | 0 => rfl
  | n + 1 => by rw [kk, List.length_cons, kk_len n]
theorem kk_at : ∀ n j, j < n → (kk n)[j]? = some (((n - j : Nat) : Int), 0, ⟨#[]⟩)
  | 0, j, h => by omega
  | n + 1, 0, h => by rw [kk]; simp
  | n + 1, j + 1, h => by rw [kk, List.getElem?_cons_succ, kk_at n j (by omega), show n + 1 - (j + 1) = n - j by omega]

set_option maxRecDepth 100000 in
set_option maxHeartbeats 4000000 in
theorem sf_full (m q : Nat) (w : World) : Calls Tryd.prog 7 #[.int .u8 m, .int .u8 q] w fun e w' => e = .returned (.bool true) ∧ Below w.heap.size w w' := by
  obtain ⟨r, hr⟩ : ∃ r, r = m % 4 := ⟨_, rfl⟩
  obtain ⟨k, hk⟩ : ∃ k, k = q % 16 := ⟨_, rfl⟩
  have hr4 : r < 4 := by omega
  have hk16 : k < 16 := by omega
  have t1 : ((m : Int)).tmod 4 = (r : Int) := by rw [hr]; rfl
  have t2 : ((m : Int)) % 4 = (r : Int) := by omega
  have t3 : ((q : Int)).tmod 16 = (k : Int) := by rw [hk]; rfl
  have t4 : ((q : Int)) % 16 = (k : Int) := by omega
  have KN := Lib.hid (sf_known w)
  clear hr hk
  go_enter Tryd.func7, Tryd.ntmps7
  go_wp2_with fail
  refine KN.out.mono ?_
  rintro e w1 ⟨rfl, B1⟩
  clear KN
  go_wp2_with fail
  go_loopw [5, 6] (fun s5 s6 wr => ∃ i : Nat, s6 = .int .i64 i ∧ i ≤ 16 + r ∧ Stk wr w.heap.size s5 (kk (min i 16)) ∧ Below w.heap.size w wr) (fun _ s6 _ => 16 + r - (intOf s6).toNat)
  case atStart => exact ⟨0, rfl, by omega, stk_nil _ _, B1⟩
  case round =>
    obtain ⟨i, rfl, hi, hs, hb⟩ := hrel
    have i0 : (0 : Int) ≤ (i : Int) := Int.natCast_nonneg _
    by_cases hlt : i < 16 + r
    · have i1 : (i : Int) < 16 + (r : Int) := by omega
      by_cases h16 : i < 16
      · have i2 : (i : Int) < 16 := by omega
        have i3 : ¬ (16 : Int) ≤ (i : Int) := by omega
        rw [show min i 16 = i by omega] at hs
        have PU := Lib.hid (sf_push wr w.heap.size u5 (kk i) ((i : Int) + 1) 0 0 none ⟨#[]⟩ hs (by rw [kk_len]; exact h16) (.inl rfl))
        have HS := Lib.hid hs
        have HB := Lib.hid hb
        clear hs hb
        go_wp2_with fail
        refine PU.out.mono ?_
        rintro e w2 ⟨v2, rfl, S2, B2⟩
        have S2 : Stk w2 wr.heap.size v2 (kk (i + 1)) := S2
        have HS2 := Lib.hid (S2.lower HB.out.size)
        have HB2 := Lib.hid (HB.out.trans (B2.mono HB.out.size))
        clear S2 B2 PU
        go_wp2_with fail
        go_roundw
        case rel => exact ⟨i + 1, by go_num, hlt, by rw [show min (i + 1) 16 = i + 1 by omega]; exact HS2.out, HB2.out⟩
        case measure => simp [intOf]; omega
      · have i2 : ¬ (i : Int) < 16 := by omega
        have i3 : (16 : Int) ≤ (i : Int) := by omega
        rw [show min i 16 = 16 by omega] at hs
        obtain ⟨A, c, rfl⟩ := hs.mk1 (kk_len 16)
        have PU := Lib.hid (sf_push_full wr A 16 c 0 0 none ((i : Int) + 1) ⟨#[]⟩ (by omega) (by omega))
        have HS := Lib.hid hs
        have HB := Lib.hid hb
        clear hs hb
        go_wp2_with fail
        refine PU.out.mono ?_
        rintro e w2 ⟨rfl, B2⟩
        have HS2 := Lib.hid (HS.out.below B2)
        have HB2 := Lib.hid (HB.out.trans (B2.mono HB.out.size))
        clear B2 PU
        go_wp2_with fail
        go_roundw
        case rel => exact ⟨i + 1, by go_num, hlt, by rw [show min (i + 1) 16 = 16 by omega]; exact HS2.out, HB2.out⟩
        case measure => simp [intOf]; omega
    · obtain rfl : i = 16 + r := by omega
      rw [show min (16 + r) 16 = 16 by omega] at hs
      obtain ⟨A, c, rfl⟩ := hs.mk1 (kk_len 16)
      have HS := Lib.hid hs
      have HB := Lib.hid hb
      have e1 : ((16 + r : Nat) : Int) = 16 + (r : Int) := by omega
      clear hs hb
      have DR := Lib.hid (sf_drop wr _ _ _ k HS.out (by rw [kk_len]; omega) (by rw [kk_len]; exact hk16))
      go_wp2_with fail
      refine DR.out.mono ?_
      rintro e w3 ⟨v3, rfl, S3, B3⟩
      obtain ⟨K2, hK2⟩ : ∃ K2, K2 = (kk 16).take k ++ (kk 16).drop (k + 1) := ⟨_, rfl⟩
      have hl2 : K2.length = 15 := by rw [hK2, List.length_append, List.length_take, List.length_drop, kk_len]; omega
      have ha2 : k < 15 → K2[k]? = some (((15 - k : Nat) : Int), 0, ⟨#[]⟩) := fun h => by
        rw [hK2, List.getElem?_append_right (by rw [List.length_take, kk_len]; omega), List.getElem?_drop, List.length_take, kk_len, show k + 1 + (k - min k 16) = k + 1 by omega, kk_at 16 (k + 1) (by omega), show 16 - (k + 1) = 15 - k by omega]
      rw [← hK2] at S3
      have HB3 := Lib.hid (HB.out.trans (B3.mono HB.out.size))
      have PU := Lib.hid (sf_push w3 _ _ K2 99 0 0 none ⟨#[]⟩ S3 (by omega) (.inl rfl))
      have HL2 := Lib.hid hl2
      have HA2 := Lib.hid ha2
      clear S3 B3 DR hK2 hl2 ha2 HB HS
      go_wp2_with fail
      refine PU.out.mono ?_
      rintro e w4 ⟨v4, rfl, S4, B4⟩
      obtain ⟨A4, c4, rfl⟩ := S4.mk1 (n := 16) (by rw [List.length_cons, HL2.out])
      have HB4 := Lib.hid (HB3.out.trans (B4.mono HB3.out.size))
      have G4 := sf_get_yes w4 _ _ ((99, 0, ⟨#[]⟩) :: K2) 0 99 0 ⟨#[]⟩ S4 (by rw [List.length_cons, HL2.out]; omega) rfl
      rw [show ((0 : Nat) : Int) = 0 from rfl] at G4
      have HG4 := Lib.hid G4
      have HS4 := Lib.hid S4
      clear S4 B4 G4 PU HB3
      go_wp2_with fail
      refine HG4.out.mono ?_
      rintro e w5 ⟨A5, c5, rfl, B5⟩
      have D5 := B5.trans (((Below.refl w5.heap.size w5).alloc (Nat.le_refl _) (.cells #[.int .i64 99, .slice none 0 0, .slice A5 0 c5, .string ⟨#[]⟩] 40)).mono B5.size)
      have R5 : Blk (w5.alloc (.cells #[.int .i64 99, .slice none 0 0, .slice A5 0 c5, .string ⟨#[]⟩] 40)) w5.heap.size 40 #[.int .i64 99, .slice none 0 0, .slice A5 0 c5, .string ⟨#[]⟩] := heap_alloc_new _ _
      have HR5 := Lib.hid R5
      have HB5 := Lib.hid (HB4.out.trans (D5.mono HB4.out.size))
      have HS5 := Lib.hid (HS4.out.below D5)
      clear B5 D5 R5 HG4 HS4 HB4
      by_cases h15 : k = 15
      · have j1 : (k : Int) = 15 := by omega
        have GN := Lib.hid fun W => sf_get_no W A4 16 c4 16 (by omega) (by decide)
        go_wp2_with fail
        refine (GN.out _).mono ?_
        rintro e w6 ⟨rfl, B6⟩
        have R6 := HR5.out.below B6 HR5.out.lt
        have x0 : w6.cell? ⟨w5.heap.size, 0, none⟩ = some (.int .i64 99) := R6.cell 0
        have hx0 : w5.heap.size < w6.heap.size := R6.lt
        have HB6 := Lib.hid ((HB5.out.trans (B6.mono HB5.out.size)).alloc (HB5.out.trans (B6.mono HB5.out.size)).size (.cells #[.int .i64 0, .slice none 0 0, .slice none 0 0, .string ⟨#[]⟩] 40))
        clear R6 B6 GN
        go_wp2_with fail
        go_ret
        exact ⟨rfl, HB6.out⟩
      · have j1 : ¬ (k : Int) = 15 := by omega
        have GY := sf_get_yes _ _ _ ((99, 0, ⟨#[]⟩) :: K2) (k + 1) ((15 - k : Nat) : Int) 0 ⟨#[]⟩ HS5.out (by rw [List.length_cons, HL2.out]; omega) (by rw [List.getElem?_cons_succ]; exact HA2.out (by omega))
        rw [show ((k + 1 : Nat) : Int) = (k : Int) + 1 by omega] at GY
        have HGY := Lib.hid GY
        clear GY
        go_wp2_with fail
        refine HGY.out.mono ?_
        rintro e w6 ⟨A6, c6, rfl, B6⟩
        have R6 := HR5.out.below B6 HR5.out.lt
        have x0 : w6.cell? ⟨w5.heap.size, 0, none⟩ = some (.int .i64 99) := R6.cell 0
        have hx0 : w5.heap.size < w6.heap.size := R6.lt
        have j2 : ((15 - k : Nat) : Int) = 16 - (k : Int) - 1 := by omega
        have HB6 := Lib.hid ((HB5.out.trans (B6.mono HB5.out.size)).alloc (HB5.out.trans (B6.mono HB5.out.size)).size (.cells #[.int .i64 (16 - (k : Int) - 1), .slice none 0 0, .slice A6 0 c6, .string ⟨#[]⟩] 40))
        rw [j2]
        clear R6 B6 HGY
        go_wp2_with fail
        go_ret
        exact ⟨rfl, HB6.out⟩
#print axioms sf_full
end Go.Proofs.YtkhdjlakclidoaaDoor
