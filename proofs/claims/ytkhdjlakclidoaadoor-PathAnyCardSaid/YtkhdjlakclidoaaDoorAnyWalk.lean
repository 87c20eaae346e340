/-
  The walk of PathAny.
-/
import Derived.Test.YtkhdjlakclidoaaDoorPart
namespace Go.Proofs.YtkhdjlakclidoaaDoor
open Go Go.RowKit Go.Shelf

theorem any_long (p : ByteArray) (hp : p.size ≤ 9223372036854775807) (h : 200 < p.size) (w : World) (m : Int) (hm : w.cell? ⟨0, 0, none⟩ = some (.int .i64 m)) : Calls Tryd.prog 3 #[.string p] w (YesB w) := by
  have K := Lib.hid (known_yes w m hm)
  have hi : (200 : Int) < (p.size : Int) := by omega
  clear hm
  go_enter Tryd.func3, Tryd.ntmps3
  go_wp2_with fail
  refine K.out.mono ?_
  rintro e w1 ⟨rfl, b1⟩
  go_wp2
  go_ret
  exact ⟨rfl, b1⟩

theorem any_none (w : World) (m : Int) (hm : w.cell? ⟨0, 0, none⟩ = some (.int .i64 m)) : Calls Tryd.prog 3 #[.string ⟨#[]⟩] w (YesB w) := by
  have K := Lib.hid (known_yes w m hm)
  clear hm
  go_enter Tryd.func3, Tryd.ntmps3
  go_wp2_with fail
  refine K.out.mono ?_
  rintro e w1 ⟨rfl, b1⟩
  have B1 := Lib.hid b1
  clear b1
  go_wp2_with fail
  refine (check_empty w1).mono ?_
  rintro e w2 ⟨rfl, b2⟩
  have B2 := Lib.hid (B1.out.trans (b2.mono B1.out.size))
  clear b2
  go_wp2_with fail
  refine (refCheck_none w2).mono ?_
  rintro e w3 ⟨rfl, b3⟩
  have B3 := Lib.hid (B2.out.trans (b3.mono B2.out.size))
  clear b3
  go_wp2_with fail
  refine (parts_none w3).mono ?_
  rintro e w4 ⟨rfl, rfl⟩
  go_wp2_with fail
  refine (refParts_none _).mono ?_
  rintro e w5 ⟨rfl, rfl⟩
  go_wp2_with fail
  refine (texts_nil _).mono ?_
  rintro e w6 ⟨rfl, b6⟩
  have B6 := Lib.hid (B3.out.trans (b6.mono B3.out.size))
  clear b6
  go_wp2_with fail
  refine (parent_any ⟨#[]⟩ w6 (by decide)).mono ?_
  rintro e w7 ⟨rfl, rfl⟩
  go_wp2_with fail
  refine (refParent_any ⟨#[]⟩ _ (by decide)).mono ?_
  rintro e w8 ⟨rfl, rfl⟩
  go_wp2
  go_ret
  exact ⟨rfl, B6.out⟩

set_option maxHeartbeats 1000000 in
theorem any_main (p : ByteArray) (hp : p.size ≤ 200) (hne : ¬ p.size = 0) (w : World) (m : Int) (hm : w.cell? ⟨0, 0, none⟩ = some (.int .i64 m)) : Calls Tryd.prog 3 #[.string p] w (YesB w) := by
  have K := Lib.hid (known_yes w m hm)
  have hw0 : 0 < w.heap.size := World.block_lt_of_cell? w _ hm
  have HM := Lib.hid hm
  clear hm
  have hi : (p.size : Int) ≤ 200 := by omega
  obtain ⟨n, hn⟩ : ∃ n, (spl p.data.toList).length = n := ⟨_, rfl⟩
  have hsz := size_list p
  have hn1 : n ≤ 201 := by have := spl_len p.data.toList; omega
  have hn0 : 0 < n := by have := List.length_pos_iff.2 (spl_ne p.data.toList); omega
  have HN := Lib.hid hn
  clear hn hsz
  obtain ⟨c, hc⟩ : ∃ c, chk p.data.toList = c := ⟨_, rfl⟩
  have C1 : Hid (∀ W, Calls Tryd.prog 9 #[.string p] W fun e w' => e = .returned (.int .i64 c) ∧ Below W.heap.size W w') := Lib.hid fun W => by have := check_any p W (by omega); unfold Checked at this; rwa [hc] at this
  have C2 : Hid (∀ W, Calls Tryd.prog 10 #[.string p] W fun e w' => e = .returned (.int .i64 c) ∧ Below W.heap.size W w') := Lib.hid fun W => by have := refCheck_any p W (by omega); unfold Checked at this; rwa [hc] at this
  clear hc
  go_enter Tryd.func3, Tryd.ntmps3
  go_wp2_with fail
  refine K.out.mono ?_
  rintro e w1 ⟨rfl, b1⟩
  have B1 := Lib.hid b1
  clear b1
  go_wp2_with fail
  refine (C1.out w1).mono ?_
  rintro e w2 ⟨rfl, b2⟩
  have B2 := Lib.hid (B1.out.trans (b2.mono B1.out.size))
  clear b2
  go_wp2_with fail
  refine (C2.out w2).mono ?_
  rintro e w3 ⟨rfl, b3⟩
  have B3 := Lib.hid (B2.out.trans (b3.mono B2.out.size))
  clear b3
  go_wp2_with fail
  refine (parts_full p m w3 (by omega) hne ((B3.out.cell (p := ⟨0, 0, none⟩) hw0).trans HM.out) n HN.out).mono ?_
  rintro e w4 ⟨rfl, b4, g4, c4⟩
  have B4 := Lib.hid (B3.out.trans (b4.mono B3.out.size))
  have G4 := Lib.hid g4
  have C4 := Lib.hid c4
  clear b4 g4 c4
  generalize w3.heap.size = ga at *
  go_wp2_with fail
  refine (refParts_any p w4 (by omega) hne).mono ?_
  rintro e w5 ⟨v, rfl, hown, b5⟩
  obtain ⟨gb, cb, rfl, hcap, hmx, hg, hcs⟩ := own_cells hown (by rw [List.length_map, HN.out]; exact hn0)
  rw [List.length_map, HN.out] at hcap ⊢
  have T := Lib.hid (texts_yes w5 ga gb n n cb (by omega) (Nat.le_refl _) hcap (by omega) (by unfold maxLen at hmx; omega) fun k hk => by
    obtain ⟨x, hx⟩ : ∃ x, (spl p.data.toList)[k]? = some x := ⟨_, List.getElem?_eq_getElem (by rw [HN.out]; exact hk)⟩
    refine ⟨mk x, (b5.cell (p := ⟨ga, k, none⟩) G4.out).trans (C4.out k x hx), hcs k (mk x) (by rw [List.getElem?_map, hx]; rfl)⟩)
  have B5 := Lib.hid (B4.out.trans (b5.mono B4.out.size))
  clear hown hcap hmx hg hcs b5
  go_wp2_with fail
  refine T.out.mono ?_
  rintro e w6 ⟨rfl, b6⟩
  have B6 := Lib.hid (B5.out.trans (b6.mono B5.out.size))
  clear b6
  go_wp2_with fail
  refine (parent_any p w6 (by omega)).mono ?_
  rintro e w7 ⟨rfl, rfl⟩
  go_wp2_with fail
  refine (refParent_any p _ (by omega)).mono ?_
  rintro e w8 ⟨rfl, rfl⟩
  go_wp2
  go_ret
  exact ⟨rfl, B6.out⟩

theorem any_walk (p : ByteArray) (hp : p.size ≤ 9223372036854775807) (w : World) (m : Int) (hm : w.cell? ⟨0, 0, none⟩ = some (.int .i64 m)) : Calls Tryd.prog 3 #[.string p] w (YesB w) := by
  by_cases h : 200 < p.size
  · exact any_long p hp h w m hm
  · by_cases h0 : p.size = 0
    · obtain rfl := nil_of h0
      exact any_none w m hm
    · exact any_main p (by omega) h0 w m hm
#print axioms any_walk
end Go.Proofs.YtkhdjlakclidoaaDoor
