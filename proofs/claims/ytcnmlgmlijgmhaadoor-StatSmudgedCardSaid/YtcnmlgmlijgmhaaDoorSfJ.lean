/-
  StatSmudged's walk.
-/
import Derived.Test.YtcnmlgmlijgmhaaDoorSfI
namespace Go.Proofs.YtcnmlgmlijgmhaaDoor
open Go Go.RowKit Go.Maps

theorem fresh_no (τ x : Int) (h : 1 ≤ τ) : freshB 0 1 0 0 3 τ 1 x = false := by
  unfold freshB
  rw [show ((0 : Int) == τ) = false by simp; omega, Bool.false_and]
theorem fresh_yes (τ x : Int) (h : τ < x) : freshB 0 1 τ 3 3 τ 1 x = true := by
  unfold freshB
  simp [h]
theorem fresh_same (τ : Int) : freshB 0 1 τ 3 3 τ 1 τ = false := by
  unfold freshB
  simp

set_option maxRecDepth 100000 in
set_option maxHeartbeats 8000000 in
theorem statSmudged_any (w : World) (t later : Int) (h0 : 0 ≤ t) (h1 : t ≤ 65535) (h2 : 0 ≤ later) (h3 : later ≤ 65535) : Calls Tryd.prog 9 #[.int .u16 t, .int .u16 later] w fun e w' => e = .returned (.bool true) ∧ Below w.heap.size w w' := by
  have KN := Lib.hid (known18_any w)
  go_enter Tryd.func9, Tryd.ntmps9
  go_wp2_with fail
  refine KN.out.mono ?_
  rintro e w1 ⟨rfl, b1⟩
  have B1 := Lib.hid b1
  clear KN b1
  have nt := note_any (w1.alloc (.cells #[.int .i64 3, .int .i64 (1 + t), .int .i64 0, .int .i64 1] 51)) ⟨#[97]⟩ ⟨#[120, 121, 122]⟩ 0 1 0 0 3 (1 + t) 0 1
  simp only [enV, stV] at nt
  have NT := Lib.hid nt
  have S1 := Lib.hid (Blk.new w1 51 #[.int .i64 3, .int .i64 (1 + t), .int .i64 0, .int .i64 1])
  clear nt
  go_wp2_with fail
  refine NT.out.mono ?_
  rintro e w2 ⟨rfl, b2⟩
  have S2 := Lib.hid (S1.out.below b2 (by simp))
  obtain ⟨X, hX⟩ : ∃ X, X = w1.heap.size := ⟨_, rfl⟩
  rw [← hX] at S2 ⊢
  have D1 := B1.out.alloc B1.out.size (.cells #[.int .i64 3, .int .i64 (1 + t), .int .i64 0, .int .i64 1] 51)
  have B2 := Lib.hid (D1.trans (b2.mono D1.size))
  clear B1 D1 hX b2 NT S1
  have E3 := Lib.hid (Blk.new w2 60 (enC ⟨#[97]⟩ 0 1 ⟨#[120, 121, 122]⟩ (1 + t) 3))
  have E4 := Lib.hid (E3.out.alloc (.cells (enC ⟨#[97]⟩ 0 1 ⟨#[120, 121, 122]⟩ (1 + t) 3) 60))
  have S4 := Lib.hid ((S2.out.alloc (.cells (enC ⟨#[97]⟩ 0 1 ⟨#[120, 121, 122]⟩ (1 + t) 3) 60)).alloc (.cells (enC ⟨#[97]⟩ 0 1 ⟨#[120, 121, 122]⟩ (1 + t) 3) 60))
  have l4 := Blk.new (w2.alloc (.cells (enC ⟨#[97]⟩ 0 1 ⟨#[120, 121, 122]⟩ (1 + t) 3) 60)) 60 (enC ⟨#[97]⟩ 0 1 ⟨#[120, 121, 122]⟩ (1 + t) 3)
  rw [show (w2.alloc (.cells (enC ⟨#[97]⟩ 0 1 ⟨#[120, 121, 122]⟩ (1 + t) 3) 60)).heap.size = w2.heap.size + 1 by simp] at l4
  have SM := Lib.hid (smudge_one _ _ ⟨#[97]⟩ 0 1 ⟨#[120, 121, 122]⟩ (1 + t) 3 (1 + t) (reads_blk (c := 1) l4 (Nat.le_refl _) (by decide)))
  clear l4 E3 S2
  go_wp2_with fail
  refine SM.out.mono ?_
  rintro e w5 ⟨u, rfl, own, b5⟩
  clear SM
  rcases own.2 with ⟨_, e2⟩ | ⟨g1, cap1, cur1, rfl, hB, hb, hn, hm, hs, ht⟩
  · simp at e2
  have L5 := Lib.hid (show Blk w5 g1 60 cur1 from hb)
  have smd : smE ⟨#[97]⟩ 0 1 ⟨#[120, 121, 122]⟩ (1 + t) 3 (1 + t) = (⟨#[97]⟩, 0, 1, ⟨#[120, 121, 122]⟩, 0, 0) := if_pos (Int.le_refl _)
  rw [smd] at own
  have QL := Lib.hid (show ∀ j, j < 6 → cur1[j]? = (enC ⟨#[97]⟩ 0 1 ⟨#[120, 121, 122]⟩ 0 0)[j]? from fun j hj => by
    rw [← L5.out.cell]
    have := own.cellAt j (by simpa [cE] using hj)
    rw [this]
    match j, hj with
    | 0, _ => rfl
    | 1, _ => rfl
    | 2, _ => rfl
    | 3, _ => rfl
    | 4, _ => rfl
    | 5, _ => rfl)
  have S5 := Lib.hid (S4.out.below b5 (by have := S4.out.lt; exact this))
  have E5 := Lib.hid (E4.out.below b5 E4.out.lt)
  obtain ⟨Y, hY⟩ : ∃ Y, Y = w2.heap.size := ⟨_, rfl⟩
  rw [← hY] at E5 ⊢
  have D3 := B2.out.alloc B2.out.size (.cells (enC ⟨#[97]⟩ 0 1 ⟨#[120, 121, 122]⟩ (1 + t) 3) 60)
  have D4 := D3.alloc D3.size (.cells (enC ⟨#[97]⟩ 0 1 ⟨#[120, 121, 122]⟩ (1 + t) 3) 60)
  have B5 := Lib.hid (D4.trans (b5.mono D4.size))
  clear D3 D4 B2 own b5 hB hb hn hm hs ht smd S4 E4 hY
  have c0 := E5.out.cell 0
  have c1 := E5.out.cell 1
  have c2 := E5.out.cell 2
  have c3 := E5.out.cell 3
  have c4 := E5.out.cell 4
  have c5 := E5.out.cell 5
  have l6 := Blk.new w5 60 (enC ⟨#[97]⟩ 0 1 ⟨#[120, 121, 122]⟩ (1 + t) 3)
  have SM := Lib.hid (smudge_one _ _ ⟨#[97]⟩ 0 1 ⟨#[120, 121, 122]⟩ (1 + t) 3 (1 + t + 1) (reads_blk (c := 1) l6 (Nat.le_refl _) (by decide)))
  have E6 := Lib.hid (E5.out.alloc (.cells (enC ⟨#[97]⟩ 0 1 ⟨#[120, 121, 122]⟩ (1 + t) 3) 60))
  have L6 := Lib.hid (L5.out.alloc (.cells (enC ⟨#[97]⟩ 0 1 ⟨#[120, 121, 122]⟩ (1 + t) 3) 60))
  have S6 := Lib.hid (S5.out.alloc (.cells (enC ⟨#[97]⟩ 0 1 ⟨#[120, 121, 122]⟩ (1 + t) 3) 60))
  clear l6 E5 L5 S5
  go_wp2_with fail
  refine SM.out.mono ?_
  rintro e w7 ⟨u, rfl, own, b7⟩
  clear SM c0 c1 c2 c3 c4 c5
  rcases own.2 with ⟨_, e2⟩ | ⟨g2, cap2, cur2, rfl, hB, hb, hn, hm, hs, ht⟩
  · simp at e2
  have M7 := Lib.hid (show Blk w7 g2 60 cur2 from hb)
  have smd : smE ⟨#[97]⟩ 0 1 ⟨#[120, 121, 122]⟩ (1 + t) 3 (1 + t + 1) = (⟨#[97]⟩, 0, 1, ⟨#[120, 121, 122]⟩, 1 + t, 3) := if_neg (by omega)
  rw [smd] at own
  have QM := Lib.hid (show ∀ j, j < 6 → cur2[j]? = (enC ⟨#[97]⟩ 0 1 ⟨#[120, 121, 122]⟩ (1 + t) 3)[j]? from fun j hj => by
    rw [← M7.out.cell]
    have := own.cellAt j (by simpa [cE] using hj)
    rw [this]
    match j, hj with
    | 0, _ => rfl
    | 1, _ => rfl
    | 2, _ => rfl
    | 3, _ => rfl
    | 4, _ => rfl
    | 5, _ => rfl)
  have S7 := Lib.hid (S6.out.below b7 S6.out.lt)
  have E7 := Lib.hid (E6.out.below b7 E6.out.lt)
  have L7 := Lib.hid (L6.out.below b7 L6.out.lt)
  have D6 := B5.out.alloc B5.out.size (.cells (enC ⟨#[97]⟩ 0 1 ⟨#[120, 121, 122]⟩ (1 + t) 3) 60)
  have B7 := Lib.hid (D6.trans (b7.mono D6.size))
  clear D6 B5 own b7 hB hb hn hm hs ht smd S6 E6 L6
  go_upto_region 10 with fail
  have ZZ := Lib.hid fun W (hW : Below w7.heap.size w7 W) => (⟨((L7.out.below hW L7.out.lt).cell 0).trans (QL.out 0 (by decide)), ((L7.out.below hW L7.out.lt).cell 1).trans (QL.out 1 (by decide)), ((L7.out.below hW L7.out.lt).cell 2).trans (QL.out 2 (by decide)), ((L7.out.below hW L7.out.lt).cell 3).trans (QL.out 3 (by decide)), ((L7.out.below hW L7.out.lt).cell 4).trans (QL.out 4 (by decide)), ((L7.out.below hW L7.out.lt).cell 5).trans (QL.out 5 (by decide)), (S7.out.below hW S7.out.lt).cell 0, (S7.out.below hW S7.out.lt).cell 1, (S7.out.below hW S7.out.lt).cell 2, (S7.out.below hW S7.out.lt).cell 3, ((M7.out.below hW M7.out.lt).cell 0).trans (QM.out 0 (by decide)), ((M7.out.below hW M7.out.lt).cell 1).trans (QM.out 1 (by decide)), ((M7.out.below hW M7.out.lt).cell 2).trans (QM.out 2 (by decide)), ((M7.out.below hW M7.out.lt).cell 3).trans (QM.out 3 (by decide)), ((M7.out.below hW M7.out.lt).cell 4).trans (QM.out 4 (by decide)), ((M7.out.below hW M7.out.lt).cell 5).trans (QM.out 5 (by decide)), (E7.out.below hW E7.out.lt).cell 0, (E7.out.below hW E7.out.lt).cell 1, (E7.out.below hW E7.out.lt).cell 2, (E7.out.below hW E7.out.lt).cell 3, (E7.out.below hW E7.out.lt).cell 4, (E7.out.below hW E7.out.lt).cell 5⟩ : W.cell? ⟨g1, 0, none⟩ = some (.string ⟨#[97]⟩) ∧ W.cell? ⟨g1, 1, none⟩ = some (.int .i64 0) ∧ W.cell? ⟨g1, 2, none⟩ = some (.int .i64 1) ∧ W.cell? ⟨g1, 3, none⟩ = some (.string ⟨#[120, 121, 122]⟩) ∧ W.cell? ⟨g1, 4, none⟩ = some (.int .i64 0) ∧ W.cell? ⟨g1, 5, none⟩ = some (.int .i64 0) ∧ W.cell? ⟨X, 0, none⟩ = some (.int .i64 3) ∧ W.cell? ⟨X, 1, none⟩ = some (.int .i64 (1 + t)) ∧ W.cell? ⟨X, 2, none⟩ = some (.int .i64 0) ∧ W.cell? ⟨X, 3, none⟩ = some (.int .i64 1) ∧ W.cell? ⟨g2, 0, none⟩ = some (.string ⟨#[97]⟩) ∧ W.cell? ⟨g2, 1, none⟩ = some (.int .i64 0) ∧ W.cell? ⟨g2, 2, none⟩ = some (.int .i64 1) ∧ W.cell? ⟨g2, 3, none⟩ = some (.string ⟨#[120, 121, 122]⟩) ∧ W.cell? ⟨g2, 4, none⟩ = some (.int .i64 (1 + t)) ∧ W.cell? ⟨g2, 5, none⟩ = some (.int .i64 3) ∧ W.cell? ⟨Y, 0, none⟩ = some (.string ⟨#[97]⟩) ∧ W.cell? ⟨Y, 1, none⟩ = some (.int .i64 0) ∧ W.cell? ⟨Y, 2, none⟩ = some (.int .i64 1) ∧ W.cell? ⟨Y, 3, none⟩ = some (.string ⟨#[120, 121, 122]⟩) ∧ W.cell? ⟨Y, 4, none⟩ = some (.int .i64 (1 + t)) ∧ W.cell? ⟨Y, 5, none⟩ = some (.int .i64 3))
  have hx : 1 + t < IntKind.i64.wrap (IntKind.i64.wrap (1 + t + 1) + IntKind.i64.wrap later) := by
    rw [IntWalk.i64_in (1 + t + 1) (by omega), IntWalk.i64_in later (by omega), IntWalk.i64_in _ (by omega)]
    omega
  have fa := fun W => fresh29_any W ⟨#[97]⟩ ⟨#[120, 121, 122]⟩ 0 1 0 0 3 (1 + t) 0 1 (IntKind.i64.wrap (1 + t + IntKind.i64.wrap later))
  have fb := fun W => fresh29_any W ⟨#[97]⟩ ⟨#[120, 121, 122]⟩ 0 1 (1 + t) 3 3 (1 + t) 0 1 (IntKind.i64.wrap (IntKind.i64.wrap (1 + t + 1) + IntKind.i64.wrap later))
  have fc := fun W => fresh29_any W ⟨#[97]⟩ ⟨#[120, 121, 122]⟩ 0 1 (1 + t) 3 3 (1 + t) 0 1 (1 + t)
  simp only [enV, stV, fresh_no (1 + t) _ (by omega)] at fa
  simp only [enV, stV, fresh_yes (1 + t) _ hx] at fb
  simp only [enV, stV, fresh_same] at fc
  have FA := Lib.hid fa
  have FB := Lib.hid fb
  have FC := Lib.hid fc
  have z0 := ZZ.out _ (Below.refl w7.heap.size w7).drew
  clear fa fb fc hx M7 QM S7 E7 L7 QL
  go_region_held3 (fun w' => w'.cell? ⟨g1, 0, none⟩ = some (.string ⟨#[97]⟩) ∧ w'.cell? ⟨g1, 1, none⟩ = some (.int .i64 0) ∧ w'.cell? ⟨g1, 2, none⟩ = some (.int .i64 1) ∧ w'.cell? ⟨g1, 3, none⟩ = some (.string ⟨#[120, 121, 122]⟩) ∧ w'.cell? ⟨g1, 4, none⟩ = some (.int .i64 0) ∧ w'.cell? ⟨g1, 5, none⟩ = some (.int .i64 0) ∧ w'.cell? ⟨X, 0, none⟩ = some (.int .i64 3) ∧ w'.cell? ⟨X, 1, none⟩ = some (.int .i64 (1 + t)) ∧ w'.cell? ⟨X, 2, none⟩ = some (.int .i64 0) ∧ w'.cell? ⟨X, 3, none⟩ = some (.int .i64 1) ∧ w'.cell? ⟨g2, 0, none⟩ = some (.string ⟨#[97]⟩) ∧ w'.cell? ⟨g2, 1, none⟩ = some (.int .i64 0) ∧ w'.cell? ⟨g2, 2, none⟩ = some (.int .i64 1) ∧ w'.cell? ⟨g2, 3, none⟩ = some (.string ⟨#[120, 121, 122]⟩) ∧ w'.cell? ⟨g2, 4, none⟩ = some (.int .i64 (1 + t)) ∧ w'.cell? ⟨g2, 5, none⟩ = some (.int .i64 3) ∧ w'.cell? ⟨Y, 0, none⟩ = some (.string ⟨#[97]⟩) ∧ w'.cell? ⟨Y, 1, none⟩ = some (.int .i64 0) ∧ w'.cell? ⟨Y, 2, none⟩ = some (.int .i64 1) ∧ w'.cell? ⟨Y, 3, none⟩ = some (.string ⟨#[120, 121, 122]⟩) ∧ w'.cell? ⟨Y, 4, none⟩ = some (.int .i64 (1 + t)) ∧ w'.cell? ⟨Y, 5, none⟩ = some (.int .i64 3))
    (first | exact z0 | exact z1 | exact z2 | exact z3)
    (first
    | (go_at_call 29; (with_reducible refine (FC.out wb).mono ?_); rintro e wc ⟨rfl, bc⟩; have Bc := Bb.trans (bc.mono Bb.size); have z3 := ZZ.out _ Bc)
    | (go_at_call 29; (with_reducible refine (FB.out wa).mono ?_); rintro e wb ⟨rfl, bb⟩; have Bb := Ba.trans (bb.mono Ba.size); have z2 := ZZ.out _ Bb)
    | (go_at_call 29; (with_reducible refine (FA.out w7.drew).mono ?_); rintro e wa ⟨rfl, ba⟩; have Ba := (Below.refl w7.heap.size w7).drew.trans (ba.mono ((Below.refl w7.heap.size w7).drew).size); have z1 := ZZ.out _ Ba))
  go_wp2
  go_ret
  exact ⟨rfl, B7.out.trans (Bc.mono B7.out.size)⟩
theorem statSmudged_law (w : World) (t later : Int) (b0 : 0 ≤ t ∧ t ≤ 65535) (b1 : 0 ≤ later ∧ later ≤ 65535) : Calls Tryd.prog 9 #[.int .u16 t, .int .u16 later] w fun e w' => e = .returned (.bool true) ∧ Below w.heap.size w w' :=
  statSmudged_any w t later b0.1 b0.2 b1.1 b1.2
end Go.Proofs.YtcnmlgmlijgmhaaDoor
