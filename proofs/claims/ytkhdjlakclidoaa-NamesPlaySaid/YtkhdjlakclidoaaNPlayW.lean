/-
  The walk of NamesPlay.
-/
import Derived.Test.YtkhdjlakclidoaaNPlayD
import Derived.Deep.CutBlock
import Derived.Deep.DeepCutAuto
import Derived.LoopTactic
namespace Go.Proofs.Ytkhdjlakclidoaa
open Go Go.RowKit

/-- An argument that is a row of acts. -/
def Acts (w : World) (A : Option Addr) (n : Nat) : Prop := ∀ k, k < n → ∃ (ad : Addr) (op N M : Int) (nm : ByteArray), A = some ad ∧ nm.size ≤ 9223372036854775807 ∧
  w.cell? (ad.add (k * 4)) = some (.int .i64 op) ∧ w.cell? ⟨(ad.add (k * 4)).block, (ad.add (k * 4)).off + 1, none⟩ = some (.int .i64 N) ∧
  w.cell? ⟨(ad.add (k * 4)).block, (ad.add (k * 4)).off + 2, none⟩ = some (.int .i64 M) ∧ w.cell? ⟨(ad.add (k * 4)).block, (ad.add (k * 4)).off + 3, none⟩ = some (.string nm)

/-- Where a play stands. -/
def Stand (w wr : World) (T D : Nat) (l : List Rf) (br : ByteArray) (d : Int) : Prop := Fine l br ∧ br.size ≤ 60 ∧ ∃ v u, Both w.heap.size wr T D v u l br d l br d

set_option maxRecDepth 100000 in
set_option maxHeartbeats 8000000 in
theorem play_walk (w : World) (A : Option Addr) (n c : Nat) (nm0 : ByteArray) (hn : n ≤ 100) (hnc : n ≤ c) (hc : c ≤ 9223372036854775807) (h60 : nm0.size ≤ 60) (ha : Acts w A n) :
    Calls Try.prog 3 #[.slice A n c, .string nm0] w (YesB w) := by
  have HA := Lib.hid ha
  have i1 : (n : Int) ≤ 100 := by omega
  have i2 : (nm0.size : Int) ≤ 60 := by omega
  clear ha
  go_enter Try.func3, Try.ntmps3
  go_wp2_with fail
  refine (known_yes w).mono ?_
  rintro e w1 ⟨rfl, b1⟩
  have B1 := Lib.hid b1
  clear b1
  go_wp2_with fail
  refine (new_any w1).mono ?_
  rintro e w2 ⟨rfl, t2, b2⟩
  have B2 := Lib.hid (B1.out.trans (b2.mono B1.out.size))
  have T2 := Lib.hid t2
  have D2 : Hid (Stand w (w2.alloc (.cells #[.slice none 0 0, .string mainB, .int .i64 0] 29)) w1.heap.size w2.heap.size [] mainB 0) := by
    have t3 := T2.out.alloc (.cells #[.slice none 0 0, .string mainB, .int .i64 0] 29)
    have hlt := T2.out.blk.lt
    exact ⟨⟨by simp, .inr (by decide +kernel)⟩, by decide, _, _, ⟨t3.base_ B1.out.size, ⟨Blk.new _ _ _, World.ownsRow_nil _ _ _ _, B2.out.size, by simp, fun i j x y _ hx => (by simp at hx)⟩, by omega, fun g hg => (by cases hg), Nat.le_trans B2.out.size (by rw [World.size_alloc]; omega)⟩⟩
  clear b2 t2
  go_wp2_with fail
  go_loopw [5, 7] (fun t i wr => ∃ (T k : Nat) (l : List Rf) (br : ByteArray) (d : Int), t = .pointer (some ⟨T, 0, none⟩) ∧ i = .int .i64 k ∧ k ≤ n ∧ Hid (Stand w wr T w2.heap.size l br d) ∧ Hid (Below w.heap.size w wr)) (fun _ i _ => n - (intOf i).toNat)
  case atStart => exact ⟨w1.heap.size, 0, [], mainB, 0, rfl, rfl, Nat.zero_le _, D2, Lib.hid (B2.out.alloc B2.out.size _)⟩
  case round =>
    obtain ⟨T, k, l, br, d, rfl, rfl, hk, hS, hB⟩ := hrel
    by_cases hlt : k < n
    · obtain ⟨ad, op, N, M, nm, rfl, hnm, a0, a1, a2, a3⟩ := HA.out k hlt
      have hl0 := World.block_lt_of_cell? w _ a0
      have x0 := (hB.out.cell hl0).trans a0
      have x1 := (hB.out.cell (p := ⟨(ad.add (k * 4)).block, (ad.add (k * 4)).off + 1, none⟩) hl0).trans a1
      have x2 := (hB.out.cell (p := ⟨(ad.add (k * 4)).block, (ad.add (k * 4)).off + 2, none⟩) hl0).trans a2
      have x3 := (hB.out.cell (p := ⟨(ad.add (k * 4)).block, (ad.add (k * 4)).off + 3, none⟩) hl0).trans a3
      clear a0 a1 a2 a3
      have k0 : (0 : Int) ≤ (k : Int) := Int.natCast_nonneg _
      have k1 : (k : Int) < (n : Int) := by omega
      by_cases hnm6 : (60 : Int) < (nm.size : Int)
      · go_wp2_with fail
        go_ret
        exact ⟨rfl, hB.out.alloc hB.out.size _⟩
      · go_upto_block 2 with fail
        obtain ⟨hF, hb60, v, u, hBo⟩ := hS.out
        have BB := Lib.hid (hB.out.alloc hB.out.size (.cells #[.int .i64 op, .int .i64 N, .int .i64 M, .string nm] 31))
        have PP := Lib.hid (hBo.below ((Below.refl _ _).alloc (Nat.le_refl _) (.cells #[.int .i64 op, .int .i64 N, .int .i64 M, .string nm] 31)))
        have NN := Lib.hid (Blk.new wr 31 #[.int .i64 op, .int .i64 N, .int .i64 M, .string nm])
        have HF := Lib.hid hF
        have hb60' := hb60
        have hws := hB.out.size
        clear hBo hF hS hB x0 x1 x2 x3
        obtain ⟨ga, hga⟩ : ∃ ga, wr.heap.size = ga := ⟨_, rfl⟩
        have hgs : ga < (wr.alloc (.cells #[.int .i64 op, .int .i64 N, .int .i64 M, .string nm] 31)).heap.size := by simp; omega
        have hgw : w.heap.size ≤ ga := by rw [← hga]; exact hws
        rw [hga] at NN ⊢
        clear hga
        generalize wr.alloc (.cells #[.int .i64 op, .int .i64 N, .int .i64 M, .string nm] 31) = wa at *
        go_cut [5, 9] (fun s5 s9 wx => ∃ (T' : Nat) (v' : Value), s5 = .pointer (some ⟨T', 0, none⟩) ∧ s9 = .int .i64 (aC op N M nm l br) ∧ Both w.heap.size wx T' w2.heap.size v' u (aL op N M nm l br) (aB op N nm br) (aD op N nm br d) l br d ∧ Below w.heap.size wa wx ∧ Blk wx ga 31 #[.int .i64 op, .int .i64 N, .int .i64 M, .string nm])
        case first =>
          have y0 : wa.cell? ⟨ga, 0, none⟩ = some (.int .i64 op) := NN.out.cell 0
          have y1 : wa.cell? ⟨ga, 1, none⟩ = some (.int .i64 N) := NN.out.cell 1
          have y2 : wa.cell? ⟨ga, 2, none⟩ = some (.int .i64 M) := NN.out.cell 2
          have y3 : wa.cell? ⟨ga, 3, none⟩ = some (.string nm) := NN.out.cell 3
          by_cases h1 : op = 1
          · subst h1
            go_wp2_with fail
            refine (set_wide wa _ T v l br nm d N PP.out.tab (by omega)).mono ?_
            rintro e wb hd
            have kb := did_blk PP.out.tab hd NN.out (by decide) (by decide)
            obtain ⟨rfl, v', hb', bb⟩ := PP.out.did hd
            have R : Hid (∃ (T' : Nat) (v' : Value), Value.pointer (some ⟨T, 0, none⟩) = .pointer (some ⟨T', 0, none⟩) ∧ setC l nm N = aC (1 : Int) N M nm l br ∧ Both w.heap.size wb T' w2.heap.size v' u (aL (1 : Int) N M nm l br) (aB (1 : Int) N nm br) (aD (1 : Int) N nm br d) l br d ∧ Below w.heap.size wa wb ∧ Blk wb ga 31 #[.int .i64 1, .int .i64 N, .int .i64 M, .string nm]) := Lib.hid ⟨T, v', rfl, by simp [aC], by simpa [aL, aB, aD] using hb', bb, kb⟩
            clear hd hb' bb kb
            go_wp2_with fail
            go_meet
            obtain ⟨T', v', e1, e2, e3⟩ := R.out
            exact ⟨T', v', e1, by rw [← e2], e3⟩
          by_cases h2 : op = 2
          · subst h2
            go_wp2_with fail
            refine (swap_wide wa _ T v l br nm d N M PP.out.tab (by omega)).mono ?_
            rintro e wb hd
            have kb := did_blk PP.out.tab hd NN.out (by decide) (by decide)
            obtain ⟨rfl, v', hb', bb⟩ := PP.out.did hd
            have R : Hid (∃ (T' : Nat) (v' : Value), Value.pointer (some ⟨T, 0, none⟩) = .pointer (some ⟨T', 0, none⟩) ∧ swC l br nm N M = aC (2 : Int) N M nm l br ∧ Both w.heap.size wb T' w2.heap.size v' u (aL (2 : Int) N M nm l br) (aB (2 : Int) N nm br) (aD (2 : Int) N nm br d) l br d ∧ Below w.heap.size wa wb ∧ Blk wb ga 31 #[.int .i64 2, .int .i64 N, .int .i64 M, .string nm]) := Lib.hid ⟨T, v', rfl, by simp [aC], by simpa [aL, aB, aD] using hb', bb, kb⟩
            clear hd hb' bb kb
            go_wp2_with fail
            go_meet
            obtain ⟨T', v', e1, e2, e3⟩ := R.out
            exact ⟨T', v', e1, by rw [← e2], e3⟩
          by_cases h3 : op = 3
          · subst h3
            go_wp2_with fail
            refine (del_any wa _ T v l br nm d PP.out.tab).mono ?_
            rintro e wb hd
            have kb := did_blk PP.out.tab hd NN.out (by decide) (by decide)
            obtain ⟨rfl, v', hb', bb⟩ := PP.out.did hd
            have R : Hid (∃ (T' : Nat) (v' : Value), Value.pointer (some ⟨T, 0, none⟩) = .pointer (some ⟨T', 0, none⟩) ∧ delC l nm br = aC (3 : Int) N M nm l br ∧ Both w.heap.size wb T' w2.heap.size v' u (aL (3 : Int) N M nm l br) (aB (3 : Int) N nm br) (aD (3 : Int) N nm br d) l br d ∧ Below w.heap.size wa wb ∧ Blk wb ga 31 #[.int .i64 3, .int .i64 N, .int .i64 M, .string nm]) := Lib.hid ⟨T, v', rfl, by simp [aC], by simpa [aL, aB, aD] using hb', bb, kb⟩
            clear hd hb' bb kb
            go_wp2_with fail
            go_meet
            obtain ⟨T', v', e1, e2, e3⟩ := R.out
            exact ⟨T', v', e1, by rw [← e2], e3⟩
          by_cases h4 : op = 4
          · subst h4
            go_wp2_with fail
            refine (att_any wa _ T v l br nm d PP.out.tab (by omega)).mono ?_
            rintro e wb hd
            have kb := did_blk PP.out.tab hd NN.out (by decide) (by decide)
            obtain ⟨rfl, v', hb', bb⟩ := PP.out.did hd
            have R : Hid (∃ (T' : Nat) (v' : Value), Value.pointer (some ⟨T, 0, none⟩) = .pointer (some ⟨T', 0, none⟩) ∧ attC nm = aC (4 : Int) N M nm l br ∧ Both w.heap.size wb T' w2.heap.size v' u (aL (4 : Int) N M nm l br) (aB (4 : Int) N nm br) (aD (4 : Int) N nm br d) l br d ∧ Below w.heap.size wa wb ∧ Blk wb ga 31 #[.int .i64 4, .int .i64 N, .int .i64 M, .string nm]) := Lib.hid ⟨T, v', rfl, by simp [aC], by simpa [aL, aB, aD] using hb', bb, kb⟩
            clear hd hb' bb kb
            go_wp2_with fail
            go_meet
            obtain ⟨T', v', e1, e2, e3⟩ := R.out
            exact ⟨T', v', e1, by rw [← e2], e3⟩
          by_cases h5 : op = 5
          · subst h5
            go_wp2_with fail
            refine (det_any wa _ T v l br d N PP.out.tab).mono ?_
            rintro e wb hd
            have kb := did_blk PP.out.tab hd NN.out (by decide) (by decide)
            obtain ⟨rfl, v', hb', bb⟩ := PP.out.did hd
            have R : Hid (∃ (T' : Nat) (v' : Value), Value.pointer (some ⟨T, 0, none⟩) = .pointer (some ⟨T', 0, none⟩) ∧ detC N = aC (5 : Int) N M nm l br ∧ Both w.heap.size wb T' w2.heap.size v' u (aL (5 : Int) N M nm l br) (aB (5 : Int) N nm br) (aD (5 : Int) N nm br d) l br d ∧ Below w.heap.size wa wb ∧ Blk wb ga 31 #[.int .i64 5, .int .i64 N, .int .i64 M, .string nm]) := Lib.hid ⟨T, v', rfl, by simp [aC], by simpa [aL, aB, aD] using hb', bb, kb⟩
            clear hd hb' bb kb
            go_wp2_with fail
            go_meet
            obtain ⟨T', v', e1, e2, e3⟩ := R.out
            exact ⟨T', v', e1, by rw [← e2], e3⟩
          by_cases h6 : op = 6
          · subst h6
            go_wp2_with fail
            refine (move_wide wa _ T v l br d N PP.out.tab (by omega)).mono ?_
            rintro e wb hd
            have kb := did_blk PP.out.tab hd NN.out (by decide) (by decide)
            obtain ⟨rfl, v', hb', bb⟩ := PP.out.did hd
            have R : Hid (∃ (T' : Nat) (v' : Value), Value.pointer (some ⟨T, 0, none⟩) = .pointer (some ⟨T', 0, none⟩) ∧ movC l br N = aC (6 : Int) N M nm l br ∧ Both w.heap.size wb T' w2.heap.size v' u (aL (6 : Int) N M nm l br) (aB (6 : Int) N nm br) (aD (6 : Int) N nm br d) l br d ∧ Below w.heap.size wa wb ∧ Blk wb ga 31 #[.int .i64 6, .int .i64 N, .int .i64 M, .string nm]) := Lib.hid ⟨T, v', rfl, by simp [aC], by simpa [aL, aB, aD] using hb', bb, kb⟩
            clear hd hb' bb kb
            go_wp2_with fail
            go_meet
            obtain ⟨T', v', e1, e2, e3⟩ := R.out
            exact ⟨T', v', e1, by rw [← e2], e3⟩
          by_cases h7 : op = 7
          · subst h7
            go_wp2_with fail
            refine (twin_any wa _ T v l br d PP.out.tab).mono ?_
            rintro e wb ⟨T', v', rfl, tt, bb⟩
            obtain ⟨n1, n2⟩ := twin_apart PP.out tt rfl
            have NB := Lib.hid (NN.out.below bb NN.out.lt)
            have P1 := Lib.hid (PP.out.below bb)
            have HB1 := Lib.hid (bb.mono PP.out.base)
            have TT := Lib.hid tt
            have HN := Lib.hid n2
            clear bb tt n2
            go_wp2_with fail
            refine (det_any wb _ T v l br d 77 P1.out.tab).mono ?_
            rintro e wd hd
            have kb := did_blk P1.out.tab hd NB.out (by decide) (by decide)
            obtain ⟨rfl, v1, p2, t2, m2, b2⟩ := twin_on P1.out TT.out n1 HN.out hd
            have NB2 := Lib.hid kb
            have P2 := Lib.hid p2
            have TT2 := Lib.hid t2
            have HN2 := Lib.hid m2
            have HB2 := Lib.hid (HB1.out.trans b2)
            clear kb p2 t2 m2 b2 hd
            go_wp2_with fail
            refine (set_wide wd _ T v1 l _ ⟨#[122, 122]⟩ _ 5 P2.out.tab (by decide)).mono ?_
            rintro e we hd
            have kb := did_blk P2.out.tab hd NB2.out (by decide) (by decide)
            obtain ⟨rfl, v3, p3, t3, _, b3⟩ := twin_on P2.out TT2.out n1 HN2.out hd
            have NB3 := Lib.hid kb
            have P3 := Lib.hid (twin_in PP.out p3 t3 rfl)
            have HB3 := Lib.hid (HB2.out.trans b3)
            clear kb p3 t3 b3 hd
            go_wp2_with fail
            go_meet
            exact ⟨T', v', rfl, rfl, by simpa [aL, aB, aD] using P3.out, HB3.out, NB3.out⟩
          have o1 : (op == 1) = false := by rw [beq_eq_false_iff_ne]; exact h1
          have o2 : (op == 2) = false := by rw [beq_eq_false_iff_ne]; exact h2
          have o3 : (op == 3) = false := by rw [beq_eq_false_iff_ne]; exact h3
          have o4 : (op == 4) = false := by rw [beq_eq_false_iff_ne]; exact h4
          have o5 : (op == 5) = false := by rw [beq_eq_false_iff_ne]; exact h5
          have o6 : (op == 6) = false := by rw [beq_eq_false_iff_ne]; exact h6
          have o7 : (op == 7) = false := by rw [beq_eq_false_iff_ne]; exact h7
          go_wp2_with fail
          go_meet
          exact ⟨T, v, rfl, by simp [aC, h1, h2, h3, h4, h5, h6], by simpa [aL, aB, aD, h1, h2, h3, h4, h5, h6] using PP.out, Below.refl _ _, NN.out⟩
        obtain ⟨T', v', rfl, rfl, bo, bl, kb⟩ := hcut
        have HF2 := Lib.hid (HF.out.step op N M nm)
        have H60 : (aB op N nm br).size ≤ 60 := by
          unfold aB attB detB
          repeat' split
          all_goals first | exact hb60 | exact Nat.zero_le _ | omega
        have ACT := Lib.hid (act_any wc _ _ u l br nm d op N M (by omega) bo.doc (fun k x hx => HF.out.pos k x hx) HF.out.2)
        have LF := Lib.hid (And.intro bo.tab.few bo.tab.up)
        have BO := Lib.hid bo
        have BL := Lib.hid bl
        have KB := Lib.hid kb
        have y0 : wc.cell? ⟨ga, 0, none⟩ = some (.int .i64 op) := KB.out.cell 0
        have y1 : wc.cell? ⟨ga, 1, none⟩ = some (.int .i64 N) := KB.out.cell 1
        have y2 : wc.cell? ⟨ga, 2, none⟩ = some (.int .i64 M) := KB.out.cell 2
        have y3 : wc.cell? ⟨ga, 3, none⟩ = some (.string nm) := KB.out.cell 3
        clear bo bl kb PP
        generalize aC op N M nm l br = cc at *
        generalize aL op N M nm l br = l2 at *
        generalize aB op N nm br = br2 at *
        generalize aD op N nm br d = d2 at *
        go_wp2_with fail
        refine ACT.out.mono ?_
        rintro e wd ha
        obtain ⟨rfl, u2, bo2, bb⟩ := BO.out.acted ha LF.out.1 LF.out.2
        have BO2 := Lib.hid bo2
        have BL2 := Lib.hid (BL.out.trans bb)
        clear ha bo2 bb y0 y1 y2 y3
        go_wp2_with fail
        refine (head_any wd _ T' v' l2 br2 d2 BO2.out.tab).mono ?_
        rintro e we ⟨rfl, bb⟩
        have BO3 := Lib.hid (BO2.out.below bb)
        have BL3 := Lib.hid (BL2.out.trans (bb.mono BO2.out.base))
        clear bb
        have DH : Hid (Calls Try.prog 18 #[.pointer (some ⟨w2.heap.size, 0, none⟩)] we fun e w' => e = .returned (.agg #[.string br2, .int .i64 (headC l2 br2 d2)]) ∧ Below we.heap.size we w') := Lib.hid (dhead_any we _ _ u2 l2 br2 d2 BO3.out.doc)
        generalize headC l2 br2 d2 = hc2 at *
        go_wp2_with fail
        refine DH.out.mono ?_
        rintro e wf ⟨rfl, bb⟩
        have BO4 := Lib.hid (BO3.out.below bb)
        have BL4 := Lib.hid (BL3.out.trans (bb.mono BO3.out.base))
        clear bb
        go_wp2_with fail
        refine (row_any wf _ T' v' l2 br2 d2 BO4.out.tab).mono ?_
        rintro e wg ⟨vr, rfl, ow, bb⟩
        obtain ⟨Ar, cr, rfl⟩ := own_form ow
        have BO5 := Lib.hid (BO4.out.below bb)
        have BL5 := Lib.hid (BL4.out.trans (bb.mono BO4.out.base))
        have OW := Lib.hid ow
        obtain ⟨Ad, cd, hu⟩ := own_form BO5.out.doc.own
        subst hu
        have d0 := BO5.out.doc.cells.1
        have hDl := BO5.out.doc.blk.lt
        clear bb ow
        go_wp2_with fail
        go_loopw [12] (fun j wx => ∃ q : Nat, j = .int .i64 q ∧ q ≤ l2.length ∧ Hid (Below wg.heap.size wg wx)) (fun j _ => l2.length - (intOf j).toNat)
        case atStart => exact ⟨0, rfl, Nat.zero_le _, Lib.hid (Below.refl _ _)⟩
        case round =>
          obtain ⟨q, rfl, hq, hbx⟩ := hrel
          rename_i wx _
          have d1 := (hbx.out.cell (p := ⟨w2.heap.size, 0, none⟩) hDl).trans d0
          have l64 := LF.out.1
          by_cases hql : q < l2.length
          · obtain ⟨⟨nn, mm⟩, hx⟩ : ∃ r, l2[q]? = some r := ⟨_, List.getElem?_eq_getElem hql⟩
            obtain ⟨g1, cc1, hv1, p0, p1, _, _, pn, pm, _⟩ := Own.at_ (own_keep OW.out hbx.out) hx
            obtain ⟨g2, cc2, hv2, r0, r1, _, _, rn, rm, _⟩ := Own.at_ (own_keep BO5.out.doc.own hbx.out) hx
            have hv1 := Lib.hid hv1
            have hv2 := Lib.hid hv2
            obtain ⟨rfl, rfl⟩ : Ar = some ⟨g1, 0, none⟩ ∧ cr = cc1 := by have := hv1.out; injection this with a b c; exact ⟨a, c⟩
            obtain ⟨rfl, rfl⟩ : Ad = some ⟨g2, 0, none⟩ ∧ cd = cc2 := by have := hv2.out; injection this with a b c; exact ⟨a, c⟩
            have q0 : (0 : Int) ≤ (q : Int) := Int.natCast_nonneg _
            have q1 : (q : Int) < (l2.length : Int) := by omega
            clear hx hv1 hv2
            go_wp2_with fail
            go_quiet (fail)
            go_wp2
            go_roundw
            case rel => exact ⟨q + 1, by go_num, hql, Lib.hid ⟨hbx.out.os, hbx.out.tape, hbx.out.output, hbx.out.size, hbx.out.block⟩⟩
            case measure => simp [intOf]; omega
          · have HS2 := Lib.hid (show Stand w _ T' w2.heap.size l2 br2 d2 from ⟨HF2.out, H60, _, _, BO5.out.below hbx.out⟩)
            have HL2 := Lib.hid (BB.out.trans (BL5.out.trans (hbx.out.mono BO5.out.base)))
            go_wp2_with fail
            go_roundw
            case rel => exact ⟨T', k + 1, l2, br2, d2, rfl, by go_num, hlt, HS2, HL2⟩
            case measure => simp [intOf]; omega
    · obtain rfl : k = n := by omega
      obtain ⟨hF, _, v, u, bo⟩ := hS.out
      obtain ⟨Ad, cd, hu⟩ := own_form bo.doc.own
      subst hu
      have BO := Lib.hid bo
      have l64 := bo.tab.few
      have G2 := Lib.hid fun W => good_any nm0 W (by omega)
      have G3 := Lib.hid fun W => refGood_any nm0 W (by omega)
      clear bo hF hS
      generalize goodN nm0 = gd at *
      cases hh : hasB l nm0 with
      | false =>
        have hg : getC l nm0 = 0 := by unfold getC; rw [hh]; rfl
        have Q := Lib.hid (get_is wr _ T v l br nm0 d BO.out.tab 0 false hg hh)
        have HX := Lib.hid (gix_none hh)
        clear hg hh
        go_wp2_with fail
        refine Q.out.mono ?_
        rintro e wa ⟨rfl, bb⟩
        have BO2 := Lib.hid (BO.out.below bb)
        have BL2 := Lib.hid (hB.out.trans (bb.mono BO.out.base))
        have DG := Lib.hid (dget_any wa _ _ _ l br nm0 d BO2.out.doc)
        rw [HX.out] at DG
        clear bb
        go_wp2_with fail
        refine DG.out.mono ?_
        rintro e wb ⟨rfl, rfl⟩
        go_wp2_with fail
        refine (G2.out _).mono ?_
        rintro e wb ⟨rfl, rfl⟩
        go_wp2_with fail
        refine (G3.out _).mono ?_
        rintro e wb ⟨rfl, rfl⟩
        go_wp2
        go_ret
        exact ⟨by simp, BL2.out⟩
      | true =>
        obtain ⟨mm, hx⟩ := has_at hh
        have hg : getC l nm0 = mm := by unfold getC; rw [hh, hx]; rfl
        have hpl := has_lt hh
        have Q := Lib.hid (get_is wr _ T v l br nm0 d BO.out.tab mm true hg hh)
        have HX := Lib.hid (gix_has hh)
        have HX2 := Lib.hid hx
        clear hg hh hx
        generalize pos l nm0 = q at *
        go_wp2_with fail
        refine Q.out.mono ?_
        rintro e wa ⟨rfl, bb⟩
        have BO2 := Lib.hid (BO.out.below bb)
        have BL2 := Lib.hid (hB.out.trans (bb.mono BO.out.base))
        have DG := Lib.hid (dget_any wa _ _ _ l br nm0 d BO2.out.doc)
        rw [HX.out] at DG
        obtain ⟨g2, cc2, hv2, r0, r1, _, _, rn, rm, _⟩ := Own.at_ BO2.out.doc.own HX2.out
        have hv2 := Lib.hid hv2
        obtain ⟨rfl, rfl⟩ : Ad = some ⟨g2, 0, none⟩ ∧ cd = cc2 := by have := hv2.out; injection this with a b c; exact ⟨a, c⟩
        have d0 := BO2.out.doc.cells.1
        have q0 : (0 : Int) ≤ (q : Int) := Int.natCast_nonneg _
        have q1 : (q : Int) < (l.length : Int) := by omega
        have q2 : ¬ (q : Int) < 0 := by omega
        clear bb hv2
        go_wp2_with fail
        refine DG.out.mono ?_
        rintro e wb ⟨rfl, rfl⟩
        go_wp2_with fail
        refine (G2.out _).mono ?_
        rintro e wb ⟨rfl, rfl⟩
        go_wp2_with fail
        refine (G3.out _).mono ?_
        rintro e wb ⟨rfl, rfl⟩
        go_wp2
        go_ret
        exact ⟨by simp, BL2.out⟩
#print axioms play_walk
end Go.Proofs.Ytkhdjlakclidoaa
