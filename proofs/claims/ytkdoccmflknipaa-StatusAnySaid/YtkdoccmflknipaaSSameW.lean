/-
  The walk of StatusSame.
-/
import Derived.Test.YtkdoccmflknipaaSWrong
namespace Go.Proofs.Ytkdoccmflknipaa
open Go.RowKit

set_option maxRecDepth 100000 in
set_option maxHeartbeats 8000000 in
theorem same_walk (w : World) (v u z : Value) (l : List Fl) (ix : List En) (wk : List Fl) (h : Reads 3 cF w v l) (g : Reads 6 cE w u ix) (hz : Reads 3 cF w z wk) : Calls Try.prog 4 #[v, u, z] w (YesTo w) := by
  obtain ⟨A1, c1, rfl⟩ := h.form
  obtain ⟨A2, c2, rfl⟩ := g.form
  obtain ⟨A3, c3, rfl⟩ := hz.form
  have H0 := Lib.hid h
  have G0 := Lib.hid g
  have Z0 := Lib.hid hz
  clear h g hz
  go_enter Try.func4, Try.ntmps4
  go_wp2_with fail
  refine (known_yes w).mono ?_
  rintro e w1 ⟨rfl, B1⟩
  have s1 := B1.size
  go_wp2_with fail
  refine (fewF_any w1 _ l (H0.out.below B1)).mono ?_
  rintro e w2 ⟨b, rfl, hb2, q, hq⟩
  have b2 : Below w1.heap.size w1 w2 := by rw [hq]; exact below_drewN (Below.refl _ _) _
  have B2 : Below w.heap.size w w2 := B1.trans (b2.mono s1)
  clear hq b2
  cases b with
  | false =>
    clear hb2
    go_wp2_with fail
    go_ret
    exact ⟨rfl, B2⟩
  | true =>
    have F2 := Lib.hid (hb2 rfl)
    clear hb2
    have s2 := B2.size
    go_wp2_with fail
    refine (fewF_any w2 _ wk (Z0.out.below B2)).mono ?_
    rintro e w3 ⟨b, rfl, hb3, q, hq⟩
    have b3 : Below w2.heap.size w2 w3 := by rw [hq]; exact below_drewN (Below.refl _ _) _
    have B3 : Below w.heap.size w w3 := B2.trans (b3.mono s2)
    clear hq b3
    cases b with
    | false =>
      clear hb3
      go_wp2_with fail
      go_ret
      exact ⟨rfl, B3⟩
    | true =>
      have F3 := Lib.hid (hb3 rfl)
      clear hb3
      have s3 := B3.size
      go_wp2_with fail
      refine (fewE_any w3 _ ix (G0.out.below B3)).mono ?_
      rintro e w4 ⟨b, rfl, hb4, q, hq⟩
      have b4 : Below w3.heap.size w3 w4 := by rw [hq]; exact below_drewN (Below.refl _ _) _
      have B4 : Below w.heap.size w w4 := B3.trans (b4.mono s3)
      clear hq b4
      cases b with
      | false =>
        clear hb4
        go_wp2_with fail
        go_ret
        exact ⟨rfl, B4⟩
      | true =>
        have F4 := Lib.hid (hb4 rfl)
        clear hb4
        have s4 := B4.size
        go_wp2_with fail
        refine (rises_any w4 _ l (H0.out.below B4) (by have := F2.out.1; omega)).mono ?_
        rintro e w5 ⟨b, rfl, hb5, q, hq⟩
        have b5 : Below w4.heap.size w4 w5 := by rw [hq]; exact below_drewN (Below.refl _ _) _
        have B5 : Below w.heap.size w w5 := B4.trans (b5.mono s4)
        clear hq b5
        cases b with
        | false =>
          clear hb5
          go_wp2_with fail
          go_ret
          exact ⟨rfl, B5⟩
        | true =>
          have F5 := Lib.hid (hb5.1 rfl)
          clear hb5
          have s5 := B5.size
          go_wp2_with fail
          refine (rises_any w5 _ wk (Z0.out.below B5) (by have := F3.out.1; omega)).mono ?_
          rintro e w6 ⟨b, rfl, hb6, q, hq⟩
          have b6 : Below w5.heap.size w5 w6 := by rw [hq]; exact below_drewN (Below.refl _ _) _
          have B6 : Below w.heap.size w w6 := B5.trans (b6.mono s5)
          clear hq b6
          cases b with
          | false =>
            clear hb6
            go_wp2_with fail
            go_ret
            exact ⟨rfl, B6⟩
          | true =>
            have F6 := Lib.hid (hb6.1 rfl)
            clear hb6
            have s6 := B6.size
            go_wp2_with fail
            refine (ofE_any w6 _ ix (G0.out.below B6) (by have := F4.out.1; omega)).mono ?_
            rintro e w7 ⟨v7, rfl, o7, b7⟩
            have B7 : Below w.heap.size w w7 := B6.trans (b7.mono s6)
            have s7 := B7.size
            have R7 := Lib.hid (Reads.of_own cE_len o7)
            clear o7 b7
            go_wp2_with fail
            refine (checkIndex_any w7 _ ix R7.out (by have := F4.out.1; omega) (fun x hx => by have := (F4.out.2 x hx).1; omega)).mono ?_
            rintro e w8 ⟨A, k, c, n, rfl, hok, b8⟩
            have B8 : Below w.heap.size w w8 := B7.trans (b8.mono s7)
            have s8 := B8.size
            have we := wrong_err A k c n w8
            clear b8 R7 B1 B2 B3 B4 B5 B6 B7 s1 s2 s3 s4 s5 s6 s7
            by_cases hn : n = 0
            · have HK := Lib.hid (hok hn)
              subst hn
              clear hok
              have PR := Lib.hid (stage_rise 0 (ok_pair HK.out))
              obtain ⟨es, hes⟩ : ∃ es, es = l.map toE := ⟨_, rfl⟩
              have OFE : Hid (∀ W, Below w.heap.size w W → Calls Try.prog 23 #[.slice A1 l.length c1] W (OwnTo 61 6 cE es W)) := Lib.hid fun W hW => by rw [hes]; exact of_any W _ l (H0.out.below hW) (by have := F2.out.1; omega)
              have ESL : es.length ≤ 10000 := by rw [hes, List.length_map]; have := F2.out.1; omega
              have STL : Hid (es.map stillE = es) := Lib.hid (by rw [hes]; exact still_toE l)
              have STG : Hid (stageE es 0 = l) := Lib.hid (by rw [hes]; exact stageE_toE l)
              have TR : Hid (rowsOf l es l = []) := Lib.hid (by rw [hes]; exact (rows_none F5.out (by rw [stageE_toE]; exact F5.out) F5.out).2 ⟨rfl, still_toE l⟩)
              have IFF := Lib.hid (rows_none F5.out PR.out F6.out)
              go_wp2_with fail
              refine (rows_any w8 _ _ _ l ix wk (H0.out.below B8) (G0.out.below B8) (Z0.out.below B8) (by have := F2.out.1; omega) (by have := F4.out.1; omega) (by have := F3.out.1; omega) F5.out PR.out F6.out).mono ?_
              rintro e w9 ⟨v9, rfl, o9, b9⟩
              have B9 : Below w.heap.size w w9 := B8.trans (b9.mono s8)
              have s9 := B9.size
              obtain ⟨A9, c9, rfl⟩ := own_form o9
              clear o9 b9
              obtain ⟨m, hm⟩ : ∃ m, m = (rowsOf l ix wk).length := ⟨_, rfl⟩
              have HM : Hid (m = 0 ↔ l = wk ∧ ix.map stillE = es) := Lib.hid (by rw [hm, List.length_eq_zero_iff, hes]; exact IFF.out)
              rw [← hm]
              clear hm IFF hes
              go_wp2_with fail
              refine (sameF_any w9 _ _ l wk (H0.out.below B9) (Z0.out.below B9)).mono ?_
              rintro e w10 ⟨rfl, q, hq⟩
              have B10 : Below w.heap.size w w10 := by rw [hq]; exact below_drewN B9 _
              have s10 := B10.size
              clear hq
              by_cases hlw : l = wk
              · rw [decide_eq_true hlw]
                have HLW := Lib.hid hlw
                clear hlw
                go_wp2_with fail
                refine (OFE.out w10 B10).mono ?_
                rintro e w11 ⟨v11, rfl, o11, b11⟩
                have B11 : Below w.heap.size w w11 := B10.trans (b11.mono s10)
                have s11 := B11.size
                obtain ⟨A11, c11, rfl⟩ := own_form o11
                have R11 := Lib.hid (Reads.of_own cE_len o11)
                clear o11 b11
                go_wp2_with fail
                refine (sameE_any w11 _ _ ix es (G0.out.below B11) R11.out).mono ?_
                rintro e w12 ⟨rfl, b12⟩
                have B12 : Below w.heap.size w w12 := B11.trans (b12.mono s11)
                have s12 := B12.size
                rw [STL.out]
                clear b12 R11
                by_cases hix : ix.map stillE = es
                · rw [decide_eq_true hix]
                  have hm0 : m = 0 := HM.out.2 ⟨HLW.out, hix⟩
                  subst hm0
                  clear hix
                  go_wp2_with fail
                  refine (OFE.out w12 B12).mono ?_
                  rintro e wa ⟨va, rfl, oa, ba⟩
                  have Ba : Below w.heap.size w wa := B12.trans (ba.mono s12)
                  have sa := Ba.size
                  obtain ⟨Aa, ca, rfl⟩ := own_form oa
                  have Ra := Lib.hid (Reads.of_own cE_len oa)
                  clear oa ba
                  go_wp2_with fail
                  refine (rows_any wa _ _ _ l es l (H0.out.below Ba) Ra.out (H0.out.below Ba) (by have := F2.out.1; omega) ESL (by have := F2.out.1; omega) F5.out (by rw [STG.out]; exact F5.out) F5.out).mono ?_
                  rintro e wb ⟨vb, rfl, ob, bb⟩
                  have Bb : Below w.heap.size w wb := Ba.trans (bb.mono sa)
                  rw [TR.out] at ob
                  obtain ⟨Ab, cb', rfl⟩ := own_form ob
                  clear ob bb
                  go_wp2_with fail
                  go_ret
                  exact ⟨rfl, Bb⟩
                · rw [decide_eq_false hix]
                  have hm0 : ¬ m = 0 := fun h => hix (HM.out.1 h).2
                  have hmi : ((m : Int) == 0) = false := by simpa using hm0
                  have hmi2 : ¬ (m : Int) = 0 := by omega
                  clear hix
                  go_wp2_with fail
                  refine (OFE.out w12 B12).mono ?_
                  rintro e wa ⟨va, rfl, oa, ba⟩
                  have Ba : Below w.heap.size w wa := B12.trans (ba.mono s12)
                  have sa := Ba.size
                  obtain ⟨Aa, ca, rfl⟩ := own_form oa
                  have Ra := Lib.hid (Reads.of_own cE_len oa)
                  clear oa ba
                  go_wp2_with fail
                  refine (rows_any wa _ _ _ l es l (H0.out.below Ba) Ra.out (H0.out.below Ba) (by have := F2.out.1; omega) ESL (by have := F2.out.1; omega) F5.out (by rw [STG.out]; exact F5.out) F5.out).mono ?_
                  rintro e wb ⟨vb, rfl, ob, bb⟩
                  have Bb : Below w.heap.size w wb := Ba.trans (bb.mono sa)
                  rw [TR.out] at ob
                  obtain ⟨Ab, cb', rfl⟩ := own_form ob
                  clear ob bb
                  go_wp2_with fail
                  go_ret
                  exact ⟨rfl, Bb⟩
              · rw [decide_eq_false hlw]
                have hm0 : ¬ m = 0 := fun h => hlw (HM.out.1 h).1
                have hmi : ((m : Int) == 0) = false := by simpa using hm0
                have hmi2 : ¬ (m : Int) = 0 := by omega
                clear hlw
                go_wp2_with fail
                refine (OFE.out w10 B10).mono ?_
                rintro e wa ⟨va, rfl, oa, ba⟩
                have Ba : Below w.heap.size w wa := B10.trans (ba.mono s10)
                have sa := Ba.size
                obtain ⟨Aa, ca, rfl⟩ := own_form oa
                have Ra := Lib.hid (Reads.of_own cE_len oa)
                clear oa ba
                go_wp2_with fail
                refine (rows_any wa _ _ _ l es l (H0.out.below Ba) Ra.out (H0.out.below Ba) (by have := F2.out.1; omega) ESL (by have := F2.out.1; omega) F5.out (by rw [STG.out]; exact F5.out) F5.out).mono ?_
                rintro e wb ⟨vb, rfl, ob, bb⟩
                have Bb : Below w.heap.size w wb := Ba.trans (bb.mono sa)
                rw [TR.out] at ob
                obtain ⟨Ab, cb', rfl⟩ := own_form ob
                clear ob bb
                go_wp2_with fail
                go_ret
                exact ⟨rfl, Bb⟩
            · have hnb : (n == 0) = false := by simpa using hn
              clear hok
              go_wp2_with fail
              go_ret
              exact ⟨rfl, B8⟩
end Go.Proofs.Ytkdoccmflknipaa
