/-
  rectoref11.common: the walk.
-/
import Derived.Test.YtdpoeagmeiedcaaDoorRCom2
import Derived.Test.YtdpoeagmeiedcaaDoorMeasure
namespace Go.Proofs.YtdpoeagmeiedcaaDoor
open Go Go.RowKit Go.Maps Go.WideMaps

set_option maxRecDepth 100000 in
set_option maxHeartbeats 2000000 in
theorem refCommon_tab (w : World) (v u : Value) (xs ys : List ByteArray) (h : Strs w v xs) (g : Strs w u ys) (hxl : xs.length ≤ 256) (hyl : ys.length ≤ 256) :
    Calls Tryd.prog 41 #[v, u] w (Tabled w xs ys) := by
  obtain ⟨A, n0, c, rfl⟩ := h.form
  obtain ⟨B, m0, d, rfl⟩ := g.form
  obtain rfl := h.len.1
  obtain rfl := g.len.1
  obtain ⟨N, hN⟩ : ∃ N, N = xs.length + 1 := ⟨_, rfl⟩
  obtain ⟨M, hM⟩ : ∃ M, M = ys.length + 1 := ⟨_, rfl⟩
  have e1 : IntKind.i64.wrap ((xs.length : Int) + 1) = (N : Int) := by rw [hN]; exact IntWalk.i64_in _ (by omega)
  have e2 : IntKind.i64.wrap ((ys.length : Int) + 1) = (M : Int) := by rw [hM]; exact IntWalk.i64_in _ (by omega)
  have mk1 := fun W => run_make_row' (P := Tryd.prog) 89 82 (.slice none 0 0) 24 Tryd.underlying89 rowsInfo rfl .i64 .i64 N (by omega) (by omega) W
  have S0 := Lib.hid (OutT.start w xs ys)
  rw [← hN] at S0
  have HN := Lib.hid hN
  have HM := Lib.hid hM
  have H0 := Lib.hid h
  have G0 := Lib.hid g
  clear h g hN hM
  go_enter Tryd.func41, Tryd.ntmps41
  go_wp2_with fail
  obtain ⟨G, hG⟩ : ∃ G, G = w.heap.size := ⟨_, rfl⟩
  rw [← hG] at S0 ⊢
  have HG := Lib.hid hG
  clear hG mk1
  go_loopw [6, 7] (fun s6 _ wr => ∃ (k : Nat) (z : Int), k ≤ xs.length + 1 ∧ s6 = .int .i64 z ∧ Hid (z = (k : Int) - 1) ∧ Hid (OutT w wr G xs ys k)) (fun s6 _ _ => (intOf s6 + 1).toNat)
  case atStart => exact ⟨xs.length + 1, _, Nat.le_refl _, rfl, (by show (_ : Int) = _; omega), by rw [← HN.out]; exact S0⟩
  case round =>
    clear S0
    obtain ⟨k, z, hk, rfl, hz, hO⟩ := hrel
    by_cases hk0 : k = 0
    · subst hk0
      obtain rfl : z = -1 := by have := hz.out; omega
      go_wp2
      go_ret
      have hO1 := hO.out
      exact ⟨G, by rw [HN.out]; rfl, by rw [HG.out]; exact Nat.le_refl _, hO1, by rw [← HG.out]; exact ⟨hO1.since.os, hO1.since.tape, hO1.since.output, hO1.since.size, hO1.since.block⟩⟩
    · obtain ⟨p, rfl⟩ : ∃ p, k = p + 1 := ⟨k - 1, by omega⟩
      obtain rfl : z = (p : Int) := by have := hz.out; omega
      have hp : p ≤ xs.length := by omega
      have hp0 : (0 : Int) ≤ (p : Int) := Int.natCast_nonneg _
      have hpN : (p : Int) < (N : Int) := by have := HN.out; omega
      have mk2 := run_make_row' (P := Tryd.prog) 82 3 (.int .i64 0) 8 Tryd.underlying82 intInfoC rfl .i64 .i64 M (by have := HM.out; omega) (by have := HM.out; omega) wr
      have st1 : (wr.alloc (.cells (madeCells #[.int .i64 0] M) 3)).cell? ⟨G, p, none⟩ = some (topV G xs.length ys.length (p + 1) p) := (hO.out.top.alloc _).cell (by omega)
      have st2 : (wr.alloc (.cells (madeCells #[.int .i64 0] M) 3)).frozen? ⟨G, p, none⟩ = false := (hO.out.top.alloc _).frozen p
      have S1 := Lib.hid (InnT.start hO.out hp)
      rw [← HM.out] at S1
      clear hO
      go_wp2_with fail
      clear mk2 st1 st2
      generalize (wr.alloc (.cells (madeCells #[.int .i64 0] M) 3)).setCell ⟨G, p, none⟩ (.slice (some ⟨wr.heap.size, 0, none⟩) M M) = wi0 at S1 ⊢
      go_loopw [7] (fun s7 wi => ∃ (q : Nat) (z : Int), q ≤ ys.length ∧ s7 = .int .i64 z ∧ Hid (z = (q : Int) - 1) ∧ Hid (InnT w wi G xs ys p q (cT xs ys p q))) (fun s7 _ => (intOf s7 + 1).toNat)
      case atStart => exact ⟨ys.length, _, Nat.le_refl _, rfl, rfl, by rw [cT_end_b]; exact S1⟩
      case round =>
        clear S1
        obtain ⟨wi, hwi⟩ : ∃ wi : World, wi = wr := ⟨_, rfl⟩
        rw [← hwi] at hrel ⊢
        clear hwi
        obtain ⟨q, z, hq, rfl, hz2, hI⟩ := hrel
        by_cases hq0 : q = 0
        · subst hq0
          obtain rfl : z = -1 := by have := hz2.out; omega
          have hO := InnT.done_ hI.out rfl
          go_wp2
          go_roundw
          case rel => exact ⟨p, _, by omega, rfl, rfl, hO⟩
          case measure => simp [intOf]
        · obtain ⟨j, rfl⟩ : ∃ j, q = j + 1 := ⟨q - 1, by omega⟩
          obtain rfl : z = (j : Int) := by have := hz2.out; omega
          have hj0 : (0 : Int) ≤ (j : Int) := Int.natCast_nonneg _
          have hjM : (j : Int) < (M : Int) := by have := HM.out; omega
          by_cases hpl : p < xs.length
          · have hpl1 : (p : Int) < (xs.length : Int) := by omega
            have hpN1 : (p : Int) + 1 < (N : Int) := by have := HN.out; omega
            have hjM1 : (j : Int) + 1 < (M : Int) := by have := HM.out; omega
            have hsp : IntKind.i64.wrap ((p : Int) + 1) = (p : Int) + 1 := IntWalk.i64_in _ (by omega)
            have hsj : IntKind.i64.wrap ((j : Int) + 1) = (j : Int) + 1 := IntWalk.i64_in _ (by omega)
            obtain ⟨s, hs⟩ : ∃ s, xs[p]? = some s := ⟨_, List.getElem?_eq_getElem (by omega)⟩
            obtain ⟨t, ht⟩ : ∃ t, ys[j]? = some t := ⟨_, List.getElem?_eq_getElem (by omega)⟩
            have hstep := Lib.hid (cT_step hs ht)
            have HS := Lib.hid hs
            have HT := Lib.hid ht
            have b12 := cT_le xs ys (p + 1) (j + 1)
            have b1 := cT_le xs ys (p + 1) j
            have b2 := cT_le xs ys p (j + 1)
            have I0 := Lib.hid (InnT.next hI.out rfl)
            have P0 := I0.out.rowP hp
            have P1 := I0.out.rowS hpl
            have P2 := I0.out.under hpl (show j ≤ ys.length by omega)
            have P3 : wi.cell? ⟨G + 1 + (xs.length - p), j, none⟩ = some (.int .i64 0) := I0.out.at_ (show j ≤ ys.length by omega)
            have P4 := I0.out.cur.frozen j
            have HI := Lib.hid I0
            clear hs ht hI
            rw [← HM.out] at P0 P1
            obtain ⟨c1, hc1⟩ : ∃ c, c = cT xs ys (p + 1) j := ⟨_, rfl⟩
            obtain ⟨c2, hc2⟩ : ∃ c, c = cT xs ys p (j + 1) := ⟨_, rfl⟩
            obtain ⟨c12, hc12⟩ : ∃ c, c = cT xs ys (p + 1) (j + 1) := ⟨_, rfl⟩
            rw [← hc1] at P2 b1
            rw [← hc2] at b2
            rw [← hc12] at b12
            rw [← hc1, ← hc2, ← hc12] at hstep
            have HC1 := Lib.hid hc1
            have HC2 := Lib.hid hc2
            have HC12 := Lib.hid hc12
            clear hc1 hc2 hc12
            have I1 := Lib.hid ((InnT.store I0.out hp c1).drew)
            have hsc : IntKind.i64.wrap ((c12 : Int) + 1) = (c12 : Int) + 1 := IntWalk.i64_in _ (by omega)
            have hss : (s.toList == t.toList) = decide (s = t) := by
              rw [ByteArray.toList_eq, ByteArray.toList_eq]
              by_cases e : s = t
              · simp [e]
              · simp [e]
                intro h
                exact e (ByteArray.ext h)
            have HSS := Lib.hid hss
            clear hss I0 HI
            go_wp2_with fail
            go_region
            go_wp2_with fail
            generalize (wi.setCell ⟨G + 1 + (xs.length - p), j, none⟩ (.int .i64 (c1 : Int))).drew = w1 at I1 ⊢
            clear P0 P1 P2 P3 P4
            have Q0 := I1.out.rowP hp
            have Q2 := I1.out.right (show j < ys.length by omega)
            have Q3 := I1.out.at_ (show j ≤ ys.length by omega)
            have Q4 := I1.out.cur.frozen j
            rw [← HC2.out] at Q2
            rw [← HM.out] at Q0
            by_cases hcc : c1 < c2
            case' pos =>
              have hci : (c1 : Int) < (c2 : Int) := by omega
              go_quiet (fail)
              go_wp2_with fail
              have I2 := Lib.hid ((I1.out.drewN (nq + 1)).store hp c2)
              go_region
              go_wp2_with fail
              generalize (w1.drewN (nq + 1)).setCell ⟨G + 1 + (xs.length - p), j, none⟩ (.int .i64 (c2 : Int)) = w2 at I2 ⊢
              obtain ⟨cm, hcm⟩ : ∃ cm, cm = c2 := ⟨_, rfl⟩
              have HCM := Lib.hid (show cm = max c1 c2 by omega)
              rw [← hcm] at I2
              clear hcm
            case' neg =>
              have hci : (decide ((c1 : Int) < (c2 : Int))) = false := decide_eq_false (by omega)
              go_quiet (fail)
              go_wp2_with fail
              have I2 := Lib.hid (I1.out.drewN nq)
              obtain ⟨cm, hcm⟩ : ∃ cm, cm = c1 := ⟨_, rfl⟩
              have HCM := Lib.hid (show cm = max c1 c2 by omega)
              rw [← hcm] at I2
              clear hcm
              generalize w1.drewN nq = w2 at I2 ⊢
            all_goals
              have hcmle : cm ≤ ys.length := by have := HCM.out; omega
              clear hci hcc I1 Q0 Q2 Q3 Q4
              have R0 := I2.out.rowP hp
              have R1 := I2.out.rowS hpl
              have R2 := I2.out.under hpl (show j + 1 ≤ ys.length by omega)
              have R3 := I2.out.at_ (show j ≤ ys.length by omega)
              have R4 := I2.out.cur.frozen j
              rw [← HM.out] at R0 R1
              rw [← HC12.out] at R2
              obtain ⟨a1, s1, rfl, hs1, cs1⟩ := (H0.out).cell (k := p) (by omega)
              obtain ⟨a2, s2, rfl, hs2, cs2⟩ := (G0.out).cell (k := j) (by omega)
              obtain rfl : s1 = s := Option.some.inj (hs1.symm.trans HS.out)
              obtain rfl : s2 = t := Option.some.inj (hs2.symm.trans HT.out)
              have d1 : w2.cell? (a1.add p) = some (.string s1) := (I2.out.since.cell (a := a1.add p) (by rw [HG.out]; exact World.block_lt_of_cell? _ _ cs1)).trans cs1
              have d2 : w2.cell? (a2.add j) = some (.string s2) := (I2.out.since.cell (a := a2.add j) (by rw [HG.out]; exact World.block_lt_of_cell? _ _ cs2)).trans cs2
              have hjl : (j : Int) < (ys.length : Int) := by omega
              clear hs1 hs2 cs1 cs2
              by_cases hst : s1 = s2
              case pos =>
                subst hst
                by_cases hgt : cm < c12 + 1
                case pos =>
                  have hgi : (cm : Int) < (c12 : Int) + 1 := by omega
                  have hv : c12 + 1 = cT xs ys p j := by rw [hstep.out, if_pos ⟨rfl, by have := HCM.out; omega⟩]
                  have HV := Lib.hid hv
                  clear hv
                  go_quiet (fail)
                  go_wp2_with fail
                  have I3 := Lib.hid ((I2.out.drewN (nq + 1)).store hp (c12 + 1))
                  rw [HV.out] at I3
                  rw [show ((cT xs ys p j : Nat) : Int) = (c12 : Int) + 1 from by rw [← HV.out]; omega] at I3
                  go_region
                  go_wp2
                  go_roundw
                  case rel => exact ⟨j, _, by omega, rfl, rfl, I3⟩
                  case measure => simp [intOf]
                case neg =>
                  have hgi : (decide ((cm : Int) < (c12 : Int) + 1)) = false := decide_eq_false (by omega)
                  have hv : cm = cT xs ys p j := by rw [hstep.out, if_neg (by have := HCM.out; omega)]; exact HCM.out
                  have I3 := Lib.hid ((I2.out.drewN 0))
                  rw [hv] at I3
                  clear hv
                  go_quiet (fail)
                  go_wp2
                  go_roundw
                  case rel => exact ⟨j, _, by omega, rfl, rfl, I3.out.drewN nq⟩
                  case measure => simp [intOf]
              case neg =>
                have hse := HSS.out
                rw [decide_eq_false hst] at hse
                have hv : cm = cT xs ys p j := by rw [hstep.out, if_neg (fun e => hst e.1)]; exact HCM.out
                have I3 := Lib.hid (I2.out.drewN 0)
                rw [hv] at I3
                clear hv
                go_quiet (fail)
                go_wp2
                go_roundw
                case rel => exact ⟨j, _, by omega, rfl, rfl, I3.out.drewN nq⟩
                case measure => simp [intOf]
          · obtain rfl : p = xs.length := by omega
            have hO := InnT.last hI.out rfl
            go_wp2
            go_roundw
            case rel => exact ⟨xs.length, _, by omega, rfl, rfl, hO⟩
            case measure => simp [intOf]
end Go.Proofs.YtdpoeagmeiedcaaDoor
