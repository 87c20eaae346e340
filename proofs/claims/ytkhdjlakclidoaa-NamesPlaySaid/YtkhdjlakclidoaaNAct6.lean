/-
  The document's act 6: what Head stands at moved.
-/
import Derived.Test.YtkhdjlakclidoaaNActD
import Derived.Deep.RegionWith
import Derived.WalkLawsBesides
namespace Go.Proofs.Ytkhdjlakclidoaa
open Go Go.RowKit
attribute [local go_sem] Oper.semAt_some

theorem acted_drew {w w' : World} {B T : Nat} {v : Value} {c : Int} {l : List Rf} {br : ByteArray} {d : Int} {e : Ending} (h : Acted w B T v c l br d e w') : Acted w B T v c l br d e w'.drew := by
  obtain ⟨he, v', o, b, hB, t, g⟩ := h
  exact ⟨he, v', o, b, hB, ⟨t.os, t.tape, t.output, t.size, t.block⟩, g⟩

set_option maxRecDepth 100000 in
set_option maxHeartbeats 4000000 in
theorem act_6 (w : World) (B T : Nat) (v : Value) (l : List Rf) (br nm : ByteArray) (d N M : Int) (hnm : nm.size ≤ 1000000) (h : Doc w B T v l br d) (hbr : br.size = 0 ∨ goodN br = true) :
    Calls Try.prog 16 #[.pointer (some ⟨T, 0, none⟩), .agg #[.int .i64 6, .int .i64 N, .int .i64 M, .string nm]] w (Acted w B T v (movC l br N) (movL l br N) br (movD br d N)) := by
  have HD := Lib.hid h
  have HA := Lib.hid (h.alloc (.cells #[.int .i64 6, .int .i64 N, .int .i64 M, .string nm] 31))
  have BA := Lib.hid ((Below.refl w.heap.size w).alloc (Nat.le_refl _) (.cells #[.int .i64 6, .int .i64 N, .int .i64 M, .string nm] 31))
  obtain ⟨A, cap, rfl⟩ := own_form h.own
  have hfew := h.few
  have hTw : T ≠ w.heap.size := by have := h.blk.lt; omega
  obtain ⟨c0, c1, c2, f0, f1, f2⟩ := (h.alloc (.cells #[.int .i64 6, .int .i64 N, .int .i64 M, .string nm] 31)).cells
  have G1 := Lib.hid (dget_any _ B T _ l br nm d HA.out)
  have G2 := Lib.hid fun W => refGood_any nm W (by omega)
  clear h
  cases hh : hasB l nm with
  | true =>
    obtain ⟨cc, hx⟩ := has_at hh
    rw [gix_has hh] at G1
    have HX := Lib.hid hx
    have hkl : pos l nm < l.length := has_lt hh
    have k0 : ¬ ((pos l nm : Nat) : Int) < 0 := by omega
    by_cases h1 : N < 1
    · have HC : Hid (movC l br N = 1) := Lib.hid (by rcases hbr with e | e <;> unfold movC <;> split <;> simp_all [detC, setC])
      have HL : Hid (movL l br N = l) := Lib.hid (by rcases hbr with e | e <;> unfold movL <;> split <;> simp_all [setL, setC])
      have HE : Hid (movD br d N = d) := Lib.hid (by unfold movD; split <;> simp [detD, h1])
      generalize goodN nm = gd at *
      clear hh hx HX
      go_enter Try.func16, Try.ntmps16
      go_wp2_with fail
      refine G1.out.mono ?_
      rintro e w1 ⟨rfl, rfl⟩
      go_wp2_with fail
      refine (G2.out _).mono ?_
      rintro e w1 ⟨rfl, rfl⟩
      go_wp2
      go_ret
      rw [HC.out, HL.out, HE.out]
      exact acted_same 1 HD.out ⟨BA.out.os, BA.out.tape, BA.out.output, BA.out.size, BA.out.block⟩
    · by_cases hb0 : br.size = 0
      · have HC : Hid (movC l br N = 0) := Lib.hid (by unfold movC; rw [if_pos hb0]; unfold detC; rw [if_neg h1])
        have HL : Hid (movL l br N = l) := Lib.hid (by unfold movL; rw [if_pos hb0])
        have HE : Hid (movD br d N = N) := Lib.hid (by unfold movD; rw [if_pos hb0]; unfold detD; rw [if_neg h1])
        generalize goodN nm = gd at *
        clear hh hx HX
        have eb := size_zero hb0
        subst eb
        go_enter Try.func16, Try.ntmps16
        go_wp2_with fail
        refine G1.out.mono ?_
        rintro e w1 ⟨rfl, rfl⟩
        go_wp2_with fail
        refine (G2.out _).mono ?_
        rintro e w1 ⟨rfl, rfl⟩
        go_wp2_with fail
        go_ret
        rw [HC.out, HL.out, HE.out]
        exact acted_one HD.out BA.out N
      · have hgb : goodN br = true := hbr.resolve_left hb0
        have qb := toList_ne hb0
        have qb2 : br.toList.isEmpty = false := by rw [List.isEmpty_eq_false_iff]; exact qb
        have G3 := Lib.hid (dget_any _ B T _ l br br d HA.out)
        cases hb2 : hasB l br with
        | true =>
          rw [gix_has hb2] at G3
          have kb0 : ¬ ((pos l br : Nat) : Int) < 0 := by omega
          have HC : Hid (movC l br N = 0) := Lib.hid (by unfold movC; rw [if_neg hb0]; simp [setC, hgb, h1, hb2])
          have HL : Hid (movL l br N = dsetL l br N) := Lib.hid (by unfold movL; rw [if_neg hb0]; unfold setL; rw [show setC l br N = 0 by simp [setC, hgb, h1, hb2], if_pos rfl, dsetL_some br (by omega) HD.out.up])
          have HE : Hid (movD br d N = d) := Lib.hid (by unfold movD; rw [if_neg hb0])
          generalize goodN nm = gd at *
          clear hh hx HX
          clear hb2 hgb hb0
          go_enter Try.func16, Try.ntmps16
          go_wp2_with fail
          refine G1.out.mono ?_
          rintro e w1 ⟨rfl, rfl⟩
          go_wp2_with fail
          refine (G2.out _).mono ?_
          rintro e w1 ⟨rfl, rfl⟩
          go_wp2_with fail
          refine G3.out.mono ?_
          rintro e w1 ⟨rfl, rfl⟩
          go_wp2_with fail
          go_region_with (first | (go_at_call 28; refine (dset_any _ B T _ l br br d N (HD.out.below (below_drewN BA.out _))).mono ?_; rintro e w2 hs2; obtain ⟨rfl, hA2⟩ := acted_set2 HD.out (below_drewN BA.out _) hs2; have HA2 := Lib.hid hA2; clear hs2 hA2) | (go_at_call 28; refine (dset_any _ B T _ l br br d N (HD.out.below BA.out)).mono ?_; rintro e w2 hs2; obtain ⟨rfl, hA2⟩ := acted_set2 HD.out BA.out hs2; have HA2 := Lib.hid hA2; clear hs2 hA2))
          all_goals go_wp2_with fail
          all_goals go_ret
          all_goals rw [HC.out, HL.out, HE.out]
          all_goals exact HA2.out
        | false =>
          rw [gix_none hb2] at G3
          by_cases b64 : 64 ≤ l.length
          · have b64i : (64 : Int) ≤ (l.length : Int) := by omega
            have HC : Hid (movC l br N = 4) := Lib.hid (by unfold movC; rw [if_neg hb0]; simp [setC, hgb, h1, hb2, b64])
            have HL : Hid (movL l br N = l) := Lib.hid (by unfold movL; rw [if_neg hb0]; simp [setL, setC, hgb, h1, hb2, b64])
            have HE : Hid (movD br d N = d) := Lib.hid (by unfold movD; rw [if_neg hb0])
            generalize goodN nm = gd at *
            clear hh hx HX
            clear hb2 hgb hb0
            go_enter Try.func16, Try.ntmps16
            go_wp2_with fail
            refine G1.out.mono ?_
            rintro e w1 ⟨rfl, rfl⟩
            go_wp2_with fail
            refine (G2.out _).mono ?_
            rintro e w1 ⟨rfl, rfl⟩
            go_wp2_with fail
            refine G3.out.mono ?_
            rintro e w1 ⟨rfl, rfl⟩
            go_wp2
            go_ret
            rw [HC.out, HL.out, HE.out]
            exact acted_same 4 HD.out ⟨BA.out.os, BA.out.tape, BA.out.output, BA.out.size, BA.out.block⟩
          · have b64i : ¬ (64 : Int) ≤ (l.length : Int) := by omega
            have HC : Hid (movC l br N = 0) := Lib.hid (by unfold movC; rw [if_neg hb0]; simp [setC, hgb, h1, hb2, b64])
            have HL : Hid (movL l br N = dsetL l br N) := Lib.hid (by unfold movL; rw [if_neg hb0]; unfold setL; rw [show setC l br N = 0 by simp [setC, hgb, h1, hb2, b64], if_pos rfl, dsetL_some br (by omega) HD.out.up])
            have HE : Hid (movD br d N = d) := Lib.hid (by unfold movD; rw [if_neg hb0])
            generalize goodN nm = gd at *
            clear hh hx HX
            clear hb2 hgb hb0
            go_enter Try.func16, Try.ntmps16
            go_wp2_with fail
            refine G1.out.mono ?_
            rintro e w1 ⟨rfl, rfl⟩
            go_wp2_with fail
            refine (G2.out _).mono ?_
            rintro e w1 ⟨rfl, rfl⟩
            go_wp2_with fail
            refine G3.out.mono ?_
            rintro e w1 ⟨rfl, rfl⟩
            go_wp2_with fail
            go_region_with (first | (go_at_call 28; refine (dset_any _ B T _ l br br d N (HD.out.below (below_drewN BA.out _))).mono ?_; rintro e w2 hs2; obtain ⟨rfl, hA2⟩ := acted_set2 HD.out (below_drewN BA.out _) hs2; have HA2 := Lib.hid hA2; clear hs2 hA2) | (go_at_call 28; refine (dset_any _ B T _ l br br d N (HD.out.below BA.out)).mono ?_; rintro e w2 hs2; obtain ⟨rfl, hA2⟩ := acted_set2 HD.out BA.out hs2; have HA2 := Lib.hid hA2; clear hs2 hA2))
            all_goals go_wp2_with fail
            all_goals go_ret
            all_goals rw [HC.out, HL.out, HE.out]
            all_goals exact HA2.out
  | false =>
    rw [gix_none hh] at G1
    by_cases h64 : 64 ≤ l.length
    · have h64i : (64 : Int) ≤ (l.length : Int) := by omega
      by_cases h1 : N < 1
      · have HC : Hid (movC l br N = 1) := Lib.hid (by rcases hbr with e | e <;> unfold movC <;> split <;> simp_all [detC, setC])
        have HL : Hid (movL l br N = l) := Lib.hid (by rcases hbr with e | e <;> unfold movL <;> split <;> simp_all [setL, setC])
        have HE : Hid (movD br d N = d) := Lib.hid (by unfold movD; split <;> simp [detD, h1])
        generalize goodN nm = gd at *
        clear hh
        go_enter Try.func16, Try.ntmps16
        go_wp2_with fail
        refine G1.out.mono ?_
        rintro e w1 ⟨rfl, rfl⟩
        go_wp2_with fail
        refine (G2.out _).mono ?_
        rintro e w1 ⟨rfl, rfl⟩
        go_wp2
        go_ret
        rw [HC.out, HL.out, HE.out]
        exact acted_same 1 HD.out ⟨BA.out.os, BA.out.tape, BA.out.output, BA.out.size, BA.out.block⟩
      · by_cases hb0 : br.size = 0
        · have HC : Hid (movC l br N = 0) := Lib.hid (by unfold movC; rw [if_pos hb0]; unfold detC; rw [if_neg h1])
          have HL : Hid (movL l br N = l) := Lib.hid (by unfold movL; rw [if_pos hb0])
          have HE : Hid (movD br d N = N) := Lib.hid (by unfold movD; rw [if_pos hb0]; unfold detD; rw [if_neg h1])
          generalize goodN nm = gd at *
          clear hh
          have eb := size_zero hb0
          subst eb
          go_enter Try.func16, Try.ntmps16
          go_wp2_with fail
          refine G1.out.mono ?_
          rintro e w1 ⟨rfl, rfl⟩
          go_wp2_with fail
          refine (G2.out _).mono ?_
          rintro e w1 ⟨rfl, rfl⟩
          go_wp2_with fail
          go_ret
          rw [HC.out, HL.out, HE.out]
          exact acted_one HD.out BA.out N
        · have hgb : goodN br = true := hbr.resolve_left hb0
          have qb := toList_ne hb0
          have qb2 : br.toList.isEmpty = false := by rw [List.isEmpty_eq_false_iff]; exact qb
          have G3 := Lib.hid (dget_any _ B T _ l br br d HA.out)
          cases hb2 : hasB l br with
          | true =>
            rw [gix_has hb2] at G3
            have kb0 : ¬ ((pos l br : Nat) : Int) < 0 := by omega
            have HC : Hid (movC l br N = 0) := Lib.hid (by unfold movC; rw [if_neg hb0]; simp [setC, hgb, h1, hb2])
            have HL : Hid (movL l br N = dsetL l br N) := Lib.hid (by unfold movL; rw [if_neg hb0]; unfold setL; rw [show setC l br N = 0 by simp [setC, hgb, h1, hb2], if_pos rfl, dsetL_some br (by omega) HD.out.up])
            have HE : Hid (movD br d N = d) := Lib.hid (by unfold movD; rw [if_neg hb0])
            generalize goodN nm = gd at *
            clear hh
            clear hb2 hgb hb0
            go_enter Try.func16, Try.ntmps16
            go_wp2_with fail
            refine G1.out.mono ?_
            rintro e w1 ⟨rfl, rfl⟩
            go_wp2_with fail
            refine (G2.out _).mono ?_
            rintro e w1 ⟨rfl, rfl⟩
            go_wp2_with fail
            refine G3.out.mono ?_
            rintro e w1 ⟨rfl, rfl⟩
            go_wp2_with fail
            go_region_with (first | (go_at_call 28; refine (dset_any _ B T _ l br br d N (HD.out.below (below_drewN BA.out _))).mono ?_; rintro e w2 hs2; obtain ⟨rfl, hA2⟩ := acted_set2 HD.out (below_drewN BA.out _) hs2; have HA2 := Lib.hid hA2; clear hs2 hA2) | (go_at_call 28; refine (dset_any _ B T _ l br br d N (HD.out.below BA.out)).mono ?_; rintro e w2 hs2; obtain ⟨rfl, hA2⟩ := acted_set2 HD.out BA.out hs2; have HA2 := Lib.hid hA2; clear hs2 hA2))
            all_goals go_wp2_with fail
            all_goals go_ret
            all_goals rw [HC.out, HL.out, HE.out]
            all_goals exact HA2.out
          | false =>
            rw [gix_none hb2] at G3
            have b64 := h64
            have HC : Hid (movC l br N = 4) := Lib.hid (by unfold movC; rw [if_neg hb0]; simp [setC, hgb, h1, hb2, b64])
            have HL : Hid (movL l br N = l) := Lib.hid (by unfold movL; rw [if_neg hb0]; simp [setL, setC, hgb, h1, hb2, b64])
            have HE : Hid (movD br d N = d) := Lib.hid (by unfold movD; rw [if_neg hb0])
            generalize goodN nm = gd at *
            clear hh
            clear hb2 hgb hb0
            go_enter Try.func16, Try.ntmps16
            go_wp2_with fail
            refine G1.out.mono ?_
            rintro e w1 ⟨rfl, rfl⟩
            go_wp2_with fail
            refine (G2.out _).mono ?_
            rintro e w1 ⟨rfl, rfl⟩
            go_wp2_with fail
            refine G3.out.mono ?_
            rintro e w1 ⟨rfl, rfl⟩
            go_wp2
            go_ret
            rw [HC.out, HL.out, HE.out]
            exact acted_same 4 HD.out ⟨BA.out.os, BA.out.tape, BA.out.output, BA.out.size, BA.out.block⟩
    · have h64i : ¬ (64 : Int) ≤ (l.length : Int) := by omega
      by_cases h1 : N < 1
      · have HC : Hid (movC l br N = 1) := Lib.hid (by rcases hbr with e | e <;> unfold movC <;> split <;> simp_all [detC, setC])
        have HL : Hid (movL l br N = l) := Lib.hid (by rcases hbr with e | e <;> unfold movL <;> split <;> simp_all [setL, setC])
        have HE : Hid (movD br d N = d) := Lib.hid (by unfold movD; split <;> simp [detD, h1])
        generalize goodN nm = gd at *
        clear hh
        go_enter Try.func16, Try.ntmps16
        go_wp2_with fail
        refine G1.out.mono ?_
        rintro e w1 ⟨rfl, rfl⟩
        go_wp2_with fail
        refine (G2.out _).mono ?_
        rintro e w1 ⟨rfl, rfl⟩
        go_wp2
        go_ret
        rw [HC.out, HL.out, HE.out]
        exact acted_same 1 HD.out ⟨BA.out.os, BA.out.tape, BA.out.output, BA.out.size, BA.out.block⟩
      · by_cases hb0 : br.size = 0
        · have HC : Hid (movC l br N = 0) := Lib.hid (by unfold movC; rw [if_pos hb0]; unfold detC; rw [if_neg h1])
          have HL : Hid (movL l br N = l) := Lib.hid (by unfold movL; rw [if_pos hb0])
          have HE : Hid (movD br d N = N) := Lib.hid (by unfold movD; rw [if_pos hb0]; unfold detD; rw [if_neg h1])
          generalize goodN nm = gd at *
          clear hh
          have eb := size_zero hb0
          subst eb
          go_enter Try.func16, Try.ntmps16
          go_wp2_with fail
          refine G1.out.mono ?_
          rintro e w1 ⟨rfl, rfl⟩
          go_wp2_with fail
          refine (G2.out _).mono ?_
          rintro e w1 ⟨rfl, rfl⟩
          go_wp2_with fail
          go_ret
          rw [HC.out, HL.out, HE.out]
          exact acted_one HD.out BA.out N
        · have hgb : goodN br = true := hbr.resolve_left hb0
          have qb := toList_ne hb0
          have qb2 : br.toList.isEmpty = false := by rw [List.isEmpty_eq_false_iff]; exact qb
          have G3 := Lib.hid (dget_any _ B T _ l br br d HA.out)
          cases hb2 : hasB l br with
          | true =>
            rw [gix_has hb2] at G3
            have kb0 : ¬ ((pos l br : Nat) : Int) < 0 := by omega
            have HC : Hid (movC l br N = 0) := Lib.hid (by unfold movC; rw [if_neg hb0]; simp [setC, hgb, h1, hb2])
            have HL : Hid (movL l br N = dsetL l br N) := Lib.hid (by unfold movL; rw [if_neg hb0]; unfold setL; rw [show setC l br N = 0 by simp [setC, hgb, h1, hb2], if_pos rfl, dsetL_some br (by omega) HD.out.up])
            have HE : Hid (movD br d N = d) := Lib.hid (by unfold movD; rw [if_neg hb0])
            generalize goodN nm = gd at *
            clear hh
            clear hb2 hgb hb0
            go_enter Try.func16, Try.ntmps16
            go_wp2_with fail
            refine G1.out.mono ?_
            rintro e w1 ⟨rfl, rfl⟩
            go_wp2_with fail
            refine (G2.out _).mono ?_
            rintro e w1 ⟨rfl, rfl⟩
            go_wp2_with fail
            refine G3.out.mono ?_
            rintro e w1 ⟨rfl, rfl⟩
            go_wp2_with fail
            go_region_with (first | (go_at_call 28; refine (dset_any _ B T _ l br br d N (HD.out.below (below_drewN BA.out _))).mono ?_; rintro e w2 hs2; obtain ⟨rfl, hA2⟩ := acted_set2 HD.out (below_drewN BA.out _) hs2; have HA2 := Lib.hid hA2; clear hs2 hA2) | (go_at_call 28; refine (dset_any _ B T _ l br br d N (HD.out.below BA.out)).mono ?_; rintro e w2 hs2; obtain ⟨rfl, hA2⟩ := acted_set2 HD.out BA.out hs2; have HA2 := Lib.hid hA2; clear hs2 hA2))
            all_goals go_wp2_with fail
            all_goals go_ret
            all_goals rw [HC.out, HL.out, HE.out]
            all_goals exact HA2.out
          | false =>
            rw [gix_none hb2] at G3
            have b64 := h64
            have HC : Hid (movC l br N = 0) := Lib.hid (by unfold movC; rw [if_neg hb0]; simp [setC, hgb, h1, hb2, b64])
            have HL : Hid (movL l br N = dsetL l br N) := Lib.hid (by unfold movL; rw [if_neg hb0]; unfold setL; rw [show setC l br N = 0 by simp [setC, hgb, h1, hb2, b64], if_pos rfl, dsetL_some br (by omega) HD.out.up])
            have HE : Hid (movD br d N = d) := Lib.hid (by unfold movD; rw [if_neg hb0])
            generalize goodN nm = gd at *
            clear hh
            clear hb2 hgb hb0
            go_enter Try.func16, Try.ntmps16
            go_wp2_with fail
            refine G1.out.mono ?_
            rintro e w1 ⟨rfl, rfl⟩
            go_wp2_with fail
            refine (G2.out _).mono ?_
            rintro e w1 ⟨rfl, rfl⟩
            go_wp2_with fail
            refine G3.out.mono ?_
            rintro e w1 ⟨rfl, rfl⟩
            go_wp2_with fail
            go_region_with (first | (go_at_call 28; refine (dset_any _ B T _ l br br d N (HD.out.below (below_drewN BA.out _))).mono ?_; rintro e w2 hs2; obtain ⟨rfl, hA2⟩ := acted_set2 HD.out (below_drewN BA.out _) hs2; have HA2 := Lib.hid hA2; clear hs2 hA2) | (go_at_call 28; refine (dset_any _ B T _ l br br d N (HD.out.below BA.out)).mono ?_; rintro e w2 hs2; obtain ⟨rfl, hA2⟩ := acted_set2 HD.out BA.out hs2; have HA2 := Lib.hid hA2; clear hs2 hA2))
            all_goals go_wp2_with fail
            all_goals go_ret
            all_goals rw [HC.out, HL.out, HE.out]
            all_goals exact HA2.out
#print axioms act_6
end Go.Proofs.Ytkhdjlakclidoaa
