/-
  The document's act 2: a name swapped.
-/
import Derived.Test.YtkhdjlakclidoaaNActD
namespace Go.Proofs.Ytkhdjlakclidoaa
open Go Go.RowKit
attribute [local go_sem] Oper.semAt_some

set_option maxRecDepth 100000 in
set_option maxHeartbeats 4000000 in
theorem act_2 (w : World) (B T : Nat) (v : Value) (l : List Rf) (br nm : ByteArray) (d N M : Int) (hnm : nm.size ≤ 1000000) (h : Doc w B T v l br d) (hpos : ∀ (k : Nat) (x : Rf), l[k]? = some x → 1 ≤ x.2) :
    Calls Try.prog 16 #[.pointer (some ⟨T, 0, none⟩), .agg #[.int .i64 2, .int .i64 N, .int .i64 M, .string nm]] w (Acted w B T v (swC l br nm N M) (swL l br nm N M) br d) := by
  have HD := Lib.hid h
  have HA := Lib.hid (h.alloc (.cells #[.int .i64 2, .int .i64 N, .int .i64 M, .string nm] 31))
  have BA := Lib.hid ((Below.refl w.heap.size w).alloc (Nat.le_refl _) (.cells #[.int .i64 2, .int .i64 N, .int .i64 M, .string nm] 31))
  obtain ⟨A, cap, rfl⟩ := own_form h.own
  have hfew := h.few
  have hTw : T ≠ w.heap.size := by have := h.blk.lt; omega
  obtain ⟨c0, c1, c2, f0, f1, f2⟩ := (h.alloc (.cells #[.int .i64 2, .int .i64 N, .int .i64 M, .string nm] 31)).cells
  have G1 := Lib.hid (dget_any _ B T _ l br nm d HA.out)
  have G2 := Lib.hid fun W => refGood_any nm W (by omega)
  clear h
  cases hh : hasB l nm with
  | true =>
    obtain ⟨cc, hx⟩ := has_at hh
    rw [gix_has hh] at G1
    have HX := Lib.hid hx
    have hkl : pos l nm < l.length := has_lt hh
    have k0 : ¬ ((pos l nm : Nat) : Int) < 0 := by omega
    obtain ⟨g, cap', hv, _⟩ := Own.at_ HD.out.own hx
    have hv := Lib.hid hv
    obtain ⟨rfl, rfl⟩ : A = some ⟨g, 0, none⟩ ∧ cap = cap' := by have := hv.out; injection this with a b c; exact ⟨a, c⟩
    obtain ⟨x0, x1, x2⟩ := doc_reads HD.out hx _ BA.out
    clear hv
    cases hg : goodN nm with
    | false =>
      have HC : Hid (swC l br nm N M = 5) := Lib.hid (by simp [swC, hg])
      have HL : Hid (swL l br nm N M = l) := Lib.hid (by simp [swL, hg])
      rw [hg] at G2
      clear hg hh hx HX
      go_enter Try.func16, Try.ntmps16
      go_wp2_with fail
      refine G1.out.mono ?_
      rintro e w1 ⟨rfl, rfl⟩
      go_wp2_with fail
      refine (G2.out _).mono ?_
      rintro e w1 ⟨rfl, rfl⟩
      go_wp2
      go_ret
      rw [HC.out, HL.out]
      exact acted_same 5 HD.out ⟨BA.out.os, BA.out.tape, BA.out.output, BA.out.size, BA.out.block⟩
    | true =>
      by_cases n0 : N < 0
      · have HC : Hid (swC l br nm N M = 1) := Lib.hid (by simp [swC, hg, n0])
        have HL : Hid (swL l br nm N M = l) := Lib.hid (by simp [swL, hg, n0])
        rw [hg] at G2
        clear hg hh hx HX
        go_enter Try.func16, Try.ntmps16
        go_wp2_with fail
        refine G1.out.mono ?_
        rintro e w1 ⟨rfl, rfl⟩
        go_wp2_with fail
        refine (G2.out _).mono ?_
        rintro e w1 ⟨rfl, rfl⟩
        go_wp2
        go_ret
        rw [HC.out, HL.out]
        exact acted_same 1 HD.out ⟨BA.out.os, BA.out.tape, BA.out.output, BA.out.size, BA.out.block⟩
      by_cases m0 : M < 0
      · have HC : Hid (swC l br nm N M = 1) := Lib.hid (by simp [swC, hg, n0, m0])
        have HL : Hid (swL l br nm N M = l) := Lib.hid (by simp [swL, hg, n0, m0])
        rw [hg] at G2
        clear hg hh hx HX
        go_enter Try.func16, Try.ntmps16
        go_wp2_with fail
        refine G1.out.mono ?_
        rintro e w1 ⟨rfl, rfl⟩
        go_wp2_with fail
        refine (G2.out _).mono ?_
        rintro e w1 ⟨rfl, rfl⟩
        go_wp2
        go_ret
        rw [HC.out, HL.out]
        exact acted_same 1 HD.out ⟨BA.out.os, BA.out.tape, BA.out.output, BA.out.size, BA.out.block⟩
      have hG : getC l nm = cc := by unfold getC; rw [hh, hx]; rfl
      have h1c : 1 ≤ cc := hpos _ _ hx
      by_cases hn : cc = N
      · subst hn
        by_cases mz : M = 0
        · subst mz
          by_cases hs : br = nm
          · have HC : Hid (swC l br nm cc 0 = 7) := Lib.hid (by unfold swC; rw [hg, if_pos rfl, if_neg n0, if_neg (by omega), if_pos hG, if_neg (by omega), if_pos (by omega)]; simp [delC, hh, hs])
            have HL : Hid (swL l br nm cc 0 = l) := Lib.hid (by unfold swL; rw [hg, if_pos rfl, if_neg n0, if_neg (by omega), if_pos hG, if_neg (by omega), if_pos (by omega)]; simp [delL, delC, hh, hs])
            rw [hg] at G2
            clear hg hh hx HX hG
            have q : (br.toList == nm.toList) = true := by rw [hs]; simp
            have q2 : br.toList = nm.toList := by rw [hs]
            clear hs
            go_enter Try.func16, Try.ntmps16
            go_wp2_with fail
            refine G1.out.mono ?_
            rintro e w1 ⟨rfl, rfl⟩
            go_wp2_with fail
            refine (G2.out _).mono ?_
            rintro e w1 ⟨rfl, rfl⟩
            go_wp2_with fail
            go_quiet (fail)
            go_wp2
            go_ret
            rw [HC.out, HL.out]
            exact acted_same 7 HD.out ⟨BA.out.os, BA.out.tape, BA.out.output, BA.out.size, BA.out.block⟩
          · have HC : Hid (swC l br nm cc 0 = 0) := Lib.hid (by unfold swC; rw [hg, if_pos rfl, if_neg n0, if_neg (by omega), if_pos hG, if_neg (by omega), if_pos (by omega)]; simp [delC, hh, Ne.symm hs])
            have HL : Hid (swL l br nm cc 0 = dsetL l nm 0) := Lib.hid (by unfold swL; rw [hg, if_pos rfl, if_neg n0, if_neg (by omega), if_pos hG, if_neg (by omega), if_pos (by omega)]; unfold delL; rw [show delC l nm br = 0 by simp [delC, hh, Ne.symm hs], if_pos rfl, dsetL_zero nm HD.out.up, hh, if_pos rfl])
            rw [hg] at G2
            clear hg hh hx HX hG
            have q : (br.toList == nm.toList) = false := by rw [beq_eq_false_iff_ne]; exact fun e => hs (bytes_eq e)
            have q2 : ¬ br.toList = nm.toList := fun e => hs (bytes_eq e)
            clear hs
            go_enter Try.func16, Try.ntmps16
            go_wp2_with fail
            refine G1.out.mono ?_
            rintro e w1 ⟨rfl, rfl⟩
            go_wp2_with fail
            refine (G2.out _).mono ?_
            rintro e w1 ⟨rfl, rfl⟩
            go_wp2_with fail
            go_quiet (fail)
            go_wp2_with fail
            refine (dset_any _ B T _ l br nm d 0 (HD.out.below (below_drewN BA.out _))).mono ?_
            rintro e w2 hs2
            obtain ⟨rfl, hA2⟩ := acted_set2 HD.out (below_drewN BA.out _) hs2
            have HA2 := Lib.hid hA2
            clear hs2 hA2
            go_wp2_with fail
            go_ret
            rw [HC.out, HL.out]
            exact HA2.out
        · have HC : Hid (swC l br nm cc M = 0) := Lib.hid (by unfold swC; rw [hg, if_pos rfl, if_neg n0, if_neg m0, if_pos hG, if_pos (by omega)]; simp [setC, hg, hh]; omega)
          have HL : Hid (swL l br nm cc M = dsetL l nm M) := Lib.hid (by unfold swL; rw [hg, if_pos rfl, if_neg n0, if_neg m0, if_pos hG, if_pos (by omega)]; unfold setL; rw [show setC l nm M = 0 by simp [setC, hg, hh]; omega, if_pos rfl, dsetL_some nm mz HD.out.up])
          rw [hg] at G2
          clear hg hh hx HX hG
          have qm : (M == 0) = false := by rw [beq_eq_false_iff_ne]; exact mz
          have qp : (0 : Int) < M := by omega
          clear mz
          go_enter Try.func16, Try.ntmps16
          go_wp2_with fail
          refine G1.out.mono ?_
          rintro e w1 ⟨rfl, rfl⟩
          go_wp2_with fail
          refine (G2.out _).mono ?_
          rintro e w1 ⟨rfl, rfl⟩
          go_wp2_with fail
          go_quiet (fail)
          go_wp2_with fail
          refine (dset_any _ B T _ l br nm d M (HD.out.below (below_drewN BA.out _))).mono ?_
          rintro e w2 hs2
          obtain ⟨rfl, hA2⟩ := acted_set2 HD.out (below_drewN BA.out _) hs2
          have HA2 := Lib.hid hA2
          clear hs2 hA2
          go_wp2_with fail
          go_ret
          rw [HC.out, HL.out]
          exact HA2.out
      · have HC : Hid (swC l br nm N M = 7) := Lib.hid (by unfold swC; rw [hg, if_pos rfl, if_neg n0, if_neg m0, if_neg (by rw [hG]; exact hn)])
        have HL : Hid (swL l br nm N M = l) := Lib.hid (by unfold swL; rw [hg, if_pos rfl, if_neg n0, if_neg m0, if_neg (by rw [hG]; exact hn)])
        rw [hg] at G2
        clear hg hh hx HX hG
        have qn : (cc == N) = false := by rw [beq_eq_false_iff_ne]; exact hn
        clear hn
        go_enter Try.func16, Try.ntmps16
        go_wp2_with fail
        refine G1.out.mono ?_
        rintro e w1 ⟨rfl, rfl⟩
        go_wp2_with fail
        refine (G2.out _).mono ?_
        rintro e w1 ⟨rfl, rfl⟩
        go_wp2
        go_ret
        rw [HC.out, HL.out]
        exact acted_same 7 HD.out ⟨BA.out.os, BA.out.tape, BA.out.output, BA.out.size, BA.out.block⟩
  | false =>
    rw [gix_none hh] at G1
    by_cases h64 : 64 ≤ l.length
    · have h64i : (64 : Int) ≤ (l.length : Int) := by omega
      cases hg : goodN nm with
      | false =>
        have HC : Hid (swC l br nm N M = 5) := Lib.hid (by simp [swC, hg])
        have HL : Hid (swL l br nm N M = l) := Lib.hid (by simp [swL, hg])
        rw [hg] at G2
        clear hg hh
        go_enter Try.func16, Try.ntmps16
        go_wp2_with fail
        refine G1.out.mono ?_
        rintro e w1 ⟨rfl, rfl⟩
        go_wp2_with fail
        refine (G2.out _).mono ?_
        rintro e w1 ⟨rfl, rfl⟩
        go_wp2
        go_ret
        rw [HC.out, HL.out]
        exact acted_same 5 HD.out ⟨BA.out.os, BA.out.tape, BA.out.output, BA.out.size, BA.out.block⟩
      | true =>
        by_cases n0 : N < 0
        · have HC : Hid (swC l br nm N M = 1) := Lib.hid (by simp [swC, hg, n0])
          have HL : Hid (swL l br nm N M = l) := Lib.hid (by simp [swL, hg, n0])
          rw [hg] at G2
          clear hg hh
          go_enter Try.func16, Try.ntmps16
          go_wp2_with fail
          refine G1.out.mono ?_
          rintro e w1 ⟨rfl, rfl⟩
          go_wp2_with fail
          refine (G2.out _).mono ?_
          rintro e w1 ⟨rfl, rfl⟩
          go_wp2
          go_ret
          rw [HC.out, HL.out]
          exact acted_same 1 HD.out ⟨BA.out.os, BA.out.tape, BA.out.output, BA.out.size, BA.out.block⟩
        by_cases m0 : M < 0
        · have HC : Hid (swC l br nm N M = 1) := Lib.hid (by simp [swC, hg, n0, m0])
          have HL : Hid (swL l br nm N M = l) := Lib.hid (by simp [swL, hg, n0, m0])
          rw [hg] at G2
          clear hg hh
          go_enter Try.func16, Try.ntmps16
          go_wp2_with fail
          refine G1.out.mono ?_
          rintro e w1 ⟨rfl, rfl⟩
          go_wp2_with fail
          refine (G2.out _).mono ?_
          rintro e w1 ⟨rfl, rfl⟩
          go_wp2
          go_ret
          rw [HC.out, HL.out]
          exact acted_same 1 HD.out ⟨BA.out.os, BA.out.tape, BA.out.output, BA.out.size, BA.out.block⟩
        have hG : getC l nm = 0 := by unfold getC; rw [hh]; rfl
        by_cases hn : 0 = N
        · subst hn
          by_cases mz : M = 0
          · subst mz
            have HC : Hid (swC l br nm 0 0 = 0) := Lib.hid (by unfold swC; rw [hg, if_pos rfl, if_neg n0, if_neg n0, if_pos hG, if_neg (by omega), if_neg (by omega)])
            have HL : Hid (swL l br nm 0 0 = dsetL l nm 0) := Lib.hid (by unfold swL; rw [hg, if_pos rfl, if_neg n0, if_neg n0, if_pos hG, if_neg (by omega), if_neg (by omega), dsetL_zero nm HD.out.up, hh]; rfl)
            rw [hg] at G2
            clear hg hh hG
            go_enter Try.func16, Try.ntmps16
            go_wp2_with fail
            refine G1.out.mono ?_
            rintro e w1 ⟨rfl, rfl⟩
            go_wp2_with fail
            refine (G2.out _).mono ?_
            rintro e w1 ⟨rfl, rfl⟩
            go_wp2_with fail
            go_quiet (fail)
            go_wp2_with fail
            refine (dset_any _ B T _ l br nm d 0 (HD.out.below (below_drewN BA.out _))).mono ?_
            rintro e w2 hs2
            obtain ⟨rfl, hA2⟩ := acted_set2 HD.out (below_drewN BA.out _) hs2
            have HA2 := Lib.hid hA2
            clear hs2 hA2
            go_wp2_with fail
            go_ret
            rw [HC.out, HL.out]
            exact HA2.out
          · have HC : Hid (swC l br nm 0 M = 4) := Lib.hid (by unfold swC; rw [hg, if_pos rfl, if_neg n0, if_neg m0, if_pos hG, if_pos (by omega)]; unfold setC; rw [hg, if_pos rfl, if_neg (by omega), hh, if_neg (by simp), if_pos h64])
            have HL : Hid (swL l br nm 0 M = l) := Lib.hid (by unfold swL; rw [hg, if_pos rfl, if_neg n0, if_neg m0, if_pos hG, if_pos (by omega)]; unfold setL; rw [show setC l nm M = 4 by unfold setC; rw [hg, if_pos rfl, if_neg (by omega), hh, if_neg (by simp), if_pos h64]]; rfl)
            rw [hg] at G2
            clear hg hh hG
            have qm : (M == 0) = false := by rw [beq_eq_false_iff_ne]; exact mz
            have qp : (0 : Int) < M := by omega
            clear mz
            go_enter Try.func16, Try.ntmps16
            go_wp2_with fail
            refine G1.out.mono ?_
            rintro e w1 ⟨rfl, rfl⟩
            go_wp2_with fail
            refine (G2.out _).mono ?_
            rintro e w1 ⟨rfl, rfl⟩
            go_wp2_with fail
            go_quiet (fail)
            go_wp2
            go_ret
            rw [HC.out, HL.out]
            exact acted_same 4 HD.out ⟨BA.out.os, BA.out.tape, BA.out.output, BA.out.size, BA.out.block⟩
        · have HC : Hid (swC l br nm N M = 7) := Lib.hid (by unfold swC; rw [hg, if_pos rfl, if_neg n0, if_neg m0, if_neg (by rw [hG]; exact hn)])
          have HL : Hid (swL l br nm N M = l) := Lib.hid (by unfold swL; rw [hg, if_pos rfl, if_neg n0, if_neg m0, if_neg (by rw [hG]; exact hn)])
          rw [hg] at G2
          clear hg hh hG
          have qn : ((0 : Int) == N) = false := by rw [beq_eq_false_iff_ne]; exact hn
          clear hn
          go_enter Try.func16, Try.ntmps16
          go_wp2_with fail
          refine G1.out.mono ?_
          rintro e w1 ⟨rfl, rfl⟩
          go_wp2_with fail
          refine (G2.out _).mono ?_
          rintro e w1 ⟨rfl, rfl⟩
          go_wp2
          go_ret
          rw [HC.out, HL.out]
          exact acted_same 7 HD.out ⟨BA.out.os, BA.out.tape, BA.out.output, BA.out.size, BA.out.block⟩
    · have h64i : ¬ (64 : Int) ≤ (l.length : Int) := by omega
      cases hg : goodN nm with
      | false =>
        have HC : Hid (swC l br nm N M = 5) := Lib.hid (by simp [swC, hg])
        have HL : Hid (swL l br nm N M = l) := Lib.hid (by simp [swL, hg])
        rw [hg] at G2
        clear hg hh
        go_enter Try.func16, Try.ntmps16
        go_wp2_with fail
        refine G1.out.mono ?_
        rintro e w1 ⟨rfl, rfl⟩
        go_wp2_with fail
        refine (G2.out _).mono ?_
        rintro e w1 ⟨rfl, rfl⟩
        go_wp2
        go_ret
        rw [HC.out, HL.out]
        exact acted_same 5 HD.out ⟨BA.out.os, BA.out.tape, BA.out.output, BA.out.size, BA.out.block⟩
      | true =>
        by_cases n0 : N < 0
        · have HC : Hid (swC l br nm N M = 1) := Lib.hid (by simp [swC, hg, n0])
          have HL : Hid (swL l br nm N M = l) := Lib.hid (by simp [swL, hg, n0])
          rw [hg] at G2
          clear hg hh
          go_enter Try.func16, Try.ntmps16
          go_wp2_with fail
          refine G1.out.mono ?_
          rintro e w1 ⟨rfl, rfl⟩
          go_wp2_with fail
          refine (G2.out _).mono ?_
          rintro e w1 ⟨rfl, rfl⟩
          go_wp2
          go_ret
          rw [HC.out, HL.out]
          exact acted_same 1 HD.out ⟨BA.out.os, BA.out.tape, BA.out.output, BA.out.size, BA.out.block⟩
        by_cases m0 : M < 0
        · have HC : Hid (swC l br nm N M = 1) := Lib.hid (by simp [swC, hg, n0, m0])
          have HL : Hid (swL l br nm N M = l) := Lib.hid (by simp [swL, hg, n0, m0])
          rw [hg] at G2
          clear hg hh
          go_enter Try.func16, Try.ntmps16
          go_wp2_with fail
          refine G1.out.mono ?_
          rintro e w1 ⟨rfl, rfl⟩
          go_wp2_with fail
          refine (G2.out _).mono ?_
          rintro e w1 ⟨rfl, rfl⟩
          go_wp2
          go_ret
          rw [HC.out, HL.out]
          exact acted_same 1 HD.out ⟨BA.out.os, BA.out.tape, BA.out.output, BA.out.size, BA.out.block⟩
        have hG : getC l nm = 0 := by unfold getC; rw [hh]; rfl
        by_cases hn : 0 = N
        · subst hn
          by_cases mz : M = 0
          · subst mz
            have HC : Hid (swC l br nm 0 0 = 0) := Lib.hid (by unfold swC; rw [hg, if_pos rfl, if_neg n0, if_neg n0, if_pos hG, if_neg (by omega), if_neg (by omega)])
            have HL : Hid (swL l br nm 0 0 = dsetL l nm 0) := Lib.hid (by unfold swL; rw [hg, if_pos rfl, if_neg n0, if_neg n0, if_pos hG, if_neg (by omega), if_neg (by omega), dsetL_zero nm HD.out.up, hh]; rfl)
            rw [hg] at G2
            clear hg hh hG
            go_enter Try.func16, Try.ntmps16
            go_wp2_with fail
            refine G1.out.mono ?_
            rintro e w1 ⟨rfl, rfl⟩
            go_wp2_with fail
            refine (G2.out _).mono ?_
            rintro e w1 ⟨rfl, rfl⟩
            go_wp2_with fail
            go_quiet (fail)
            go_wp2_with fail
            refine (dset_any _ B T _ l br nm d 0 (HD.out.below (below_drewN BA.out _))).mono ?_
            rintro e w2 hs2
            obtain ⟨rfl, hA2⟩ := acted_set2 HD.out (below_drewN BA.out _) hs2
            have HA2 := Lib.hid hA2
            clear hs2 hA2
            go_wp2_with fail
            go_ret
            rw [HC.out, HL.out]
            exact HA2.out
          · have HC : Hid (swC l br nm 0 M = 0) := Lib.hid (by unfold swC; rw [hg, if_pos rfl, if_neg n0, if_neg m0, if_pos hG, if_pos (by omega)]; unfold setC; rw [hg, if_pos rfl, if_neg (by omega), hh, if_neg (by simp), if_neg h64])
            have HL : Hid (swL l br nm 0 M = dsetL l nm M) := Lib.hid (by unfold swL; rw [hg, if_pos rfl, if_neg n0, if_neg m0, if_pos hG, if_pos (by omega)]; unfold setL; rw [show setC l nm M = 0 by unfold setC; rw [hg, if_pos rfl, if_neg (by omega), hh, if_neg (by simp), if_neg h64], if_pos rfl, dsetL_some nm mz HD.out.up])
            rw [hg] at G2
            clear hg hh hG
            have qm : (M == 0) = false := by rw [beq_eq_false_iff_ne]; exact mz
            have qp : (0 : Int) < M := by omega
            clear mz
            go_enter Try.func16, Try.ntmps16
            go_wp2_with fail
            refine G1.out.mono ?_
            rintro e w1 ⟨rfl, rfl⟩
            go_wp2_with fail
            refine (G2.out _).mono ?_
            rintro e w1 ⟨rfl, rfl⟩
            go_wp2_with fail
            go_quiet (fail)
            go_wp2_with fail
            refine (dset_any _ B T _ l br nm d M (HD.out.below (below_drewN BA.out _))).mono ?_
            rintro e w2 hs2
            obtain ⟨rfl, hA2⟩ := acted_set2 HD.out (below_drewN BA.out _) hs2
            have HA2 := Lib.hid hA2
            clear hs2 hA2
            go_wp2_with fail
            go_ret
            rw [HC.out, HL.out]
            exact HA2.out
        · have HC : Hid (swC l br nm N M = 7) := Lib.hid (by unfold swC; rw [hg, if_pos rfl, if_neg n0, if_neg m0, if_neg (by rw [hG]; exact hn)])
          have HL : Hid (swL l br nm N M = l) := Lib.hid (by unfold swL; rw [hg, if_pos rfl, if_neg n0, if_neg m0, if_neg (by rw [hG]; exact hn)])
          rw [hg] at G2
          clear hg hh hG
          have qn : ((0 : Int) == N) = false := by rw [beq_eq_false_iff_ne]; exact hn
          clear hn
          go_enter Try.func16, Try.ntmps16
          go_wp2_with fail
          refine G1.out.mono ?_
          rintro e w1 ⟨rfl, rfl⟩
          go_wp2_with fail
          refine (G2.out _).mono ?_
          rintro e w1 ⟨rfl, rfl⟩
          go_wp2
          go_ret
          rw [HC.out, HL.out]
          exact acted_same 7 HD.out ⟨BA.out.os, BA.out.tape, BA.out.output, BA.out.size, BA.out.block⟩
#print axioms act_2
end Go.Proofs.Ytkhdjlakclidoaa
