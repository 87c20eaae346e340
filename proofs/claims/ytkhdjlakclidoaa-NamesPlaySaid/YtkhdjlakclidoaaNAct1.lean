/-
  The document's act 1: a name set.
-/
import Derived.Test.YtkhdjlakclidoaaNActC
namespace Go.Proofs.Ytkhdjlakclidoaa
open Go Go.RowKit
attribute [local go_sem] Oper.semAt_some

set_option maxRecDepth 100000 in
set_option maxHeartbeats 4000000 in
theorem act_1 (w : World) (B T : Nat) (v : Value) (l : List Rf) (br nm : ByteArray) (d N M : Int) (hnm : nm.size ≤ 1000000) (h : Doc w B T v l br d) :
    Calls Try.prog 16 #[.pointer (some ⟨T, 0, none⟩), .agg #[.int .i64 1, .int .i64 N, .int .i64 M, .string nm]] w (Acted w B T v (setC l nm N) (setL l nm N) br d) := by
  have HD := Lib.hid h
  have HA := Lib.hid (h.alloc (.cells #[.int .i64 1, .int .i64 N, .int .i64 M, .string nm] 31))
  have BA := Lib.hid ((Below.refl w.heap.size w).alloc (Nat.le_refl _) (.cells #[.int .i64 1, .int .i64 N, .int .i64 M, .string nm] 31))
  obtain ⟨A, cap, rfl⟩ := own_form h.own
  have hfew := h.few
  have hTw : T ≠ w.heap.size := by have := h.blk.lt; omega
  obtain ⟨c0, c1, c2, f0, f1, f2⟩ := (h.alloc (.cells #[.int .i64 1, .int .i64 N, .int .i64 M, .string nm] 31)).cells
  have G1 := Lib.hid (dget_any _ B T _ l br nm d HA.out)
  have G2 := Lib.hid fun W => refGood_any nm W (by omega)
  clear h
  cases hh : hasB l nm with
  | true =>
    obtain ⟨cc, hx⟩ := has_at hh
    rw [gix_has hh] at G1
    have HX := Lib.hid hx
    have hkl : pos l nm < l.length := has_lt hh
    have k0 : ¬ ((pos l nm : Nat) : Int) < 0 := by omega
    cases hg : goodN nm with
    | false =>
      have HC : Hid (setC l nm N = 5) := Lib.hid (by simp [setC, hg])
      have HL : Hid (setL l nm N = l) := Lib.hid (by simp [setL, setC, hg])
      rw [hg] at G2
      clear hg hh hx HX
      go_enter Try.func16, Try.ntmps16
      go_wp2_with fail
      refine G1.out.mono ?_
      rintro e w1 ⟨rfl, rfl⟩
      go_wp2_with fail
      refine (G2.out _).mono ?_
      rintro e w1 ⟨rfl, rfl⟩
      go_wp2
      go_ret
      rw [HC.out, HL.out]
      exact acted_same 5 HD.out ⟨BA.out.os, BA.out.tape, BA.out.output, BA.out.size, BA.out.block⟩
    | true =>
      by_cases h1 : N < 1
      · have HC : Hid (setC l nm N = 1) := Lib.hid (by simp [setC, hg, h1])
        have HL : Hid (setL l nm N = l) := Lib.hid (by simp [setL, setC, hg, h1])
        rw [hg] at G2
        clear hg hh hx HX
        go_enter Try.func16, Try.ntmps16
        go_wp2_with fail
        refine G1.out.mono ?_
        rintro e w1 ⟨rfl, rfl⟩
        go_wp2_with fail
        refine (G2.out _).mono ?_
        rintro e w1 ⟨rfl, rfl⟩
        go_wp2
        go_ret
        rw [HC.out, HL.out]
        exact acted_same 1 HD.out ⟨BA.out.os, BA.out.tape, BA.out.output, BA.out.size, BA.out.block⟩
      · have HC : Hid (setC l nm N = 0) := Lib.hid (by simp [setC, hg, h1, hh])
        have HL : Hid (setL l nm N = dsetL l nm N) := Lib.hid (by unfold setL; rw [HC.out, if_pos rfl, dsetL_some nm (by omega) HD.out.up])
        rw [hg] at G2
        clear hg hh hx HX
        go_enter Try.func16, Try.ntmps16
        go_wp2_with fail
        refine G1.out.mono ?_
        rintro e w1 ⟨rfl, rfl⟩
        go_wp2_with fail
        refine (G2.out _).mono ?_
        rintro e w1 ⟨rfl, rfl⟩
        go_wp2_with fail
        refine (dset_any _ B T _ l br nm d N (HD.out.below ⟨BA.out.os, BA.out.tape, BA.out.output, BA.out.size, BA.out.block⟩)).mono ?_
        rintro e w2 hs2
        obtain ⟨rfl, hA2⟩ := acted_set2 HD.out ⟨BA.out.os, BA.out.tape, BA.out.output, BA.out.size, BA.out.block⟩ hs2
        have HA2 := Lib.hid hA2
        clear hs2 hA2
        go_wp2_with fail
        go_ret
        rw [HC.out, HL.out]
        exact HA2.out
  | false =>
    rw [gix_none hh] at G1
    by_cases h64 : 64 ≤ l.length
    · have h64i : (64 : Int) ≤ (l.length : Int) := by omega
      cases hg : goodN nm with
      | false =>
        have HC : Hid (setC l nm N = 5) := Lib.hid (by simp [setC, hg])
        have HL : Hid (setL l nm N = l) := Lib.hid (by simp [setL, setC, hg])
        rw [hg] at G2
        clear hg hh
        go_enter Try.func16, Try.ntmps16
        go_wp2_with fail
        refine G1.out.mono ?_
        rintro e w1 ⟨rfl, rfl⟩
        go_wp2_with fail
        refine (G2.out _).mono ?_
        rintro e w1 ⟨rfl, rfl⟩
        go_wp2
        go_ret
        rw [HC.out, HL.out]
        exact acted_same 5 HD.out ⟨BA.out.os, BA.out.tape, BA.out.output, BA.out.size, BA.out.block⟩
      | true =>
        by_cases h1 : N < 1
        · have HC : Hid (setC l nm N = 1) := Lib.hid (by simp [setC, hg, h1])
          have HL : Hid (setL l nm N = l) := Lib.hid (by simp [setL, setC, hg, h1])
          rw [hg] at G2
          clear hg hh
          go_enter Try.func16, Try.ntmps16
          go_wp2_with fail
          refine G1.out.mono ?_
          rintro e w1 ⟨rfl, rfl⟩
          go_wp2_with fail
          refine (G2.out _).mono ?_
          rintro e w1 ⟨rfl, rfl⟩
          go_wp2
          go_ret
          rw [HC.out, HL.out]
          exact acted_same 1 HD.out ⟨BA.out.os, BA.out.tape, BA.out.output, BA.out.size, BA.out.block⟩
        · have HC : Hid (setC l nm N = 4) := Lib.hid (by simp [setC, hg, h1, hh, h64])
          have HL : Hid (setL l nm N = l) := Lib.hid (by simp [setL, setC, hg, h1, hh, h64])
          rw [hg] at G2
          clear hg hh
          go_enter Try.func16, Try.ntmps16
          go_wp2_with fail
          refine G1.out.mono ?_
          rintro e w1 ⟨rfl, rfl⟩
          go_wp2_with fail
          refine (G2.out _).mono ?_
          rintro e w1 ⟨rfl, rfl⟩
          go_wp2
          go_ret
          rw [HC.out, HL.out]
          exact acted_same 4 HD.out ⟨BA.out.os, BA.out.tape, BA.out.output, BA.out.size, BA.out.block⟩
    · have h64i : ¬ (64 : Int) ≤ (l.length : Int) := by omega
      cases hg : goodN nm with
      | false =>
        have HC : Hid (setC l nm N = 5) := Lib.hid (by simp [setC, hg])
        have HL : Hid (setL l nm N = l) := Lib.hid (by simp [setL, setC, hg])
        rw [hg] at G2
        clear hg hh
        go_enter Try.func16, Try.ntmps16
        go_wp2_with fail
        refine G1.out.mono ?_
        rintro e w1 ⟨rfl, rfl⟩
        go_wp2_with fail
        refine (G2.out _).mono ?_
        rintro e w1 ⟨rfl, rfl⟩
        go_wp2
        go_ret
        rw [HC.out, HL.out]
        exact acted_same 5 HD.out ⟨BA.out.os, BA.out.tape, BA.out.output, BA.out.size, BA.out.block⟩
      | true =>
        by_cases h1 : N < 1
        · have HC : Hid (setC l nm N = 1) := Lib.hid (by simp [setC, hg, h1])
          have HL : Hid (setL l nm N = l) := Lib.hid (by simp [setL, setC, hg, h1])
          rw [hg] at G2
          clear hg hh
          go_enter Try.func16, Try.ntmps16
          go_wp2_with fail
          refine G1.out.mono ?_
          rintro e w1 ⟨rfl, rfl⟩
          go_wp2_with fail
          refine (G2.out _).mono ?_
          rintro e w1 ⟨rfl, rfl⟩
          go_wp2
          go_ret
          rw [HC.out, HL.out]
          exact acted_same 1 HD.out ⟨BA.out.os, BA.out.tape, BA.out.output, BA.out.size, BA.out.block⟩
        · have HC : Hid (setC l nm N = 0) := Lib.hid (by simp [setC, hg, h1, hh, h64])
          have HL : Hid (setL l nm N = dsetL l nm N) := Lib.hid (by unfold setL; rw [HC.out, if_pos rfl, dsetL_some nm (by omega) HD.out.up])
          rw [hg] at G2
          clear hg hh
          go_enter Try.func16, Try.ntmps16
          go_wp2_with fail
          refine G1.out.mono ?_
          rintro e w1 ⟨rfl, rfl⟩
          go_wp2_with fail
          refine (G2.out _).mono ?_
          rintro e w1 ⟨rfl, rfl⟩
          go_wp2_with fail
          refine (dset_any _ B T _ l br nm d N (HD.out.below ⟨BA.out.os, BA.out.tape, BA.out.output, BA.out.size, BA.out.block⟩)).mono ?_
          rintro e w2 hs2
          obtain ⟨rfl, hA2⟩ := acted_set2 HD.out ⟨BA.out.os, BA.out.tape, BA.out.output, BA.out.size, BA.out.block⟩ hs2
          have HA2 := Lib.hid hA2
          clear hs2 hA2
          go_wp2_with fail
          go_ret
          rw [HC.out, HL.out]
          exact HA2.out
#print axioms act_1
end Go.Proofs.Ytkhdjlakclidoaa
