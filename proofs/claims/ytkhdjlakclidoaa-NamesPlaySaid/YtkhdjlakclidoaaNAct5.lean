/-
  The document's act 5: Head at a commit.
-/
import Derived.Test.YtkhdjlakclidoaaNActD
namespace Go.Proofs.Ytkhdjlakclidoaa
open Go Go.RowKit
attribute [local go_sem] Oper.semAt_some

set_option maxRecDepth 100000 in
set_option maxHeartbeats 4000000 in
theorem act_5 (w : World) (B T : Nat) (v : Value) (l : List Rf) (br nm : ByteArray) (d N M : Int) (hnm : nm.size ≤ 1000000) (h : Doc w B T v l br d) :
    Calls Try.prog 16 #[.pointer (some ⟨T, 0, none⟩), .agg #[.int .i64 5, .int .i64 N, .int .i64 M, .string nm]] w (Acted w B T v (detC N) l (detB br N) (detD d N)) := by
  have HD := Lib.hid h
  have HA := Lib.hid (h.alloc (.cells #[.int .i64 5, .int .i64 N, .int .i64 M, .string nm] 31))
  have BA := Lib.hid ((Below.refl w.heap.size w).alloc (Nat.le_refl _) (.cells #[.int .i64 5, .int .i64 N, .int .i64 M, .string nm] 31))
  obtain ⟨A, cap, rfl⟩ := own_form h.own
  have hfew := h.few
  have hTw : T ≠ w.heap.size := by have := h.blk.lt; omega
  obtain ⟨c0, c1, c2, f0, f1, f2⟩ := (h.alloc (.cells #[.int .i64 5, .int .i64 N, .int .i64 M, .string nm] 31)).cells
  have G1 := Lib.hid (dget_any _ B T _ l br nm d HA.out)
  have G2 := Lib.hid fun W => refGood_any nm W (by omega)
  clear h
  cases hh : hasB l nm with
  | true =>
    obtain ⟨cc, hx⟩ := has_at hh
    rw [gix_has hh] at G1
    have HX := Lib.hid hx
    have hkl : pos l nm < l.length := has_lt hh
    have k0 : ¬ ((pos l nm : Nat) : Int) < 0 := by omega
    by_cases h1 : N < 1
    · have HC : Hid (detC N = 1) := Lib.hid (by simp [detC, h1])
      have HB : Hid (detB br N = br) := Lib.hid (by simp [detB, h1])
      have HE : Hid (detD d N = d) := Lib.hid (by simp [detD, h1])
      generalize goodN nm = gd at *
      clear hh hx HX
      go_enter Try.func16, Try.ntmps16
      go_wp2_with fail
      refine G1.out.mono ?_
      rintro e w1 ⟨rfl, rfl⟩
      go_wp2_with fail
      refine (G2.out _).mono ?_
      rintro e w1 ⟨rfl, rfl⟩
      go_wp2
      go_ret
      rw [HC.out, HB.out, HE.out]
      exact acted_same 1 HD.out ⟨BA.out.os, BA.out.tape, BA.out.output, BA.out.size, BA.out.block⟩
    · have HC : Hid (detC N = 0) := Lib.hid (by simp [detC, h1])
      have HB : Hid (detB br N = ⟨#[]⟩) := Lib.hid (by simp [detB, h1])
      have HE : Hid (detD d N = N) := Lib.hid (by simp [detD, h1])
      generalize goodN nm = gd at *
      clear hh hx HX
      go_enter Try.func16, Try.ntmps16
      go_wp2_with fail
      refine G1.out.mono ?_
      rintro e w1 ⟨rfl, rfl⟩
      go_wp2_with fail
      refine (G2.out _).mono ?_
      rintro e w1 ⟨rfl, rfl⟩
      go_wp2_with fail
      go_ret
      rw [HC.out, HB.out, HE.out]
      exact acted_stored HD.out BA.out ⟨#[]⟩ N
  | false =>
    rw [gix_none hh] at G1
    by_cases h64 : 64 ≤ l.length
    · have h64i : (64 : Int) ≤ (l.length : Int) := by omega
      by_cases h1 : N < 1
      · have HC : Hid (detC N = 1) := Lib.hid (by simp [detC, h1])
        have HB : Hid (detB br N = br) := Lib.hid (by simp [detB, h1])
        have HE : Hid (detD d N = d) := Lib.hid (by simp [detD, h1])
        generalize goodN nm = gd at *
        clear hh
        go_enter Try.func16, Try.ntmps16
        go_wp2_with fail
        refine G1.out.mono ?_
        rintro e w1 ⟨rfl, rfl⟩
        go_wp2_with fail
        refine (G2.out _).mono ?_
        rintro e w1 ⟨rfl, rfl⟩
        go_wp2
        go_ret
        rw [HC.out, HB.out, HE.out]
        exact acted_same 1 HD.out ⟨BA.out.os, BA.out.tape, BA.out.output, BA.out.size, BA.out.block⟩
      · have HC : Hid (detC N = 0) := Lib.hid (by simp [detC, h1])
        have HB : Hid (detB br N = ⟨#[]⟩) := Lib.hid (by simp [detB, h1])
        have HE : Hid (detD d N = N) := Lib.hid (by simp [detD, h1])
        generalize goodN nm = gd at *
        clear hh
        go_enter Try.func16, Try.ntmps16
        go_wp2_with fail
        refine G1.out.mono ?_
        rintro e w1 ⟨rfl, rfl⟩
        go_wp2_with fail
        refine (G2.out _).mono ?_
        rintro e w1 ⟨rfl, rfl⟩
        go_wp2_with fail
        go_ret
        rw [HC.out, HB.out, HE.out]
        exact acted_stored HD.out BA.out ⟨#[]⟩ N
    · have h64i : ¬ (64 : Int) ≤ (l.length : Int) := by omega
      by_cases h1 : N < 1
      · have HC : Hid (detC N = 1) := Lib.hid (by simp [detC, h1])
        have HB : Hid (detB br N = br) := Lib.hid (by simp [detB, h1])
        have HE : Hid (detD d N = d) := Lib.hid (by simp [detD, h1])
        generalize goodN nm = gd at *
        clear hh
        go_enter Try.func16, Try.ntmps16
        go_wp2_with fail
        refine G1.out.mono ?_
        rintro e w1 ⟨rfl, rfl⟩
        go_wp2_with fail
        refine (G2.out _).mono ?_
        rintro e w1 ⟨rfl, rfl⟩
        go_wp2
        go_ret
        rw [HC.out, HB.out, HE.out]
        exact acted_same 1 HD.out ⟨BA.out.os, BA.out.tape, BA.out.output, BA.out.size, BA.out.block⟩
      · have HC : Hid (detC N = 0) := Lib.hid (by simp [detC, h1])
        have HB : Hid (detB br N = ⟨#[]⟩) := Lib.hid (by simp [detB, h1])
        have HE : Hid (detD d N = N) := Lib.hid (by simp [detD, h1])
        generalize goodN nm = gd at *
        clear hh
        go_enter Try.func16, Try.ntmps16
        go_wp2_with fail
        refine G1.out.mono ?_
        rintro e w1 ⟨rfl, rfl⟩
        go_wp2_with fail
        refine (G2.out _).mono ?_
        rintro e w1 ⟨rfl, rfl⟩
        go_wp2_with fail
        go_ret
        rw [HC.out, HB.out, HE.out]
        exact acted_stored HD.out BA.out ⟨#[]⟩ N
#print axioms act_5
end Go.Proofs.Ytkhdjlakclidoaa
