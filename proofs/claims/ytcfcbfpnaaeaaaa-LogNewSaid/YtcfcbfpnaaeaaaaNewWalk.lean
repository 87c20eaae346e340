/-
  The walk of LogNew.
-/
import Derived.Test.YtcfcbfpnaaeaaaaKnown
import Derived.Laws.IdiomStrings
namespace Go.Proofs.Ytcfcbfpnaaeaaaa
open Go.RowKit

abbrev sn : ByteArray := { data := #[110, 101, 119] }

/-- The text of one byte. -/
def one (j : Int) : ByteArray := ⟨#[UInt8.ofNat j.toNat]⟩

theorem conv1 (W : World) (j : Int) (h0 : 0 ≤ j) (h1 : j ≤ 255) :
    (convert 36 9 (.slice (some ⟨W.heap.size, 0, none⟩) 1 1)).run Try.prog (W.alloc (.cells #[.int .u8 j] 5)) = .ok (.string (one j)) (W.alloc (.cells #[.int .u8 j] 5)) := by
  have := run_convert_bytes_back (P := Try.prog) (W.alloc (.cells #[.int .u8 j] 5)) 36 9 5 ⟨W.heap.size, 0, none⟩ 1 [UInt8.ofNat j.toNat] Try.underlying36 Try.underlying5 Try.underlying9 (fun i hi => by
    obtain rfl : i = 0 := by simpa using hi
    have hh := heap_alloc_new W (.cells #[.int .u8 j] 5)
    have := cell_of_row _ _ 0 _ 5 (0, 0) hh
    have e : ((⟨W.heap.size, 0, none⟩ : Addr).add 0) = ⟨W.heap.size, 0, none⟩ := rfl
    rw [e, this]
    simp
    omega)
  exact this

set_option maxRecDepth 100000 in
set_option maxHeartbeats 4000000 in
theorem new_walk (a0 a1 : Int) (p0 : 0 ≤ a0) (q0 : a0 ≤ 255) (p1 : 0 ≤ a1) (q1 : a1 ≤ 255) (w : World) : Calls Try.prog 5 #[.int .u8 a0, .int .u8 a1] w (YesB w) := by
  go_enter Try.func5, Try.ntmps5
  go_wp2_with fail
  refine (known_yes w).mono ?_
  rintro e w1 ⟨rfl, hb1⟩
  have T1 := Two.new w1 (.slice none 0 0) (.slice none 0 0) 26
  have G1 := hb1.alloc hb1.size (.cells #[.slice none 0 0, .slice none 0 0] 26)
  go_wp2_with fail
  obtain ⟨k, hk, hk1, hk2⟩ : ∃ k : Nat, 1 + a0 % 30 = (k : Int) ∧ 1 ≤ k ∧ k ≤ 30 := ⟨(1 + a0 % 30).toNat, by omega, by omega, by omega⟩
  rw [hk]
  clear hk
  obtain ⟨b, hbd⟩ : ∃ b, b = w1.heap.size := ⟨_, rfl⟩
  rw [← hbd] at T1 ⊢
  have hbw : w.heap.size ≤ b := by rw [hbd]; exact hb1.size
  clear hbd hb1
  go_loopw [7] (fun i wr => ∃ (j : Nat) (A B : Option Addr) (m c n d : Nat) (L : List ByteArray), j ≤ k ∧ i = .int .i64 j ∧ L.length = j ∧ Two wr b (.slice A m c) (.slice B n d) ∧ Log wr (.agg #[.slice A m c, .slice B n d]) L [] ∧ Below w.heap.size w wr) (fun i _ => k - (intOf i).toNat)
  case atStart => exact ⟨0, _, _, _, _, _, _, [], Nat.zero_le _, rfl, rfl, T1, Log.empty _, G1⟩
  case round =>
    obtain ⟨j, A, B, m, c, n, d, L, hj, rfl, hL, T, H, G⟩ := hrel
    have t0 := T.c0
    have t1 := T.c1
    by_cases hlt : j < k
    · have cv := fun W => conv1 W (j : Int) (by omega) (by omega)
      have e0 := (Below.refl wr.heap.size wr).alloc (Nat.le_refl _) (.cells #[.int .u8 (j : Int)] 5)
      go_wp2_with fail
      refine (do_any _ _ L [] (one j) (H.below e0) (by omega)).mono ?_
      rintro e w2 ⟨v2, rfl, hl2, hb2⟩
      obtain ⟨A2, m2, c2, B2, n2, d2, rfl⟩ := hl2.form
      have T2 := (T.below e0).below hb2
      have G2 := (G.trans (e0.mono G.size)).trans (hb2.mono (G.trans (e0.mono G.size)).size)
      have hlt2 : lastOf (L ++ [one j]) = L ++ [one j] := by unfold lastOf; rw [show (L ++ [one (j : Int)]).length - 64 = 0 by simp; omega]; rfl
      rw [hlt2] at hl2
      clear T e0 hb2 hlt2 t0 t1 cv
      have t0 := T2.c0
      have t1 := T2.c1
      have z0 := T2.z0
      have z1 := T2.z1
      have T3 := T2.put (.slice A2 m2 c2) (.slice B2 n2 d2)
      have H3 := Log.put T2 hl2 (.slice A2 m2 c2) (.slice B2 n2 d2)
      have G3 := (G2.setCell (p := ⟨b, 0, none⟩) hbw (.slice A2 m2 c2)).setCell (p := ⟨b, 1, none⟩) hbw (.slice B2 n2 d2)
      clear T2 hl2 G2 H G
      go_wp2
      go_roundw
      case rel => exact ⟨j + 1, A2, B2, m2, c2, n2, d2, L ++ [one j], by omega, by go_num, by simp [hL], T3, H3, G3⟩
      case measure => simp [intOf]; omega
    · obtain rfl : j = k := by omega
      obtain ⟨m1, hm, hm2⟩ : ∃ m1 : Nat, a1 % ((j : Int) + 1) = (m1 : Int) ∧ m1 ≤ j := ⟨(a1 % ((j : Int) + 1)).toNat, by have := Int.emod_nonneg a1 (b := (j : Int) + 1) (by omega); omega, by have := Int.emod_lt_of_pos a1 (b := (j : Int) + 1) (by omega); omega⟩
      clear t0 t1
      go_wp2_with fail
      rw [hm]
      clear hm
      go_loopw [9] (fun i wr => ∃ (q : Nat) (A B : Option Addr) (m c n d : Nat) (L F : List ByteArray), q ≤ m1 ∧ i = .int .i64 q ∧ L.length = j - q ∧ F.length = q ∧ Two wr b (.slice A m c) (.slice B n d) ∧ Log wr (.agg #[.slice A m c, .slice B n d]) L F ∧ Below w.heap.size w wr) (fun i _ => m1 - (intOf i).toNat)
      case atStart => exact ⟨0, _, _, _, _, _, _, _, [], Nat.zero_le _, rfl, by omega, rfl, T, H, G⟩
      case round =>
        clear T H G
        obtain ⟨q, A', B', m', c', n', d', L', F', hq, rfl, hL', hF', T, H, G⟩ := hrel
        have t0 := T.c0
        have t1 := T.c1
        by_cases hlt2 : q < m1
        · obtain ⟨L1, x, rfl⟩ : ∃ L1 x, L' = L1 ++ [x] := ⟨L'.dropLast, L'.getLast (by intro h; rw [h] at hL'; simp at hL'; omega), (List.dropLast_concat_getLast _).symm⟩
          go_wp2_with fail
          refine (undo_some _ _ L1 F' x _ H (by simp at hL'; omega) (by omega)).mono ?_
          rintro e w2 ⟨v2, rfl, hl2, hb2⟩
          obtain ⟨A2, m2, c2, B2, n2, d2, rfl⟩ := hl2.form
          have E2 := (Below.refl w2.heap.size w2).alloc (Nat.le_refl _) (.cells #[.slice A2 m2 c2, .slice B2 n2 d2] 26)
          have N2 := Two.new w2 (.slice A2 m2 c2) (.slice B2 n2 d2) 26
          have T2 := (T.below hb2).below E2
          have H2 := hl2.below E2
          have G2 := G.trans (hb2.mono G.size)
          replace G2 := G2.trans (E2.mono G2.size)
          clear T H G t0 t1 hl2 hb2 E2
          have t0 := T2.c0
          have t1 := T2.c1
          have z0 := T2.z0
          have z1 := T2.z1
          have n0 := N2.c0
          have n1 := N2.c1
          have T3 := T2.put (.slice A2 m2 c2) (.slice B2 n2 d2)
          have H3 := Log.put T2 H2 (.slice A2 m2 c2) (.slice B2 n2 d2)
          have G3 := (G2.setCell (p := ⟨b, 0, none⟩) hbw (.slice A2 m2 c2)).setCell (p := ⟨b, 1, none⟩) hbw (.slice B2 n2 d2)
          clear T2 N2 H2 G2
          go_wp2
          go_roundw
          case rel => exact ⟨q + 1, A2, B2, m2, c2, n2, d2, L1, _, by omega, by go_num, by simp at hL'; omega, by simp [hF'], T3, H3, G3⟩
          case measure => simp [intOf]; omega
        · obtain rfl : q = m1 := by omega
          obtain ⟨t, rfl⟩ : ∃ t, j = q + t := ⟨j - q, by omega⟩
          have hLt : L'.length = t := by omega
          have HL := Lib.hid hLt
          clear hL' hLt hL hF'
          have htl : t < 1000000 := by omega
          have h64 : (L' ++ [sn]).length ≤ 64 := by have := HL.out; simp; omega
          go_wp2_with fail
          refine (do_any _ _ L' F' sn H (by have := HL.out; omega)).mono ?_
          rintro e w2 ⟨v2, rfl, hl2, hb2⟩
          obtain ⟨A2, m2, c2, B2, n2, d2, rfl⟩ := hl2.form
          have hlast : lastOf (L' ++ [sn]) = L' ++ [sn] := by unfold lastOf; rw [show (L' ++ [sn]).length - 64 = 0 by omega]; rfl
          rw [hlast] at hl2
          obtain ⟨e1, rfl⟩ := hl2.lens
          obtain rfl : m2 = t + 1 := by rw [e1]; have := HL.out; simp [this]
          have T2 := T.below hb2
          have G2 := G.trans (hb2.mono G.size)
          clear T H G t0 t1 hb2 hlast e1 h64
          have t0 := T2.c0
          have t1 := T2.c1
          have z0 := T2.z0
          have z1 := T2.z1
          have T3 := T2.put (.slice A2 (t + 1) c2) (.slice B2 0 d2)
          have H3 : Log _ _ (L' ++ [sn]) [] := Log.put T2 hl2 (.slice A2 (t + 1) c2) (.slice B2 0 d2)
          have G3 := (G2.setCell (p := ⟨b, 0, none⟩) hbw (.slice A2 (t + 1) c2)).setCell (p := ⟨b, 1, none⟩) hbw (.slice B2 0 d2)
          clear T2 hl2 G2
          go_wp2_with fail
          refine (redo_none _ _ (L' ++ [sn]) _ H3).mono ?_
          rintro e w4 ⟨v4, rfl, hl4, hb4⟩
          obtain ⟨A4, m4, c4, B4, n4, d4, rfl⟩ := hl4.form
          have E4 := (Below.refl w4.heap.size w4).alloc (Nat.le_refl _) (.cells #[.slice A4 m4 c4, .slice B4 n4 d4] 26)
          replace T3 := (T3.below hb4).below E4
          replace H3 := (H3.below hb4).below E4
          replace G3 := G3.trans (hb4.mono G3.size)
          replace G3 := G3.trans (E4.mono G3.size)
          clear t0 t1 z0 z1 hb4 hl4 E4
          have t0 := T3.c0
          have t1 := T3.c1
          go_wp2_with fail
          refine (undo_some _ _ L' [] sn _ H3 (by have := HL.out; omega) (by simp)).mono ?_
          rintro e w5 ⟨v5, rfl, hl5, hb5⟩
          obtain ⟨A5, m5, c5, B5, n5, d5, rfl⟩ := hl5.form
          have E5 := (Below.refl w5.heap.size w5).alloc (Nat.le_refl _) (.cells #[.slice A5 m5 c5, .slice B5 n5 d5] 26)
          replace T3 := (T3.below hb5).below E5
          replace G3 := G3.trans (hb5.mono G3.size)
          replace G3 := G3.trans (E5.mono G3.size)
          clear t0 t1 hb5 hl5 E5 H3
          have t0 := T3.c0
          have t1 := T3.c1
          have ew : IntKind.i64.wrap ((q : Int) + (t : Int) - (q : Int)) = (t : Int) := by rw [show (q : Int) + (t : Int) - (q : Int) = (t : Int) by omega, IntKind.wrap_i64]; omega
          go_wp2
          go_ret
          exact ⟨rfl, G3⟩

end Go.Proofs.Ytcfcbfpnaaeaaaa
