/-
  The walk of LogBack.
-/
import Derived.Test.YtcfcbfpnaaeaaaaNewWalk
import Derived.Deep.DeepCutAuto
namespace Go.Proofs.Ytcfcbfpnaaeaaaa
open Go.RowKit

def oneN (x : Nat) : ByteArray := one (x : Int)
/-- The texts of the bytes lo, lo+1, .., hi-1. -/
def ones (lo hi : Nat) : List ByteArray := (List.range' lo (hi - lo)).map oneN
/-- The texts of k, k-1, .., p of them. -/
def downs (k p : Nat) : List ByteArray := (List.range p).map (fun x : Nat => oneN (k - x))

theorem ones_len (lo hi : Nat) : (ones lo hi).length = hi - lo := by simp [ones]
theorem downs_len (k p : Nat) : (downs k p).length = p := by simp [downs]
theorem ones_snoc (lo hi : Nat) (h : lo ≤ hi) : ones lo (hi + 1) = ones lo hi ++ [oneN hi] := by
  unfold ones
  rw [show hi + 1 - lo = (hi - lo) + 1 by omega, List.range'_concat, List.map_append, List.map_singleton, show lo + 1 * (hi - lo) = hi by omega]
theorem ones_none (lo : Nat) : ones lo lo = [] := by simp [ones]
theorem downs_snoc (k p : Nat) : downs k (p + 1) = downs k p ++ [oneN (k - p)] := by
  unfold downs
  rw [List.range_succ]
  simp
theorem range_drop : ∀ (d lo n : Nat), (List.range' lo n).drop d = List.range' (lo + d) (n - d)
  | 0, lo, n => by simp
  | d + 1, lo, 0 => by simp
  | d + 1, lo, n + 1 => by
    rw [List.range'_succ, List.drop_succ_cons, range_drop d (lo + 1) n, show lo + (d + 1) = lo + 1 + d by omega, show n + 1 - (d + 1) = n - d by omega]
theorem ones_drop (lo hi d : Nat) : (ones lo hi).drop d = ones (lo + d) hi := by
  unfold ones
  rw [← List.map_drop, range_drop, show hi - lo - d = hi - (lo + d) by omega]
theorem last_ones (i : Nat) : lastOf (ones (i - 64) i ++ [oneN i]) = ones (i + 1 - 64) (i + 1) := by
  rw [← ones_snoc _ _ (by omega)]
  unfold lastOf
  rw [ones_drop, ones_len, show i - 64 + (i + 1 - (i - 64) - 64) = i + 1 - 64 by omega]
theorem last_ones_few (lo hi : Nat) (h : lo ≤ hi) (h64 : hi + 1 - lo ≤ 64) : lastOf (ones lo hi ++ [oneN hi]) = ones lo (hi + 1) := by
  rw [← ones_snoc _ _ h]
  unfold lastOf
  rw [ones_drop, ones_len, show lo + (hi + 1 - lo - 64) = lo by omega]

theorem convN (W : World) (j : Int) (x : Nat) (h : j = (x : Int)) (h1 : x ≤ 255) :
    (convert 36 9 (.slice (some ⟨W.heap.size, 0, none⟩) 1 1)).run Try.prog (W.alloc (.cells #[.int .u8 j] 5)) = .ok (.string (oneN x)) (W.alloc (.cells #[.int .u8 j] 5)) := by
  subst h
  exact conv1 W x (by omega) (by omega)

set_option maxRecDepth 100000 in
set_option maxHeartbeats 1000000 in
theorem back_walk (a0 : Int) (p0 : 0 ≤ a0) (q0 : a0 ≤ 255) (w : World) : Calls Try.prog 4 #[.int .u8 a0] w (YesB w) := by
  go_enter Try.func4, Try.ntmps4
  go_wp2_with fail
  refine (known_yes w).mono ?_
  rintro e w1 ⟨rfl, hb1⟩
  have T1 := Two.new w1 (.slice none 0 0) (.slice none 0 0) 26
  have G1 := hb1.alloc hb1.size (.cells #[.slice none 0 0, .slice none 0 0] 26)
  go_wp2_with fail
  obtain ⟨k, hk, hk1⟩ : ∃ k : Nat, a0 % 100 = (k : Int) ∧ k < 100 := ⟨(a0 % 100).toNat, by omega, by omega⟩
  rw [hk]
  clear hk
  obtain ⟨b, hbd⟩ : ∃ b, b = w1.heap.size := ⟨_, rfl⟩
  rw [← hbd] at T1 ⊢
  have hbw : w.heap.size ≤ b := by rw [hbd]; exact hb1.size
  clear hbd hb1
  go_loopw [5] (fun i wr => ∃ (j : Nat) (A B : Option Addr) (m c n d : Nat), j ≤ k ∧ i = .int .i64 j ∧ Two wr b (.slice A m c) (.slice B n d) ∧ Log wr (.agg #[.slice A m c, .slice B n d]) (ones (j - 64) j) [] ∧ Below w.heap.size w wr) (fun i _ => k - (intOf i).toNat)
  case atStart => exact ⟨0, _, _, _, _, _, _, Nat.zero_le _, rfl, T1, Log.empty _, G1⟩
  case round =>
    clear T1 G1
    obtain ⟨j, A, B, m, c, n, d, hj, rfl, T, H, G⟩ := hrel
    have t0 := T.c0
    have t1 := T.c1
    by_cases hlt : j < k
    · have cv := fun W => convN W (j : Int) j rfl (by omega)
      have e0 := (Below.refl wr.heap.size wr).alloc (Nat.le_refl _) (.cells #[.int .u8 (j : Int)] 5)
      go_wp2_with fail
      refine (do_any _ _ (ones (j - 64) j) [] (oneN j) (H.below e0) (by rw [ones_len]; omega)).mono ?_
      rintro e w2 ⟨v2, rfl, hl2, hb2⟩
      obtain ⟨A2, m2, c2, B2, n2, d2, rfl⟩ := hl2.form
      have T2 := (T.below e0).below hb2
      have G2 := (G.trans (e0.mono G.size)).trans (hb2.mono (G.trans (e0.mono G.size)).size)
      rw [last_ones] at hl2
      clear T e0 hb2 t0 t1 cv
      have t0 := T2.c0
      have t1 := T2.c1
      have z0 := T2.z0
      have z1 := T2.z1
      have T3 := T2.put (.slice A2 m2 c2) (.slice B2 n2 d2)
      have H3 := Log.put T2 hl2 (.slice A2 m2 c2) (.slice B2 n2 d2)
      have G3 := (G2.setCell (p := ⟨b, 0, none⟩) hbw (.slice A2 m2 c2)).setCell (p := ⟨b, 1, none⟩) hbw (.slice B2 n2 d2)
      clear T2 hl2 G2 H G
      go_wp2
      go_roundw
      case rel => exact ⟨j + 1, A2, B2, m2, c2, n2, d2, by omega, by go_num, T3, H3, G3⟩
      case measure => simp [intOf]; omega
    · obtain rfl : j = k := by omega
      have cv := fun W => convN W (j : Int) j rfl (by omega)
      have e0 := (Below.refl wr.heap.size wr).alloc (Nat.le_refl _) (.cells #[.int .u8 (j : Int)] 5)
      replace T := T.below e0
      replace H := H.below e0
      replace G := G.trans (e0.mono G.size)
      clear e0 t0 t1
      go_upto_if 42 with fail
      go_cut [7] (fun s7 wx => ∃ M : Nat, s7 = .int .i64 M ∧ M ≤ 64 ∧ M ≤ j ∧ j - M = j - 64 ∧ wx = wr.alloc (.cells #[.int .u8 (j : Int)] 5))
      case first =>
        by_cases h64 : 64 < j
        · go_wp2_with fail
          go_meet
          exact ⟨64, rfl, by omega, by omega, rfl, rfl⟩
        · go_wp2_with fail
          go_meet
          exact ⟨j, rfl, by omega, by omega, by omega, rfl⟩
      obtain ⟨M, rfl, hM1, hM2, hM3, rfl⟩ := hcut
      clear cv
      go_wp2_with fail
      have HL : Log (wr.alloc (.cells #[.int .u8 (j : Int)] 5)) (.agg #[.slice A m c, .slice B n d]) (ones (j - M) j) (downs j 0) := by rw [hM3]; exact H
      clear H hM3
      go_loopw [6, 8] (fun now i wr => ∃ (p : Nat) (A B : Option Addr) (m c n d : Nat), p ≤ M ∧ i = .int .i64 ((p : Int) + 1) ∧ now = .string (oneN (j - p)) ∧ Two wr b (.slice A m c) (.slice B n d) ∧ Log wr (.agg #[.slice A m c, .slice B n d]) (ones (j - M) (j - p)) (downs j p) ∧ Below w.heap.size w wr) (fun _ i _ => M + 1 - (intOf i).toNat)
      case atStart => exact ⟨0, _, _, _, _, _, _, Nat.zero_le _, rfl, rfl, T, HL, G⟩
      case round =>
        clear T HL G
        obtain ⟨p, A, B, m, c, n, d, hp, rfl, rfl, T, H, G⟩ := hrel
        have t0 := T.c0
        have t1 := T.c1
        by_cases hlt2 : p < M
        · have hsn : ones (j - M) (j - p) = ones (j - M) (j - (p + 1)) ++ [oneN (j - (p + 1))] := by
            rw [← ones_snoc _ _ (by omega), show j - (p + 1) + 1 = j - p by omega]
          rw [hsn] at H
          clear hsn
          have hd1 : (ones (j - M) (j - (p + 1))).length < 1000000 := by rw [ones_len]; omega
          have hd2 : (downs j p).length < 1000000 := by rw [downs_len]; omega
          go_wp2_with fail
          refine (undo_some _ _ (ones (j - M) (j - (p + 1))) (downs j p) (oneN (j - (p + 1))) (oneN (j - p)) H hd1 hd2).mono ?_
          rintro e w2 ⟨v2, rfl, hl2, hb2⟩
          obtain ⟨A2, m2, c2, B2, n2, d2, rfl⟩ := hl2.form
          rw [← downs_snoc] at hl2
          have E2 := (Below.refl w2.heap.size w2).alloc (Nat.le_refl _) (.cells #[.slice A2 m2 c2, .slice B2 n2 d2] 26)
          have N2 := Two.new w2 (.slice A2 m2 c2) (.slice B2 n2 d2) 26
          have T2 := (T.below hb2).below E2
          have H2 := hl2.below E2
          have G2 := G.trans (hb2.mono G.size)
          replace G2 := G2.trans (E2.mono G2.size)
          clear T H G t0 t1 hl2 hb2 E2 hd1 hd2
          have t0 := T2.c0
          have t1 := T2.c1
          have z0 := T2.z0
          have z1 := T2.z1
          have n0 := N2.c0
          have n1 := N2.c1
          have cv := convN (w2.alloc (.cells #[.slice A2 m2 c2, .slice B2 n2 d2] 26)) ((j : Int) - ((p : Int) + 1)) (j - (p + 1)) (by omega) (by omega)
          rw [show (w2.alloc (.cells #[.slice A2 m2 c2, .slice B2 n2 d2] 26)).heap.size = w2.heap.size + 1 from by simp] at cv
          have e3 := (Below.refl _ (w2.alloc (.cells #[.slice A2 m2 c2, .slice B2 n2 d2] 26))).alloc (Nat.le_refl _) (.cells #[.int .u8 ((j : Int) - ((p : Int) + 1))] 5)
          have T3 := T2.below e3
          have H3 := H2.below e3
          have N3 := N2.below e3
          have G3 := G2.trans (e3.mono G2.size)
          clear T2 N2 H2 G2 e3 t0 t1 z0 z1 n0 n1
          have t0 := T3.c0
          have t1 := T3.c1
          have z0 := T3.z0
          have z1 := T3.z1
          have n0 := N3.c0
          have n1 := N3.c1
          have T4 := T3.put (.slice A2 m2 c2) (.slice B2 n2 d2)
          have H4 := Log.put T3 H3 (.slice A2 m2 c2) (.slice B2 n2 d2)
          have G4 := (G3.setCell (p := ⟨b, 0, none⟩) hbw (.slice A2 m2 c2)).setCell (p := ⟨b, 1, none⟩) hbw (.slice B2 n2 d2)
          clear T3 N3 H3 G3
          have hs0 : (0 : Int) ≤ (j : Int) - ((p : Int) + 1) := by omega
          have hs1 : (j : Int) - ((p : Int) + 1) ≤ 255 := by omega
          go_wp2
          go_roundw
          case rel => exact ⟨p + 1, A2, B2, m2, c2, n2, d2, by omega, by go_num, rfl, T4, H4, G4⟩
          case measure => simp [intOf]; omega
        · obtain rfl : M = p := by omega
          rw [ones_none] at H
          go_wp2_with fail
          refine (undo_none _ _ (downs j M) (oneN (j - M)) H).mono ?_
          rintro e w2 ⟨v2, rfl, hl2, hb2⟩
          obtain ⟨A2, m2, c2, B2, n2, d2, rfl⟩ := hl2.form
          have E2 := (Below.refl w2.heap.size w2).alloc (Nat.le_refl _) (.cells #[.slice A2 m2 c2, .slice B2 n2 d2] 26)
          have T2 := (T.below hb2).below E2
          have H2 := (H.below hb2).below E2
          rw [← ones_none (j - M)] at H2
          have G2 := G.trans (hb2.mono G.size)
          replace G2 := G2.trans (E2.mono G2.size)
          clear T H G t0 t1 hl2 hb2 E2
          go_wp2_with fail
          go_loopw [6, 15] (fun now i wr => ∃ (q : Nat) (A B : Option Addr) (m c n d : Nat), q ≤ M ∧ i = .int .i64 ((q : Int) - 1) ∧ now = .string (oneN (j - q)) ∧ Two wr b (.slice A m c) (.slice B n d) ∧ Log wr (.agg #[.slice A m c, .slice B n d]) (ones (j - M) (j - q)) (downs j q) ∧ Below w.heap.size w wr) (fun _ i _ => (intOf i + 1).toNat)
          case atStart => exact ⟨M, _, _, _, _, _, _, Nat.le_refl _, rfl, rfl, T2, H2, G2⟩
          case round =>
            clear T2 H2 G2
            obtain ⟨q, A, B, m, c, n, d, hq, rfl, rfl, T, H, G⟩ := hrel
            have t0 := T.c0
            have t1 := T.c1
            by_cases hlt3 : 0 < q
            · obtain ⟨r, rfl⟩ : ∃ r, q = r + 1 := ⟨q - 1, by omega⟩
              rw [show ((r + 1 : Nat) : Int) - 1 = (r : Int) by omega]
              rw [downs_snoc] at H
              have hd1 : (ones (j - M) (j - (r + 1))).length < 1000000 := by rw [ones_len]; omega
              have hd2 : (downs j r).length < 1000000 := by rw [downs_len]; omega
              have hr0 : (0 : Int) ≤ (r : Int) := by omega
              go_wp2_with fail
              refine (redo_some _ _ (ones (j - M) (j - (r + 1))) (downs j r) (oneN (j - r)) (oneN (j - (r + 1))) H hd1 hd2).mono ?_
              rintro e w2 ⟨v2, rfl, hl2, hb2⟩
              obtain ⟨A2, m2, c2, B2, n2, d2, rfl⟩ := hl2.form
              rw [last_ones_few _ _ (by omega) (by omega), show j - (r + 1) + 1 = j - r by omega] at hl2
              have E2 := (Below.refl w2.heap.size w2).alloc (Nat.le_refl _) (.cells #[.slice A2 m2 c2, .slice B2 n2 d2] 26)
              have N2 := Two.new w2 (.slice A2 m2 c2) (.slice B2 n2 d2) 26
              have T2 := (T.below hb2).below E2
              have H2 := hl2.below E2
              have G2 := G.trans (hb2.mono G.size)
              replace G2 := G2.trans (E2.mono G2.size)
              clear T H G t0 t1 hl2 hb2 E2 hd1 hd2
              have cv := convN (w2.alloc (.cells #[.slice A2 m2 c2, .slice B2 n2 d2] 26)) ((j : Int) - (r : Int)) (j - r) (by omega) (by omega)
              rw [show (w2.alloc (.cells #[.slice A2 m2 c2, .slice B2 n2 d2] 26)).heap.size = w2.heap.size + 1 from by simp] at cv
              have e3 := (Below.refl _ (w2.alloc (.cells #[.slice A2 m2 c2, .slice B2 n2 d2] 26))).alloc (Nat.le_refl _) (.cells #[.int .u8 ((j : Int) - (r : Int))] 5)
              have T3 := T2.below e3
              have H3 := H2.below e3
              have N3 := N2.below e3
              have G3 := G2.trans (e3.mono G2.size)
              clear T2 N2 H2 G2 e3
              have t0 := T3.c0
              have t1 := T3.c1
              have z0 := T3.z0
              have z1 := T3.z1
              have n0 := N3.c0
              have n1 := N3.c1
              have T4 := T3.put (.slice A2 m2 c2) (.slice B2 n2 d2)
              have H4 := Log.put T3 H3 (.slice A2 m2 c2) (.slice B2 n2 d2)
              have G4 := (G3.setCell (p := ⟨b, 0, none⟩) hbw (.slice A2 m2 c2)).setCell (p := ⟨b, 1, none⟩) hbw (.slice B2 n2 d2)
              clear T3 N3 H3 G3
              have hs0 : (0 : Int) ≤ (j : Int) - (r : Int) := by omega
              have hs1 : (j : Int) - (r : Int) ≤ 255 := by omega
              go_wp2
              go_roundw
              case rel => exact ⟨r, A2, B2, m2, c2, n2, d2, by omega, by go_num, rfl, T4, H4, G4⟩
              case measure => simp [intOf]
            · obtain rfl : q = 0 := by omega
              obtain ⟨e1, e2⟩ := H.lens
              rw [ones_len] at e1
              rw [downs_len] at e2
              obtain rfl : m = M := by omega
              subst e2
              clear e1
              go_wp2
              go_ret
              exact ⟨rfl, G⟩

end Go.Proofs.Ytcfcbfpnaaeaaaa
