/-
  The document's Int.
-/
import Derived.Test.YtpkikibcfkdodaaDoorKClone
namespace Go.Proofs.YtpkikibcfkdodaaDoor
open Go Go.RowKit

theorem pow_step {x n : Nat} (h128 : ¬ x < 128) (h : x < 2 ^ (7 * (10 - n)) ∧ n ≤ 10) : x / 128 < 2 ^ (7 * (10 - (n + 1))) ∧ n + 1 ≤ 10 := by
  obtain ⟨p1, p2⟩ := h
  rcases Nat.lt_or_ge n 10 with h | h
  · refine ⟨?_, by omega⟩
    rw [show 7 * (10 - n) = 7 * (10 - (n + 1)) + 7 by omega, Nat.pow_add] at p1
    exact Nat.div_lt_of_lt_mul (by omega)
  · rw [show 7 * (10 - n) = 0 by omega] at p1; simp at p1; omega
theorem zz_ref_neg {n : Int} (h : -9223372036854775808 ≤ n ∧ n ≤ 9223372036854775807) (h0 : n < 0) : bits .or .u64 (IntKind.u64.wrap (IntKind.u64.wrap (wrap64 (-wrap64 (n + 1))) * 2)) 1 = (zz n : Int) := by
  have e1 : wrap64 (n + 1) = n + 1 := IntWalk.wrap64_in _ (by omega)
  have e2 : wrap64 (-(n + 1)) = -(n + 1) := IntWalk.wrap64_in _ (by omega)
  obtain ⟨m, hm⟩ : ∃ m : Nat, (m : Int) = -(n + 1) * 2 := ⟨(-(n + 1) * 2).toNat, by omega⟩
  rw [e1, e2, IntKind.wrap_u64, IntKind.wrap_u64, show -(n + 1) % 18446744073709551616 * 2 % 18446744073709551616 = (m : Int) by omega, u64_or1 m (by omega) (by omega), zz_neg (by omega)]
  omega
theorem zz_ref_pos {n : Int} (h : -9223372036854775808 ≤ n ∧ n ≤ 9223372036854775807) (h0 : ¬ n < 0) : IntKind.u64.wrap (IntKind.u64.wrap n * 2) = (zz n : Int) := by
  rw [IntKind.wrap_u64, IntKind.wrap_u64, zz_pos (by omega)]
  omega

set_option maxRecDepth 100000 in
set_option maxHeartbeats 4000000 in
theorem refInt_any (w : World) (n : Int) (hn : -9223372036854775808 ≤ n ∧ n ≤ 9223372036854775807) : Calls Tryd.prog 24 #[.int .i64 n] w (Cloned (encI n) w) := by
  obtain ⟨i0, hi0, hz0, hz1, hz2⟩ := info_parts byteInfo
  have HN := Lib.hid hn
  clear hn
  unfold encI
  by_cases h0 : n < 0
  · go_enter Tryd.func24, Tryd.ntmps24
    go_wp2_with fail
    rw [zz_ref_neg HN.out h0]
    have HU := Lib.hid (zz_lt HN.out.1 HN.out.2)
    generalize zz n = u at *
    go_loopw [3, 4] (fun s3 s4 wr => ∃ (x : Nat) (l2 : List UInt8) (m : Nat), s3 = .int .u64 x ∧ Hid (x < 18446744073709551616) ∧ Hid (l2 ++ enc x = enc u) ∧ Hid (l2.length = m) ∧ Hid (x < 2 ^ (7 * (10 - m)) ∧ m ≤ 10) ∧ BOwn wr w.heap.size s4 l2 ∧ Below w.heap.size w wr) (fun s3 _ _ => (intOf s3).toNat)
    case atStart => exact ⟨u, [], 0, rfl, HU, Lib.hid rfl, Lib.hid rfl, Lib.hid ⟨Nat.lt_trans HU.out (by decide), by omega⟩, World.ownsRow_nil _ _ _ _, Below.refl _ _⟩
    case round =>
      obtain ⟨x, l2, m, rfl, HX, hL, hM, HP, ho, hb⟩ := hrel
      have x0 : (0 : Int) ≤ (x : Int) := Int.natCast_nonneg _
      obtain ⟨A, c, rfl⟩ := own_form ho
      have HO := Lib.hid ho
      have HB := Lib.hid hb
      have hl2 : l2.length ≤ 10 := by have := hM.out; have := HP.out.2; omega
      have hBs := hb.size
      clear ho hb
      by_cases h128 : x < 128
      · have b1 : ¬ (128 : Int) ≤ (x : Int) := by omega
        have hy : x < 256 := by omega
        go_wp2_with (at_builtin; refine wpList_append_own_at _ rfl _ _ 39 rfl w.heap.size 5 i0 _ 1 1 Tryd.underlying39 hi0 hz0 hz1 hz2 rfl (by decide) _ _ _ rfl (HO.out.alloc _) ⟨wr.heap.size, 0, none⟩ 1 1 [.int .u8 (x : Int)] rfl rfl ?a1 ?a2 ?a3 ?a4 ?a5 ?_)
        try case a1 => exact World.news_of_block (heap_alloc_new wr _)
        case a2 => first | rfl | (intro u hu; simp at hu; rcases hu with rfl; rfl)
        case a3 => unfold maxLen; omega
        case a4 => omega
        case a5 => first | exact hBs | omega | (simp; omega)
        intro v3 w3 hown3 hg3 _ hat3
        have HF : Hid (BOwn w3 w.heap.size v3 (enc u)) := Lib.hid (by
          rw [byte_cell hy] at hown3
          have : BOwn w3 w.heap.size v3 (l2 ++ [UInt8.ofNat x]) := by
            show w3.ownsRow _ 5 1 v3 _ (Lib.byteCells _)
            rw [List.length_append, Lib.byteCells_append]; exact hown3
          rw [← hL.out, enc_small h128]; exact this)
        have HB3 := Lib.hid ((HB.out.alloc HB.out.size _).grown hg3 (by simp; omega) fun z hz => (HO.out.lt z hz).1)
        clear hown3 hg3 hat3
        go_wp2_with fail
        go_ret
        exact ⟨v3, rfl, HF.out, HB3.out⟩
      · have b1 : (128 : Int) ≤ (x : Int) := by omega
        obtain ⟨y, hyx⟩ : ∃ y, y = x % 128 + 128 := ⟨_, rfl⟩
        have hy : y < 256 := by omega
        have hy2 : (y : Int) < 256 := by omega
        have hy3 : (0 : Int) ≤ (y : Int) := by omega
        have hb0 : bits .and .u64 (x : Int) 127 = ((x % 128 : Nat) : Int) := u64_and127 x HX.out
        have hb1 : bits .or .u64 ((x % 128 : Nat) : Int) 128 = (y : Int) := by rw [u64_or128 _ (by omega), hyx]
        have hm : x % 128 < 128 := by omega
        obtain ⟨z, hz⟩ : ∃ z, z = x % 128 := ⟨_, rfl⟩
        rw [← hz] at hb0 hb1
        have HY := Lib.hid hyx
        clear hyx hm hz
        go_wp2_with (at_builtin; refine wpList_append_own_at _ rfl _ _ 39 rfl w.heap.size 5 i0 _ 1 1 Tryd.underlying39 hi0 hz0 hz1 hz2 rfl (by decide) _ _ _ rfl (HO.out.alloc _) ⟨wr.heap.size, 0, none⟩ 1 1 [.int .u8 (y : Int)] rfl rfl ?b1 ?b2 ?b3 ?b4 ?b5 ?_)
        try case b1 => exact World.news_of_block (heap_alloc_new wr _)
        case b2 => first | rfl | (intro u hu; simp at hu; rcases hu with rfl; rfl)
        case b3 => unfold maxLen; omega
        case b4 => omega
        case b5 => first | exact hBs | omega | (simp; omega)
        intro v3 w3 hown3 hg3 _ hat3
        have HF : Hid (BOwn w3 w.heap.size v3 (l2 ++ [UInt8.ofNat y])) := Lib.hid (by
          rw [byte_cell hy] at hown3
          show w3.ownsRow _ 5 1 v3 _ (Lib.byteCells _)
          rw [List.length_append, Lib.byteCells_append]; exact hown3)
        have HB3 := Lib.hid ((HB.out.alloc HB.out.size _).grown hg3 (by simp; omega) fun z hz => (HO.out.lt z hz).1)
        clear hown3 hg3 hat3
        go_wp2_with fail
        have HX2 : Hid (x / 128 < 18446744073709551616) := Lib.hid (by have := HX.out; omega)
        have HL2 : Hid ((l2 ++ [UInt8.ofNat y]) ++ enc (x / 128) = enc u) := Lib.hid (by rw [← hL.out, enc_big h128, HY.out, List.append_assoc]; rfl)
        have HN2 : Hid ((l2 ++ [UInt8.ofNat y]).length = m + 1) := Lib.hid (by rw [List.length_append, hM.out]; rfl)
        have HP2 : Hid (x / 128 < 2 ^ (7 * (10 - (m + 1))) ∧ m + 1 ≤ 10) := Lib.hid (pow_step h128 HP.out)
        go_roundw
        case rel => exact ⟨x / 128, _, m + 1, by go_num, HX2, HL2, HN2, HP2, HF.out, HB3.out⟩
        case measure => simp [intOf]; omega
  · go_enter Tryd.func24, Tryd.ntmps24
    go_wp2_with fail
    rw [zz_ref_pos HN.out (by omega)]
    have HU := Lib.hid (zz_lt HN.out.1 HN.out.2)
    generalize zz n = u at *
    go_loopw [3, 4] (fun s3 s4 wr => ∃ (x : Nat) (l2 : List UInt8) (m : Nat), s3 = .int .u64 x ∧ Hid (x < 18446744073709551616) ∧ Hid (l2 ++ enc x = enc u) ∧ Hid (l2.length = m) ∧ Hid (x < 2 ^ (7 * (10 - m)) ∧ m ≤ 10) ∧ BOwn wr w.heap.size s4 l2 ∧ Below w.heap.size w wr) (fun s3 _ _ => (intOf s3).toNat)
    case atStart => exact ⟨u, [], 0, rfl, HU, Lib.hid rfl, Lib.hid rfl, Lib.hid ⟨Nat.lt_trans HU.out (by decide), by omega⟩, World.ownsRow_nil _ _ _ _, Below.refl _ _⟩
    case round =>
      obtain ⟨x, l2, m, rfl, HX, hL, hM, HP, ho, hb⟩ := hrel
      have x0 : (0 : Int) ≤ (x : Int) := Int.natCast_nonneg _
      obtain ⟨A, c, rfl⟩ := own_form ho
      have HO := Lib.hid ho
      have HB := Lib.hid hb
      have hl2 : l2.length ≤ 10 := by have := hM.out; have := HP.out.2; omega
      have hBs := hb.size
      clear ho hb
      by_cases h128 : x < 128
      · have b1 : ¬ (128 : Int) ≤ (x : Int) := by omega
        have hy : x < 256 := by omega
        go_wp2_with (at_builtin; refine wpList_append_own_at _ rfl _ _ 39 rfl w.heap.size 5 i0 _ 1 1 Tryd.underlying39 hi0 hz0 hz1 hz2 rfl (by decide) _ _ _ rfl (HO.out.alloc _) ⟨wr.heap.size, 0, none⟩ 1 1 [.int .u8 (x : Int)] rfl rfl ?c1 ?c2 ?c3 ?c4 ?c5 ?_)
        try case c1 => exact World.news_of_block (heap_alloc_new wr _)
        case c2 => first | rfl | (intro u hu; simp at hu; rcases hu with rfl; rfl)
        case c3 => unfold maxLen; omega
        case c4 => omega
        case c5 => first | exact hBs | omega | (simp; omega)
        intro v3 w3 hown3 hg3 _ hat3
        have HF : Hid (BOwn w3 w.heap.size v3 (enc u)) := Lib.hid (by
          rw [byte_cell hy] at hown3
          have : BOwn w3 w.heap.size v3 (l2 ++ [UInt8.ofNat x]) := by
            show w3.ownsRow _ 5 1 v3 _ (Lib.byteCells _)
            rw [List.length_append, Lib.byteCells_append]; exact hown3
          rw [← hL.out, enc_small h128]; exact this)
        have HB3 := Lib.hid ((HB.out.alloc HB.out.size _).grown hg3 (by simp; omega) fun z hz => (HO.out.lt z hz).1)
        clear hown3 hg3 hat3
        go_wp2_with fail
        go_ret
        exact ⟨v3, rfl, HF.out, HB3.out⟩
      · have b1 : (128 : Int) ≤ (x : Int) := by omega
        obtain ⟨y, hyx⟩ : ∃ y, y = x % 128 + 128 := ⟨_, rfl⟩
        have hy : y < 256 := by omega
        have hy2 : (y : Int) < 256 := by omega
        have hy3 : (0 : Int) ≤ (y : Int) := by omega
        have hb0 : bits .and .u64 (x : Int) 127 = ((x % 128 : Nat) : Int) := u64_and127 x HX.out
        have hb1 : bits .or .u64 ((x % 128 : Nat) : Int) 128 = (y : Int) := by rw [u64_or128 _ (by omega), hyx]
        have hm : x % 128 < 128 := by omega
        obtain ⟨z, hz⟩ : ∃ z, z = x % 128 := ⟨_, rfl⟩
        rw [← hz] at hb0 hb1
        have HY := Lib.hid hyx
        clear hyx hm hz
        go_wp2_with (at_builtin; refine wpList_append_own_at _ rfl _ _ 39 rfl w.heap.size 5 i0 _ 1 1 Tryd.underlying39 hi0 hz0 hz1 hz2 rfl (by decide) _ _ _ rfl (HO.out.alloc _) ⟨wr.heap.size, 0, none⟩ 1 1 [.int .u8 (y : Int)] rfl rfl ?d1 ?d2 ?d3 ?d4 ?d5 ?_)
        try case d1 => exact World.news_of_block (heap_alloc_new wr _)
        case d2 => first | rfl | (intro u hu; simp at hu; rcases hu with rfl; rfl)
        case d3 => unfold maxLen; omega
        case d4 => omega
        case d5 => first | exact hBs | omega | (simp; omega)
        intro v3 w3 hown3 hg3 _ hat3
        have HF : Hid (BOwn w3 w.heap.size v3 (l2 ++ [UInt8.ofNat y])) := Lib.hid (by
          rw [byte_cell hy] at hown3
          show w3.ownsRow _ 5 1 v3 _ (Lib.byteCells _)
          rw [List.length_append, Lib.byteCells_append]; exact hown3)
        have HB3 := Lib.hid ((HB.out.alloc HB.out.size _).grown hg3 (by simp; omega) fun z hz => (HO.out.lt z hz).1)
        clear hown3 hg3 hat3
        go_wp2_with fail
        have HX2 : Hid (x / 128 < 18446744073709551616) := Lib.hid (by have := HX.out; omega)
        have HL2 : Hid ((l2 ++ [UInt8.ofNat y]) ++ enc (x / 128) = enc u) := Lib.hid (by rw [← hL.out, enc_big h128, HY.out, List.append_assoc]; rfl)
        have HN2 : Hid ((l2 ++ [UInt8.ofNat y]).length = m + 1) := Lib.hid (by rw [List.length_append, hM.out]; rfl)
        have HP2 : Hid (x / 128 < 2 ^ (7 * (10 - (m + 1))) ∧ m + 1 ≤ 10) := Lib.hid (pow_step h128 HP.out)
        go_roundw
        case rel => exact ⟨x / 128, _, m + 1, by go_num, HX2, HL2, HN2, HP2, HF.out, HB3.out⟩
        case measure => simp [intOf]; omega
end Go.Proofs.YtpkikibcfkdodaaDoor
