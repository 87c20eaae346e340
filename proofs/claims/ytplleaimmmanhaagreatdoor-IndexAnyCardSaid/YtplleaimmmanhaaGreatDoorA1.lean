/-
  The sum of bytes, bit by bit, as the document says it: the same as by halves of a byte.
  rectoref3.Sum, rectoref3.Put: the document's sum, and bytes sealed, as the program's.
  rectoref3.Put: bytes sealed, as the document says it.
  The document's Int.
  The document's Text.
  A Fault's own words, its number from 1 to 10.
  A Fault's Error.
  The document's words of an error of one part.
  The words of every Errno but OK, and of the document's.
-/
import Derived.Test.YtplleaimmmanhaaGreatDoorP5
import Derived.Test.YtplleaimmmanhaaGreatDoorP6
import Derived.ShutString
namespace Go.Proofs.YtplleaimmmanhaaGreatDoor
open Go Go.RowKit

def polyN : Nat := 3988292384
def pB (c : Nat) : Nat := if c % 2 = 1 then polyN else 0
def bitS (c : Nat) : Nat := (c / 2) ^^^ pB c
def bitN : Nat → Nat → Nat
  | 0, c => c
  | k + 1, c => bitS (bitN k c)
theorem xor_half (a b : Nat) : (a ^^^ b) / 2 = a / 2 ^^^ b / 2 := Nat.eq_of_testBit_eq fun i => by
  rw [Nat.testBit_div_two, Nat.testBit_xor, Nat.testBit_xor, Nat.testBit_div_two, Nat.testBit_div_two]
theorem xor_odd (a b : Nat) : decide ((a ^^^ b) % 2 = 1) = (decide (a % 2 = 1) ^^ decide (b % 2 = 1)) := by
  rw [← Nat.testBit_zero, ← Nat.testBit_zero, ← Nat.testBit_zero, Nat.testBit_xor]
theorem pB_xor (a b : Nat) : pB (a ^^^ b) = pB a ^^^ pB b := by
  have h := xor_odd a b
  unfold pB
  by_cases ha : a % 2 = 1 <;> by_cases hb : b % 2 = 1 <;> by_cases hc : (a ^^^ b) % 2 = 1 <;> simp [ha, hb, hc] at h ⊢
theorem bitS_xor (a b : Nat) : bitS (a ^^^ b) = bitS a ^^^ bitS b := by
  unfold bitS
  rw [xor_half, pB_xor]
  rw [Nat.xor_assoc, Nat.xor_assoc]
  congr 1
  rw [← Nat.xor_assoc, ← Nat.xor_assoc, Nat.xor_comm (b / 2)]
theorem pB_mod (s k : Nat) (hk : k < 4) : pB (s / 2 ^ k) = pB (s % 16 / 2 ^ k) := by
  unfold pB
  have : s / 2 ^ k % 2 = s % 16 / 2 ^ k % 2 := by
    match k, hk with
    | 0, _ => simp only [Nat.pow_zero]; omega
    | 1, _ => simp only [Nat.reducePow]; omega
    | 2, _ => simp only [Nat.reducePow]; omega
    | 3, _ => simp only [Nat.reducePow]; omega
    | k + 4, h => omega
  rw [this]
theorem bit4 (s : Nat) : bitN 4 s = (s / 16) ^^^ (pB (s / 8) ^^^ (bitS (pB (s / 4)) ^^^ (bitS (bitS (pB (s / 2))) ^^^ bitS (bitS (bitS (pB s)))))) := by
  show bitS (bitS (bitS (bitS s))) = _
  have e1 : bitS s = (s / 2) ^^^ pB s := rfl
  have e2 : bitS (bitS s) = (s / 4) ^^^ (pB (s / 2) ^^^ bitS (pB s)) := by
    rw [e1, bitS_xor, show bitS (s / 2) = (s / 2 / 2) ^^^ pB (s / 2) from rfl, Nat.div_div_eq_div_mul, Nat.xor_assoc]
  have e3 : bitS (bitS (bitS s)) = (s / 8) ^^^ (pB (s / 4) ^^^ (bitS (pB (s / 2)) ^^^ bitS (bitS (pB s)))) := by
    rw [e2, bitS_xor, bitS_xor, show bitS (s / 4) = (s / 4 / 2) ^^^ pB (s / 4) from rfl, Nat.div_div_eq_div_mul, Nat.xor_assoc]
  rw [e3, bitS_xor, bitS_xor, bitS_xor, show bitS (s / 8) = (s / 8 / 2) ^^^ pB (s / 8) from rfl, Nat.div_div_eq_div_mul, Nat.xor_assoc]
theorem tab16 : ∀ l : Fin 16, pB (l.val / 8) ^^^ (bitS (pB (l.val / 4)) ^^^ (bitS (bitS (pB (l.val / 2))) ^^^ bitS (bitS (bitS (pB l.val))))) = hv l.val := by decide +kernel
theorem bit4_half (s : Nat) : bitN 4 s = halfS s := by
  rw [bit4]
  have h0 := pB_mod s 0 (by decide)
  have h1 := pB_mod s 1 (by decide)
  have h2 := pB_mod s 2 (by decide)
  have h3 := pB_mod s 3 (by decide)
  simp only [Nat.pow_zero, Nat.div_one, Nat.reducePow] at h0 h1 h2 h3
  rw [h0, h1, h2, h3, tab16 ⟨s % 16, Nat.mod_lt _ (by decide)⟩]
  unfold halfS
  exact Nat.xor_comm _ _
theorem bitN_add (a b c : Nat) : bitN (a + b) c = bitN a (bitN b c) := by
  induction a with
  | zero => rw [Nat.zero_add]; rfl
  | succ a ih => rw [Nat.succ_add]; show bitS _ = bitS _; rw [ih]
theorem bit8_byte (s c : Nat) : bitN 8 (s ^^^ c) = byteS s c := by
  rw [show 8 = 4 + 4 from rfl, bitN_add, bit4_half, bit4_half]; rfl
theorem bitS_lt {c : Nat} (h : c < 4294967296) : bitS c < 4294967296 := by
  unfold bitS pB
  refine xor_lt32 (by omega) ?_
  split <;> decide
theorem bitN_lt {c : Nat} (h : c < 4294967296) : ∀ k, bitN k c < 4294967296
  | 0 => h
  | k + 1 => bitS_lt (bitN_lt h k)
end Go.Proofs.YtplleaimmmanhaaGreatDoor
namespace Go.Proofs.YtplleaimmmanhaaGreatDoor
open Go Go.RowKit

theorem u32_and1 {n : Nat} (h : n < 4294967296) : bits .and .u32 (n : Int) 1 = ((n % 2 : Nat) : Int) := by
  have := bits_mask .u32 32 (by decide) (fun n h0 h1 => by rw [IntKind.wrap_u32']; omega) 1 (by decide) (n : Int) (by omega) (by exact_mod_cast h)
  rw [show ((2 : Int) ^ 1 - 1) = 1 from rfl] at this
  rw [this]; omega
set_option maxRecDepth 100000 in
set_option maxHeartbeats 4000000 in
theorem refSum_any (w : World) (v : Value) (l : List UInt8) (hr : ReadsB w v l) :
    Calls Tryz.prog 119 #[v] w fun e w' => e = .returned (.int .u32 (crc l : Nat)) ∧ Below w.heap.size w w' := by
  obtain ⟨A, c, rfl⟩ := hr.form
  have hlen := hr.len
  have hlc : l.length ≤ c := hlen.2.1
  have hcm : c ≤ 9223372036854775807 := by have := hlen.2.2; unfold maxLen at this; omega
  have HR := Lib.hid hr
  clear hr hlen
  go_enter Tryz.func119, Tryz.ntmps119
  go_wp2_with fail
  go_loopw [3, 4] (fun s3 s4 wr => ∃ j : Nat, j ≤ l.length ∧ s4 = .int .i64 j ∧ s3 = .int .u32 (crcF (l.take j) : Nat) ∧ Below w.heap.size w wr) (fun _ s4 _ => l.length - (intOf s4).toNat)
  case atStart => exact ⟨0, Nat.zero_le _, rfl, rfl, Below.refl _ _⟩
  case round =>
    obtain ⟨j, hj, rfl, rfl, hb⟩ := hrel
    by_cases hlt : j < l.length
    · obtain ⟨b, hx⟩ : ∃ b, l[j]? = some b := ⟨_, List.getElem?_eq_getElem hlt⟩
      obtain ⟨ad, rfl, c0⟩ := ReadsB.at_ (HR.out.below hb) hx
      have HT := Lib.hid (crcF_take hx)
      have hsl := crcF_lt (l.take j)
      obtain ⟨s, hs⟩ : ∃ s, s = crcF (l.take j) := ⟨_, rfl⟩
      rw [← hs] at HT hsl ⊢
      obtain ⟨y, hy⟩ : ∃ y, y = b.toNat := ⟨_, rfl⟩
      have hyl : y < 256 := by rw [hy]; exact b.toNat_lt
      rw [← hy] at HT c0
      obtain ⟨s1, h1⟩ : ∃ s1, s1 = s ^^^ y := ⟨_, rfl⟩
      have l1 : s1 < 4294967296 := by rw [h1]; exact xor_lt32 hsl (by omega)
      have e1 : bits .xor .u32 (s : Int) (y : Int) = (s1 : Int) := by rw [u32_xorN hsl (by omega), h1]
      have HE : Hid (bitN 8 s1 = crcF (l.take (j + 1))) := Lib.hid (by rw [HT.out, h1, bit8_byte])
      have HB := Lib.hid hb
      have HL1 := Lib.hid l1
      have j0 : (0 : Int) ≤ (j : Int) := Int.natCast_nonneg _
      have j1 : (j : Int) < (l.length : Int) := by omega
      clear hs hy h1 HT hx hb
      go_wp2_with fail
      go_loopw [3, 5] (fun s3 s5 wi => ∃ k : Nat, k ≤ 8 ∧ s5 = .int .i64 k ∧ s3 = .int .u32 (bitN k s1 : Nat) ∧ Below w.heap.size w wi) (fun _ s5 _ => 8 - (intOf s5).toNat)
      case atStart => exact ⟨0, Nat.zero_le _, rfl, rfl, HB.out⟩
      case round =>
        obtain ⟨k, hk, rfl, rfl, hbi⟩ := hrel
        have HBI := Lib.hid hbi
        have k0 : (0 : Int) ≤ (k : Int) := Int.natCast_nonneg _
        clear hbi
        by_cases hk8 : k < 8
        · have k1 : (k : Int) < 8 := by omega
          have hzl := bitN_lt HL1.out k
          have HN := Lib.hid (show bitN (k + 1) s1 = bitS (bitN k s1) from rfl)
          obtain ⟨z, hz⟩ : ∃ z, z = bitN k s1 := ⟨_, rfl⟩
          rw [← hz] at hzl HN ⊢
          clear hz
          have a1 := u32_and1 hzl
          have e2 : (z : Int) / 2 = ((z / 2 : Nat) : Int) := by omega
          by_cases ho : z % 2 = 1
          · have a2 : bits .and .u32 (z : Int) 1 = 1 := by rw [a1, ho]; rfl
            have f1 : bits .xor .u32 ((z : Int) / 2) 3988292384 = ((bitS z : Nat) : Int) := by
              rw [e2, show (3988292384 : Int) = ((3988292384 : Nat) : Int) from rfl, u32_xorN (by omega) (by decide)]
              unfold bitS pB polyN
              rw [if_pos ho]
            obtain ⟨t, ht⟩ : ∃ t, t = bitS z := ⟨_, rfl⟩
            rw [← ht] at f1 HN
            clear a1 e2 ho ht
            go_wp2_with fail
            go_roundw
            case rel => exact ⟨k + 1, by omega, by go_num, by rw [HN.out], HBI.out⟩
            case measure => simp [intOf]; omega
          · have a2 : bits .and .u32 (z : Int) 1 = 0 := by rw [a1]; omega
            have HN2 : Hid (bitN (k + 1) s1 = z / 2) := Lib.hid (by
              rw [HN.out]
              unfold bitS pB
              rw [if_neg ho, Nat.xor_zero])
            have HE2 := Lib.hid e2
            clear a1 ho e2
            go_wp2_with fail
            go_roundw
            case rel => exact ⟨k + 1, by omega, by go_num, by rw [HN2.out, ← HE2.out], HBI.out⟩
            case measure => simp [intOf]; omega
        · obtain rfl : k = 8 := by omega
          go_wp2_with fail
          go_roundw
          case rel => exact ⟨j + 1, hlt, by go_num, by rw [HE.out], HBI.out⟩
          case measure => simp [intOf]; omega
    · obtain rfl : j = l.length := by omega
      rw [List.take_length]
      have HN := Lib.hid (u32_notN (crcF_lt l))
      go_wp2_with fail
      go_ret
      exact ⟨by rw [HN.out]; rfl, hb⟩
end Go.Proofs.YtplleaimmmanhaaGreatDoor
namespace Go.Proofs.YtplleaimmmanhaaGreatDoor
open Go Go.RowKit

theorem le4_cells (s : Nat) (hs : s < 4294967296) : [Value.int .u8 ((s : Int) % 256), .int .u8 ((s : Int) / 256 % 256), .int .u8 ((s : Int) / 65536 % 256), .int .u8 ((s : Int) / 16777216)] = bc (le4 s) := by
  show _ = [Value.int .u8 ((UInt8.ofNat (s % 256)).toNat : Int), .int .u8 ((UInt8.ofNat (s / 256 % 256)).toNat : Int), .int .u8 ((UInt8.ofNat (s / 65536 % 256)).toNat : Int), .int .u8 ((UInt8.ofNat (s / 16777216 % 256)).toNat : Int)]
  have h : ∀ n, n < 256 → (UInt8.ofNat n).toNat = n := fun n h => by simp [UInt8.toNat_ofNat']; omega
  rw [h _ (by omega), h _ (by omega), h _ (by omega), h _ (by omega)]
  have a1 : (s : Int) % 256 = ((s % 256 : Nat) : Int) := by omega
  have a2 : (s : Int) / 256 % 256 = ((s / 256 % 256 : Nat) : Int) := by omega
  have a3 : (s : Int) / 65536 % 256 = ((s / 65536 % 256 : Nat) : Int) := by omega
  have a4 : (s : Int) / 16777216 = ((s / 16777216 % 256 : Nat) : Int) := by omega
  rw [a1, a2, a3, a4]

set_option maxRecDepth 100000 in
set_option maxHeartbeats 4000000 in
theorem refPutS_any (w : World) (v : Value) (l : List UInt8) (hr : ReadsB w v l) (h0 : 0 < l.length) (hl : l.length ≤ 900000) :
    Calls Tryz.prog 67 #[v] w (SealedTo (seald l) w) := by
  obtain ⟨i0, hi0, hz0, hz1, hz2⟩ := info_parts byteInfo
  obtain ⟨A, c, rfl⟩ := hr.form
  obtain ⟨ad, rfl, _⟩ := ReadsB.at_ hr (show l[0]? = some (l[0]'h0) from List.getElem?_eq_getElem h0)
  have SM := Lib.hid (refSum_any w _ l hr)
  have HC := Lib.hid (show ∀ W, Below w.heap.size w W → ∀ j u, (bc l)[j]? = some u → W.cell? (ad.add j) = some u from fun W hW j u hj => by
    have hj2 : j < l.length := by have := (List.getElem?_eq_some_iff.1 hj).1; rwa [Lib.byteCells_length] at this
    obtain ⟨ad2, e2, hc2⟩ := ReadsB.at_ (hr.below hW) (List.getElem?_eq_getElem hj2)
    obtain rfl := Option.some.inj e2
    rw [bc_at (List.getElem?_eq_getElem hj2)] at hj
    rw [hc2, ← Option.some.inj hj])
  have HL : Hid ((bc l).length = l.length * 1) := Lib.hid (by rw [Lib.byteCells_length, Nat.mul_one])
  clear hr
  go_enter Tryz.func67, Tryz.ntmps67
  go_wp2_with fail
  refine SM.out.mono ?_
  rintro e w1 ⟨rfl, b1⟩
  have B1 := Lib.hid b1
  have b1s := b1.size
  have hsl := crc_lt l
  obtain ⟨s, hs⟩ : ∃ s, s = crc l := ⟨_, rfl⟩
  have HS := Lib.hid hs
  rw [← hs] at hsl ⊢
  have s0 : (0 : Int) ≤ (s : Int) := Int.natCast_nonneg _
  have s1 : (s : Int) < 4294967296 := by omega
  have O0 := Lib.hid (World.ownsRow_made (base := w.heap.size) (e := 5) (size := 1) w1 #[] 0 b1s (Nat.zero_le _) rfl)
  clear hs b1 SM
  go_wp2_with (at_builtin; refine wpList_append_own_at _ rfl _ _ 54 rfl w.heap.size 5 i0 _ 1 1 Tryz.underlying54 hi0 hz0 hz1 hz2 rfl (by decide) _ _ _ rfl O0.out ad l.length c (bc l) rfl HL.out ?a1 (bc_one l) ?a3 ?a4 ?a5 ?_)
  try case a1 => exact fun j u hj => Lib.cell?_alloc_some _ (HC.out w1 B1.out j u hj)
  case a3 => unfold maxLen; omega
  case a4 => omega
  case a5 => first | omega | (simp; omega)
  intro v2 w2 hown2 hg2 _ _
  have O2 : Hid (w2.ownsRow w.heap.size 5 1 v2 l.length (bc l)) := Lib.hid (by simpa using hown2)
  have B2 : Hid (Below w.heap.size w w2) := Lib.hid ((B1.out.alloc b1s _).grown hg2 (by rw [World.size_alloc]; omega) (by intro k hk; simp [Value.ownBlock] at hk; omega))
  have b2s := B2.out.size
  obtain ⟨A2, c2, rfl⟩ := own_form O2.out
  clear hown2 hg2 O0
  go_wp2_with (at_builtin; refine wpList_append_own_at _ rfl _ _ 54 rfl w.heap.size 5 i0 _ 1 1 Tryz.underlying54 hi0 hz0 hz1 hz2 rfl (by decide) _ _ _ rfl (O2.out.alloc _) ⟨w2.heap.size, 0, none⟩ 4 4 [.int .u8 ((s : Int) % 256), .int .u8 ((s : Int) / 256 % 256), .int .u8 ((s : Int) / 65536 % 256), .int .u8 ((s : Int) / 16777216)] rfl rfl ?b1 ?b2 ?b3 ?b4 ?b5 ?_)
  try case b1 => exact World.news_of_block (heap_alloc_new w2 _)
  case b2 => intro u hu; simp at hu; rcases hu with rfl | rfl | rfl | rfl <;> rfl
  case b3 => unfold maxLen; omega
  case b4 => omega
  case b5 => first | omega | (simp; omega)
  intro v3 w3 hown3 hg3 _ _
  have O3 : Hid (BOwn w3 w.heap.size v3 (seald l)) := Lib.hid (by
    rw [le4_cells s hsl] at hown3
    show w3.ownsRow w.heap.size 5 1 v3 _ (Lib.byteCells _)
    unfold seald
    rw [Lib.byteCells_append, List.length_append, ← HS.out]
    exact hown3)
  have B3 : Hid (Below w.heap.size w w3) := Lib.hid ((B2.out.alloc b2s _).grown hg3 (by rw [World.size_alloc]; omega) (fun k hk => (O2.out.lt k (by simpa [Value.ownBlock] using hk)).1))
  clear hown3 hg3
  go_wp2_with fail
  go_ret
  exact ⟨_, rfl, O3.out, B3.out⟩
end Go.Proofs.YtplleaimmmanhaaGreatDoor
namespace Go.Proofs.YtplleaimmmanhaaGreatDoor
open Go Go.RowKit

theorem pow_step {x n : Nat} (h128 : ¬ x < 128) (h : x < 2 ^ (7 * (10 - n)) ∧ n ≤ 10) : x / 128 < 2 ^ (7 * (10 - (n + 1))) ∧ n + 1 ≤ 10 := by
  obtain ⟨p1, p2⟩ := h
  rcases Nat.lt_or_ge n 10 with h | h
  · refine ⟨?_, by omega⟩
    rw [show 7 * (10 - n) = 7 * (10 - (n + 1)) + 7 by omega, Nat.pow_add] at p1
    exact Nat.div_lt_of_lt_mul (by omega)
  · rw [show 7 * (10 - n) = 0 by omega] at p1; simp at p1; omega
theorem zz_ref_neg {n : Int} (h : -9223372036854775808 ≤ n ∧ n ≤ 9223372036854775807) (h0 : n < 0) : bits .or .u64 (IntKind.u64.wrap (IntKind.u64.wrap (wrap64 (-wrap64 (n + 1))) * 2)) 1 = (zz n : Int) := by
  have e1 : wrap64 (n + 1) = n + 1 := IntWalk.wrap64_in _ (by omega)
  have e2 : wrap64 (-(n + 1)) = -(n + 1) := IntWalk.wrap64_in _ (by omega)
  obtain ⟨m, hm⟩ : ∃ m : Nat, (m : Int) = -(n + 1) * 2 := ⟨(-(n + 1) * 2).toNat, by omega⟩
  rw [e1, e2, IntKind.wrap_u64, IntKind.wrap_u64, show -(n + 1) % 18446744073709551616 * 2 % 18446744073709551616 = (m : Int) by omega, u64_or1 m (by omega) (by omega), zz_neg (by omega)]
  omega
theorem zz_ref_pos {n : Int} (h : -9223372036854775808 ≤ n ∧ n ≤ 9223372036854775807) (h0 : ¬ n < 0) : IntKind.u64.wrap (IntKind.u64.wrap n * 2) = (zz n : Int) := by
  rw [IntKind.wrap_u64, IntKind.wrap_u64, zz_pos (by omega)]
  omega

set_option maxRecDepth 100000 in
set_option maxHeartbeats 4000000 in
theorem refInt_any (w : World) (n : Int) (hn : -9223372036854775808 ≤ n ∧ n ≤ 9223372036854775807) : Calls Tryz.prog 65 #[.int .i64 n] w (Cloned (encI n) w) := by
  obtain ⟨i0, hi0, hz0, hz1, hz2⟩ := info_parts byteInfo
  have HN := Lib.hid hn
  clear hn
  unfold encI
  by_cases h0 : n < 0
  · go_enter Tryz.func65, Tryz.ntmps65
    go_wp2_with fail
    rw [zz_ref_neg HN.out h0]
    have HU := Lib.hid (zz_lt HN.out.1 HN.out.2)
    generalize zz n = u at *
    go_loopw [3, 4] (fun s3 s4 wr => ∃ (x : Nat) (l2 : List UInt8) (m : Nat), s3 = .int .u64 x ∧ Hid (x < 18446744073709551616) ∧ Hid (l2 ++ enc x = enc u) ∧ Hid (l2.length = m) ∧ Hid (x < 2 ^ (7 * (10 - m)) ∧ m ≤ 10) ∧ BOwn wr w.heap.size s4 l2 ∧ Below w.heap.size w wr) (fun s3 _ _ => (intOf s3).toNat)
    case atStart => exact ⟨u, [], 0, rfl, HU, Lib.hid rfl, Lib.hid rfl, Lib.hid ⟨Nat.lt_trans HU.out (by decide), by omega⟩, World.ownsRow_nil _ _ _ _, Below.refl _ _⟩
    case round =>
      obtain ⟨x, l2, m, rfl, HX, hL, hM, HP, ho, hb⟩ := hrel
      have x0 : (0 : Int) ≤ (x : Int) := Int.natCast_nonneg _
      obtain ⟨A, c, rfl⟩ := own_form ho
      have HO := Lib.hid ho
      have HB := Lib.hid hb
      have hl2 : l2.length ≤ 10 := by have := hM.out; have := HP.out.2; omega
      have hBs := hb.size
      clear ho hb
      by_cases h128 : x < 128
      · have b1 : ¬ (128 : Int) ≤ (x : Int) := by omega
        have hy : x < 256 := by omega
        go_wp2_with (at_builtin; refine wpList_append_own_at _ rfl _ _ 54 rfl w.heap.size 5 i0 _ 1 1 Tryz.underlying54 hi0 hz0 hz1 hz2 rfl (by decide) _ _ _ rfl (HO.out.alloc _) ⟨wr.heap.size, 0, none⟩ 1 1 [.int .u8 (x : Int)] rfl rfl ?a1 ?a2 ?a3 ?a4 ?a5 ?_)
        try case a1 => exact World.news_of_block (heap_alloc_new wr _)
        case a2 => first | rfl | (intro u hu; simp at hu; rcases hu with rfl; rfl)
        case a3 => unfold maxLen; omega
        case a4 => omega
        case a5 => first | exact hBs | omega | (simp; omega)
        intro v3 w3 hown3 hg3 _ hat3
        have HF : Hid (BOwn w3 w.heap.size v3 (enc u)) := Lib.hid (by
          rw [byte_cell hy] at hown3
          have : BOwn w3 w.heap.size v3 (l2 ++ [UInt8.ofNat x]) := by
            show w3.ownsRow _ 5 1 v3 _ (Lib.byteCells _)
            rw [List.length_append, Lib.byteCells_append]; exact hown3
          rw [← hL.out, enc_small h128]; exact this)
        have HB3 := Lib.hid ((HB.out.alloc HB.out.size _).grown hg3 (by simp; omega) fun z hz => (HO.out.lt z hz).1)
        clear hown3 hg3 hat3
        go_wp2_with fail
        go_ret
        exact ⟨v3, rfl, HF.out, HB3.out⟩
      · have b1 : (128 : Int) ≤ (x : Int) := by omega
        obtain ⟨y, hyx⟩ : ∃ y, y = x % 128 + 128 := ⟨_, rfl⟩
        have hy : y < 256 := by omega
        have hy2 : (y : Int) < 256 := by omega
        have hy3 : (0 : Int) ≤ (y : Int) := by omega
        have hb0 : bits .and .u64 (x : Int) 127 = ((x % 128 : Nat) : Int) := u64_and127 x HX.out
        have hb1 : bits .or .u64 ((x % 128 : Nat) : Int) 128 = (y : Int) := by rw [u64_or128 _ (by omega), hyx]
        have hm : x % 128 < 128 := by omega
        obtain ⟨z, hz⟩ : ∃ z, z = x % 128 := ⟨_, rfl⟩
        rw [← hz] at hb0 hb1
        have HY := Lib.hid hyx
        clear hyx hm hz
        go_wp2_with (at_builtin; refine wpList_append_own_at _ rfl _ _ 54 rfl w.heap.size 5 i0 _ 1 1 Tryz.underlying54 hi0 hz0 hz1 hz2 rfl (by decide) _ _ _ rfl (HO.out.alloc _) ⟨wr.heap.size, 0, none⟩ 1 1 [.int .u8 (y : Int)] rfl rfl ?b1 ?b2 ?b3 ?b4 ?b5 ?_)
        try case b1 => exact World.news_of_block (heap_alloc_new wr _)
        case b2 => first | rfl | (intro u hu; simp at hu; rcases hu with rfl; rfl)
        case b3 => unfold maxLen; omega
        case b4 => omega
        case b5 => first | exact hBs | omega | (simp; omega)
        intro v3 w3 hown3 hg3 _ hat3
        have HF : Hid (BOwn w3 w.heap.size v3 (l2 ++ [UInt8.ofNat y])) := Lib.hid (by
          rw [byte_cell hy] at hown3
          show w3.ownsRow _ 5 1 v3 _ (Lib.byteCells _)
          rw [List.length_append, Lib.byteCells_append]; exact hown3)
        have HB3 := Lib.hid ((HB.out.alloc HB.out.size _).grown hg3 (by simp; omega) fun z hz => (HO.out.lt z hz).1)
        clear hown3 hg3 hat3
        go_wp2_with fail
        have HX2 : Hid (x / 128 < 18446744073709551616) := Lib.hid (by have := HX.out; omega)
        have HL2 : Hid ((l2 ++ [UInt8.ofNat y]) ++ enc (x / 128) = enc u) := Lib.hid (by rw [← hL.out, enc_big h128, HY.out, List.append_assoc]; rfl)
        have HN2 : Hid ((l2 ++ [UInt8.ofNat y]).length = m + 1) := Lib.hid (by rw [List.length_append, hM.out]; rfl)
        have HP2 : Hid (x / 128 < 2 ^ (7 * (10 - (m + 1))) ∧ m + 1 ≤ 10) := Lib.hid (pow_step h128 HP.out)
        go_roundw
        case rel => exact ⟨x / 128, _, m + 1, by go_num, HX2, HL2, HN2, HP2, HF.out, HB3.out⟩
        case measure => simp [intOf]; omega
  · go_enter Tryz.func65, Tryz.ntmps65
    go_wp2_with fail
    rw [zz_ref_pos HN.out (by omega)]
    have HU := Lib.hid (zz_lt HN.out.1 HN.out.2)
    generalize zz n = u at *
    go_loopw [3, 4] (fun s3 s4 wr => ∃ (x : Nat) (l2 : List UInt8) (m : Nat), s3 = .int .u64 x ∧ Hid (x < 18446744073709551616) ∧ Hid (l2 ++ enc x = enc u) ∧ Hid (l2.length = m) ∧ Hid (x < 2 ^ (7 * (10 - m)) ∧ m ≤ 10) ∧ BOwn wr w.heap.size s4 l2 ∧ Below w.heap.size w wr) (fun s3 _ _ => (intOf s3).toNat)
    case atStart => exact ⟨u, [], 0, rfl, HU, Lib.hid rfl, Lib.hid rfl, Lib.hid ⟨Nat.lt_trans HU.out (by decide), by omega⟩, World.ownsRow_nil _ _ _ _, Below.refl _ _⟩
    case round =>
      obtain ⟨x, l2, m, rfl, HX, hL, hM, HP, ho, hb⟩ := hrel
      have x0 : (0 : Int) ≤ (x : Int) := Int.natCast_nonneg _
      obtain ⟨A, c, rfl⟩ := own_form ho
      have HO := Lib.hid ho
      have HB := Lib.hid hb
      have hl2 : l2.length ≤ 10 := by have := hM.out; have := HP.out.2; omega
      have hBs := hb.size
      clear ho hb
      by_cases h128 : x < 128
      · have b1 : ¬ (128 : Int) ≤ (x : Int) := by omega
        have hy : x < 256 := by omega
        go_wp2_with (at_builtin; refine wpList_append_own_at _ rfl _ _ 54 rfl w.heap.size 5 i0 _ 1 1 Tryz.underlying54 hi0 hz0 hz1 hz2 rfl (by decide) _ _ _ rfl (HO.out.alloc _) ⟨wr.heap.size, 0, none⟩ 1 1 [.int .u8 (x : Int)] rfl rfl ?c1 ?c2 ?c3 ?c4 ?c5 ?_)
        try case c1 => exact World.news_of_block (heap_alloc_new wr _)
        case c2 => first | rfl | (intro u hu; simp at hu; rcases hu with rfl; rfl)
        case c3 => unfold maxLen; omega
        case c4 => omega
        case c5 => first | exact hBs | omega | (simp; omega)
        intro v3 w3 hown3 hg3 _ hat3
        have HF : Hid (BOwn w3 w.heap.size v3 (enc u)) := Lib.hid (by
          rw [byte_cell hy] at hown3
          have : BOwn w3 w.heap.size v3 (l2 ++ [UInt8.ofNat x]) := by
            show w3.ownsRow _ 5 1 v3 _ (Lib.byteCells _)
            rw [List.length_append, Lib.byteCells_append]; exact hown3
          rw [← hL.out, enc_small h128]; exact this)
        have HB3 := Lib.hid ((HB.out.alloc HB.out.size _).grown hg3 (by simp; omega) fun z hz => (HO.out.lt z hz).1)
        clear hown3 hg3 hat3
        go_wp2_with fail
        go_ret
        exact ⟨v3, rfl, HF.out, HB3.out⟩
      · have b1 : (128 : Int) ≤ (x : Int) := by omega
        obtain ⟨y, hyx⟩ : ∃ y, y = x % 128 + 128 := ⟨_, rfl⟩
        have hy : y < 256 := by omega
        have hy2 : (y : Int) < 256 := by omega
        have hy3 : (0 : Int) ≤ (y : Int) := by omega
        have hb0 : bits .and .u64 (x : Int) 127 = ((x % 128 : Nat) : Int) := u64_and127 x HX.out
        have hb1 : bits .or .u64 ((x % 128 : Nat) : Int) 128 = (y : Int) := by rw [u64_or128 _ (by omega), hyx]
        have hm : x % 128 < 128 := by omega
        obtain ⟨z, hz⟩ : ∃ z, z = x % 128 := ⟨_, rfl⟩
        rw [← hz] at hb0 hb1
        have HY := Lib.hid hyx
        clear hyx hm hz
        go_wp2_with (at_builtin; refine wpList_append_own_at _ rfl _ _ 54 rfl w.heap.size 5 i0 _ 1 1 Tryz.underlying54 hi0 hz0 hz1 hz2 rfl (by decide) _ _ _ rfl (HO.out.alloc _) ⟨wr.heap.size, 0, none⟩ 1 1 [.int .u8 (y : Int)] rfl rfl ?d1 ?d2 ?d3 ?d4 ?d5 ?_)
        try case d1 => exact World.news_of_block (heap_alloc_new wr _)
        case d2 => first | rfl | (intro u hu; simp at hu; rcases hu with rfl; rfl)
        case d3 => unfold maxLen; omega
        case d4 => omega
        case d5 => first | exact hBs | omega | (simp; omega)
        intro v3 w3 hown3 hg3 _ hat3
        have HF : Hid (BOwn w3 w.heap.size v3 (l2 ++ [UInt8.ofNat y])) := Lib.hid (by
          rw [byte_cell hy] at hown3
          show w3.ownsRow _ 5 1 v3 _ (Lib.byteCells _)
          rw [List.length_append, Lib.byteCells_append]; exact hown3)
        have HB3 := Lib.hid ((HB.out.alloc HB.out.size _).grown hg3 (by simp; omega) fun z hz => (HO.out.lt z hz).1)
        clear hown3 hg3 hat3
        go_wp2_with fail
        have HX2 : Hid (x / 128 < 18446744073709551616) := Lib.hid (by have := HX.out; omega)
        have HL2 : Hid ((l2 ++ [UInt8.ofNat y]) ++ enc (x / 128) = enc u) := Lib.hid (by rw [← hL.out, enc_big h128, HY.out, List.append_assoc]; rfl)
        have HN2 : Hid ((l2 ++ [UInt8.ofNat y]).length = m + 1) := Lib.hid (by rw [List.length_append, hM.out]; rfl)
        have HP2 : Hid (x / 128 < 2 ^ (7 * (10 - (m + 1))) ∧ m + 1 ≤ 10) := Lib.hid (pow_step h128 HP.out)
        go_roundw
        case rel => exact ⟨x / 128, _, m + 1, by go_num, HX2, HL2, HN2, HP2, HF.out, HB3.out⟩
        case measure => simp [intOf]; omega
end Go.Proofs.YtplleaimmmanhaaGreatDoor
namespace Go.Proofs.YtplleaimmmanhaaGreatDoor
open Go Go.RowKit

set_option maxRecDepth 100000 in
set_option maxHeartbeats 1000000 in
theorem refText_any (w : World) (s : ByteArray) (hs : s.size ≤ 100000) : Calls Tryz.prog 66 #[.string s] w (Cloned (encT s) w) := by
  have R := Lib.hid (refInt_any w (s.size : Int) ⟨by omega, by omega⟩)
  go_enter Tryz.func66, Tryz.ntmps66
  go_wp2_with fail
  refine R.out.mono ?_
  rintro e w1 ⟨v1, rfl, ho, hb⟩
  have hli := encI_len (n := (s.size : Int)) ⟨by omega, by omega⟩
  obtain ⟨v2, w2, hr2, ho2, hg2, hs2⟩ := append_str w1 w.heap.size v1 _ s ho (by omega) hb.size
  have HR := Lib.hid hr2
  have HO := Lib.hid ho2
  have HB := Lib.hid (hb.grown hg2 hb.size fun z hz => (ho.lt z hz).1)
  obtain ⟨A1, n1, c1, rfl⟩ : ∃ A n c, v1 = .slice A n c := by obtain ⟨A, c, h⟩ := own_form ho; exact ⟨A, _, c, h⟩
  clear ho hb hr2 ho2 hg2 hs2
  go_wp2_with (at_builtin; refine Lib.wpList_append_run _ rfl _ _ _ _ rfl _ _ rfl rfl _ _ (HR.out _) ?_)
  go_ret
  exact ⟨v2, rfl, HO.out, HB.out⟩
end Go.Proofs.YtplleaimmmanhaaGreatDoor
namespace Go.Proofs.YtplleaimmmanhaaGreatDoor
open Go Go.RowKit

/-- A number below 100 in digits. -/
def dg (n : Nat) : ByteArray := if n < 10 then ⟨#[UInt8.ofNat (48 + n)]⟩ else ⟨#[UInt8.ofNat (48 + n / 10), UInt8.ofNat (48 + n % 10)]⟩
def To10 (n : Nat) : Prop := n = 1 ∨ n = 2 ∨ n = 3 ∨ n = 4 ∨ n = 5 ∨ n = 6 ∨ n = 7 ∨ n = 8 ∨ n = 9 ∨ n = 10
theorem to10 {n : Nat} (h1 : 1 ≤ n) (h2 : n ≤ 10) : To10 n := by unfold To10; omega
def To10I (n : Int) : Prop := n = 1 ∨ n = 2 ∨ n = 3 ∨ n = 4 ∨ n = 5 ∨ n = 6 ∨ n = 7 ∨ n = 8 ∨ n = 9 ∨ n = 10
theorem To10.int {n : Nat} (h : To10 n) : To10I (n : Int) := by unfold To10 at h; unfold To10I; omega
theorem sum_named (a b : ByteArray) (h : a.size + b.size ≤ 9223372036854775807) : ∃ s, s = a ++ b ∧ s.size = a.size + b.size ∧ ∀ w, (Op.stringOp .add a b).run Tryz.prog w = .ok (.string s) w := ⟨_, rfl, ByteArray.size_append, fun w => run_string_add_sum w a b h⟩

set_option maxRecDepth 100000 in
set_option maxHeartbeats 4000000 in
theorem itoa_int (n : Int) (h : To10I n) (w : World) : Calls Tryz.prog 195 #[.int .i64 n] w fun e w' => e = .returned (.string (dg n.toNat)) ∧ w' = w := by
  rcases h with rfl | rfl | rfl | rfl | rfl | rfl | rfl | rfl | rfl | rfl
  all_goals
    go_enter Tryz.func195, Tryz.ntmps195
    go_wp2
    go_ret
    exact ⟨rfl, rfl⟩
theorem itoa_any {n : Nat} (h : To10 n) (w : World) : Calls Tryz.prog 195 #[.int .i64 n] w fun e w' => e = .returned (.string (dg n)) ∧ w' = w := itoa_int n h.int w

set_option maxRecDepth 100000 in
set_option maxHeartbeats 4000000 in
theorem short_word (w : World) : Calls Tryz.prog 192 #[.int .i64 3] w fun e w' => e = .returned (.string ⟨#[115, 104, 111, 114, 116]⟩) ∧ w' = w := by
  go_enter Tryz.func192, Tryz.ntmps192
  go_wp2
  go_ret
  exact ⟨rfl, rfl⟩
set_option maxRecDepth 100000 in
set_option maxHeartbeats 4000000 in
theorem refWord_short (w : World) : Calls Tryz.prog 94 #[.int .i64 3] w fun e w' => e = .returned (.string ⟨#[115, 104, 111, 114, 116]⟩) ∧ Below w.heap.size w w' := by
  go_enter Tryz.func94, Tryz.ntmps94
  go_wp2
  go_ret
  exact ⟨rfl, (Below.refl _ _).alloc (Nat.le_refl _) _⟩
theorem one_digit (W : World) (g : Nat) (x : Int) (h1 : 48 ≤ x) (h2 : x ≤ 57) (hc : W.cell? ⟨g, 0, none⟩ = some (.int .u8 x)) : (convert 54 9 (.slice (some ⟨g, 0, none⟩) 1 1)).run Tryz.prog W = .ok (.string ⟨#[UInt8.ofNat x.toNat]⟩) W := by
  have := run_convert_bytes_back (P := Tryz.prog) W 54 9 5 ⟨g, 0, none⟩ 1 [UInt8.ofNat x.toNat] Tryz.underlying54 Tryz.underlying5 Tryz.underlying9 (fun j hj => by
    obtain rfl : j = 0 := by simpa using hj
    simp [Addr.add, hc]
    omega)
  exact this
set_option maxRecDepth 100000 in
set_option maxHeartbeats 4000000 in
theorem refDecimal_int (n : Int) (h : To10I n) (w : World) : Calls Tryz.prog 93 #[.int .i64 n] w fun e w' => e = .returned (.string (dg n.toNat)) ∧ Below w.heap.size w w' := by
  rcases h with rfl | rfl | rfl | rfl | rfl | rfl | rfl | rfl | rfl | rfl
  all_goals
    have cv : ∀ (W : World) (x : Int), 48 ≤ x → x ≤ 57 → (convert 54 9 (.slice (some ⟨W.heap.size, 0, none⟩) 1 1)).run Tryz.prog (W.alloc (.cells #[.int .u8 x] 5)) = .ok (.string ⟨#[UInt8.ofNat x.toNat]⟩) (W.alloc (.cells #[.int .u8 x] 5)) := fun W x h1 h2 => one_digit _ _ _ h1 h2 (by simp)
    have cw : ∀ (W : World) (o : Obj) (x : Int), 48 ≤ x → x ≤ 57 → (convert 54 9 (.slice (some ⟨W.heap.size + 1, 0, none⟩) 1 1)).run Tryz.prog ((W.alloc o).alloc (.cells #[.int .u8 x] 5)) = .ok (.string ⟨#[UInt8.ofNat x.toNat]⟩) ((W.alloc o).alloc (.cells #[.int .u8 x] 5)) := fun W o x h1 h2 => one_digit _ _ _ h1 h2 (by simp)
    go_enter Tryz.func93, Tryz.ntmps93
    go_wp2
    refine wp_loop_rounds 2 ?_
    rw [rounds_succ]
    go_wp2
    try (rw [rounds_succ]; go_wp2)
    go_ret
    trace_state
    refine ⟨rfl, ?_⟩
    first
      | exact (Below.refl _ _).alloc (Nat.le_refl _) _
      | exact ((Below.refl _ _).alloc (Nat.le_refl _) _).alloc (by simp) _
theorem refDecimal_any {n : Nat} (h : To10 n) (w : World) : Calls Tryz.prog 93 #[.int .i64 n] w fun e w' => e = .returned (.string (dg n)) ∧ Below w.heap.size w w' := refDecimal_int n h.int w
end Go.Proofs.YtplleaimmmanhaaGreatDoor
namespace Go.Proofs.YtplleaimmmanhaaGreatDoor
open Go Go.RowKit

abbrev bByte : ByteArray := ⟨#[98, 121, 116, 101]⟩
abbrev bShort : ByteArray := ⟨#[115, 104, 111, 114, 116]⟩
/-- 'byte N: short'. -/
def fw (n : Nat) : ByteArray := (((bByte ++ ⟨#[32]⟩) ++ dg n) ++ ⟨#[58, 32]⟩) ++ bShort
theorem dg_size (n : Nat) : (dg n).size ≤ 2 := by unfold dg; split <;> simp [ByteArray.size]
theorem invokeErrno (v : Value) (w : World) : (Go.method 377 88 v "Error").run Tryz.prog w = .ok (192, v) w := by kernel_rfl
theorem invokeFault (v : Value) (w : World) : (Go.method 377 89 v "Error").run Tryz.prog w = .ok (193, v) w := by kernel_rfl
theorem nilErrno (c : Int) (w : World) : (binOp .eql 32 (.iface 88 (.int .i64 c)) .nilIface).run Tryz.prog w = .ok (.bool false) w := by kernel_rfl

attribute [-go_sem] run_string_add_if
set_option maxRecDepth 100000 in
set_option maxHeartbeats 4000000 in
theorem fault_error (w : World) (F n : Nat) (hF : Blk w F 93 #[.string bByte, .int .i64 n, .iface 88 (.int .i64 3)]) (hn : To10 n) :
    Calls Tryz.prog 193 #[.pointer (some ⟨F, 0, none⟩)] w fun e w' => e = .returned (.string (fw n)) ∧ ∃ k, w' = w.drewN k := by
  have c0 := hF.cell 0
  have c1 := hF.cell 1
  have c2 := hF.cell 2
  have hFl := hF.lt
  have mE := invokeErrno
  have nE := nilErrno
  have IT := Lib.hid fun W => itoa_any hn W
  have SH := Lib.hid fun W => short_word W
  have hd := dg_size n
  obtain ⟨s1, hs1, hz1, hr1⟩ := sum_named bByte ⟨#[32]⟩ (by decide)
  have hz1' : s1.size = 5 := by rw [hz1]; rfl
  obtain ⟨s2, hs2, hz2, hr2⟩ := sum_named s1 (dg n) (by omega)
  obtain ⟨s3, hs3, hz3, hr3⟩ := sum_named s2 ⟨#[58, 32]⟩ (by rw [hz2, hz1']; show 5 + (dg n).size + 2 ≤ _; omega)
  obtain ⟨s4, hs4, hz4, hr4⟩ := sum_named s3 bShort (by rw [hz3, hz2, hz1']; show 5 + (dg n).size + 2 + 5 ≤ _; omega)
  have HS : Hid (s4 = fw n) := Lib.hid (by rw [hs4, hs3, hs2, hs1]; rfl)
  clear hF hs1 hs2 hs3 hs4 hz1 hz2 hz3 hz4 hz1'
  obtain ⟨D, hD⟩ : ∃ D, D = dg n := ⟨_, rfl⟩
  rw [← hD] at IT hr2 hd
  clear hD
  go_enter Tryz.func193, Tryz.ntmps193
  go_wp2_with fail
  go_quiet ((first | (go_at_call 195; exact Calls.quiet_of_same (IT.out _)) | (go_at_call 192; exact Calls.quiet_of_same (SH.out _))))
  go_wp2_with fail
  go_ret
  exact ⟨by rw [HS.out]; rfl, nq, rfl⟩
end Go.Proofs.YtplleaimmmanhaaGreatDoor
namespace Go.Proofs.YtplleaimmmanhaaGreatDoor
open Go Go.RowKit

/-- A Wrong of one part, Errno 3. -/
def WrongAt (w : World) (g n : Nat) : Prop := Blk w g 95 #[.string bByte, .int .i64 n]
abbrev wrong1 (g : Nat) : Value := .agg #[.slice (some ⟨g, 0, none⟩) 1 1, .int .i64 3]
set_option maxHeartbeats 1000000 in
theorem refAt_any (n : Nat) (w : World) : Calls Tryz.prog 49 #[.string bByte, .int .i64 n, .int .i64 3] w fun e w' => ∃ g, e = .returned (wrong1 g) ∧ WrongAt w' g n ∧ w.heap.size ≤ g ∧ Below w.heap.size w w' := by
  go_enter Tryz.func49, Tryz.ntmps49
  go_wp2
  refine bodyPost_ret (results_cell_row (fn := Tryz.f49) rfl _ _ w.heap.size 36 #[.slice (some ⟨w.heap.size + 1, 0, none⟩) 1 1, .int .i64 3] (0, 0) _ rfl ((Blk.new w 36 _).alloc _) Tryz.underlying36 rfl (by kernel_rfl)) rfl ⟨w.heap.size + 1, rfl, ?_, by omega, ((Below.refl _ _).alloc (Nat.le_refl _) _).alloc (by simp) _⟩
  have h := heap_alloc_new (w.alloc (.cells #[.slice (some ⟨w.heap.size + 1, 0, none⟩) 1 1, .int .i64 3] 36)) (.cells #[.string bByte, .int .i64 n] 95)
  rw [show (w.alloc (.cells #[.slice (some ⟨w.heap.size + 1, 0, none⟩) 1 1, .int .i64 3] 36)).heap.size = w.heap.size + 1 by simp] at h
  exact h

structure WA (w0 w : World) (B1 g n : Nat) : Prop where
  box : Blk w B1 36 #[.slice (some ⟨g, 0, none⟩) 1 1, .int .i64 3]
  part : Blk w g 95 #[.string bByte, .int .i64 n]
  bel : Below w0.heap.size w0 w
theorem WA.below {w0 w w' : World} {B1 g n : Nat} (h : WA w0 w B1 g n) (hb : Below w.heap.size w w') : WA w0 w' B1 g n :=
  ⟨h.box.below hb h.box.lt, h.part.below hb h.part.lt, h.bel.trans (hb.mono h.bel.size)⟩
theorem WA.drew {w0 w w' : World} {B1 g n : Nat} (h : WA w0 w B1 g n) (hb : Below w.drew.heap.size w.drew w') : WA w0 w' B1 g n := (h.below (below_drewN (Below.refl _ w) 1)).below hb
theorem WA.cells {w0 w : World} {B1 g n : Nat} (h : WA w0 w B1 g n) : w.cell? ⟨B1, 0, none⟩ = some (.slice (some ⟨g, 0, none⟩) 1 1) ∧ w.cell? ⟨g, 0, none⟩ = some (.string bByte) ∧ w.cell? ⟨g, 1, none⟩ = some (.int .i64 n) := ⟨h.box.cell 0, h.part.cell 0, h.part.cell 1⟩

attribute [-go_sem] run_string_add_if
set_option maxRecDepth 100000 in
set_option maxHeartbeats 4000000 in
theorem words_any (w : World) (g n : Nat) (hg : WrongAt w g n) (hn : To10 n) :
    Calls Tryz.prog 45 #[wrong1 g] w fun e w' => e = .returned (.string (fw n)) ∧ Below w.heap.size w w' := by
  have T0 := Lib.hid (WA.mk (w0 := w) (heap_alloc_new w (.cells #[.slice (some ⟨g, 0, none⟩) 1 1, .int .i64 3] 36)) (hg.below ((Below.refl _ _).alloc (Nat.le_refl _) _) hg.lt) ((Below.refl _ _).alloc (Nat.le_refl _) _))
  have DEC := Lib.hid fun W => refDecimal_any hn W
  have SH := Lib.hid fun W => refWord_short W
  have hd := dg_size n
  obtain ⟨s0, hs0, hz0, hr0⟩ := sum_named ⟨#[]⟩ bByte (by decide)
  have e0 : s0 = bByte := by rw [hs0]; decide
  subst e0
  obtain ⟨s1, hs1, hz1, hr1⟩ := sum_named bByte ⟨#[32]⟩ (by decide)
  have hz1' : s1.size = 5 := by rw [hz1]; rfl
  obtain ⟨s2, hs2, hz2, hr2⟩ := sum_named s1 (dg n) (by omega)
  obtain ⟨s3, hs3, hz3, hr3⟩ := sum_named s2 ⟨#[58, 32]⟩ (by rw [hz2, hz1']; show 5 + (dg n).size + 2 ≤ _; omega)
  obtain ⟨s4, hs4, hz4, hr4⟩ := sum_named s3 bShort (by rw [hz3, hz2, hz1']; show 5 + (dg n).size + 2 + 5 ≤ _; omega)
  have HS : Hid (s4 = fw n) := Lib.hid (by rw [hs4, hs3, hs2, hs1]; rfl)
  clear hg hs0 hz0 hs1 hs2 hs3 hs4 hz1 hz2 hz3 hz4 hz1'
  obtain ⟨D, hD⟩ : ∃ D, D = dg n := ⟨_, rfl⟩
  rw [← hD] at DEC hr2 hd
  clear hD
  have c0 := T0.out.box.cell 0
  have c1 := T0.out.box.cell 1
  go_enter Tryz.func45, Tryz.ntmps45
  go_wp2_with fail
  refine wp_loop_rounds 2 ?_
  rw [rounds_succ]
  go_wp2_with fail
  refine wp_region_held_drew (S := fun w' => w'.cell? ⟨w.heap.size, 0, none⟩ = some (.slice (some ⟨g, 0, none⟩) 1 1) ∧ w'.cell? ⟨g, 0, none⟩ = some (.string bByte) ∧ w'.cell? ⟨g, 1, none⟩ = some (.int .i64 n)) (by kernel_rfl) (T0.out.cells) (fun hHeld => ?_)
  refine wpAnyH_take (i := 0) (oi := { dst := some 12, op := Op.move (Operand.tmp 3), type := 9, pos := "ref.go:62", after := #[], guard := none }) (v := ?vw0) rfl (by kernel_rfl) (by kernel_rfl) (by kernel_rfl) (fun _ _ _ h => h) (Or.inl ⟨by rfl, ?yw0⟩) (by assumption) ?rw0
  case yw0 => (intro w' hSw; (try dsimp only at hSw); go_simp; try with_reducible rfl)
  try simp only [Act.put, List.setIfInBounds_toArray, List.set_cons_zero, List.set_cons_succ]
  refine wpAnyH_take (i := 1) (oi := { dst := some 13, op := Op.fieldAddr 36 (Operand.tmp 1) 0, type := 0, pos := "ref.go:62", after := #[], guard := none }) (v := ?vw1) rfl (by kernel_rfl) (by kernel_rfl) (by kernel_rfl) (fun _ _ _ h => h) (Or.inl ⟨by rfl, ?yw1⟩) (by assumption) ?rw1
  case yw1 => (intro w' hSw; (try dsimp only at hSw); go_simp; try with_reducible rfl)
  try simp only [Act.put, List.setIfInBounds_toArray, List.set_cons_zero, List.set_cons_succ]
  refine wpAnyH_take (i := 2) (oi := { dst := some 14, op := Op.load 34 (Operand.tmp 13), type := 34, pos := "ref.go:62", after := #[{ on := 1, ground := Ground.data }], guard := none }) (v := ?vw2) rfl (by kernel_rfl) (by kernel_rfl) (by kernel_rfl) (fun _ _ _ h => h) (Or.inl ⟨by rfl, ?yw2⟩) (by assumption) ?rw2
  case yw2 => (intro w' hSw; (try dsimp only at hSw); go_simp; try with_reducible rfl)
  try simp only [Act.put, List.setIfInBounds_toArray, List.set_cons_zero, List.set_cons_succ]
  refine wpAnyH_take (i := 3) (oi := { dst := some 15, op := Op.move (Operand.tmp 4), type := 3, pos := "ref.go:62", after := #[], guard := none }) (v := ?vw3) rfl (by kernel_rfl) (by kernel_rfl) (by kernel_rfl) (fun _ _ _ h => h) (Or.inl ⟨by rfl, ?yw3⟩) (by assumption) ?rw3
  case yw3 => (intro w' hSw; (try dsimp only at hSw); go_simp; try with_reducible rfl)
  try simp only [Act.put, List.setIfInBounds_toArray, List.set_cons_zero, List.set_cons_succ]
  refine wpAnyH_take (i := 4) (oi := { dst := some 16, op := Op.indexAddr 34 (Operand.tmp 14) (Operand.tmp 15), type := 0, pos := "ref.go:62", after := #[{ on := 2, ground := Ground.data }, { on := 3, ground := Ground.data }], guard := none }) (v := ?vw4) rfl (by kernel_rfl) (by kernel_rfl) (by kernel_rfl) (fun _ _ _ h => h) (Or.inl ⟨by rfl, ?yw4⟩) (by assumption) ?rw4
  case yw4 => (intro w' hSw; (try dsimp only at hSw); go_simp; try with_reducible rfl)
  try simp only [Act.put, List.setIfInBounds_toArray, List.set_cons_zero, List.set_cons_succ]
  refine wpAnyH_take (i := 5) (oi := { dst := some 17, op := Op.fieldAddr 95 (Operand.tmp 16) 0, type := 0, pos := "ref.go:62", after := #[{ on := 4, ground := Ground.data }], guard := none }) (v := ?vw5) rfl (by kernel_rfl) (by kernel_rfl) (by kernel_rfl) (fun _ _ _ h => h) (Or.inl ⟨by rfl, ?yw5⟩) (by assumption) ?rw5
  case yw5 => (intro w' hSw; (try dsimp only at hSw); go_simp; try with_reducible rfl)
  try simp only [Act.put, List.setIfInBounds_toArray, List.set_cons_zero, List.set_cons_succ]
  refine wpAnyH_take (i := 6) (oi := { dst := some 18, op := Op.load 9 (Operand.tmp 17), type := 9, pos := "ref.go:62", after := #[{ on := 5, ground := Ground.data }], guard := none }) (v := ?vw6) rfl (by kernel_rfl) (by kernel_rfl) (by kernel_rfl) (fun _ _ _ h => h) (Or.inl ⟨by rfl, ?yw6⟩) (by assumption) ?rw6
  case yw6 => (intro w' hSw; (try dsimp only at hSw); go_simp; try with_reducible rfl)
  try simp only [Act.put, List.setIfInBounds_toArray, List.set_cons_zero, List.set_cons_succ]
  refine wpAnyH_take (i := 7) (oi := { dst := some 19, op := Op.binOp BinOp.add 9 (Operand.tmp 12) (Operand.tmp 18) 9, type := 9, pos := "ref.go:62", after := #[{ on := 0, ground := Ground.data }, { on := 6, ground := Ground.data }], guard := none }) (v := ?vw7) rfl (by kernel_rfl) (by kernel_rfl) (by kernel_rfl) (fun _ _ _ h => h) (Or.inl ⟨by rfl, ?yw7⟩) (by assumption) ?rw7
  case yw7 => (intro w' hSw; (try dsimp only at hSw); go_simp; try with_reducible rfl)
  try simp only [Act.put, List.setIfInBounds_toArray, List.set_cons_zero, List.set_cons_succ]
  refine wpAnyH_take (i := 8) (oi := { dst := some 20, op := Op.binOp BinOp.add 9 (Operand.tmp 19) (Operand.const (Value.string { data := #[32] })) 9, type := 9, pos := "ref.go:62", after := #[{ on := 7, ground := Ground.data }], guard := none }) (v := ?vw8) rfl (by kernel_rfl) (by kernel_rfl) (by kernel_rfl) (fun _ _ _ h => h) (Or.inl ⟨by rfl, ?yw8⟩) (by assumption) ?rw8
  case yw8 => (intro w' hSw; (try dsimp only at hSw); go_simp; try with_reducible rfl)
  try simp only [Act.put, List.setIfInBounds_toArray, List.set_cons_zero, List.set_cons_succ]
  refine wpAnyH_take (i := 9) (oi := { dst := some 21, op := Op.fieldAddr 36 (Operand.tmp 1) 0, type := 0, pos := "ref.go:62", after := #[], guard := none }) (v := ?vw9) rfl (by kernel_rfl) (by kernel_rfl) (by kernel_rfl) (fun _ _ _ h => h) (Or.inl ⟨by rfl, ?yw9⟩) (by assumption) ?rw9
  case yw9 => (intro w' hSw; (try dsimp only at hSw); go_simp; try with_reducible rfl)
  try simp only [Act.put, List.setIfInBounds_toArray, List.set_cons_zero, List.set_cons_succ]
  refine wpAnyH_take (i := 10) (oi := { dst := some 22, op := Op.load 34 (Operand.tmp 21), type := 34, pos := "ref.go:62", after := #[{ on := 9, ground := Ground.data }], guard := none }) (v := ?vw10) rfl (by kernel_rfl) (by kernel_rfl) (by kernel_rfl) (fun _ _ _ h => h) (Or.inl ⟨by rfl, ?yw10⟩) (by assumption) ?rw10
  case yw10 => (intro w' hSw; (try dsimp only at hSw); go_simp; try with_reducible rfl)
  try simp only [Act.put, List.setIfInBounds_toArray, List.set_cons_zero, List.set_cons_succ]
  refine wpAnyH_take (i := 11) (oi := { dst := some 23, op := Op.move (Operand.tmp 4), type := 3, pos := "ref.go:62", after := #[], guard := none }) (v := ?vw11) rfl (by kernel_rfl) (by kernel_rfl) (by kernel_rfl) (fun _ _ _ h => h) (Or.inl ⟨by rfl, ?yw11⟩) (by assumption) ?rw11
  case yw11 => (intro w' hSw; (try dsimp only at hSw); go_simp; try with_reducible rfl)
  try simp only [Act.put, List.setIfInBounds_toArray, List.set_cons_zero, List.set_cons_succ]
  refine wpAnyH_take (i := 12) (oi := { dst := some 24, op := Op.indexAddr 34 (Operand.tmp 22) (Operand.tmp 23), type := 0, pos := "ref.go:62", after := #[{ on := 10, ground := Ground.data }, { on := 11, ground := Ground.data }], guard := none }) (v := ?vw12) rfl (by kernel_rfl) (by kernel_rfl) (by kernel_rfl) (fun _ _ _ h => h) (Or.inl ⟨by rfl, ?yw12⟩) (by assumption) ?rw12
  case yw12 => (intro w' hSw; (try dsimp only at hSw); go_simp; try with_reducible rfl)
  try simp only [Act.put, List.setIfInBounds_toArray, List.set_cons_zero, List.set_cons_succ]
  refine wpAnyH_take (i := 13) (oi := { dst := some 25, op := Op.fieldAddr 95 (Operand.tmp 24) 1, type := 0, pos := "ref.go:62", after := #[{ on := 12, ground := Ground.data }], guard := none }) (v := ?vw13) rfl (by kernel_rfl) (by kernel_rfl) (by kernel_rfl) (fun _ _ _ h => h) (Or.inl ⟨by rfl, ?yw13⟩) (by assumption) ?rw13
  case yw13 => (intro w' hSw; (try dsimp only at hSw); go_simp; try with_reducible rfl)
  try simp only [Act.put, List.setIfInBounds_toArray, List.set_cons_zero, List.set_cons_succ]
  refine wpAnyH_take (i := 14) (oi := { dst := some 26, op := Op.load 3 (Operand.tmp 25), type := 3, pos := "ref.go:62", after := #[{ on := 13, ground := Ground.data }], guard := none }) (v := ?vw14) rfl (by kernel_rfl) (by kernel_rfl) (by kernel_rfl) (fun _ _ _ h => h) (Or.inl ⟨by rfl, ?yw14⟩) (by assumption) ?rw14
  case yw14 => (intro w' hSw; (try dsimp only at hSw); go_simp; try with_reducible rfl)
  try simp only [Act.put, List.setIfInBounds_toArray, List.set_cons_zero, List.set_cons_succ]
  refine wpAnyH_ready (rs := [15]) (by kernel_rfl) (by simp) ?_
  refine AllReadyH.cons (o := { dst := some 27, op := Op.call { callee := Callee.value (Operand.func 93), args := #[Operand.tmp 26], argTypes := #[3] }, type := 9, pos := "ref.go:62", after := #[{ on := 14, ground := Ground.data }], guard := none }) rfl (fun K hK => ?_) AllReadyH.nil
  go_simp
  go_at_call 93
  refine (DEC.out _).mono ?_
  rintro e w2 ⟨rfl, hb2⟩
  have T2 := Lib.hid (WA.drew T0.out hb2)
  go_wp2_with fail
  refine hK.out _ _ (T2.out.cells) (fun hHeldw15 => ?_)
  clear hK K hHeld
  try simp only [Act.put, List.setIfInBounds_toArray, List.set_cons_zero, List.set_cons_succ]
  refine wpAnyH_take (i := 16) (oi := { dst := some 28, op := Op.binOp BinOp.add 9 (Operand.tmp 20) (Operand.tmp 27) 9, type := 9, pos := "ref.go:62", after := #[{ on := 8, ground := Ground.data }, { on := 15, ground := Ground.data }], guard := none }) (v := ?vw16) rfl (by kernel_rfl) (by kernel_rfl) (by kernel_rfl) (fun _ _ _ h => h) (Or.inl ⟨by rfl, ?yw16⟩) (by assumption) ?rw16
  case yw16 => (intro w' hSw; (try dsimp only at hSw); go_simp; try with_reducible rfl)
  try simp only [Act.put, List.setIfInBounds_toArray, List.set_cons_zero, List.set_cons_succ]
  refine wpAnyH_take (i := 17) (oi := { dst := some 29, op := Op.binOp BinOp.add 9 (Operand.tmp 28) (Operand.const (Value.string { data := #[58, 32] })) 9, type := 9, pos := "ref.go:62", after := #[{ on := 16, ground := Ground.data }], guard := none }) (v := ?vw17) rfl (by kernel_rfl) (by kernel_rfl) (by kernel_rfl) (fun _ _ _ h => h) (Or.inl ⟨by rfl, ?yw17⟩) (by assumption) ?rw17
  case yw17 => (intro w' hSw; (try dsimp only at hSw); go_simp; try with_reducible rfl)
  try simp only [Act.put, List.setIfInBounds_toArray, List.set_cons_zero, List.set_cons_succ]
  refine wpAnyH_take (i := 18) (oi := { dst := some 3, op := Op.assign (Operand.tmp 29), type := 9, pos := "ref.go:62", after := #[{ on := 17, ground := Ground.data }, { on := 15, ground := Ground.chain }, { on := 0, ground := Ground.phase }, { on := 1, ground := Ground.phase }, { on := 2, ground := Ground.phase }, { on := 3, ground := Ground.phase }, { on := 4, ground := Ground.phase }, { on := 5, ground := Ground.phase }, { on := 6, ground := Ground.phase }, { on := 7, ground := Ground.phase }, { on := 8, ground := Ground.phase }, { on := 9, ground := Ground.phase }, { on := 10, ground := Ground.phase }, { on := 11, ground := Ground.phase }, { on := 12, ground := Ground.phase }, { on := 13, ground := Ground.phase }, { on := 14, ground := Ground.phase }, { on := 15, ground := Ground.phase }, { on := 16, ground := Ground.phase }, { on := 17, ground := Ground.phase }], guard := none }) (v := ?vw18) rfl (by kernel_rfl) (by kernel_rfl) (by kernel_rfl) (fun _ _ _ h => h) (Or.inl ⟨by rfl, ?yw18⟩) (by assumption) ?rw18
  case yw18 => (intro w' hSw; (try dsimp only at hSw); go_simp; try with_reducible rfl)
  try simp only [Act.put, List.setIfInBounds_toArray, List.set_cons_zero, List.set_cons_succ]
  refine wpAnyH_done (by kernel_rfl) ?_ _
  clear T0
  have c0 := T2.out.box.cell 0
  have c1 := T2.out.box.cell 1
  go_wp2_with fail
  rw [rounds_succ]
  go_wp2_with fail
  refine (SH.out _).mono ?_
  rintro e w3 ⟨rfl, hb3⟩
  go_wp2_with fail
  go_ret
  exact ⟨by rw [HS.out]; rfl, (T2.out.below hb3).bel⟩
end Go.Proofs.YtplleaimmmanhaaGreatDoor
namespace Go.Proofs.YtplleaimmmanhaaGreatDoor
open Go Go.RowKit

def To14 (e : Int) : Prop := e = 1 ∨ e = 2 ∨ e = 3 ∨ e = 4 ∨ e = 5 ∨ e = 6 ∨ e = 7 ∨ e = 8 ∨ e = 9 ∨ e = 10 ∨ e = 11 ∨ e = 12 ∨ e = 13 ∨ e = 14
theorem to14 {e : Int} (h1 : 1 ≤ e) (h2 : e ≤ 14) : To14 e := by unfold To14; omega
/-- An Errno's word. -/
def ew (e : Int) : ByteArray :=
  if e = 1 then ⟨#[97, 114, 103]⟩ else if e = 2 then ⟨#[102, 111, 114, 109]⟩ else if e = 3 then ⟨#[115, 104, 111, 114, 116]⟩ else if e = 4 then ⟨#[108, 111, 110, 103]⟩
  else if e = 5 then ⟨#[110, 97, 109, 101]⟩ else if e = 6 then ⟨#[116, 119, 105, 99, 101]⟩ else if e = 7 then ⟨#[115, 116, 97, 116, 101]⟩ else if e = 8 then ⟨#[100, 105, 114, 116, 121]⟩
  else if e = 9 then ⟨#[99, 111, 110, 102, 108, 105, 99, 116]⟩ else if e = 10 then ⟨#[115, 97, 109, 101]⟩ else if e = 11 then ⟨#[119, 97, 121]⟩ else if e = 12 then ⟨#[115, 117, 109]⟩
  else if e = 13 then ⟨#[100, 111, 119, 110]⟩ else ⟨#[113, 117, 111, 116, 97]⟩
theorem ew_size {e : Int} (h : To14 e) : (ew e).size ≤ 8 := by
  rcases h with rfl | rfl | rfl | rfl | rfl | rfl | rfl | rfl | rfl | rfl | rfl | rfl | rfl | rfl <;> decide

set_option maxRecDepth 100000 in
set_option maxHeartbeats 4000000 in
theorem errno_any (e : Int) (h : To14 e) (w : World) : Calls Tryz.prog 192 #[.int .i64 e] w fun x w' => x = .returned (.string (ew e)) ∧ w' = w := by
  rcases h with rfl | rfl | rfl | rfl | rfl | rfl | rfl | rfl | rfl | rfl | rfl | rfl | rfl | rfl
  all_goals
    go_enter Tryz.func192, Tryz.ntmps192
    go_wp2
    go_ret
    exact ⟨rfl, rfl⟩
set_option maxRecDepth 100000 in
set_option maxHeartbeats 8000000 in
theorem refWord_any (e : Int) (h : To14 e) (w : World) : Calls Tryz.prog 94 #[.int .i64 e] w fun x w' => x = .returned (.string (ew e)) ∧ Below w.heap.size w w' := by
  rcases h with rfl | rfl | rfl | rfl | rfl | rfl | rfl | rfl | rfl | rfl | rfl | rfl | rfl | rfl
  all_goals
    go_enter Tryz.func94, Tryz.ntmps94
    go_wp2
    go_ret
    exact ⟨rfl, (Below.refl _ _).alloc (Nat.le_refl _) _⟩
end Go.Proofs.YtplleaimmmanhaaGreatDoor
