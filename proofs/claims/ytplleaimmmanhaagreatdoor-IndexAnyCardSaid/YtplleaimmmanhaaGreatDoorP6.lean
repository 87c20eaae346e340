/-
  (*Enc).number.
  seal.Put: bytes and their sum behind them.
  seal.Open of what seal.Put made.
  (*Enc).Int.
  (*Enc).Text, (*Enc).Bytes, bytes.Clone, Of.
  bytes.Clone, (*Enc).Bytes, Of.
  number: a number read.
  (*Dec).Int, (*Dec).Text, (*Dec).Left, (*Dec).Err, where nothing is wrong.
  (*Dec).Text, (*Dec).Left, (*Dec).Err, where nothing is wrong.
  index.Encode of entries that may be.
  index.Decode of what index.Encode made.
  (Row).Put: a file put into a tree that rises.
-/
import Derived.Test.YtplleaimmmanhaaGreatDoorP4
import Derived.Test.YtplleaimmmanhaaGreatDoorP5
import Derived.Laws.MakeOwn
import Derived.Laws.CopyOwn
import Derived.Lib.AppendStr
import Derived.Lib.AppendZeros
import Derived.Laws.IdiomStrings
namespace Go.Proofs.YtplleaimmmanhaaGreatDoor
open Go Go.RowKit

/-- An Enc that had l at v has l' now. -/
def Put (w : World) (B E : Nat) (v : Value) (l' : List UInt8) (w' : World) : Prop := ∃ v', EncAt w' B E v' l' ∧ Touch w w' E v.ownBlock ∧ Same1 w v.ownBlock v'.ownBlock

theorem byte_cell {y : Nat} (h : y < 256) : [Value.int .u8 (y : Int)] = bc [UInt8.ofNat y] := by
  show _ = [Value.int .u8 ((UInt8.ofNat y).toNat : Int)]
  rw [show (UInt8.ofNat y).toNat = y by simp [UInt8.toNat_ofNat']; omega]
/-- One append, stored. -/
theorem put_step {w wr w3 : World} {B E : Nat} {v v2 v3 : Value} {l2 m : List UInt8} {cs : List Value} {o : Obj} (hE : EncAt wr B E v2 l2) (hT : Touch w wr E v.ownBlock) (hS : Same1 w v.ownBlock v2.ownBlock)
    (hc : cs = bc m) (ho : w3.ownsRow B 5 1 v3 (l2.length + m.length) (bc l2 ++ cs)) (hg : (wr.alloc o).grownBy w3 v2.ownBlock) (hat : v3.ownBlock = v2.ownBlock ∨ ∃ g, v3.ownBlock = some g ∧ wr.heap.size ≤ g) (hb : Blk w3 E 109 #[v2]) :
    EncAt (w3.setCell ⟨E, 0, none⟩ v3) B E v3 (l2 ++ m) ∧ Touch w (w3.setCell ⟨E, 0, none⟩ v3) E v.ownBlock ∧ Same1 w v.ownBlock v3.ownBlock := by
  subst hc
  have hS3 : Same1 wr v2.ownBlock v3.ownBlock := hat
  have hw3 : wr.heap.size ≤ w3.heap.size := Nat.le_trans (by simp) hg.size
  have hT3 : Touch wr w3 E v2.ownBlock := (Touch.of_below ((Below.refl wr.heap.size wr).alloc (Nat.le_refl _) o)).trans (.inl rfl) (Touch.of_grown hg)
  have hne : v3.ownBlock ≠ some E := own_blk_ne ho hb (by decide)
  have hT4 : Touch w3 (w3.setCell ⟨E, 0, none⟩ v3) E none := ⟨rfl, rfl, rfl, by simp, fun k _ hk _ => Below.heap_setCell _ _ _ _ hk⟩
  have hT4' : Touch w3 (w3.setCell ⟨E, 0, none⟩ v3) E v3.ownBlock := ⟨hT4.os, hT4.tape, hT4.output, hT4.size, fun k hk hE _ => hT4.block k hk hE (by simp)⟩
  refine ⟨⟨by have := hb.set_ 0 v3; simpa using this, ?_, hE.lo⟩, hT.trans hS (hT3.trans hS3 hT4'), hS.trans hT.size hS3⟩
  have := hT4.own ho hne (by cases h : v3.ownBlock <;> simp)
  show World.ownsRow _ B 5 1 v3 _ _
  rw [List.length_append]
  show World.ownsRow _ B 5 1 v3 _ (Lib.byteCells _)
  rw [Lib.byteCells_append]
  exact this

set_option maxRecDepth 100000 in
set_option maxHeartbeats 2000000 in
theorem number_any (w : World) (B E : Nat) (v : Value) (l : List UInt8) (u : Nat) (h : EncAt w B E v l) (hu : u < 18446744073709551616) (hl : l.length ≤ 1000000) (hBw : B ≤ w.heap.size) :
    Calls Tryz.prog 116 #[.pointer (some ⟨E, 0, none⟩), .int .u64 u] w fun e w' => e = .returned (.tuple #[]) ∧ Put w B E v (l ++ enc u) w' := by
  obtain ⟨i0, hi0, hz0, hz1, hz2⟩ := info_parts byteInfo
  have H0 := Lib.hid h
  have HU := Lib.hid hu
  clear h hu
  go_enter Tryz.func116, Tryz.ntmps116
  go_wp2_with fail
  go_loopw [1] (fun s1 wr => ∃ (x : Nat) (l2 : List UInt8) (v2 : Value) (n : Nat), s1 = .int .u64 x ∧ Hid (x < 18446744073709551616) ∧ Hid (l2 ++ enc x = l ++ enc u) ∧ Hid (l2.length = l.length + n) ∧ Hid (x < 2 ^ (7 * (10 - n)) ∧ n ≤ 10) ∧ EncAt wr B E v2 l2 ∧ Touch w wr E v.ownBlock ∧ Same1 w v.ownBlock v2.ownBlock) (fun s1 _ => (intOf s1).toNat)
  case atStart => exact ⟨u, l, v, 0, rfl, HU, Lib.hid rfl, Lib.hid rfl, Lib.hid ⟨Nat.lt_trans HU.out (by decide), by omega⟩, H0.out, Touch.refl _ _ _, .inl rfl⟩
  case round =>
    obtain ⟨x, l2, v2, n, rfl, HX, hL, hN, HP, hE, hT, hS⟩ := hrel
    have x0 : (0 : Int) ≤ (x : Int) := Int.natCast_nonneg _
    have c0 := hE.blk.cell 0
    have f0 := hE.blk.frozen 0
    have hlt := hE.blk.lt
    have HE := Lib.hid hE
    have HT := Lib.hid hT
    have HS := Lib.hid hS
    clear hE hT hS
    obtain ⟨A, c, rfl⟩ := own_form HE.out.own
    have hBr : B ≤ wr.heap.size := Nat.le_trans hBw HT.out.size
    have hl2 : l2.length ≤ 1000010 := by have := hN.out; have := HP.out.2; omega
    by_cases h128 : x < 128
    · have b1 : ¬ (128 : Int) ≤ (x : Int) := by omega
      have hy : x < 256 := by omega
      go_wp2_with (at_builtin; refine wpList_append_own_at _ rfl _ _ 54 rfl B 5 i0 _ 1 1 Tryz.underlying54 hi0 hz0 hz1 hz2 rfl (by decide) _ _ _ rfl (HE.out.own.alloc _) ⟨wr.heap.size, 0, none⟩ 1 1 [.int .u8 (x : Int)] rfl rfl ?c1 ?c2 ?c3 ?c4 ?c5 ?_)
      try case c1 => exact World.news_of_block (heap_alloc_new wr _)
      case c2 => first | rfl | (intro u hu; simp at hu; rcases hu with rfl; rfl)
      case c3 => unfold maxLen; omega
      case c4 => omega
      case c5 => first | exact hBr | omega | (simp; omega)
      intro v3 w3 hown3 hg3 _ hat3
      obtain ⟨A3, c3, rfl⟩ := own_form hown3
      have E3 : Blk w3 E 109 #[.slice A l2.length c] := (HE.out.blk.alloc _).grown hg3 (fun e => HE.out.ne e.symm)
      have c0' := E3.cell 0
      have f0' := E3.frozen 0
      have hlt3 := E3.lt
      have HPUT := Lib.hid (put_step (m := [UInt8.ofNat x]) HE.out HT.out HS.out (byte_cell hy) hown3 hg3 (hat3.imp id fun h => ⟨_, h, by first | omega | simp⟩) E3)
      clear hown3 hg3 hat3 E3
      go_wp2_with fail
      go_end0
      exact ⟨rfl, _, by rw [← hL.out, enc_small h128]; exact HPUT.out.1, HPUT.out.2.1, HPUT.out.2.2⟩
    · have b1 : (128 : Int) ≤ (x : Int) := by omega
      obtain ⟨y, hyx⟩ : ∃ y, y = x % 128 + 128 := ⟨_, rfl⟩
      have hy : y < 256 := by omega
      have hb : bits .or .u8 ((x : Int) % 256) 128 = (y : Int) := by
        have := u8_or128' (x % 256) (by omega)
        rw [show ((x % 256 : Nat) : Int) = (x : Int) % 256 by omega] at this
        rw [this, hyx]; omega
      have HY := Lib.hid hyx
      clear hyx
      go_wp2_with (at_builtin; refine wpList_append_own_at _ rfl _ _ 54 rfl B 5 i0 _ 1 1 Tryz.underlying54 hi0 hz0 hz1 hz2 rfl (by decide) _ _ _ rfl (HE.out.own.alloc _) ⟨wr.heap.size, 0, none⟩ 1 1 [.int .u8 (y : Int)] rfl rfl ?d1 ?d2 ?d3 ?d4 ?d5 ?_)
      try case d1 => exact World.news_of_block (heap_alloc_new wr _)
      case d2 => first | rfl | (intro u hu; simp at hu; rcases hu with rfl; rfl)
      case d3 => unfold maxLen; omega
      case d4 => omega
      case d5 => first | exact hBr | omega | (simp; omega)
      intro v3 w3 hown3 hg3 _ hat3
      obtain ⟨A3, c3, rfl⟩ := own_form hown3
      have E3 : Blk w3 E 109 #[.slice A l2.length c] := (HE.out.blk.alloc _).grown hg3 (fun e => HE.out.ne e.symm)
      have c0' := E3.cell 0
      have f0' := E3.frozen 0
      have hlt3 := E3.lt
      have HPUT := Lib.hid (put_step (m := [UInt8.ofNat y]) HE.out HT.out HS.out (byte_cell hy) hown3 hg3 (hat3.imp id fun h => ⟨_, h, by first | omega | simp⟩) E3)
      clear hown3 hg3 hat3 E3
      go_wp2_with fail
      have HX2 : Hid (x / 128 < 18446744073709551616) := Lib.hid (by have := HX.out; omega)
      have HL2 : Hid ((l2 ++ [UInt8.ofNat y]) ++ enc (x / 128) = l ++ enc u) := Lib.hid (by rw [← hL.out, enc_big h128, HY.out, List.append_assoc]; rfl)
      have HN2 : Hid ((l2 ++ [UInt8.ofNat y]).length = l.length + (n + 1)) := Lib.hid (by rw [List.length_append, hN.out]; rfl)
      have HP2 : Hid (x / 128 < 2 ^ (7 * (10 - (n + 1))) ∧ n + 1 ≤ 10) := Lib.hid (by
        obtain ⟨p1, p2⟩ := HP.out
        rcases Nat.lt_or_ge n 10 with h | h
        · refine ⟨?_, by omega⟩
          rw [show 7 * (10 - n) = 7 * (10 - (n + 1)) + 7 by omega, Nat.pow_add] at p1
          exact Nat.div_lt_of_lt_mul (by omega)
        · rw [show 7 * (10 - n) = 0 by omega] at p1; simp at p1; omega)
      go_roundw
      case rel => exact ⟨x / 128, _, _, n + 1, by go_num, HX2, HL2, HN2, HP2, HPUT.out.1, HPUT.out.2.1, HPUT.out.2.2⟩
      case measure => simp [intOf]; omega
end Go.Proofs.YtplleaimmmanhaaGreatDoor
namespace Go.Proofs.YtplleaimmmanhaaGreatDoor
open Go Go.RowKit

theorem run_make_bytes (n c : Nat) (hnc : n ≤ c) (hc : c ≤ 1000000000) (w : World) :
    (Instr.makeSlice 54 (.int .i64 (n : Int)) (.int .i64 (c : Int))).run Tryz.prog w = .ok (.slice (some ⟨w.heap.size, 0, none⟩) n c) (w.alloc (.cells (madeCells #[.int .u8 0] c) 5)) := by
  obtain ⟨i0, hi0, hz0, hz1, hz2⟩ := info_parts byteInfo
  have hr := run_make (P := Tryz.prog) w 54 5 i0 (.int .u8 0) Tryz.underlying54 hi0 hz0 .i64 .i64 n c (by omega) (by omega) (by rw [hz2]; omega) (by omega)
  simp only [Int.toNat_natCast] at hr
  rw [hz1, Nat.mul_one] at hr
  exact hr
def SealedTo (l : List UInt8) (w : World) (e : Ending) (w' : World) : Prop := ∃ v', e = .returned v' ∧ BOwn w' w.heap.size v' l ∧ Below w.heap.size w w'
theorem le4_take (n i : Nat) (h : i < 4) : (le4 n).take (i + 1) = (le4 n).take i ++ [UInt8.ofNat (n / 2 ^ (8 * i) % 256)] := by
  have hlt : i < (le4 n).length := h
  rw [List.take_succ_eq_append_getElem hlt]
  have := le4_at n i h
  rw [List.getElem?_eq_getElem hlt] at this
  rw [Option.some.inj this]
theorem le4_byte (n i : Nat) (z : Int) (hz : z = ((n / 2 ^ (8 * i) % 256 : Nat) : Int)) : [Value.int .u8 z] = bc [UInt8.ofNat (n / 2 ^ (8 * i) % 256)] := by
  subst hz
  exact byte_cell (Nat.mod_lt _ (by decide))
theorem seal_step {w : World} {B m : Nat} {v : Value} {xs : List Value} (l : List UInt8) (n i : Nat) (z : Int) (hi : i < 4) (hz : z = ((n / 2 ^ (8 * i) % 256 : Nat) : Int)) (hm : m = l.length + i + 1) (hx : xs = bc (l ++ (le4 n).take i) ++ [Value.int .u8 z]) (h : w.ownsRow B 5 1 v m xs) :
    BOwn w B v (l ++ (le4 n).take (i + 1)) := by
  subst hx
  rw [le4_take n i hi, ← List.append_assoc]
  show w.ownsRow B 5 1 v _ _
  have hlt : i ≤ (le4 n).length := Nat.le_of_lt hi
  rw [List.length_append, List.length_append, List.length_take, Nat.min_eq_left hlt, List.length_singleton, ← hm]
  show w.ownsRow B 5 1 v _ (Lib.byteCells _)
  rw [Lib.byteCells_append]
  rw [le4_byte n i z hz] at h
  exact h

set_option maxRecDepth 100000 in
set_option maxHeartbeats 4000000 in
theorem sealPut_any (w : World) (v : Value) (l : List UInt8) (hh : Halves w) (hr : ReadsB w v l) (h0 : 0 < l.length) (hl : l.length ≤ 900000) :
    Calls Tryz.prog 63 #[v] w (SealedTo (seald l) w) := by
  obtain ⟨i0, hi0, hz0, hz1, hz2⟩ := info_parts byteInfo
  obtain ⟨A, c, rfl⟩ := hr.form
  have hlen := hr.len
  have hlc : l.length ≤ c := hlen.2.1
  have hcm : c ≤ 9223372036854775807 := by have := hlen.2.2; unfold maxLen at this; omega
  obtain ⟨ad, rfl, _⟩ := ReadsB.at_ hr (show l[0]? = some (l[0]'h0) from List.getElem?_eq_getElem h0)
  have HH := Lib.hid hh
  have HR := Lib.hid hr
  have mk := fun W => run_make_bytes 0 (l.length + 4) (Nat.zero_le _) (by omega) W
  have e4 : (((l.length + 4 : Nat)) : Int) = (l.length : Int) + 4 := by omega
  rw [e4] at mk
  have mk' : ∀ W : World, (Instr.makeSlice 54 (.int .i64 0) (.int .i64 ((l.length : Int) + 4))).run Tryz.prog W = .ok (.slice (some ⟨W.heap.size, 0, none⟩) 0 (l.length + 4)) (W.alloc (.cells (madeCells #[.int .u8 0] (l.length + 4)) 5)) := mk
  have l0 : (0 : Int) ≤ (l.length : Int) := Int.natCast_nonneg _
  have lm : (l.length : Int) ≤ 900000 := by omega
  have O0 := Lib.hid (World.ownsRow_made (base := w.heap.size) (e := 5) (size := 1) w (madeCells #[.int .u8 0] (l.length + 4)) (l.length + 4) (Nat.le_refl _) (by unfold maxLen; omega) (by rw [size_madeCells, Nat.mul_one]))
  have HC := Lib.hid (show ∀ j u, (bc l)[j]? = some u → w.cell? (ad.add j) = some u from fun j u hj => by
    have hj2 : j < l.length := by have := (List.getElem?_eq_some_iff.1 hj).1; rwa [Lib.byteCells_length] at this
    obtain ⟨ad2, e2, hc2⟩ := ReadsB.at_ HR.out (List.getElem?_eq_getElem hj2)
    obtain rfl := Option.some.inj e2
    rw [bc_at (List.getElem?_eq_getElem hj2)] at hj
    rw [hc2, ← Option.some.inj hj])
  have HL : Hid ((bc l).length = l.length * 1) := Lib.hid (by rw [Lib.byteCells_length, Nat.mul_one])
  clear hh hr hlen mk e4
  go_enter Tryz.func63, Tryz.ntmps63
  go_wp2_with (at_builtin; refine wpList_append_own_at _ rfl _ _ 54 rfl w.heap.size 5 i0 _ 1 1 Tryz.underlying54 hi0 hz0 hz1 hz2 rfl (by decide) _ _ _ rfl O0.out ad l.length c (bc l) rfl HL.out ?a1 (bc_one l) ?a3 ?a4 ?a5 ?_)
  try case a1 => exact fun j u hj => Lib.cell?_alloc_some _ (HC.out j u hj)
  case a3 => unfold maxLen; omega
  case a4 => omega
  case a5 => first | simp | omega
  intro v1 w1 hown1 hg1 _ hat1
  have O1 : Hid (BOwn w1 w.heap.size v1 l) := Lib.hid (by simpa using hown1)
  have B1 : Hid (Below w.heap.size w w1) := Lib.hid (((Below.refl _ w).alloc (Nat.le_refl _) _).grown hg1 (by simp) (by intro k hk; simp [Value.ownBlock] at hk; omega))
  obtain ⟨A1, c1, rfl⟩ := own_form O1.out
  clear hown1 hg1 hat1 O0 mk'
  obtain ⟨W1, hW1⟩ : ∃ W1, W1 = w1.alloc (.cells #[.slice (some ad) l.length c] 54) := ⟨_, rfl⟩
  have b1 : Below w1.heap.size w1 W1 := by rw [hW1]; exact (Below.refl _ _).alloc (Nat.le_refl _) _
  obtain ⟨q, hq⟩ : ∃ q, q = w1.heap.size := ⟨_, rfl⟩
  have BQ : Blk W1 q 54 #[.slice (some ad) l.length c] := by rw [hW1, hq]; exact Blk.new _ _ _
  have BW : Hid (Below w.heap.size w W1) := Lib.hid (B1.out.trans (b1.mono B1.out.size))
  have OW := Lib.hid (own_keep O1.out b1)
  have SM := Lib.hid (sum_any W1 q _ l (HH.out.below BW.out HH.out.1) BQ (HR.out.below BW.out))
  clear b1 BQ O1 B1
  go_wp2_with fail
  rw [← hW1, ← hq]
  clear hW1 hq
  refine SM.out.mono ?_
  rintro e w2 ⟨rfl, hb2⟩
  have O2 := Lib.hid (own_keep OW.out hb2)
  have B2 := Lib.hid (BW.out.trans (hb2.mono BW.out.size))
  have hsl := crc_lt l
  obtain ⟨s, hs⟩ : ∃ s, s = crc l := ⟨_, rfl⟩
  have HS := Lib.hid hs
  rw [← hs] at hsl ⊢
  have s0 : (0 : Int) ≤ (s : Int) := Int.natCast_nonneg _
  have s1 : (s : Int) < 4294967296 := by omega
  clear hs hb2 SM OW BW
  go_wp2_with fail
  go_loopw [3, 16] (fun s3 s16 wr => ∃ i : Nat, i ≤ 4 ∧ s16 = .int .i64 i ∧ BOwn wr w.heap.size s3 (l ++ (le4 s).take i) ∧ Below w.heap.size w wr) (fun _ s16 _ => 4 - (intOf s16).toNat)
  case atStart => exact ⟨0, Nat.zero_le _, rfl, by simpa using O2.out, B2.out⟩
  case round =>
    obtain ⟨i, hi, rfl, hO, hB⟩ := hrel
    have HO := Lib.hid hO
    have HB := Lib.hid hB
    obtain ⟨A3, c3, rfl⟩ := own_form hO
    have hnl : (l ++ (le4 s).take i).length ≤ 900004 := by rw [List.length_append, List.length_take]; have : (le4 s).length = 4 := rfl; omega
    have hbs := hB.size
    clear hO hB
    obtain rfl | rfl | rfl | rfl | rfl : i = 0 ∨ i = 1 ∨ i = 2 ∨ i = 3 ∨ i = 4 := by omega
    · go_wp2_with (at_builtin; refine wpList_append_own_at _ rfl _ _ 54 rfl w.heap.size 5 i0 _ 1 1 Tryz.underlying54 hi0 hz0 hz1 hz2 rfl (by decide) _ _ _ rfl (HO.out.alloc _) ⟨wr.heap.size, 0, none⟩ 1 1 [.int .u8 ((s : Int) % 256)] rfl rfl ?b10 ?b20 ?b30 ?b40 ?b50 ?_)
      try case b10 => exact World.news_of_block (heap_alloc_new wr _)
      case b20 => first | rfl | (intro u hu; simp at hu; rcases hu with rfl; rfl)
      case b30 => unfold maxLen; omega
      case b40 => omega
      case b50 => first | omega | (simp; omega)
      intro v4 w4 hown4 hg4 _ _
      have O4 := Lib.hid (seal_step l s 0 ((s : Int) % 256) (by decide) (by simp only [Nat.reduceMul, Nat.reducePow]; omega) (by first | rfl | simp [le4]) (by first | rfl | simp) hown4)
      have B4 := Lib.hid ((HB.out.alloc hbs _).grown hg4 (by simp; omega) (fun k hk => (HO.out.lt k (by simpa [Value.ownBlock] using hk)).1))
      obtain ⟨A5, n5, c5, rfl⟩ : ∃ A n c, v4 = .slice A n c := by obtain ⟨A, c, h⟩ := own_form hown4; exact ⟨A, _, c, h⟩
      clear hown4 hg4
      go_wp2_with fail
      go_roundw
      case rel => exact ⟨1, by decide, by first | rfl | go_num, O4.out, B4.out⟩
      case measure => simp [intOf]
    · go_wp2_with (at_builtin; refine wpList_append_own_at _ rfl _ _ 54 rfl w.heap.size 5 i0 _ 1 1 Tryz.underlying54 hi0 hz0 hz1 hz2 rfl (by decide) _ _ _ rfl (HO.out.alloc _) ⟨wr.heap.size, 0, none⟩ 1 1 [.int .u8 ((s : Int) / 256 % 256)] rfl rfl ?b11 ?b21 ?b31 ?b41 ?b51 ?_)
      try case b11 => exact World.news_of_block (heap_alloc_new wr _)
      case b21 => first | rfl | (intro u hu; simp at hu; rcases hu with rfl; rfl)
      case b31 => unfold maxLen; omega
      case b41 => omega
      case b51 => first | omega | (simp; omega)
      intro v4 w4 hown4 hg4 _ _
      have O4 := Lib.hid (seal_step l s 1 ((s : Int) / 256 % 256) (by decide) (by simp only [Nat.reduceMul, Nat.reducePow]; omega) (by first | rfl | simp [le4]) (by first | rfl | simp) hown4)
      have B4 := Lib.hid ((HB.out.alloc hbs _).grown hg4 (by simp; omega) (fun k hk => (HO.out.lt k (by simpa [Value.ownBlock] using hk)).1))
      obtain ⟨A5, n5, c5, rfl⟩ : ∃ A n c, v4 = .slice A n c := by obtain ⟨A, c, h⟩ := own_form hown4; exact ⟨A, _, c, h⟩
      clear hown4 hg4
      go_wp2_with fail
      go_roundw
      case rel => exact ⟨2, by decide, by first | rfl | go_num, O4.out, B4.out⟩
      case measure => simp [intOf]
    · go_wp2_with (at_builtin; refine wpList_append_own_at _ rfl _ _ 54 rfl w.heap.size 5 i0 _ 1 1 Tryz.underlying54 hi0 hz0 hz1 hz2 rfl (by decide) _ _ _ rfl (HO.out.alloc _) ⟨wr.heap.size, 0, none⟩ 1 1 [.int .u8 ((s : Int) / 65536 % 256)] rfl rfl ?b12 ?b22 ?b32 ?b42 ?b52 ?_)
      try case b12 => exact World.news_of_block (heap_alloc_new wr _)
      case b22 => first | rfl | (intro u hu; simp at hu; rcases hu with rfl; rfl)
      case b32 => unfold maxLen; omega
      case b42 => omega
      case b52 => first | omega | (simp; omega)
      intro v4 w4 hown4 hg4 _ _
      have O4 := Lib.hid (seal_step l s 2 ((s : Int) / 65536 % 256) (by decide) (by simp only [Nat.reduceMul, Nat.reducePow]; omega) (by first | rfl | simp [le4]) (by first | rfl | simp) hown4)
      have B4 := Lib.hid ((HB.out.alloc hbs _).grown hg4 (by simp; omega) (fun k hk => (HO.out.lt k (by simpa [Value.ownBlock] using hk)).1))
      obtain ⟨A5, n5, c5, rfl⟩ : ∃ A n c, v4 = .slice A n c := by obtain ⟨A, c, h⟩ := own_form hown4; exact ⟨A, _, c, h⟩
      clear hown4 hg4
      go_wp2_with fail
      go_roundw
      case rel => exact ⟨3, by decide, by first | rfl | go_num, O4.out, B4.out⟩
      case measure => simp [intOf]
    · go_wp2_with (at_builtin; refine wpList_append_own_at _ rfl _ _ 54 rfl w.heap.size 5 i0 _ 1 1 Tryz.underlying54 hi0 hz0 hz1 hz2 rfl (by decide) _ _ _ rfl (HO.out.alloc _) ⟨wr.heap.size, 0, none⟩ 1 1 [.int .u8 ((s : Int) / 16777216)] rfl rfl ?b13 ?b23 ?b33 ?b43 ?b53 ?_)
      try case b13 => exact World.news_of_block (heap_alloc_new wr _)
      case b23 => first | rfl | (intro u hu; simp at hu; rcases hu with rfl; rfl)
      case b33 => unfold maxLen; omega
      case b43 => omega
      case b53 => first | omega | (simp; omega)
      intro v4 w4 hown4 hg4 _ _
      have O4 := Lib.hid (seal_step l s 3 ((s : Int) / 16777216) (by decide) (by simp only [Nat.reduceMul, Nat.reducePow]; omega) (by first | rfl | simp [le4]) (by first | rfl | simp) hown4)
      have B4 := Lib.hid ((HB.out.alloc hbs _).grown hg4 (by simp; omega) (fun k hk => (HO.out.lt k (by simpa [Value.ownBlock] using hk)).1))
      obtain ⟨A5, n5, c5, rfl⟩ : ∃ A n c, v4 = .slice A n c := by obtain ⟨A, c, h⟩ := own_form hown4; exact ⟨A, _, c, h⟩
      clear hown4 hg4
      go_wp2_with fail
      go_roundw
      case rel => exact ⟨4, by decide, by first | rfl | go_num, O4.out, B4.out⟩
      case measure => simp [intOf]
    · have O9 : BOwn wr w.heap.size (.slice A3 (l ++ (le4 s).take 4).length c3) (seald l) := by
        have := HO.out
        rw [HS.out] at this ⊢
        exact this
      go_wp2_with fail
      go_ret
      exact ⟨_, rfl, O9, HB.out⟩
end Go.Proofs.YtplleaimmmanhaaGreatDoor
namespace Go.Proofs.YtplleaimmmanhaaGreatDoor
open Go Go.RowKit

def zer (n : Nat) : List Value := List.replicate n (.int .u8 0)
theorem madeBytes (n : Nat) : madeCells #[Value.int .u8 0] n = (zer n).toArray := by
  apply Array.ext
  · simp [madeCells, zer]
  · intro i h1 h2
    simp [madeCells, zer, Nat.mod_one]
theorem splice_all (n : Nat) (cs : List Value) (h : cs.length = n) : splice (zer n) 0 cs = cs := by
  unfold splice zer
  rw [List.take_zero, List.nil_append, Nat.zero_add, h, List.drop_of_length_le (by simp), List.append_nil]
theorem seald_at {l : List UInt8} {i : Nat} (hi : i < 4) : (seald l)[l.length + i]? = some (UInt8.ofNat (crc l / 2 ^ (8 * i) % 256)) := by
  unfold seald
  rw [List.getElem?_append_right (Nat.le_add_right _ _), Nat.add_sub_cancel_left]
  exact le4_at _ i hi

set_option maxRecDepth 100000 in
set_option maxHeartbeats 4000000 in
theorem sealOpen_any (w : World) (v : Value) (l : List UInt8) (hh : Halves w) (hr : ReadsB w v (seald l)) (h0 : 0 < l.length) (hl : l.length ≤ 900000) :
    Calls Tryz.prog 69 #[v] w fun e w' => ∃ v', e = .returned (.tuple #[v', .nilIface]) ∧ BOwn w' w.heap.size v' l ∧ Below w.heap.size w w' := by
  obtain ⟨i0, hi0, hz0, hz1, hz2⟩ := info_parts byteInfo
  have hsl := seald_len l
  obtain ⟨A, c, rfl⟩ := hr.form
  have hlen := hr.len
  have hlc : (seald l).length ≤ c := hlen.2.1
  have hcm : c ≤ 9223372036854775807 := by have := hlen.2.2; unfold maxLen at this; omega
  obtain ⟨ad, rfl⟩ : ∃ ad, A = some ad := (ReadsB.at_ hr (show (seald l)[0]? = some ((seald l)[0]'(by omega)) from List.getElem?_eq_getElem _)).imp fun _ h => h.1
  have HH := Lib.hid hh
  have HR := Lib.hid hr
  have FR : Hid (ReadsB w (.slice (some ad) l.length c) l) := Lib.hid (by
    have := Reads.front (i := l.length) hr (by omega)
    rwa [show (seald l).take l.length = l by unfold seald; simp] at this)
  have HC := Lib.hid (show ∀ j u, (bc l)[j]? = some u → w.cell? (ad.add j) = some u from fun j u hj => by
    have hj2 : j < l.length := by have := (List.getElem?_eq_some_iff.1 hj).1; rwa [Lib.byteCells_length] at this
    obtain ⟨ad2, e2, hc2⟩ := ReadsB.at_ FR.out (List.getElem?_eq_getElem hj2)
    obtain rfl := Option.some.inj e2
    rw [bc_at (List.getElem?_eq_getElem hj2)] at hj
    rw [hc2, ← Option.some.inj hj])
  obtain ⟨n, hn⟩ : ∃ n, n = l.length := ⟨_, rfl⟩
  rw [hsl, ← hn] at hlc
  rw [hsl, ← hn]
  rw [← hn] at FR h0 hl
  have HN := Lib.hid hn
  have n0 : (0 : Int) ≤ (n : Int) := Int.natCast_nonneg _
  have w0 : IntKind.i64.wrap (((n + 4 : Nat) : Int) - 4) = (n : Int) := by rw [IntKind.wrap_i64]; omega
  have mk := fun W => run_make_bytes n n (Nat.le_refl _) (by omega) W
  have g4 : ¬ ((n + 4 : Nat) : Int) < 4 := by omega
  have gc : ¬ c = n := by omega
  have gm : (c : Int) ≤ 9223372036854775807 := by omega
  obtain ⟨W1, hW1⟩ : ∃ W1, W1 = w.alloc (.cells #[.slice (some ad) n c] 54) := ⟨_, rfl⟩
  have b1 : Below w.heap.size w W1 := by rw [hW1]; exact (Below.refl _ _).alloc (Nat.le_refl _) _
  obtain ⟨q, hq⟩ : ∃ q, q = w.heap.size := ⟨_, rfl⟩
  have BQ : Blk W1 q 54 #[.slice (some ad) n c] := by rw [hW1, hq]; exact Blk.new _ _ _
  have SM := Lib.hid (sum_any W1 q _ l (HH.out.below b1 HH.out.1) BQ (FR.out.below b1))
  have BW := Lib.hid b1
  have HW1 := Lib.hid hW1
  have HQ := Lib.hid hq
  clear b1 BQ hW1 hq
  have CE := Lib.hid (show ∀ i, i < 4 → ∀ W, Below w.heap.size w W → W.cell? ((ad.add n).add i) = some (.int .u8 ((crc l / 2 ^ (8 * i) % 256 : Nat) : Int)) from fun i hi W hW => by
    obtain ⟨ad2, e2, hc2⟩ := ReadsB.at_ (HR.out.below hW) (seald_at (l := l) hi)
    obtain rfl := Option.some.inj e2
    rw [Addr.add_add, HN.out, hc2]
    simp [UInt8.toNat_ofNat'])
  clear hh hr hlen hsl hn
  go_enter Tryz.func69, Tryz.ntmps69
  go_wp2_with fail
  rw [← HW1.out, ← HQ.out]
  refine SM.out.mono ?_
  rintro e w2 ⟨rfl, hb2⟩
  have B2 := Lib.hid (BW.out.trans (hb2.mono BW.out.size))
  clear hb2 SM BW HW1 HQ
  have hsl := crc_lt l
  obtain ⟨s, hs⟩ : ∃ s, s = crc l := ⟨_, rfl⟩
  have HS := Lib.hid hs
  rw [← hs] at hsl ⊢
  have s0 : (0 : Int) ≤ (s : Int) := Int.natCast_nonneg _
  have s1 : (s : Int) < 4294967296 := by omega
  clear hs
  go_wp2_with fail
  obtain ⟨A2, hA2⟩ : ∃ A2, A2 = ad.add n := ⟨_, rfl⟩
  rw [← hA2] at CE ⊢
  clear hA2
  go_loopw [31] (fun s31 wr => ∃ i : Nat, i ≤ 4 ∧ s31 = .int .i64 i ∧ Below w.heap.size w wr) (fun s31 _ => 4 - (intOf s31).toNat)
  case atStart => exact ⟨0, Nat.zero_le _, rfl, B2.out⟩
  case round =>
    obtain ⟨i, hi, rfl, hB⟩ := hrel
    obtain rfl | rfl | rfl | rfl | rfl : i = 0 ∨ i = 1 ∨ i = 2 ∨ i = 3 ∨ i = 4 := by omega
    · have c0 : wr.cell? A2 = some (.int .u8 ((s : Int) % 256)) := by
        have := CE.out 0 (by decide) wr hB
        rw [← HS.out] at this
        rw [Go.Addr.add_zero'] at this
        rw [this]
        congr 2 <;> (simp only [Nat.reduceMul, Nat.reducePow]; omega)
      have HB := Lib.hid hB
      clear hB
      go_wp2_with fail
      go_roundw
      case rel => exact ⟨1, by decide, by first | rfl | go_num, HB.out⟩
      case measure => simp [intOf]
    · have c0 : wr.cell? ⟨A2.block, A2.off + 1, none⟩ = some (.int .u8 ((s : Int) / 256 % 256)) := by
        have := CE.out 1 (by decide) wr hB
        rw [← HS.out] at this
        rw [Go.Addr.add_succ'] at this
        rw [this]
        congr 2 <;> (simp only [Nat.reduceMul, Nat.reducePow]; omega)
      have HB := Lib.hid hB
      clear hB
      go_wp2_with fail
      go_roundw
      case rel => exact ⟨2, by decide, by first | rfl | go_num, HB.out⟩
      case measure => simp [intOf]
    · have c0 : wr.cell? ⟨A2.block, A2.off + 2, none⟩ = some (.int .u8 ((s : Int) / 65536 % 256)) := by
        have := CE.out 2 (by decide) wr hB
        rw [← HS.out] at this
        rw [Go.Addr.add_succ'] at this
        rw [this]
        congr 2 <;> (simp only [Nat.reduceMul, Nat.reducePow]; omega)
      have HB := Lib.hid hB
      clear hB
      go_wp2_with fail
      go_roundw
      case rel => exact ⟨3, by decide, by first | rfl | go_num, HB.out⟩
      case measure => simp [intOf]
    · have c0 : wr.cell? ⟨A2.block, A2.off + 3, none⟩ = some (.int .u8 ((s : Int) / 16777216)) := by
        have := CE.out 3 (by decide) wr hB
        rw [← HS.out] at this
        rw [Go.Addr.add_succ'] at this
        rw [this]
        congr 2 <;> (simp only [Nat.reduceMul, Nat.reducePow]; omega)
      have HB := Lib.hid hB
      clear hB
      go_wp2_with fail
      go_roundw
      case rel => exact ⟨4, by decide, by first | rfl | go_num, HB.out⟩
      case measure => simp [intOf]
    · have HB := Lib.hid hB
      clear hB
      have HCN : Hid ((bc l).length = Nat.min n n) := Lib.hid (by rw [Lib.byteCells_length, ← HN.out]; simp)
      have HZ : Hid ((wr.alloc (.cells (madeCells #[Value.int .u8 0] n) 5)).heap[wr.heap.size]? = some (.cells (zer n).toArray 5 (0, 0))) := Lib.hid (by rw [madeBytes]; exact heap_alloc_new wr _)
      have HCP : Hid (0 < (bc l).length → (some (⟨wr.heap.size, 0, none⟩ : Addr) = some ⟨wr.heap.size, 0, none⟩ ∧ ∃ a, some ad = some a ∧ ∀ j v, (bc l)[j]? = some v → (wr.alloc (.cells (madeCells #[Value.int .u8 0] n) 5)).cell? (a.add j) = some v)) := Lib.hid fun _ => ⟨rfl, ad, rfl, fun j u hj => by
        have h3 := HC.out j u hj
        have h4 : wr.cell? (ad.add j) = some u := (HB.out.cell (World.block_lt_of_cell? _ _ h3)).trans h3
        exact Lib.cell?_alloc_some _ h4⟩
      have HFT : Hid (0 + (bc l).length ≤ (zer n).length) := Lib.hid (by rw [Lib.byteCells_length, ← HN.out]; simp [zer])
      have HBA : Hid (Below w.heap.size w (wr.alloc (.cells (madeCells #[Value.int .u8 0] n) 5))) := Lib.hid (HB.out.alloc HB.out.size _)
      have hbs := HB.out.size
      go_upto_region 13 with (refine wpList_copy_splice (o := ⟨some 55, _, _, _, _, _⟩) rfl (.tmp 53) (.tmp 54) 54 54 rfl 5 (by kernel_rfl) (by kernel_rfl) (some ⟨wr.heap.size, 0, none⟩) (some ad) n n n c (by rfl) (by rfl) wr.heap.size 0 (zer n) 5 HZ.out (bc l) HCN.out HCP.out HFT.out (bc_one l) w.heap.size w HBA.out hbs ?_; intro w5 HG5 hB5)
      have O5 : Hid (BOwn w5 w.heap.size (.slice (some ⟨wr.heap.size, 0, none⟩) n n) l) := Lib.hid (by
        have h := HG5.out
        rw [splice_all n (bc l) (by rw [Lib.byteCells_length, ← HN.out])] at h
        have hbl : (bc l).length = l.length := Lib.byteCells_length l
        rw [HN.out]
        exact ⟨by rw [hbl, Nat.mul_one], .inr ⟨wr.heap.size, l.length, (bc l).toArray, rfl, hbs, h, Nat.le_refl _, by rw [← HN.out]; unfold maxLen; omega, by rw [List.size_toArray, hbl, Nat.mul_one], by simp; exact List.take_of_length_le (Nat.le_of_eq hbl)⟩⟩)
      have B5 := Lib.hid hB5
      clear hB5 HG5
      go_wp2_with fail
      go_ret2
      exact ⟨_, rfl, O5.out, B5.out⟩
end Go.Proofs.YtplleaimmmanhaaGreatDoor
namespace Go.Proofs.YtplleaimmmanhaaGreatDoor
open Go Go.RowKit

abbrev ints (ns : List Int) : Array Value := (ns.map (Value.int .i64)).toArray
theorem ints_at {ns : List Int} {i : Nat} {n : Int} (h : ns[i]? = some n) : (ints ns)[i]? = some (.int .i64 n) := by
  show (List.toArray _)[i]? = _
  rw [List.getElem?_toArray, List.getElem?_map, h]; rfl
def In64 (ns : List Int) : Prop := ∀ n ∈ ns, -9223372036854775808 ≤ n ∧ n ≤ 9223372036854775807
def encIs (ns : List Int) : List UInt8 := ns.flatMap encI
theorem encIs_take {ns : List Int} {k : Nat} {n : Int} (h : ns[k]? = some n) : encIs (ns.take (k + 1)) = encIs (ns.take k) ++ encI n := by
  have hlt := (List.getElem?_eq_some_iff.1 h).1
  have e := (List.getElem?_eq_some_iff.1 h).2
  unfold encIs
  rw [List.take_succ_eq_append_getElem hlt, e, List.flatMap_append]; simp
theorem encI_len {n : Int} (h : -9223372036854775808 ≤ n ∧ n ≤ 9223372036854775807) : (encI n).length ≤ 10 := enc_len (zz_lt h.1 h.2)
theorem encIs_len {ns : List Int} (h : In64 ns) : ∀ k, (encIs (ns.take k)).length ≤ k * 10
  | 0 => by simp [encIs]
  | k + 1 => by
    have ih := encIs_len h k
    cases e : ns[k]? with
    | none =>
      have : ns.length ≤ k := List.getElem?_eq_none_iff.1 e
      rw [List.take_of_length_le (by omega)]
      rw [List.take_of_length_le (by omega)] at ih
      omega
    | some n =>
      rw [encIs_take e, List.length_append]
      have := encI_len (h n (List.mem_of_getElem? e))
      omega

theorem zz_go {n : Int} (h : -9223372036854775808 ≤ n ∧ n ≤ 9223372036854775807) : bits .xor .u64 (IntKind.u64.wrap (IntKind.u64.wrap n * 2)) (IntKind.u64.wrap (n / 9223372036854775808)) = (zz n : Int) := by
  rw [IntKind.wrap_u64, IntKind.wrap_u64, IntKind.wrap_u64]
  by_cases h0 : 0 ≤ n
  · obtain ⟨m, rfl⟩ := Int.eq_ofNat_of_zero_le h0
    rw [show (m : Int) % 18446744073709551616 * 2 % 18446744073709551616 = ((2 * m : Nat) : Int) by omega, show (m : Int) / 9223372036854775808 % 18446744073709551616 = 0 by omega, u64_xor0 _ (by omega), zz_pos h0]
    omega
  · obtain ⟨m, hm⟩ : ∃ m : Nat, (m : Int) = 2 * n + 18446744073709551616 := ⟨(2 * n + 18446744073709551616).toNat, by omega⟩
    rw [show n % 18446744073709551616 * 2 % 18446744073709551616 = (m : Int) by omega, show n / 9223372036854775808 % 18446744073709551616 = 18446744073709551615 by omega, u64_xor_ones _ (by omega), zz_neg h0]
    omega

set_option maxRecDepth 100000 in
set_option maxHeartbeats 2000000 in
theorem encInt_any (w : World) (B E g : Nat) (v : Value) (l : List UInt8) (ns : List Int) (h : EncAt w B E v l) (hg : Blk w g 3 (ints ns)) (hn : In64 ns) (hl : l.length ≤ 900000) (hnl : ns.length ≤ 1000) (hBw : B ≤ w.heap.size) :
    Calls Tryz.prog 61 #[.pointer (some ⟨E, 0, none⟩), .slice (some ⟨g, 0, none⟩) ns.length ns.length] w fun e w' => e = .returned (.tuple #[]) ∧ Put w B E v (l ++ encIs ns) w' := by
  have H0 := Lib.hid h
  have HG := Lib.hid hg
  have HN := Lib.hid hn
  clear h hg hn
  go_enter Tryz.func61, Tryz.ntmps61
  go_wp2_with fail
  go_loopw [8] (fun s8 wr => ∃ (k : Nat) (v2 : Value), s8 = .int .i64 k ∧ k ≤ ns.length ∧ EncAt wr B E v2 (l ++ encIs (ns.take k)) ∧ Touch w wr E v.ownBlock ∧ Same1 w v.ownBlock v2.ownBlock) (fun s8 _ => ns.length - (intOf s8).toNat)
  case atStart => exact ⟨0, v, rfl, Nat.zero_le _, by simpa [encIs] using H0.out, Touch.refl _ _ _, .inl rfl⟩
  case round =>
    obtain ⟨k, v2, rfl, hk, hE, hT, hS⟩ := hrel
    have k0 : (0 : Int) ≤ (k : Int) := Int.natCast_nonneg _
    by_cases hlt : k < ns.length
    · have k1 : (k : Int) < (ns.length : Int) := by omega
      obtain ⟨n, hx⟩ : ∃ n, ns[k]? = some n := ⟨_, List.getElem?_eq_getElem hlt⟩
      have HB := Lib.hid (HN.out n (List.mem_of_getElem? hx))
      have hgr := hT.blk HG.out (HG.out.ne_ H0.out.blk (by decide)) (fun e => own_blk_ne H0.out.own HG.out (by decide) e.symm)
      have x0 : wr.cell? ⟨g, k, none⟩ = some (.int .i64 n) := by rw [hgr.cell, ints_at hx]
      have HT := Lib.hid hT
      have HE := Lib.hid hE
      have HS := Lib.hid hS
      have hxx := Lib.hid hx
      clear hT hE hS hgr hx
      go_wp2_with fail
      rw [zz_go HB.out]
      refine (number_any wr B E v2 _ (zz n) HE.out (zz_lt HB.out.1 HB.out.2) (by rw [List.length_append]; have := encIs_len HN.out k; omega) (Nat.le_trans hBw HT.out.size)).mono ?_
      rintro e w5 ⟨rfl, v5, hE5, hT5, hS5⟩
      have HE5 : Hid (EncAt w5 B E v5 (l ++ encIs (ns.take (k + 1)))) := Lib.hid (by rw [encIs_take hxx.out, ← List.append_assoc]; exact hE5)
      have HT5 := Lib.hid (HT.out.trans HS.out hT5)
      have HS5 := Lib.hid (HS.out.trans HT.out.size hS5)
      clear hE5 hT5 hS5
      go_wp2_with fail
      go_roundw
      case rel => exact ⟨k + 1, v5, by go_num, hlt, HE5.out, HT5.out, HS5.out⟩
      case measure => simp [intOf]; omega
    · obtain rfl : k = ns.length := by omega
      rw [List.take_length] at hE
      go_wp2
      go_end0
      exact ⟨rfl, v2, hE, hT, hS⟩
end Go.Proofs.YtplleaimmmanhaaGreatDoor
namespace Go.Proofs.YtplleaimmmanhaaGreatDoor
open Go Go.RowKit

abbrev strV (ss : List ByteArray) : Array Value := (ss.map Value.string).toArray
theorem strV_at {ss : List ByteArray} {i : Nat} {s : ByteArray} (h : ss[i]? = some s) : (strV ss)[i]? = some (.string s) := by
  show (List.toArray _)[i]? = _
  rw [List.getElem?_toArray, List.getElem?_map, h]; rfl
def encTs (ss : List ByteArray) : List UInt8 := ss.flatMap encT
theorem encTs_take {ss : List ByteArray} {k : Nat} {s : ByteArray} (h : ss[k]? = some s) : encTs (ss.take (k + 1)) = encTs (ss.take k) ++ encT s := by
  have hlt := (List.getElem?_eq_some_iff.1 h).1
  have e := (List.getElem?_eq_some_iff.1 h).2
  unfold encTs
  rw [List.take_succ_eq_append_getElem hlt, e, List.flatMap_append]; simp
def Few300 (ss : List ByteArray) : Prop := ∀ s ∈ ss, s.size ≤ 6000
theorem encT_len {s : ByteArray} (h : s.size ≤ 6000) : (encT s).length ≤ 6010 := by
  unfold encT
  rw [List.length_append]
  have := encI_len (n := (s.size : Int)) ⟨by omega, by omega⟩
  have e : s.data.toList.length = s.size := Array.length_toList
  omega
set_option maxRecDepth 100000 in
theorem encTs_len {ss : List ByteArray} (h : Few300 ss) : ∀ k, (encTs (ss.take k)).length ≤ k * 6010
  | 0 => by simp [encTs]
  | k + 1 => by
    have ih := encTs_len h k
    cases e : ss[k]? with
    | none =>
      have : ss.length ≤ k := List.getElem?_eq_none_iff.1 e
      rw [List.take_of_length_le (show ss.length ≤ k + 1 by omega)]
      rw [List.take_of_length_le this] at ih
      omega
    | some n =>
      rw [encTs_take e, List.length_append]
      have := encT_len (h n (List.mem_of_getElem? e))
      omega

theorem str_at {w w' : World} {base n : Nat} {v v' : Value} {xs : List Value} {s : ByteArray} {ty : TypeId} (hown : w.ownsRow base 5 1 v n xs) (h63 : n + s.size ≤ 1000000) (hbase : base ≤ w.heap.size)
    (hr : (Builtin.append_ #[54, 9] ty #[v, .string s]).run Tryz.prog w = .ok v' w') : v'.ownBlock = v.ownBlock ∨ v'.ownBlock = some w.heap.size := by
  obtain ⟨i0, hi0, hz0, hz1, hz2⟩ := info_parts byteInfo
  obtain ⟨v2, w2, hr2, _, _, h3⟩ := Lib.run_append_own_string (P := Tryz.prog) w base 54 9 ty 5 i0 Tryz.underlying54 Tryz.underlying9 hi0 hz0 hz1 hz2 v n xs hown s (by unfold maxLen; omega) (by omega) hbase
  rw [hr] at hr2
  injection hr2 with e1 e2
  subst e1
  have hxl : xs.length = n := by simpa using hown.1
  rcases hown.2 with ⟨rfl, h0⟩ | ⟨g, cap, cur, rfl, hbg, hg, hnc, hcm, hcs, htake⟩
  · by_cases hm : s.size = 0
    · rw [h3.2 ⟨rfl, hm⟩]; exact .inl rfl
    · have hr2 := run_append_nil_string (P := Tryz.prog) w 54 9 ty 5 i0 (.int .u8 0) Tryz.underlying54 Tryz.underlying9 hi0 hz0 s (by omega) (by omega) (by rw [hz2]; omega)
      rw [hr] at hr2
      injection hr2 with e1 e2
      subst e1; exact .inr rfl
  · by_cases hroom : n + s.size ≤ cap
    · have hcs' : cur.size = cap := by simpa using hcs
      have hr2 := Lib.run_append_room_string (P := Tryz.prog) w 54 9 ty 5 i0 Tryz.underlying54 Tryz.underlying9 hi0 hz1 g n cap cur hg s hroom (by omega)
      rw [hr] at hr2
      injection hr2 with e1 e2
      subst e1; exact .inl rfl
    · have holds : ∀ j u, xs[j]? = some u → w.cell? ((⟨g, 0, none⟩ : Addr).add j) = some u := hown.cells (g := g) rfl
      have hr2 := Lib.run_append_grow_string (P := Tryz.prog) w 54 9 ty 5 i0 (.int .u8 0) Tryz.underlying54 Tryz.underlying9 hi0 hz0 ⟨g, 0, none⟩ n cap xs (by rw [hz1]; simpa using hxl) holds s (by omega) (by omega) (by rw [hz2]; exact growslice_fits (by omega) (by omega))
      rw [hr] at hr2
      injection hr2 with e1 e2
      subst e1; exact .inr rfl

/-- A string's bytes behind a row's. -/
theorem append_str (w : World) (B : Nat) (v : Value) (l : List UInt8) (s : ByteArray) (ho : BOwn w B v l) (hl : l.length + s.size ≤ 1000000) (hB : B ≤ w.heap.size) :
    ∃ v' w', (∀ ty, (Builtin.append_ #[54, 9] ty #[v, .string s]).run Tryz.prog w = .ok v' w') ∧ BOwn w' B v' (l ++ s.data.toList) ∧ w.grownBy w' v.ownBlock ∧ Same1 w v.ownBlock v'.ownBlock := by
  obtain ⟨i0, hi0, hz0, hz1, hz2⟩ := info_parts byteInfo
  obtain ⟨v2, w2, hr2, h1, h2, h3⟩ := Lib.run_append_own_string (P := Tryz.prog) w B 54 9 54 5 i0 Tryz.underlying54 Tryz.underlying9 hi0 hz0 hz1 hz2 v _ _ ho s (by unfold maxLen; omega) (by omega) hB
  refine ⟨v2, w2, fun ty => hr2, ?_, h2, (str_at ho hl hB hr2).imp id fun h => ⟨_, h, Nat.le_refl _⟩⟩
  have e : s.data.toList.length = s.size := Array.length_toList
  show w2.ownsRow B 5 1 v2 _ _
  rw [List.length_append, e]
  show w2.ownsRow B 5 1 v2 _ (Lib.byteCells _)
  rw [Lib.byteCells_append]
  exact h1
theorem put_step0 {w wr w3 : World} {B E : Nat} {v v2 v3 : Value} {l2 l3 : List UInt8} (hE : EncAt wr B E v2 l2) (hT : Touch w wr E v.ownBlock) (hS : Same1 w v.ownBlock v2.ownBlock)
    (ho : BOwn w3 B v3 l3) (hg : wr.grownBy w3 v2.ownBlock) (hS3 : Same1 wr v2.ownBlock v3.ownBlock) :
    EncAt (w3.setCell ⟨E, 0, none⟩ v3) B E v3 l3 ∧ Touch w (w3.setCell ⟨E, 0, none⟩ v3) E v.ownBlock ∧ Same1 w v.ownBlock v3.ownBlock := by
  have hb : Blk w3 E 109 #[v2] := hE.blk.grown hg (fun e => hE.ne e.symm)
  have hne : v3.ownBlock ≠ some E := own_blk_ne ho hb (by decide)
  have hT4 : ∀ r, Touch w3 (w3.setCell ⟨E, 0, none⟩ v3) E r := fun r => ⟨rfl, rfl, rfl, by simp, fun k _ hk _ => Below.heap_setCell _ _ _ _ hk⟩
  refine ⟨⟨by have := hb.set_ 0 v3; simpa using this, (hT4 none).own ho hne (by cases h : v3.ownBlock <;> simp), hE.lo⟩, hT.trans hS ((Touch.of_grown hg).trans hS3 (hT4 _)), hS.trans hT.size hS3⟩

set_option maxRecDepth 100000 in
set_option maxHeartbeats 2000000 in
theorem encText_any (w : World) (B E g : Nat) (v : Value) (l : List UInt8) (ss : List ByteArray) (h : EncAt w B E v l) (hg : Blk w g 9 (strV ss)) (hn : Few300 ss) (hl : l.length ≤ 500000) (hnl : ss.length ≤ 60) (hBw : B ≤ w.heap.size) :
    Calls Tryz.prog 62 #[.pointer (some ⟨E, 0, none⟩), .slice (some ⟨g, 0, none⟩) ss.length ss.length] w fun e w' => e = .returned (.tuple #[]) ∧ Put w B E v (l ++ encTs ss) w' := by
  obtain ⟨i0, hi0, hz0, hz1, hz2⟩ := info_parts byteInfo
  have H0 := Lib.hid h
  have HG := Lib.hid hg
  have HN := Lib.hid hn
  clear h hg hn
  go_enter Tryz.func62, Tryz.ntmps62
  go_wp2_with fail
  go_loopw [8] (fun s8 wr => ∃ (k : Nat) (v2 : Value), s8 = .int .i64 k ∧ k ≤ ss.length ∧ EncAt wr B E v2 (l ++ encTs (ss.take k)) ∧ Touch w wr E v.ownBlock ∧ Same1 w v.ownBlock v2.ownBlock) (fun s8 _ => ss.length - (intOf s8).toNat)
  case atStart => exact ⟨0, v, rfl, Nat.zero_le _, by simpa [encTs] using H0.out, Touch.refl _ _ _, .inl rfl⟩
  case round =>
    obtain ⟨k, v2, rfl, hk, hE, hT, hS⟩ := hrel
    have k0 : (0 : Int) ≤ (k : Int) := Int.natCast_nonneg _
    by_cases hlt : k < ss.length
    · have k1 : (k : Int) < (ss.length : Int) := by omega
      obtain ⟨s, hx⟩ : ∃ s, ss[k]? = some s := ⟨_, List.getElem?_eq_getElem hlt⟩
      have hsz := HN.out s (List.mem_of_getElem? hx)
      have hgr := hT.blk HG.out (HG.out.ne_ H0.out.blk (by decide)) (fun e => own_blk_ne H0.out.own HG.out (by decide) e.symm)
      have x0 : wr.cell? ⟨g, k, none⟩ = some (.string s) := by rw [hgr.cell, strV_at hx]
      have hlen := encTs_len HN.out k
      have HT := Lib.hid hT
      have HE := Lib.hid hE
      have HS := Lib.hid hS
      have hxx := Lib.hid hx
      have D := (Below.refl wr.heap.size wr).alloc (Nat.le_refl _) (.cells (ints [(s.size : Int)]) 3)
      have IN := Lib.hid (encInt_any _ B E wr.heap.size v2 _ [(s.size : Int)] (HE.out.below D) (Blk.new _ _ _) (fun n hn => by rw [List.mem_singleton.1 hn]; omega) (by rw [List.length_append]; omega) (by simp) (by have := HT.out.size; simp; omega))
      have HD := Lib.hid D
      clear hT hE hS hgr hx D
      go_wp2_with fail
      refine IN.out.mono ?_
      rintro e w5 ⟨rfl, v5, hE5, hT5, hS5⟩
      have hE5' : EncAt w5 B E v5 (l ++ encTs (ss.take k) ++ encI s.size) := by simpa [encIs] using hE5
      have hT5' : Touch wr w5 E v2.ownBlock := (Touch.of_below HD.out).trans (.inl rfl) hT5
      have hS5' : Same1 wr v2.ownBlock v5.ownBlock := hS5.imp id fun ⟨g, e, h⟩ => ⟨g, e, Nat.le_trans HD.out.size h⟩
      have hBw5 : B ≤ w5.heap.size := Nat.le_trans hBw (Nat.le_trans HT.out.size hT5'.size)
      have hli := encI_len (n := (s.size : Int)) ⟨by omega, by omega⟩
      obtain ⟨v6, w6, hr6, ho6, hg6, hs6⟩ := append_str w5 B v5 _ s hE5'.own (by rw [List.length_append, List.length_append]; omega) hBw5
      have PS := put_step0 hE5' (HT.out.trans HS.out hT5') (HS.out.trans HT.out.size hS5') ho6 hg6 hs6
      have b6 : Blk w6 E 109 #[v5] := hE5'.blk.grown hg6 (fun e => hE5'.ne e.symm)
      have c5 := hE5'.blk.cell 0
      have c6 := b6.cell 0
      have f6 := b6.frozen 0
      obtain ⟨A5, n5, c5', rfl⟩ : ∃ A n c, v5 = .slice A n c := by obtain ⟨A, c, h⟩ := own_form hE5'.own; exact ⟨A, _, c, h⟩
      obtain ⟨A6, n6, c6', rfl⟩ : ∃ A n c, v6 = .slice A n c := by obtain ⟨A, c, h⟩ := own_form ho6; exact ⟨A, _, c, h⟩
      have HPS := Lib.hid PS
      have HR6 := Lib.hid hr6
      clear hE5 hE5' hT5 hT5' hS5 hS5' ho6 hg6 hs6 b6 PS hr6 IN
      go_wp2_with (at_builtin; refine Lib.wpList_append_run _ rfl _ _ _ _ rfl _ _ rfl rfl _ _ (HR6.out _) ?_)
      have HE7 : Hid (EncAt (w6.setCell ⟨E, 0, none⟩ (.slice A6 n6 c6')) B E (.slice A6 n6 c6') (l ++ encTs (ss.take (k + 1)))) := Lib.hid (by have := HPS.out.1; rw [encTs_take hxx.out]; unfold encT; rw [← List.append_assoc, ← List.append_assoc]; exact this)
      go_roundw
      case rel => exact ⟨k + 1, _, by go_num, hlt, HE7.out, HPS.out.2.1, HPS.out.2.2⟩
      case measure => simp [intOf]; omega
    · obtain rfl : k = ss.length := by omega
      rw [List.take_length] at hE
      go_wp2
      go_end0
      exact ⟨rfl, v2, hE, hT, hS⟩
end Go.Proofs.YtplleaimmmanhaaGreatDoor
namespace Go.Proofs.YtplleaimmmanhaaGreatDoor
open Go Go.RowKit

theorem BOwn.cells {w : World} {B g c : Nat} {l : List UInt8} (h : BOwn w B (.slice (some ⟨g, 0, none⟩) l.length c) l) : ∀ j v, (bc l)[j]? = some v → w.cell? ⟨g, j, none⟩ = some v := by
  intro j v hj
  have := World.ownsRow.cells h (g := g) rfl j v hj
  rw [Addr.add_lit, Nat.zero_add] at this
  exact this
theorem q22 (w : World) (a : Option Addr) (n c n' c' : Nat) : (binOp .eql 54 (.slice a n c) (.slice none n' c')).run Tryz.prog w = .ok (.bool a.isNone) w := Lib.run_eql_slice_nil w _ _ a n c n' c' Tryz.underlying54

def Cloned (l : List UInt8) (w : World) (e : Ending) (w' : World) : Prop := ∃ v', e = .returned v' ∧ BOwn w' w.heap.size v' l ∧ Below w.heap.size w w'
set_option maxRecDepth 100000 in
set_option maxHeartbeats 1000000 in
theorem clone_any (w : World) (B : Nat) (v : Value) (l : List UInt8) (h : BOwn w B v l) (hl : l.length ≤ 1000000) : Calls Tryz.prog 118 #[v] w (Cloned l w) := by
  obtain ⟨i0, hi0, hz0, hz1, hz2⟩ := info_parts byteInfo
  have q22 := q22
  rcases h.2 with ⟨rfl, h0⟩ | ⟨g, cap, cur, rfl, _, hh, hn, hm, _⟩
  · obtain rfl := List.eq_nil_of_length_eq_zero h0
    go_enter Tryz.func118, Tryz.ntmps118
    go_wp2
    go_ret
    exact ⟨_, rfl, World.ownsRow_nil _ _ _ _, Below.refl _ _⟩
  · have HC := Lib.hid (BOwn.cells h)
    have HL : Hid ((bc l).length = l.length * 1) := Lib.hid (by rw [Lib.byteCells_length, Nat.mul_one])
    have hlt := (Array.getElem?_eq_some_iff.1 hh).1
    clear h hh hm hn
    go_enter Tryz.func118, Tryz.ntmps118
    go_wp2_with (at_builtin; refine wpList_append_own_at _ rfl _ _ 54 rfl w.heap.size 5 i0 _ 1 1 Tryz.underlying54 hi0 hz0 hz1 hz2 rfl (by decide) _ _ _ rfl (World.ownsRow_made w #[] 0 (Nat.le_refl _) (Nat.zero_le _) rfl) ⟨g, 0, none⟩ l.length cap (bc l) rfl HL.out ?c1 (bc_one l) ?c3 ?c4 ?c5 ?_)
    try case c1 =>
      intro j u hj
      first
        | (rw [Addr.add_lit, Nat.zero_add]; exact Lib.cell?_alloc_some _ (HC.out j u hj))
        | exact Lib.cell?_alloc_some _ (HC.out j u hj)
    case c3 => unfold maxLen; omega
    case c4 => omega
    case c5 => first | simp | omega
    intro v' w1 hown hg' _ hat
    go_wp2
    go_ret
    exact ⟨v', rfl, by simpa using hown, ((Below.refl _ w).alloc (Nat.le_refl _) _).grown hg' (by simp) (by intro k hk; simp [Value.ownBlock] at hk; omega)⟩

set_option maxHeartbeats 1000000 in
theorem bytes_any (w : World) (B E : Nat) (v : Value) (l : List UInt8) (h : EncAt w B E v l) (hl : l.length ≤ 1000000) : Calls Tryz.prog 64 #[.pointer (some ⟨E, 0, none⟩)] w (Cloned l w) := by
  have c0 := h.blk.cell 0
  have C := Lib.hid (clone_any w B v l h.own hl)
  have hlt := h.blk.lt
  obtain ⟨A, n, c, rfl⟩ : ∃ A n c, v = .slice A n c := by obtain ⟨A, c, h⟩ := own_form h.own; exact ⟨A, _, c, h⟩
  clear h
  go_enter Tryz.func64, Tryz.ntmps64
  go_wp2_with fail
  refine C.out.mono ?_
  rintro e w' ⟨v', rfl, ho, hb⟩
  go_wp2
  go_ret
  exact ⟨v', rfl, ho, hb⟩

/-- A Dec: block D; the bytes L in v; it stands at the place at; nothing was wrong. -/
structure DecAt (w : World) (B D : Nat) (v : Value) (L : List UInt8) (at_ : Nat) : Prop where
  blk : Blk w D 175 #[v, .int .i64 at_, .int .i64 0, .int .i64 0]
  own : BOwn w B v L
  lo : B ≤ D
theorem DecAt.ne {w : World} {B D at_ : Nat} {v : Value} {L : List UInt8} (h : DecAt w B D v L at_) : v.ownBlock ≠ some D := own_blk_ne h.own h.blk (by decide)
theorem DecAt.below {w w' : World} {B D at_ : Nat} {v : Value} {L : List UInt8} (h : DecAt w B D v L at_) (hb : Below w.heap.size w w') : DecAt w' B D v L at_ := ⟨h.blk.below hb h.blk.lt, own_keep h.own hb, h.lo⟩

set_option maxHeartbeats 1000000 in
theorem ofK_any (w : World) (B : Nat) (v : Value) (l : List UInt8) (h : BOwn w B v l) (hl : l.length ≤ 1000000) :
    Calls Tryz.prog 70 #[v] w fun e w' => ∃ D v', e = .returned (.pointer (some ⟨D, 0, none⟩)) ∧ DecAt w' w.heap.size D v' l 0 ∧ Below w.heap.size w w' := by
  have C := Lib.hid (clone_any w B v l h hl)
  obtain ⟨A, c, rfl⟩ := own_form h
  clear h
  go_enter Tryz.func70, Tryz.ntmps70
  go_wp2_with fail
  refine C.out.mono ?_
  rintro e w' ⟨v', rfl, ho, hb⟩
  have HO := Lib.hid ho
  have HB := Lib.hid hb
  obtain ⟨A2, c2, rfl⟩ := own_form ho
  clear ho hb
  go_wp2_with fail
  go_ret
  exact ⟨_, _, rfl, ⟨heap_alloc_new _ _, HO.out.alloc _, HB.out.size⟩, HB.out.alloc HB.out.size _⟩
end Go.Proofs.YtplleaimmmanhaaGreatDoor
namespace Go.Proofs.YtplleaimmmanhaaGreatDoor
open Go Go.RowKit

/-- The cells from o on read as M. -/
def ReadsK (w : World) (g o : Nat) (M : List UInt8) : Prop := ∀ j b, M[j]? = some b → w.cell? ⟨g, o + j, none⟩ = some (.int .u8 b.toNat)

theorem ret_3 {a a' b b' : Int} (h1 : a = a') (h2 : b = b') : Ending.returned (.tuple #[.int .u64 a, .int .i64 b, .int .i64 0]) = Ending.returned (.tuple #[.int .u64 a', .int .i64 b', .int .i64 0]) := by rw [h1, h2]
/-- The low bits and the next seven. -/
theorem or_step {X q k : Nat} (hX : X < 2 ^ (7 * k)) (hX2 : X < 18446744073709551616) (hq : q * 2 ^ (7 * k) < 18446744073709551616) : bits .or .u64 (X : Int) (IntKind.u64.wrap ((q : Int) * 2 ^ (7 * k))) = ((X + q * 2 ^ (7 * k) : Nat) : Int) := by
  have e : (q : Int) * 2 ^ (7 * k) = ((q * 2 ^ (7 * k) : Nat) : Int) := by rw [Int.natCast_mul, Int.natCast_pow]; rfl
  have hm : q * 2 ^ (7 * k) % 2 ^ (7 * k) = 0 := Nat.mul_mod_left _ _
  rw [e]
  generalize q * 2 ^ (7 * k) = Y at *
  rw [IntKind.wrap_u64, Int.emod_eq_of_lt (by omega) (by omega), u64_or_nat X Y hX2 hq, Nat.or_comm, nat_join (7 * k) Y X hm hX, Nat.add_comm]

set_option maxRecDepth 100000 in
set_option maxHeartbeats 2000000 in
theorem decNum_any (w : World) (g o c u : Nat) (M rest : List UInt8) (hM : M = enc u ++ rest) (hu : u < 18446744073709551616) (hr : ReadsK w g o M) (hl : M.length ≤ 1000000) :
    Calls Tryz.prog 122 #[.slice (some ⟨g, o, none⟩) M.length c] w fun e w' => e = .returned (.tuple #[.int .u64 u, .int .i64 ((enc u).length : Nat), .int .i64 0]) ∧ w' = w := by
  have HM := Lib.hid hM
  have HU := Lib.hid hu
  have HR := Lib.hid hr
  clear hM hu hr
  go_enter Tryz.func122, Tryz.ntmps122
  go_wp2_with fail
  go_loopw [2, 9] (fun s2 s9 wr => ∃ (k X : Nat), s2 = .int .u64 X ∧ s9 = .int .i64 k ∧ wr = w ∧ k ≤ 9 ∧ Hid (X = u % 2 ^ (7 * k)) ∧ Hid (M.drop k = enc (u / 2 ^ (7 * k)) ++ rest) ∧ Hid (0 < k → 0 < u / 2 ^ (7 * k)) ∧ Hid ((enc u).length = k + (enc (u / 2 ^ (7 * k))).length)) (fun _ s9 _ => 10 - (intOf s9).toNat)
  case atStart => exact ⟨0, 0, rfl, rfl, rfl, by omega, Lib.hid (by simp; omega), Lib.hid (by simpa using HM.out), Lib.hid (by omega), Lib.hid (by simp)⟩
  case round =>
    obtain ⟨k, X, rfl, rfl, rfl, hk, hX, hD, hP, hL⟩ := hrel
    have k0 : (0 : Int) ≤ (k : Int) := Int.natCast_nonneg _
    have hq9 : Hid (u / 2 ^ (7 * k) < 2 ^ (64 - 7 * k)) := Lib.hid (by
      apply Nat.div_lt_of_lt_mul
      rw [← Nat.pow_add, show 7 * k + (64 - 7 * k) = 64 by omega]
      exact HU.out)
    have hdm : Hid (u = 2 ^ (7 * k) * (u / 2 ^ (7 * k)) + u % 2 ^ (7 * k)) := Lib.hid (Nat.div_add_mod u (2 ^ (7 * k))).symm
    obtain ⟨q, hq⟩ : ∃ q, q = u / 2 ^ (7 * k) := ⟨_, rfl⟩
    rw [← hq] at hD hP hL hq9 hdm
    rw [← hX.out] at hdm
    have HQ := Lib.hid hq
    clear hq
    have hXlt : Hid (X < 2 ^ (7 * k)) := Lib.hid (by rw [hX.out]; exact Nat.mod_lt _ (Nat.two_pow_pos _))
    by_cases h128 : q < 128
    · have hM0 : M[k]? = some (UInt8.ofNat q) := by
        have := hD.out
        rw [enc_small h128] at this
        have h2 := congrArg (fun l : List UInt8 => l[0]?) this
        simpa using h2
      have hkl := (List.getElem?_eq_some_iff.1 hM0).1
      have k1 : (k : Int) < (M.length : Int) := by omega
      have x0 : wr.cell? ⟨g, o + k, none⟩ = some (.int .u8 (q : Int)) := by
        rw [HR.out k _ hM0, show (UInt8.ofNat q).toNat = q by simp [UInt8.toNat_ofNat']; omega]
      have hRes : Hid ((X + q * 2 ^ (7 * k) : Nat) = u) := Lib.hid (by rw [Nat.mul_comm q]; have := hdm.out; omega)
      have hEl : Hid ((enc u).length = k + 1) := Lib.hid (by rw [hL.out, enc_small h128]; rfl)
      have hOr : Hid (bits .or .u64 (X : Int) (IntKind.u64.wrap ((q : Int) * 2 ^ (7 * k))) = (u : Int)) := Lib.hid (by rw [or_step hXlt.out (by have := hRes.out; have := HU.out; omega) (by have := hRes.out; have := HU.out; omega), hRes.out])
      clear hM0
      by_cases h9 : k = 9
      · have hq1 : q = 1 := by
          have a := hP.out (by omega)
          have b := hq9.out
          rw [h9] at b
          simp at b
          omega
        subst hq1
        subst h9
        have hOr9 : bits .or .u64 (X : Int) 9223372036854775808 = (u : Int) := by
          have := hOr.out
          rw [show IntKind.u64.wrap (((1 : Nat) : Int) * 2 ^ (7 * 9)) = 9223372036854775808 from by decide] at this
          exact this
        have HO9 := Lib.hid hOr9
        clear hOr9
        go_wp2_with fail
        go_ret3
        exact ⟨ret_3 HO9.out (by rw [hEl.out]; rfl), rfl⟩
      · have g9 : ((k : Int) == 9) = false := by simp; omega
        have b0 : (0 : Int) ≤ (q : Int) := Int.natCast_nonneg _
        have b1 : (q : Int) < 128 := by omega
        have b2 : bits .and .u8 (q : Int) 127 = (q : Int) := by rw [u8_and127' q (by omega), Nat.mod_eq_of_lt h128]
        by_cases hk0 : k = 0 ∧ q = 0
        · obtain ⟨rfl, rfl⟩ := hk0
          have hX0 : X = 0 := by have := hXlt.out; simp at this; exact this
          subst hX0
          have hu0 : u = 0 := by have := hRes.out; simp at this; exact this.symm
          have x1 : wr.cell? ⟨g, o, none⟩ = some (.int .u8 0) := by simpa using x0
          clear x0 b2 b1 b0 g9 k1 k0
          go_wp2_with fail
          go_ret3
          refine ⟨ret_3 (by rw [hu0]; first | rfl | decide) (by rw [hEl.out]; rfl), rfl⟩
        · have hq0 : ((q : Int) == 0) = false := by
            have := hP.out
            simp; omega
          go_wp2_with fail
          go_ret3
          exact ⟨ret_3 hOr.out (by rw [hEl.out]; omega), rfl⟩
    · have hk8 : k < 9 := by
        rcases Nat.lt_or_ge k 9 with h | h
        · exact h
        · have b := hq9.out
          rw [show k = 9 by omega] at b
          simp at b
          omega
      obtain ⟨y, hy⟩ : ∃ y, y = q % 128 + 128 := ⟨_, rfl⟩
      obtain ⟨z, hz⟩ : ∃ z, z = q % 128 := ⟨_, rfl⟩
      have hM0 : M[k]? = some (UInt8.ofNat y) := by
        have := hD.out
        rw [enc_big h128, ← hy] at this
        have h2 := congrArg (fun l : List UInt8 => l[0]?) this
        simpa using h2
      have hkl := (List.getElem?_eq_some_iff.1 hM0).1
      have k1 : (k : Int) < (M.length : Int) := by omega
      have x0 : wr.cell? ⟨g, o + k, none⟩ = some (.int .u8 (y : Int)) := by
        rw [HR.out k _ hM0, show (UInt8.ofNat y).toNat = y by simp [UInt8.toNat_ofNat']; omega]
      have e1 : u / 2 ^ (7 * (k + 1)) = q / 128 := by
        rw [show 7 * (k + 1) = 7 * k + 7 by omega, Nat.pow_add, ← Nat.div_div_eq_div_mul, ← HQ.out]
      have e2 : u % 2 ^ (7 * (k + 1)) = X + z * 2 ^ (7 * k) := by
        rw [show 7 * (k + 1) = 7 * k + 7 by omega, Nat.pow_add, Nat.mod_mul, ← HQ.out, ← hX.out, Nat.mul_comm, hz]
      have hle : z * 2 ^ (7 * k) ≤ u := by
        have : z * 2 ^ (7 * k) ≤ q * 2 ^ (7 * k) := Nat.mul_le_mul_right _ (by omega)
        have h2 := hdm.out
        rw [Nat.mul_comm] at h2
        omega
      have hOr : Hid (bits .or .u64 (X : Int) (IntKind.u64.wrap ((z : Int) * 2 ^ (7 * k))) = ((X + z * 2 ^ (7 * k) : Nat) : Int)) := Lib.hid (or_step hXlt.out (by have := hdm.out; have := HU.out; omega) (by have := HU.out; omega))
      have hX2 : Hid (X + z * 2 ^ (7 * k) = u % 2 ^ (7 * (k + 1))) := Lib.hid e2.symm
      have hD2 : Hid (M.drop (k + 1) = enc (u / 2 ^ (7 * (k + 1))) ++ rest) := Lib.hid (by
        rw [e1]
        have := hD.out
        rw [enc_big h128] at this
        rw [← List.drop_drop, this]; rfl)
      have hP2 : Hid (0 < k + 1 → 0 < u / 2 ^ (7 * (k + 1))) := Lib.hid fun _ => by rw [e1]; omega
      have hL2 : Hid ((enc u).length = k + 1 + (enc (u / 2 ^ (7 * (k + 1)))).length) := Lib.hid (by rw [e1, hL.out, enc_big h128, List.length_cons]; omega)
      have g9 : ((k : Int) == 9) = false := by simp; omega
      have b0 : (128 : Int) ≤ (y : Int) := by omega
      have b1 : (y : Int) < 256 := by omega
      have b2 : bits .and .u8 (y : Int) 127 = (z : Int) := by rw [u8_and127' y (by omega), hz]; omega
      have b3 : (0 : Int) ≤ (z : Int) := Int.natCast_nonneg _
      have b4 : (z : Int) < 128 := by omega
      clear hM0 e1 e2 hle hz hy
      go_wp2_with fail
      go_roundw
      case rel => exact ⟨k + 1, X + z * 2 ^ (7 * k), by rw [hOr.out], by go_num, trivial, hk8, hX2, hD2, hP2, hL2⟩
      case measure => simp [intOf]; omega
end Go.Proofs.YtplleaimmmanhaaGreatDoor
namespace Go.Proofs.YtplleaimmmanhaaGreatDoor
open Go Go.RowKit

/-- The number that a folded one is. -/
theorem unfold_go {n : Int} (h : -9223372036854775808 ≤ n ∧ n ≤ 9223372036854775807) : ∃ m : Nat, (zz n : Int) / 2 = (m : Int) ∧ m < 9223372036854775808 ∧
    ((zz n % 2 = 0 ∧ n = (m : Int)) ∨ (zz n % 2 = 1 ∧ n = -(m : Int) - 1)) := by
  refine ⟨zz n / 2, by omega, ?_, ?_⟩
  · have := zz_lt h.1 h.2; omega
  · by_cases h0 : 0 ≤ n
    · have := zz_pos h0; exact .inl ⟨by omega, by omega⟩
    · have := zz_neg h0; exact .inr ⟨by omega, by omega⟩

/-- A Dec that stood at at_ stands at b now. -/
def Stood (w : World) (B D : Nat) (v : Value) (L : List UInt8) (b : Nat) (w' : World) : Prop := DecAt w' B D v L b ∧ Touch w w' D none

set_option maxRecDepth 100000 in
set_option maxHeartbeats 2000000 in
theorem decInt_any (w : World) (B D at_ : Nat) (v : Value) (L rest : List UInt8) (n : Int) (h : DecAt w B D v L at_) (hL : L.drop at_ = encI n ++ rest) (hl : L.length ≤ 1000000) (hn : -9223372036854775808 ≤ n ∧ n ≤ 9223372036854775807) :
    Calls Tryz.prog 71 #[.pointer (some ⟨D, 0, none⟩)] w fun e w' => e = .returned (.int .i64 n) ∧ Stood w B D v L (at_ + (encI n).length) w' := by
  have hpos : 0 < (encI n).length := by
    unfold encI
    by_cases h1 : zz n < 128
    · rw [enc_small h1]; simp
    · rw [enc_big h1]; simp
  have hlen : L.length - at_ = (encI n).length + rest.length := by rw [← List.length_drop, hL, List.length_append]
  have hlt : at_ < L.length := by omega
  obtain ⟨A, c, rfl⟩ := own_form h.own
  rcases h.own.2 with ⟨_, h0⟩ | ⟨g, cap, cur, hv, _, hh, hnc, hm, _⟩
  · omega
  injection hv with e1 _ e3
  subst e1; subst e3
  have hcells := BOwn.cells h.own
  have c0 := h.blk.cell 0
  have c1 := h.blk.cell 1
  have c2 := h.blk.cell 2
  have f1 := h.blk.frozen 1
  have hDl := h.blk.lt
  have hcap : ¬ c = at_ := by omega
  have NUM := Lib.hid (fun W (hW : ReadsK W g at_ (L.drop at_)) => decNum_any W g at_ (c - at_) (zz n) (L.drop at_) rest hL (zz_lt hn.1 hn.2) hW (by rw [List.length_drop]; omega))
  have RD : Hid (ReadsK w g at_ (L.drop at_)) := Lib.hid fun j b hj => by
    rw [List.getElem?_drop] at hj
    exact hcells _ _ (bc_at hj)
  have H := Lib.hid h
  have HN := Lib.hid hn
  rw [List.length_drop] at NUM
  have a0 : (0 : Int) ≤ (at_ : Int) := Int.natCast_nonneg _
  have a1 : (at_ : Int) ≤ (L.length : Int) := by omega
  have a2 : at_ ≤ L.length := by omega
  unfold maxLen at hm
  clear h hn hcells hh hL
  obtain ⟨m, u1, u2, u3⟩ := unfold_go HN.out
  have hzl := zz_lt HN.out.1 HN.out.2
  obtain ⟨Z, hZ⟩ : ∃ Z, Z = zz n := ⟨_, rfl⟩
  rw [← hZ] at NUM u1 u3 hzl
  have u4 : bits .and .u64 (Z : Int) 1 = ((Z % 2 : Nat) : Int) := u64_and1 Z hzl
  have HL : Hid ((encI n).length = (enc Z).length) := Lib.hid (by rw [hZ]; rfl)
  have hst : Hid (∀ W, (∃ k, W = w.drewN k) → Stood w B D (.slice (some ⟨g, 0, none⟩) L.length c) L (at_ + (encI n).length) (W.setCell ⟨D, 1, none⟩ (.int .i64 ((at_ : Int) + ((enc Z).length : Nat))))) := Lib.hid (by
    rintro W ⟨k, rfl⟩
    have hT : Touch w ((w.drewN k).setCell ⟨D, 1, none⟩ (.int .i64 ((at_ : Int) + ((enc Z).length : Nat)))) D none := ⟨rfl, rfl, rfl, by simp, fun j _ hj _ => Below.heap_setCell _ _ _ _ hj⟩
    refine ⟨⟨?_, ?_, H.out.lo⟩, hT⟩
    · have := (H.out.blk.drewN k).set_ 1 (.int .i64 ((at_ : Int) + ((enc Z).length : Nat)))
      rw [HL.out, show ((at_ + (enc Z).length : Nat) : Int) = (at_ : Int) + ((enc Z).length : Nat) by omega]
      exact this
    · exact hT.own H.out.own H.out.ne (by simp [Value.ownBlock]))
  have hel : (enc Z).length ≤ 10 := enc_len hzl
  have hw : IntKind.i64.wrap ((at_ : Int) + ((enc Z).length : Nat)) = (at_ : Int) + ((enc Z).length : Nat) := by rw [IntKind.wrap_i64]; omega
  clear hZ hzl
  rcases u3 with ⟨p1, rfl⟩ | ⟨p1, rfl⟩
  · rw [p1] at u4
    have u5 : bits .xor .i64 (m : Int) 0 = (m : Int) := i64_xor0 m u2
    have HP1 := Lib.hid p1
    have HU2 := Lib.hid u2
    have m1 : (m : Int) ≤ 9223372036854775807 := by omega
    clear p1 u2 HN hlen hpos
    go_enter Tryz.func71, Tryz.ntmps71
    go_wp2_with fail
    go_quiet ((go_at_call 122; exact Calls.quiet_of_same (NUM.out _ (fun j b hj => RD.out j b hj))))
    go_wp2_with fail
    go_ret
    exact ⟨rfl, hst.out _ ⟨nq, rfl⟩⟩
  · rw [p1] at u4
    have u5 : bits .xor .i64 (m : Int) (-1) = -(m : Int) - 1 := i64_xor_neg m u2
    have HP1 := Lib.hid p1
    have HU2 := Lib.hid u2
    have m1 : (m : Int) ≤ 9223372036854775807 := by omega
    clear p1 u2 HN hlen hpos
    go_enter Tryz.func71, Tryz.ntmps71
    go_wp2_with fail
    go_quiet ((go_at_call 122; exact Calls.quiet_of_same (NUM.out _ (fun j b hj => RD.out j b hj))))
    go_wp2_with fail
    go_ret
    exact ⟨rfl, hst.out _ ⟨nq, rfl⟩⟩
end Go.Proofs.YtplleaimmmanhaaGreatDoor
namespace Go.Proofs.YtplleaimmmanhaaGreatDoor
open Go Go.RowKit

set_option maxRecDepth 100000 in
set_option maxHeartbeats 2000000 in
theorem decText_any (w : World) (B D at_ : Nat) (v : Value) (L rest : List UInt8) (s : ByteArray) (h : DecAt w B D v L at_) (hL : L.drop at_ = encT s ++ rest) (hl : L.length ≤ 1000000) (hs : s.size ≤ 1000000) :
    Calls Tryz.prog 73 #[.pointer (some ⟨D, 0, none⟩)] w fun e w' => e = .returned (.string s) ∧ Stood w B D v L (at_ + (encT s).length) w' := by
  have hsl : s.data.toList.length = s.size := Array.length_toList
  have hL1 : L.drop at_ = encI s.size ++ (s.data.toList ++ rest) := by rw [hL]; unfold encT; rw [List.append_assoc]
  have I := Lib.hid (decInt_any w B D at_ v L _ (s.size : Int) h hL1 hl ⟨by omega, by omega⟩)
  obtain ⟨at1, h1⟩ : ∃ at1, at1 = at_ + (encI (s.size : Int)).length := ⟨_, rfl⟩
  rw [← h1] at I
  have hL2 : L.drop at1 = s.data.toList ++ rest := by
    rw [h1, ← List.drop_drop, hL1, List.drop_left]
  have hat : Hid (at_ + (encT s).length = at1 + s.size) := Lib.hid (by unfold encT; rw [List.length_append, hsl, h1]; omega)
  have hlen : at1 + s.size ≤ L.length ∨ s.size = 0 := by
    have := congrArg List.length hL2
    rw [List.length_drop, List.length_append, hsl] at this
    omega
  have hlen2 : at1 ≤ L.length := by
    have := congrArg List.length hL1
    rw [List.length_drop, List.length_append] at this
    have hp : 0 < (encI (s.size : Int)).length := by
      unfold encI
      by_cases h1 : zz (s.size : Int) < 128
      · rw [enc_small h1]; simp
      · rw [enc_big h1]; simp
    omega
  have hlen3 : at1 + s.size ≤ L.length := by omega
  have hne : 0 < L.length := by
    have := congrArg List.length hL1
    rw [List.length_drop, List.length_append] at this
    have hp : 0 < (encI (s.size : Int)).length := by
      unfold encI
      by_cases h1 : zz (s.size : Int) < 128
      · rw [enc_small h1]; simp
      · rw [enc_big h1]; simp
    omega
  obtain ⟨A, c, rfl⟩ := own_form h.own
  rcases h.own.2 with ⟨_, h0⟩ | ⟨g, cap, cur, hv, _, hh, hnc, hm, _⟩
  · omega
  injection hv with e1 _ e3
  subst e1; subst e3
  have c1 := h.blk.cell 1
  have hDl := h.blk.lt
  have H2 := Lib.hid hL2
  have H := Lib.hid h
  obtain ⟨n, hn⟩ : ∃ n, n = s.size := ⟨_, rfl⟩
  rw [← hn] at I hat hlen3 hs
  have HNN := Lib.hid hn
  clear h hL hL1 hL2 hh hlen hn hsl h1
  unfold maxLen at hm
  go_enter Tryz.func73, Tryz.ntmps73
  go_wp2_with fail
  refine I.out.mono ?_
  rintro e w1 ⟨rfl, hS, hT⟩
  have d0 := hS.blk.cell 0
  have d1 := hS.blk.cell 1
  have d2 := hS.blk.cell 2
  have fz1 := hS.blk.frozen 1
  have hDl1 := hS.blk.lt
  have a0 : (0 : Int) ≤ (at1 : Int) := Int.natCast_nonneg _
  have a1 : (at1 : Int) ≤ (L.length : Int) := by omega
  have a2 : (0 : Int) ≤ (n : Int) := Int.natCast_nonneg _
  have a3 : (n : Int) ≤ (L.length : Int) - (at1 : Int) := by omega
  obtain ⟨A2, hA2, hcells⟩ : ∃ A2 : Addr, (if c = at1 then some (⟨g, 0, none⟩ : Addr) else some ⟨g, at1, none⟩) = some A2 ∧ Hid (∀ j (hj : j < s.data.toList.length), w1.cell? (A2.add j) = some (.int .u8 (s.data.toList[j].toNat : Int))) := by
    by_cases hc : c = at1
    · refine ⟨⟨g, 0, none⟩, by simp [hc], fun j hj => ?_⟩
      have e : s.data.toList.length = n := by rw [HNN.out]; exact Array.length_toList
      omega
    · refine ⟨⟨g, at1, none⟩, by simp [hc], fun j hj => ?_⟩
      rw [Addr.add_lit]
      have e : L[at1 + j]? = some s.data.toList[j] := by
        rw [← List.getElem?_drop, H2.out, List.getElem?_append_left hj, List.getElem?_eq_getElem hj]
      exact BOwn.cells hS.own _ _ (bc_at e)
  have HC : Hid (∀ W, (∀ a, W.cell? a = w1.cell? a) → (convert 54 9 (.slice (some A2) n (c - at1))).run Tryz.prog W = .ok (.string s) W) := Lib.hid fun W hW => by
    have := run_convert_bytes_back (P := Tryz.prog) W 54 9 5 A2 (c - at1) s.data.toList Tryz.underlying54 Tryz.underlying5 Tryz.underlying9 (fun j hj => by rw [hW]; exact hcells.out j hj)
    rw [show s.data.toList.length = n by rw [HNN.out]; exact Array.length_toList] at this
    exact this
  have HS := Lib.hid hS
  have HT := Lib.hid hT
  have hw0 : IntKind.i64.wrap ((L.length : Int) - (at1 : Int)) = (L.length : Int) - (at1 : Int) := by rw [IntKind.wrap_i64]; omega
  clear hS hT I
  go_wp2_with fail
  go_quiet (fail)
  obtain ⟨W2, hW2⟩ : ∃ W2, W2 = w1.drewN nq := ⟨_, rfl⟩
  rw [← hW2]
  have HS2 : Hid (DecAt W2 B D (.slice (some ⟨g, 0, none⟩) L.length c) L at1) := Lib.hid (by rw [hW2]; exact ⟨HS.out.blk, HS.out.own, HS.out.lo⟩)
  have HT2 : Hid (Touch w W2 D none) := Lib.hid (by rw [hW2]; exact ⟨HT.out.os, HT.out.tape, HT.out.output, HT.out.size, HT.out.block⟩)
  have HC2 : ∀ x, (convert 54 9 (.slice (some A2) n (c - at1))).run Tryz.prog (W2.drewN x) = .ok (.string s) (W2.drewN x) := fun x => HC.out _ (fun a => by rw [hW2]; rfl)
  have hw1 : IntKind.i64.wrap ((at1 : Int) + (n : Int)) = (at1 : Int) + (n : Int) := by rw [IntKind.wrap_i64]; omega
  have hw2 : ((at1 : Int) + (n : Int)).toNat = at1 + n := by omega
  have hw3 : (0 : Int) ≤ (at1 : Int) + (n : Int) := by omega
  have hw4 : at1 + n - at1 = n := by omega
  have hw5 : at1 + n ≤ c := by omega
  have hw6 : (at1 : Int) + (n : Int) ≤ (c : Int) := by omega
  have hw7 : (at1 : Int) ≤ (at1 : Int) + (n : Int) := by omega
  have hw8 : at1 ≤ at1 + n := by omega
  have d0 := HS2.out.blk.cell 0
  have d1 := HS2.out.blk.cell 1
  have d2 := HS2.out.blk.cell 2
  have fz1 := HS2.out.blk.frozen 1
  have hDl2 := HS2.out.blk.lt
  clear hW2 HS HT HC hw0
  go_wp2_with fail
  go_quiet (fail)
  obtain ⟨W3, hW3⟩ : ∃ W3, W3 = W2.drewN nq := ⟨_, rfl⟩
  rw [← hW3]
  have HS3 : Hid (DecAt W3 B D (.slice (some ⟨g, 0, none⟩) L.length c) L at1) := Lib.hid (by rw [hW3]; exact ⟨HS2.out.blk, HS2.out.own, HS2.out.lo⟩)
  have HT3 : Hid (Touch w W3 D none) := Lib.hid (by rw [hW3]; exact ⟨HT2.out.os, HT2.out.tape, HT2.out.output, HT2.out.size, HT2.out.block⟩)
  have d1 := HS3.out.blk.cell 1
  have fz1 := HS3.out.blk.frozen 1
  have hDl3 := HS3.out.blk.lt
  have HF : Hid (Stood w B D (.slice (some ⟨g, 0, none⟩) L.length c) L (at_ + (encT s).length) (W3.setCell ⟨D, 1, none⟩ (.int .i64 ((at1 : Int) + (n : Int))))) := Lib.hid (by
    have hT : Touch W3 (W3.setCell ⟨D, 1, none⟩ (.int .i64 ((at1 : Int) + (n : Int)))) D none := ⟨rfl, rfl, rfl, by simp, fun j _ hj _ => Below.heap_setCell _ _ _ _ hj⟩
    refine ⟨⟨?_, hT.own HS3.out.own HS3.out.ne (by simp [Value.ownBlock]), H.out.lo⟩, HT3.out.trans (.inl rfl) hT⟩
    have := HS3.out.blk.set_ 1 (.int .i64 ((at1 : Int) + (n : Int)))
    rw [hat.out, show ((at1 + n : Nat) : Int) = (at1 : Int) + (n : Int) by omega]
    exact this)
  clear hW3 HS2 HT2 HC2
  go_wp2_with fail
  go_ret
  exact ⟨rfl, HF.out⟩

set_option maxRecDepth 100000 in
set_option maxHeartbeats 1000000 in
theorem decLeft_any (w : World) (B D at_ : Nat) (v : Value) (L : List UInt8) (h : DecAt w B D v L at_) (hl : L.length ≤ 1000000) (ha : at_ ≤ L.length) :
    Calls Tryz.prog 74 #[.pointer (some ⟨D, 0, none⟩)] w fun e w' => e = .returned (.int .i64 ((L.length - at_ : Nat) : Int)) ∧ ∃ k, w' = w.drewN k := by
  obtain ⟨A, c, rfl⟩ := own_form h.own
  have d0 := h.blk.cell 0
  have d1 := h.blk.cell 1
  have d2 := h.blk.cell 2
  have hD := h.blk.lt
  have hw0 : IntKind.i64.wrap ((L.length : Int) - (at_ : Int)) = ((L.length - at_ : Nat) : Int) := by rw [IntKind.wrap_i64]; omega
  clear h
  go_enter Tryz.func74, Tryz.ntmps74
  go_wp2_with fail
  go_quiet (fail)
  go_wp2_with fail
  go_ret
  exact ⟨rfl, nq, rfl⟩

set_option maxHeartbeats 1000000 in
theorem decErr_any (w : World) (B D at_ : Nat) (v : Value) (L : List UInt8) (h : DecAt w B D v L at_) :
    Calls Tryz.prog 72 #[.pointer (some ⟨D, 0, none⟩)] w fun e w' => e = .returned .nilIface ∧ w' = w := by
  have d2 := h.blk.cell 2
  have hD := h.blk.lt
  clear h
  go_enter Tryz.func72, Tryz.ntmps72
  go_wp2_with fail
  go_ret
  exact ⟨rfl, rfl⟩
end Go.Proofs.YtplleaimmmanhaaGreatDoor
namespace Go.Proofs.YtplleaimmmanhaaGreatDoor
open Go Go.RowKit

theorem Put.go {w w' : World} {B E : Nat} {v : Value} {l l' : List UInt8} (hE : EncAt w B E v l) (hB : B ≤ w.heap.size) (h : Put w B E v l' w') : ∃ v', EncAt w' B E v' l' ∧ Below B w w' := by
  obtain ⟨v', h1, h2, _⟩ := h
  exact ⟨v', h1, h2.below hB hE.lo fun g hg => (hE.own.lt g hg).1⟩
theorem Put.keep {w w' : World} {B E q : Nat} {v : Value} {l l' : List UInt8} {t : TypeId} {cs : Array Value} (hE : EncAt w B E v l) (h : Put w B E v l' w') (hq : Blk w q t cs) (h1 : t ≠ 109) (h2 : t ≠ 5) : Blk w' q t cs := by
  obtain ⟨v', _, hT, _⟩ := h
  exact hT.blk hq (hq.ne_ hE.blk h1) (fun e => own_blk_ne hE.own hq (Ne.symm h2) e.symm)
def In64i (n : Int) : Prop := -9223372036854775808 ≤ n ∧ n ≤ 9223372036854775807
/-- Numbers and texts that an entry may have. -/
def FitE (x : En) : Prop := x.1.size ≤ 100 ∧ x.2.2.2.1.size ≤ 5000 ∧ In64i x.2.1 ∧ In64i x.2.2.1 ∧ In64i x.2.2.2.2.1 ∧ In64i x.2.2.2.2.2
def encE (x : En) : List UInt8 := encTs [x.1] ++ encIs [x.2.1, x.2.2.1] ++ encTs [x.2.2.2.1] ++ encIs [x.2.2.2.2.1, x.2.2.2.2.2]
def encEs (l : List En) : List UInt8 := l.flatMap encE
def encL (l : List En) : List UInt8 := encIs [(l.length : Int)] ++ encEs l
theorem encT_len' {s : ByteArray} {n : Nat} (h : s.size ≤ n) (hn : n ≤ 6000) : (encT s).length ≤ n + 10 := by
  unfold encT
  rw [List.length_append]
  have := encI_len (n := (s.size : Int)) ⟨by omega, by omega⟩
  have e : s.data.toList.length = s.size := Array.length_toList
  omega
theorem encE_len {x : En} (h : FitE x) : (encE x).length ≤ 5160 := by
  obtain ⟨h1, h2, h3, h4, h5, h6⟩ := h
  have a1 := encT_len' h1 (by decide)
  have a2 := encT_len' h2 (by decide)
  have b1 := encI_len h3
  have b2 := encI_len h4
  have b3 := encI_len h5
  have b4 := encI_len h6
  simp only [encE, encTs, encIs, List.flatMap_cons, List.flatMap_nil, List.append_nil, List.length_append]
  omega
theorem encEs_take {l : List En} {k : Nat} {x : En} (h : l[k]? = some x) : encEs (l.take (k + 1)) = encEs (l.take k) ++ encE x := by
  have hlt := (List.getElem?_eq_some_iff.1 h).1
  have e := (List.getElem?_eq_some_iff.1 h).2
  unfold encEs
  rw [List.take_succ_eq_append_getElem hlt, e, List.flatMap_append]; simp
set_option maxRecDepth 100000 in
theorem encEs_len {l : List En} (h : ∀ x ∈ l, FitE x) : ∀ k, (encEs (l.take k)).length ≤ k * 5160
  | 0 => by simp [encEs]
  | k + 1 => by
    have ih := encEs_len h k
    cases e : l[k]? with
    | none =>
      have : l.length ≤ k := List.getElem?_eq_none_iff.1 e
      rw [List.take_of_length_le (show l.length ≤ k + 1 by omega)]
      rw [List.take_of_length_le this] at ih
      omega
    | some x =>
      rw [encEs_take e, List.length_append]
      have := encE_len (h x (List.mem_of_getElem? e))
      omega
theorem encIs_one_pos (n : Int) (r : List UInt8) : 0 < (encIs [n] ++ r).length := by
  have : 0 < (encI n).length := by
    unfold encI
    by_cases h1 : zz n < 128
    · rw [enc_small h1]; simp
    · rw [enc_big h1]; simp
  simp only [encIs, List.flatMap_cons, List.flatMap_nil, List.append_nil, List.length_append]
  omega
theorem encIs_len1 {n : Int} (h : In64i n) : (encIs [n]).length ≤ 10 := by
  have := encI_len h
  simpa [encIs] using this

set_option maxRecDepth 100000 in
set_option maxHeartbeats 4000000 in
theorem encode_any (w : World) (v : Value) (l : List En) (h : Reads 6 cE w v l) (hf : ∀ x ∈ l, FitE x) (hl : l.length ≤ 90) (hc : chkE l = none) (hh : Halves w) :
    Calls Tryz.prog 27 #[v] w fun e w' => ∃ v', e = .returned (.tuple #[v', .nilIface]) ∧ BOwn w' w.heap.size v' (seald (encL l)) ∧ Below w.heap.size w w' := by
  have CK := Lib.hid (checkE_any w v l h (fun x hx => ⟨by have := (hf x hx).1; omega, by have := (hf x hx).2.1; omega⟩) (by omega))
  rw [hc] at CK
  obtain ⟨A, c, rfl⟩ := h.form
  have hlen := h.len
  have HR := Lib.hid h
  have HF := Lib.hid hf
  have HH := Lib.hid hh
  have hlc : l.length ≤ c := hlen.2.1
  have hcm : c ≤ 9223372036854775807 := by have := hlen.2.2; unfold maxLen at this; omega
  clear h hf hh hc hlen
  go_enter Tryz.func27, Tryz.ntmps27
  go_wp2_with fail
  refine CK.out.mono ?_
  rintro e w1 h1
  obtain ⟨rfl, b1⟩ : e = .returned .nilIface ∧ Below w.heap.size w w1 := by
    rcases h1 with ⟨_, he, hb⟩ | ⟨i, k, F, ho, _⟩
    · exact ⟨he, hb⟩
    · cases ho
  have B1 := Lib.hid b1
  obtain ⟨E, hE⟩ : ∃ E, E = w1.heap.size := ⟨_, rfl⟩
  obtain ⟨W1, hW1⟩ : ∃ W1, W1 = w1.alloc (.cells #[.slice none 0 0] 109) := ⟨_, rfl⟩
  have E1 : EncAt W1 E E (.slice none 0 0) [] := ⟨by rw [hW1, hE]; exact Blk.new _ _ _, World.ownsRow_nil _ _ _ _, Nat.le_refl _⟩
  have HE1 := Lib.hid E1
  have hEW : Hid (E ≤ W1.heap.size) := Lib.hid (by rw [hW1, hE]; simp)
  have BW1 : Hid (Below w.heap.size w W1) := Lib.hid (by rw [hW1]; exact b1.alloc b1.size _)
  have hwE : Hid (w.heap.size ≤ E) := Lib.hid (by rw [hE]; exact b1.size)
  obtain ⟨q, hq⟩ : ∃ q, q = w1.heap.size + 1 := ⟨_, rfl⟩
  obtain ⟨W2, hW2⟩ : ∃ W2, W2 = W1.alloc (.cells #[.int .i64 (l.length : Int)] 3) := ⟨_, rfl⟩
  have b2 : Below W1.heap.size W1 W2 := by rw [hW2]; exact (Below.refl _ _).alloc (Nat.le_refl _) _
  have Q2 : Blk W2 q 3 (ints [(l.length : Int)]) := by rw [hW2, hq, hW1]; have := Blk.new (w1.alloc (.cells #[.slice none 0 0] 109)) 3 (ints [(l.length : Int)]); rw [World.size_alloc] at this; exact this
  have P2 := Lib.hid (encInt_any W2 E E q (.slice none 0 0) [] [(l.length : Int)] (E1.below b2) Q2 (fun n hn => by rw [List.mem_singleton.1 hn]; omega) (by simp) (by simp) (Nat.le_trans hEW.out b2.size))
  have E2 := Lib.hid (E1.below b2)
  have BW2 : Hid (Below w.heap.size w W2) := Lib.hid (BW1.out.trans (b2.mono BW1.out.size))
  have hEW2 : Hid (E ≤ W2.heap.size) := Lib.hid (Nat.le_trans hEW.out b2.size)
  clear b1 B1 CK h1 E1 b2 Q2
  go_wp2_with fail
  rw [← hW1, ← hW2, ← hq, ← hE]
  refine P2.out.mono ?_
  rintro e w3 ⟨rfl, hp3⟩
  obtain ⟨v3, hE3, hB3⟩ := Put.go E2.out hEW2.out hp3
  have E3 : Hid (EncAt w3 E E v3 (encIs [(l.length : Int)])) := Lib.hid (by simpa using hE3)
  have B3 : Hid (Below w.heap.size w w3) := Lib.hid (BW2.out.trans (hB3.mono hwE.out))
  have hEW3 : Hid (E ≤ w3.heap.size) := Lib.hid (Nat.le_trans hEW2.out hB3.size)
  clear hp3 hE3 hB3 P2 E2 BW2 BW1 HE1 hW1 hW2 hq hE hEW hEW2
  go_wp2_with fail
  go_loopw [19] (fun s19 wr => ∃ (k : Nat) (v2 : Value), s19 = .int .i64 k ∧ k ≤ l.length ∧ EncAt wr E E v2 (encIs [(l.length : Int)] ++ encEs (l.take k)) ∧ Below w.heap.size w wr ∧ E ≤ wr.heap.size) (fun s19 _ => l.length - (intOf s19).toNat)
  case atStart => exact ⟨0, v3, rfl, Nat.zero_le _, by simpa [encEs] using E3.out, B3.out, hEW3.out⟩
  case round =>
    obtain ⟨k, v2, rfl, hk, hE2, hB2, hEW2⟩ := hrel
    have k0 : (0 : Int) ≤ (k : Int) := Int.natCast_nonneg _
    by_cases hlt : k < l.length
    · have k1 : (k : Int) < (l.length : Int) := by omega
      obtain ⟨x, hx⟩ : ∃ x, l[k]? = some x := ⟨_, List.getElem?_eq_getElem hlt⟩
      obtain ⟨ad, rfl, c0, c1, c2, c3, c4, c5⟩ := Ents.at_ (HR.out.below hB2) hx
      have FX := Lib.hid (HF.out x (List.mem_of_getElem? hx))
      have LN := Lib.hid (encEs_len HF.out k)
      have L1 := Lib.hid (encIs_len1 (n := (l.length : Int)) ⟨by omega, by omega⟩)
      have HX := Lib.hid (encEs_take hx)
      obtain ⟨p, st, m, d, tm, sz⟩ := x
      have hcl := World.block_lt_of_cell? _ _ c0
      obtain ⟨q, hq⟩ : ∃ q, q = wr.heap.size := ⟨_, rfl⟩
      obtain ⟨W4, hW4⟩ : ∃ W4, W4 = wr.alloc (.cells #[.string p, .int .i64 st, .int .i64 m, .string d, .int .i64 tm, .int .i64 sz] 71) := ⟨_, rfl⟩
      have b4 : Below wr.heap.size wr W4 := by rw [hW4]; exact (Below.refl _ _).alloc (Nat.le_refl _) _
      have Q4 : Blk W4 q 71 #[.string p, .int .i64 st, .int .i64 m, .string d, .int .i64 tm, .int .i64 sz] := by rw [hW4, hq]; exact Blk.new _ _ _
      obtain ⟨g, hg⟩ : ∃ g, g = wr.heap.size + 1 := ⟨_, rfl⟩
      obtain ⟨W5, hW5⟩ : ∃ W5, W5 = W4.alloc (.cells #[.string p] 9) := ⟨_, rfl⟩
      have b5 : Below W4.heap.size W4 W5 := by rw [hW5]; exact (Below.refl _ _).alloc (Nat.le_refl _) _
      have G5 : Blk W5 g 9 (strV [p]) := by rw [hW5, hg, hW4]; have := Blk.new (wr.alloc (.cells #[.string p, .int .i64 st, .int .i64 m, .string d, .int .i64 tm, .int .i64 sz] 71)) 9 (strV [p]); rw [World.size_alloc] at this; exact this
      have Q5 := Lib.hid (Q4.below b5 Q4.lt)
      have E5 := Lib.hid ((hE2.below b4).below b5)
      have b45 : Below wr.heap.size wr W5 := b4.trans (b5.mono b4.size)
      have B5 := Lib.hid (hB2.trans (b45.mono hB2.size))
      have hEW5 : Hid (E ≤ W5.heap.size) := Lib.hid (Nat.le_trans hEW2 b45.size)
      have T5 := Lib.hid (encText_any W5 E E g v2 _ [p] E5.out G5 (fun s hs => by rw [List.mem_singleton.1 hs]; have := FX.out.1; simp only at this; omega) (by rw [List.length_append]; have := LN.out; have := L1.out; omega) (by simp) hEW5.out)
      clear hE2 hB2 hEW2 b4 Q4 b5 G5 b45
      go_wp2_with fail
      rw [← hW4, ← hW5, ← hg, ← hq]
      clear hW4 hW5 hg hq
      refine T5.out.mono ?_
      rintro e w6 ⟨rfl, hp6⟩
      have Q6 := Lib.hid (Put.keep E5.out hp6 Q5.out (by decide) (by decide))
      obtain ⟨v6, hE6, hB6⟩ := Put.go E5.out hEW5.out hp6
      have E6 := Lib.hid hE6
      have B6 := Lib.hid (B5.out.trans (hB6.mono hwE.out))
      have hEW6 : Hid (E ≤ w6.heap.size) := Lib.hid (Nat.le_trans hEW5.out hB6.size)
      clear T5 hp6 hE6 hB6 Q5 E5 B5 hEW5
      have LEN6 : Hid ((encIs [(l.length : Int)] ++ encEs (l.take k) ++ encTs [p]).length ≤ 500000) := Lib.hid (by
        have a1 := encT_len' FX.out.1 (by decide)
        have := LN.out; have := L1.out
        simp only [encTs, List.flatMap_cons, List.flatMap_nil, List.append_nil, List.length_append] at *
        omega)
      have LEN7 : Hid ((encIs [(l.length : Int)] ++ encEs (l.take k) ++ encTs [p] ++ encIs [st, m]).length ≤ 500000) := Lib.hid (by
        have a1 := encT_len' FX.out.1 (by decide)
        have a3 := encI_len FX.out.2.2.1
        have a4 := encI_len FX.out.2.2.2.1
        have := LN.out; have := L1.out
        simp only [encTs, encIs, List.flatMap_cons, List.flatMap_nil, List.append_nil, List.length_append] at *
        omega)
      have LEN8 : Hid ((encIs [(l.length : Int)] ++ encEs (l.take k) ++ encTs [p] ++ encIs [st, m] ++ encTs [d]).length ≤ 500000) := Lib.hid (by
        have a1 := encT_len' FX.out.1 (by decide)
        have a2 := encT_len' FX.out.2.1 (by decide)
        have a3 := encI_len FX.out.2.2.1
        have a4 := encI_len FX.out.2.2.2.1
        have := LN.out; have := L1.out
        simp only [encTs, encIs, List.flatMap_cons, List.flatMap_nil, List.append_nil, List.length_append] at *
        omega)
      have y1 := Q6.out.cell 1
      have y2 := Q6.out.cell 2
      have yl := Q6.out.lt
      obtain ⟨V6, hV6⟩ : ∃ V, V = w6.alloc (.cells #[.int .i64 st, .int .i64 m] 3) := ⟨_, rfl⟩
      have b6 : Below w6.heap.size w6 V6 := by rw [hV6]; exact (Below.refl _ _).alloc (Nat.le_refl _) _
      obtain ⟨g6, hg6⟩ : ∃ g, g = w6.heap.size := ⟨_, rfl⟩
      have G6 : Blk V6 g6 3 (ints [st, m]) := by rw [hV6, hg6]; exact Blk.new _ _ _
      have F6 := Lib.hid (E6.out.below b6)
      have R6 := Lib.hid (Q6.out.below b6 Q6.out.lt)
      have C6 := Lib.hid (B6.out.trans (b6.mono B6.out.size))
      have hEV6 : Hid (E ≤ V6.heap.size) := Lib.hid (Nat.le_trans hEW6.out b6.size)
      have T6 := Lib.hid (encInt_any V6 E E g6 v6 _ [st, m] F6.out G6 (fun n hn => by simp only [List.mem_cons, List.not_mem_nil, or_false] at hn; obtain ⟨_, _, f3, f4, f5, f6⟩ := FX.out; rcases hn with rfl | rfl <;> assumption) (by have := LEN6.out; omega) (by simp) hEV6.out)
      clear E6 B6 hEW6 Q6 b6 G6
      go_wp2_with fail
      rw [← hV6, ← hg6]
      clear hV6 hg6
      refine T6.out.mono ?_
      rintro e w7 ⟨rfl, hp7⟩
      have Q7 := Lib.hid (Put.keep F6.out hp7 R6.out (by decide) (by decide))
      obtain ⟨v7, hE7, hB7⟩ := Put.go F6.out hEV6.out hp7
      have E7 := Lib.hid hE7
      have B7 := Lib.hid (C6.out.trans (hB7.mono hwE.out))
      have hEW7 : Hid (E ≤ w7.heap.size) := Lib.hid (Nat.le_trans hEV6.out hB7.size)
      clear T6 hp7 hE7 hB7 F6 R6 C6 hEV6 yl y1 y2
      have y3 := Q7.out.cell 3
      have yl := Q7.out.lt
      obtain ⟨V7, hV7⟩ : ∃ V, V = w7.alloc (.cells #[.string d] 9) := ⟨_, rfl⟩
      have b7 : Below w7.heap.size w7 V7 := by rw [hV7]; exact (Below.refl _ _).alloc (Nat.le_refl _) _
      obtain ⟨g7, hg7⟩ : ∃ g, g = w7.heap.size := ⟨_, rfl⟩
      have G7 : Blk V7 g7 9 (strV [d]) := by rw [hV7, hg7]; exact Blk.new _ _ _
      have F7 := Lib.hid (E7.out.below b7)
      have R7 := Lib.hid (Q7.out.below b7 Q7.out.lt)
      have C7 := Lib.hid (B7.out.trans (b7.mono B7.out.size))
      have hEV7 : Hid (E ≤ V7.heap.size) := Lib.hid (Nat.le_trans hEW7.out b7.size)
      have T7 := Lib.hid (encText_any V7 E E g7 v7 _ [d] F7.out G7 (fun s hs => by rw [List.mem_singleton.1 hs]; have := FX.out.2.1; simp only at this; omega) (by have := LEN7.out; omega) (by simp) hEV7.out)
      clear E7 B7 hEW7 Q7 b7 G7
      go_wp2_with fail
      rw [← hV7, ← hg7]
      clear hV7 hg7
      refine T7.out.mono ?_
      rintro e w8 ⟨rfl, hp8⟩
      have Q8 := Lib.hid (Put.keep F7.out hp8 R7.out (by decide) (by decide))
      obtain ⟨v8, hE8, hB8⟩ := Put.go F7.out hEV7.out hp8
      have E8 := Lib.hid hE8
      have B8 := Lib.hid (C7.out.trans (hB8.mono hwE.out))
      have hEW8 : Hid (E ≤ w8.heap.size) := Lib.hid (Nat.le_trans hEV7.out hB8.size)
      clear T7 hp8 hE8 hB8 F7 R7 C7 hEV7 yl y3
      have y4 := Q8.out.cell 4
      have y5 := Q8.out.cell 5
      have yl := Q8.out.lt
      obtain ⟨V8, hV8⟩ : ∃ V, V = w8.alloc (.cells #[.int .i64 tm, .int .i64 sz] 3) := ⟨_, rfl⟩
      have b8 : Below w8.heap.size w8 V8 := by rw [hV8]; exact (Below.refl _ _).alloc (Nat.le_refl _) _
      obtain ⟨g8, hg8⟩ : ∃ g, g = w8.heap.size := ⟨_, rfl⟩
      have G8 : Blk V8 g8 3 (ints [tm, sz]) := by rw [hV8, hg8]; exact Blk.new _ _ _
      have F8 := Lib.hid (E8.out.below b8)
      have R8 := Lib.hid (Q8.out.below b8 Q8.out.lt)
      have C8 := Lib.hid (B8.out.trans (b8.mono B8.out.size))
      have hEV8 : Hid (E ≤ V8.heap.size) := Lib.hid (Nat.le_trans hEW8.out b8.size)
      have T8 := Lib.hid (encInt_any V8 E E g8 v8 _ [tm, sz] F8.out G8 (fun n hn => by simp only [List.mem_cons, List.not_mem_nil, or_false] at hn; obtain ⟨_, _, f3, f4, f5, f6⟩ := FX.out; rcases hn with rfl | rfl <;> assumption) (by have := LEN8.out; omega) (by simp) hEV8.out)
      clear E8 B8 hEW8 Q8 b8 G8
      go_wp2_with fail
      rw [← hV8, ← hg8]
      clear hV8 hg8
      refine T8.out.mono ?_
      rintro e w9 ⟨rfl, hp9⟩
      have Q9 := Lib.hid (Put.keep F8.out hp9 R8.out (by decide) (by decide))
      obtain ⟨v9, hE9, hB9⟩ := Put.go F8.out hEV8.out hp9
      have E9 := Lib.hid hE9
      have B9 := Lib.hid (C8.out.trans (hB9.mono hwE.out))
      have hEW9 : Hid (E ≤ w9.heap.size) := Lib.hid (Nat.le_trans hEV8.out hB9.size)
      clear T8 hp9 hE9 hB9 F8 R8 C8 hEV8 yl y4 y5
      have HEND : Hid (EncAt w9 E E v9 (encIs [(l.length : Int)] ++ encEs (l.take (k + 1)))) := Lib.hid (by
        have := E9.out
        rw [HX.out]
        unfold encE
        simpa only [List.append_assoc] using this)
      clear E9
      go_wp2_with fail
      go_roundw
      case rel => exact ⟨k + 1, v9, by go_num, hlt, HEND.out, B9.out, hEW9.out⟩
      case measure => simp [intOf]; omega
    · obtain rfl : k = l.length := by omega
      rw [List.take_length] at hE2
      have LN := encEs_len HF.out l.length
      rw [List.take_length] at LN
      have L1 := encIs_len1 (n := (l.length : Int)) ⟨by omega, by omega⟩
      have LL : Hid ((encL l).length ≤ 900000) := Lib.hid (by unfold encL; rw [List.length_append]; omega)
      have BY := Lib.hid (bytes_any wr E E v2 (encL l) hE2 (by have := LL.out; omega))
      have HB2 := Lib.hid hB2
      clear hE2 hB2 LN L1 hEW2
      go_wp2_with fail
      refine BY.out.mono ?_
      rintro e w3' ⟨v3', rfl, ho, hb⟩
      have HBW := Lib.hid (HB2.out.trans (hb.mono HB2.out.size))
      have PU := Lib.hid (sealPut_any w3' v3' (encL l) (HH.out.below HBW.out HH.out.1) (ReadsB.of_own ho) (encIs_one_pos _ _) LL.out)
      obtain ⟨A3, c3, rfl⟩ := own_form ho
      clear ho hb BY HB2
      go_wp2_with fail
      refine PU.out.mono ?_
      rintro e w4' ⟨v4', rfl, ho, hb⟩
      have HO := Lib.hid (own_base (B' := w.heap.size) ho HBW.out.size)
      have HBZ := Lib.hid (HBW.out.trans (hb.mono HBW.out.size))
      clear ho hb PU HBW
      go_wp2_with fail
      go_ret2
      exact ⟨_, rfl, HO.out, HBZ.out⟩
end Go.Proofs.YtplleaimmmanhaaGreatDoor
namespace Go.Proofs.YtplleaimmmanhaaGreatDoor
open Go Go.RowKit

theorem Stood.go {w w' : World} {B D b : Nat} {v : Value} {L : List UInt8} {a : Nat} (h0 : DecAt w B D v L a) (hB : B ≤ w.heap.size) (h : Stood w B D v L b w') : DecAt w' B D v L b ∧ Below B w w' :=
  ⟨h.1, h.2.below hB h0.lo fun _ e => by cases e⟩
theorem Stood.own {w w' : World} {B D a b B2 k n : Nat} {v u : Value} {L : List UInt8} {t : TypeId} {xs : List Value} (h0 : DecAt w B D v L a) (h : Stood w B D v L b w') (ho : w.ownsRow B2 t k u n xs) (ht : t ≠ 175) : w'.ownsRow B2 t k u n xs :=
  h.2.own ho (own_blk_ne ho h0.blk ht) (by cases u.ownBlock <;> simp)
theorem own_typed {w : World} {B j n : Nat} {v : Value} {t : TypeId} {k : Nat} {xs : List Value} (h : w.ownsRow B t k v n xs) (hv : v.ownBlock = some j) : ∃ cs, Blk w j t cs := by
  rcases h.2 with ⟨rfl, _⟩ | ⟨g, cap, cur, rfl, _, hh, _⟩
  · cases hv
  · obtain rfl : g = j := by simpa [Value.ownBlock] using hv
    exact ⟨cur, hh⟩
/-- A row grows, beside a Dec. -/
theorem DecAt.grown {w w' : World} {B D a : Nat} {v : Value} {L : List UInt8} {o : Obj} {r : Option Nat} (h : DecAt w B D v L a) (hg : (w.alloc o).grownBy w' r) (h1 : r ≠ some D) (h2 : v.ownBlock = none ∨ v.ownBlock ≠ r) : DecAt w' B D v L a :=
  ⟨(h.blk.alloc o).grown hg (fun e => h1 e.symm), (h.own.alloc o).kept hg h2, h.lo⟩
theorem drop_step {L a b : List UInt8} {n : Nat} (h : L.drop n = a ++ b) : L.drop (n + a.length) = b := by
  rw [← List.drop_drop, h, List.drop_left]
theorem encE_eq (x : En) : encE x = encT x.1 ++ (encI x.2.1 ++ (encI x.2.2.1 ++ (encT x.2.2.2.1 ++ (encI x.2.2.2.2.1 ++ encI x.2.2.2.2.2)))) := by
  simp [encE, encTs, encIs, List.append_assoc]
theorem encL_eq (l : List En) : encL l = encI (l.length : Int) ++ encEs l := by simp [encL, encIs]
theorem encEs_drop {l : List En} {k : Nat} {x : En} (h : l[k]? = some x) : encEs l = encEs (l.take k) ++ (encE x ++ encEs (l.drop (k + 1))) := by
  obtain ⟨hlt, rfl⟩ := List.getElem?_eq_some_iff.1 h
  have e : l = l.take k ++ (l[k] :: l.drop (k + 1)) := by rw [← List.drop_eq_getElem_cons hlt, List.take_append_drop]
  unfold encEs
  conv => lhs; rw [e]
  rw [List.flatMap_append, List.flatMap_cons]
/-- Where entry k begins. -/
def atE (l : List En) (k : Nat) : Nat := (encI (l.length : Int)).length + (encEs (l.take k)).length
theorem atE_drop {l : List En} {k : Nat} {x : En} (h : l[k]? = some x) : (encL l).drop (atE l k) = encE x ++ encEs (l.drop (k + 1)) := by
  unfold atE
  rw [encL_eq, ← List.drop_drop, List.drop_left, encEs_drop h, List.drop_left]
theorem atE_next {l : List En} {k : Nat} {x : En} (h : l[k]? = some x) : atE l (k + 1) = atE l k + (encE x).length := by
  unfold atE
  rw [encEs_take h, List.length_append, Nat.add_assoc]
theorem atE_end (l : List En) : atE l l.length = (encL l).length := by
  unfold atE
  rw [List.take_length, encL_eq, List.length_append]
theorem encL_len {l : List En} (h : ∀ x ∈ l, FitE x) (hl : l.length ≤ 90) : (encL l).length ≤ 900000 := by
  have LN := encEs_len h l.length
  rw [List.take_length] at LN
  have L1 := encIs_len1 (n := (l.length : Int)) ⟨by omega, by omega⟩
  unfold encL
  rw [List.length_append]
  omega
def lenV : Value → Nat | .slice _ n _ => n | _ => 0

set_option maxRecDepth 100000 in
set_option maxHeartbeats 4000000 in
theorem decode_any (w : World) (v : Value) (l : List En) (h : ReadsB w v (seald (encL l))) (hf : ∀ x ∈ l, FitE x) (hl : l.length ≤ 90) (hc : chkE l = none) (hh : Halves w) :
    Calls Tryz.prog 32 #[v] w fun e w' => ∃ v', e = .returned (.tuple #[v', .nilIface]) ∧ w'.ownsRow w.heap.size 71 6 v' l.length (l.flatMap cE) ∧ Below w.heap.size w w' := by
  obtain ⟨i0, hi0, hz0, hz1, hz2⟩ := info_parts entryInfo
  have hpos : 0 < (encL l).length := encIs_one_pos _ _
  have hLl := encL_len hf hl
  have OP := Lib.hid (sealOpen_any w v (encL l) hh h hpos hLl)
  obtain ⟨A, c, rfl⟩ := h.form
  have HF := Lib.hid hf
  have HH := Lib.hid hh
  have HC := Lib.hid hc
  clear h hf hh hc
  go_enter Tryz.func32, Tryz.ntmps32
  go_wp2_with fail
  refine OP.out.mono ?_
  rintro e w1 ⟨v1, rfl, o1, b1⟩
  have OF := Lib.hid (ofK_any w1 w.heap.size v1 (encL l) o1 (by omega))
  have B1 := Lib.hid b1
  obtain ⟨A1, c1, rfl⟩ := own_form o1
  clear o1 b1 OP
  go_wp2_with fail
  refine OF.out.mono ?_
  rintro e w2 ⟨D, v2, rfl, d2, b2⟩
  obtain ⟨B, hB⟩ : ∃ B, B = w1.heap.size := ⟨_, rfl⟩
  rw [← hB] at d2
  have hwB : Hid (w.heap.size ≤ B) := Lib.hid (by rw [hB]; exact B1.out.size)
  have hB2 : Hid (B ≤ w2.heap.size) := Lib.hid (by rw [hB]; exact b2.size)
  have B2 : Hid (Below w.heap.size w w2) := Lib.hid (B1.out.trans (b2.mono B1.out.size))
  have D2 := Lib.hid d2
  have I2 := Lib.hid (decInt_any w2 B D 0 v2 (encL l) (encEs l) (l.length : Int) d2 (by rw [List.drop_zero, encL_eq]) (by omega) ⟨by omega, by omega⟩)
  rw [Nat.zero_add] at I2
  clear d2 b2 OF B1 hB
  go_wp2_with fail
  refine I2.out.mono ?_
  rintro e w3 ⟨rfl, s3⟩
  obtain ⟨d3, b3⟩ := s3.go D2.out hB2.out
  have D3 : Hid (DecAt w3 B D v2 (encL l) (atE l 0)) := Lib.hid (by unfold atE; simpa [encEs] using d3)
  have B3 := Lib.hid (B2.out.trans (b3.mono hwB.out))
  have hB3 : Hid (B ≤ w3.heap.size) := Lib.hid (Nat.le_trans hB2.out b3.size)
  clear s3 d3 b3 I2 D2 B2 hB2
  have n0 : (0 : Int) ≤ (l.length : Int) := Int.natCast_nonneg _
  have n1 : (l.length : Int) ≤ 90 := by omega
  go_wp2_with fail
  go_loopw [8] (fun s8 wr => ∃ k : Nat, k ≤ l.length ∧ Hid (wr.ownsRow w.heap.size 71 6 s8 k ((l.take k).flatMap cE)) ∧ Hid (DecAt wr B D v2 (encL l) (atE l k)) ∧ Hid (Below w.heap.size w wr) ∧ Hid (B ≤ wr.heap.size)) (fun s8 _ => l.length - lenV s8)
  case atStart => exact ⟨0, Nat.zero_le _, Lib.hid (World.ownsRow_nil _ _ _ _), D3, B3, hB3⟩
  case round =>
    obtain ⟨k, hk, hO, hD, hB, hBr⟩ := hrel
    obtain ⟨A8, c8, rfl⟩ := own_form hO.out
    have k0 : (0 : Int) ≤ (k : Int) := Int.natCast_nonneg _
    by_cases hlt : k < l.length
    · have k1 : (k : Int) < (l.length : Int) := by omega
      obtain ⟨x, hx⟩ : ∃ x, l[k]? = some x := ⟨_, List.getElem?_eq_getElem hlt⟩
      have FX := Lib.hid (HF.out x (List.mem_of_getElem? hx))
      have DR := Lib.hid (atE_drop hx)
      have NX := Lib.hid (atE_next hx)
      rw [encE_eq] at DR NX
      have HX := Lib.hid (take_snoc hx)
      have ER := Lib.hid (decErr_any wr B D (atE l k) v2 (encL l) hD.out)
      obtain ⟨p, st, m, d, tm, sz⟩ := x
      go_wp2_with fail
      refine ER.out.mono ?_
      rintro e w4 ⟨rfl, rfl⟩
      clear ER
      have Lm := Lib.hid (show (encL l).length ≤ 1000000 by omega)
      obtain ⟨a4, ha4⟩ : ∃ a, a = atE l k := ⟨_, rfl⟩
      have HA4 := Lib.hid ha4
      rw [← ha4] at DR hD
      clear ha4
      have R4 : Hid ((encL l).drop a4 = encT p ++ (encI st ++ (encI m ++ (encT d ++ (encI tm ++ (encI sz ++ encEs (l.drop (k + 1)))))))) := Lib.hid (by have := DR.out; simpa only [List.append_assoc] using this)
      clear DR
      have O4 := hO
      have D4 := hD
      have B4 := hB
      have hB4 := hBr
      have C4 := Lib.hid (decText_any w4 B D a4 v2 (encL l) _ p D4.out R4.out Lm.out (by have := FX.out.1; simp only at this; omega))
      go_wp2_with fail
      refine C4.out.mono ?_
      rintro e w5 ⟨rfl, s5⟩
      have O5 := Lib.hid (s5.own D4.out O4.out (by decide))
      obtain ⟨d5, b5⟩ := s5.go D4.out hB4.out
      obtain ⟨a5, ha5⟩ : ∃ a, a = a4 + (encT p).length := ⟨_, rfl⟩
      have HA5 := Lib.hid ha5
      have R5 := Lib.hid (drop_step R4.out)
      rw [← ha5] at d5 R5
      have D5 := Lib.hid d5
      have B5 := Lib.hid (B4.out.trans (b5.mono hwB.out))
      have hB5 : Hid (B ≤ w5.heap.size) := Lib.hid (Nat.le_trans hB4.out b5.size)
      clear C4 s5 d5 b5 ha5 O4 D4 B4 hB4 R4
      have C5 := Lib.hid (decInt_any w5 B D a5 v2 (encL l) _ st D5.out R5.out Lm.out FX.out.2.2.1)
      go_wp2_with fail
      refine C5.out.mono ?_
      rintro e w6 ⟨rfl, s6⟩
      have O6 := Lib.hid (s6.own D5.out O5.out (by decide))
      obtain ⟨d6, b6⟩ := s6.go D5.out hB5.out
      obtain ⟨a6, ha6⟩ : ∃ a, a = a5 + (encI st).length := ⟨_, rfl⟩
      have HA6 := Lib.hid ha6
      have R6 := Lib.hid (drop_step R5.out)
      rw [← ha6] at d6 R6
      have D6 := Lib.hid d6
      have B6 := Lib.hid (B5.out.trans (b6.mono hwB.out))
      have hB6 : Hid (B ≤ w6.heap.size) := Lib.hid (Nat.le_trans hB5.out b6.size)
      clear C5 s6 d6 b6 ha6 O5 D5 B5 hB5 R5
      have C6 := Lib.hid (decInt_any w6 B D a6 v2 (encL l) _ m D6.out R6.out Lm.out FX.out.2.2.2.1)
      go_wp2_with fail
      refine C6.out.mono ?_
      rintro e w7 ⟨rfl, s7⟩
      have O7 := Lib.hid (s7.own D6.out O6.out (by decide))
      obtain ⟨d7, b7⟩ := s7.go D6.out hB6.out
      obtain ⟨a7, ha7⟩ : ∃ a, a = a6 + (encI m).length := ⟨_, rfl⟩
      have HA7 := Lib.hid ha7
      have R7 := Lib.hid (drop_step R6.out)
      rw [← ha7] at d7 R7
      have D7 := Lib.hid d7
      have B7 := Lib.hid (B6.out.trans (b7.mono hwB.out))
      have hB7 : Hid (B ≤ w7.heap.size) := Lib.hid (Nat.le_trans hB6.out b7.size)
      clear C6 s7 d7 b7 ha7 O6 D6 B6 hB6 R6
      have C7 := Lib.hid (decText_any w7 B D a7 v2 (encL l) _ d D7.out R7.out Lm.out (by have := FX.out.2.1; simp only at this; omega))
      go_wp2_with fail
      refine C7.out.mono ?_
      rintro e w8 ⟨rfl, s8⟩
      have O8 := Lib.hid (s8.own D7.out O7.out (by decide))
      obtain ⟨d8, b8⟩ := s8.go D7.out hB7.out
      obtain ⟨a8, ha8⟩ : ∃ a, a = a7 + (encT d).length := ⟨_, rfl⟩
      have HA8 := Lib.hid ha8
      have R8 := Lib.hid (drop_step R7.out)
      rw [← ha8] at d8 R8
      have D8 := Lib.hid d8
      have B8 := Lib.hid (B7.out.trans (b8.mono hwB.out))
      have hB8 : Hid (B ≤ w8.heap.size) := Lib.hid (Nat.le_trans hB7.out b8.size)
      clear C7 s8 d8 b8 ha8 O7 D7 B7 hB7 R7
      have C8 := Lib.hid (decInt_any w8 B D a8 v2 (encL l) _ tm D8.out R8.out Lm.out FX.out.2.2.2.2.1)
      go_wp2_with fail
      refine C8.out.mono ?_
      rintro e w9 ⟨rfl, s9⟩
      have O9 := Lib.hid (s9.own D8.out O8.out (by decide))
      obtain ⟨d9, b9⟩ := s9.go D8.out hB8.out
      obtain ⟨a9, ha9⟩ : ∃ a, a = a8 + (encI tm).length := ⟨_, rfl⟩
      have HA9 := Lib.hid ha9
      have R9 := Lib.hid (drop_step R8.out)
      rw [← ha9] at d9 R9
      have D9 := Lib.hid d9
      have B9 := Lib.hid (B8.out.trans (b9.mono hwB.out))
      have hB9 : Hid (B ≤ w9.heap.size) := Lib.hid (Nat.le_trans hB8.out b9.size)
      clear C8 s9 d9 b9 ha9 O8 D8 B8 hB8 R8
      have C9 := Lib.hid (decInt_any w9 B D a9 v2 (encL l) _ sz D9.out R9.out Lm.out FX.out.2.2.2.2.2)
      go_wp2_with fail
      refine C9.out.mono ?_
      rintro e w10 ⟨rfl, s10⟩
      have O10 := Lib.hid (s10.own D9.out O9.out (by decide))
      obtain ⟨d10, b10⟩ := s10.go D9.out hB9.out
      obtain ⟨a10, ha10⟩ : ∃ a, a = a9 + (encI sz).length := ⟨_, rfl⟩
      have HA10 := Lib.hid ha10
      have R10 := Lib.hid (drop_step R9.out)
      rw [← ha10] at d10 R10
      have D10 := Lib.hid d10
      have B10 := Lib.hid (B9.out.trans (b10.mono hwB.out))
      have hB10 : Hid (B ≤ w10.heap.size) := Lib.hid (Nat.le_trans hB9.out b10.size)
      clear C9 s10 d10 b10 ha10 O9 D9 B9 hB9 R9
      have hbs := B10.out.size
      have hown4 := Lib.hid (O10.out.alloc (.cells #[.string p, .int .i64 st, .int .i64 m, .string d, .int .i64 tm, .int .i64 sz] 71))
      have hnews := Lib.hid (news_one w10 #[.string p, .int .i64 st, .int .i64 m, .string d, .int .i64 tm, .int .i64 sz] 71 w10.heap.size (by simp))
      go_wp2_with (at_builtin; refine wpList_append_own _ rfl _ _ 49 rfl w.heap.size 71 i0 (.agg #[.string ⟨#[]⟩, .int .i64 0, .int .i64 0, .string ⟨#[]⟩, .int .i64 0, .int .i64 0]) 6 64 Tryz.underlying49 hi0 hz0 hz1 hz2 rfl (by decide) _ _ _ rfl hown4.out ⟨w10.heap.size, 0, none⟩ 1 1 [.string p, .int .i64 st, .int .i64 m, .string d, .int .i64 tm, .int .i64 sz] rfl rfl hnews.out ?c1 ?c2 ?c3 ?c4 ?_)
      case c1 => intro u hu; simp at hu; rcases hu with rfl | rfl | rfl | rfl | rfl | rfl <;> rfl
      case c2 => unfold maxLen; omega
      case c3 => omega
      case c4 => rw [World.size_alloc]; omega
      intro v11 w11 hown11 hg11 _
      have B11 := Lib.hid ((B10.out.alloc hbs (.cells #[.string p, .int .i64 st, .int .i64 m, .string d, .int .i64 tm, .int .i64 sz] 71)).grown hg11 (by rw [World.size_alloc]; omega) (fun j hj => (O10.out.lt j hj).1))
      have O11 : Hid (w11.ownsRow w.heap.size 71 6 v11 (k + 1) ((l.take (k + 1)).flatMap cE)) := Lib.hid (by rw [HX.out, flat_snoc]; exact hown11)
      have D11 : Hid (DecAt w11 B D v2 (encL l) (atE l (k + 1))) := Lib.hid (by
        have e : atE l (k + 1) = a10 := by
          rw [NX.out, HA10.out, HA9.out, HA8.out, HA7.out, HA6.out, HA5.out, HA4.out]
          simp only [List.length_append]
          omega
        rw [e]
        have hne : v2.ownBlock = none ∨ v2.ownBlock ≠ (Value.slice A8 k c8).ownBlock := by
          cases hv : v2.ownBlock with
          | none => exact .inl rfl
          | some j =>
            refine .inr fun e => ?_
            obtain ⟨cs, hcs⟩ := own_typed D10.out.own hv
            exact own_blk_ne O10.out hcs (by decide) e.symm
        have e2 := D10.out.grown hg11 (own_blk_ne O10.out D10.out.blk (by decide)) hne
        exact e2)
      have hB11 : Hid (B ≤ w11.heap.size) := Lib.hid (Nat.le_trans hB10.out (Nat.le_trans (by rw [World.size_alloc]; omega) hg11.size))
      obtain ⟨A11, n11, c11, rfl⟩ : ∃ A n c, v11 = .slice A n c := by obtain ⟨A, c, h⟩ := own_form hown11; exact ⟨A, _, c, h⟩
      have hn11 : n11 = k + 1 := (own_len hown11).1
      clear hown11 hg11 hown4 hnews O10 D10 B10 hB10
      go_wp2_with fail
      go_roundw
      case rel => exact ⟨k + 1, hlt, O11, D11, B11, hB11⟩
      case measure => simp [lenV, hn11]; omega
    · obtain rfl : k = l.length := by omega
      have DN : Hid (DecAt wr B D v2 (encL l) (encL l).length) := Lib.hid (by have := hD.out; rwa [atE_end] at this)
      have ER := Lib.hid (decErr_any wr B D _ v2 (encL l) DN.out)
      have LF := Lib.hid (decLeft_any wr B D _ v2 (encL l) DN.out (by omega) (Nat.le_refl _))
      rw [Nat.sub_self] at LF
      have OR : Hid (wr.ownsRow w.heap.size 71 6 (.slice A8 l.length c8) l.length (l.flatMap cE)) := Lib.hid (by have := hO.out; rwa [List.take_length] at this)
      go_wp2_with fail
      refine ER.out.mono ?_
      rintro e w4 ⟨rfl, rfl⟩
      go_wp2_with fail
      refine LF.out.mono ?_
      rintro e w5 ⟨rfl, n5, rfl⟩
      have O5 : Hid ((w4.drewN n5).ownsRow w.heap.size 71 6 (.slice A8 l.length c8) l.length (l.flatMap cE)) := Lib.hid (own_keep OR.out (below_drewN (Below.refl _ _) _))
      have B5 := Lib.hid (below_drewN hB.out n5)
      have CK := Lib.hid (checkE_any (w4.drewN n5) _ l (Reads.of_own cE_len O5.out) (fun x hx => ⟨by have := (HF.out x hx).1; omega, by have := (HF.out x hx).2.1; omega⟩) (by omega))
      rw [HC.out] at CK
      clear ER LF
      go_wp2_with fail
      refine CK.out.mono ?_
      rintro e w6 h6
      obtain ⟨rfl, b6⟩ : e = .returned .nilIface ∧ Below (w4.drewN n5).heap.size (w4.drewN n5) w6 := by
        rcases h6 with ⟨_, he, hb⟩ | ⟨i, k, F, ho, _⟩
        · exact ⟨he, hb⟩
        · cases ho
      have O6 := Lib.hid (own_keep O5.out b6)
      have B6 := Lib.hid (B5.out.trans (b6.mono B5.out.size))
      clear CK h6 b6
      go_wp2_with fail
      go_ret2
      exact ⟨_, rfl, O6.out, B6.out⟩
end Go.Proofs.YtplleaimmmanhaaGreatDoor
namespace Go.Proofs.YtplleaimmmanhaaGreatDoor
open Go.RowKit

set_option maxRecDepth 100000 in
set_option maxHeartbeats 4000000 in
theorem put_any (w : World) (v : Value) (l : List Fl) (f : Fl) (h : Reads 3 cF w v l) (hr : RiseF l) (hl : l.length ≤ 10000) :
    Calls Tryz.prog 17 #[v, .agg #[.string f.1, .int .i64 f.2.1, .string f.2.2]] w (OwnTo 25 3 cF (putF l f) w) := by
  obtain ⟨p, m, d⟩ := f
  obtain ⟨W1, hW1⟩ : ∃ W1, W1 = w.alloc (.cells #[.string p, .int .i64 m, .string d] 25) := ⟨_, rfl⟩
  have B1 : Below w.heap.size w W1 := by rw [hW1]; exact (Below.refl _ _).alloc (Nat.le_refl _) _
  obtain ⟨G, hG⟩ : ∃ G, G = w.heap.size := ⟨_, rfl⟩
  have K1 : W1.heap[G]? = some (.cells #[.string p, .int .i64 m, .string d] 25 (0, 0)) := by rw [hW1, hG]; exact heap_alloc_new w _
  have R1 := h.below B1
  have FN := Lib.hid (find_any W1 v l p R1 hr (by omega))
  obtain ⟨A, c, rfl⟩ := h.form
  have hlen := h.len
  have d0 := cell_of_row W1 G 0 _ 25 (0, 0) K1
  have HR1 := Lib.hid R1
  have HB1 := Lib.hid B1
  have HRI := Lib.hid hr
  have HK := Lib.hid K1
  have B1s := B1.size
  clear h R1 hr B1 K1
  go_enter Tryz.func17, Tryz.ntmps17
  go_wp2_with fail
  rw [← hW1, ← hG]
  clear hW1
  have HG := Lib.hid hG
  clear hG
  refine FN.out.mono ?_
  rintro e w2 ⟨i, b, rfl, b2, hi, hs, h1, h2⟩
  have R2 := Lib.hid (HR1.out.below b2)
  have hGl : G < W1.heap.size := (Array.getElem?_eq_some_iff.1 HK.out).1
  have K2 : w2.heap[G]? = some (.cells #[.string p, .int .i64 m, .string d] 25 (0, 0)) := (b2.block G hGl).trans HK.out
  have z0 : w2.drew.cell? ⟨G, 0, none⟩ = some (.string p) ∧ w2.drew.cell? ⟨G, 1, none⟩ = some (.int .i64 m) ∧ w2.drew.cell? ⟨G, 2, none⟩ = some (.string d) :=
    ⟨cell_of_row w2 G 0 _ 25 (0, 0) K2, cell_of_row w2 G 1 _ 25 (0, 0) K2, cell_of_row w2 G 2 _ 25 (0, 0) K2⟩
  have ZZ := Lib.hid fun W (hW : Below w2.heap.size w2 W) => (show W.cell? ⟨G, 0, none⟩ = some (.string p) ∧ W.cell? ⟨G, 1, none⟩ = some (.int .i64 m) ∧ W.cell? ⟨G, 2, none⟩ = some (.string d) from
    ⟨cell_of_row W G 0 _ 25 (0, 0) ((hW.block G (Array.getElem?_eq_some_iff.1 K2).1).trans K2), cell_of_row W G 1 _ 25 (0, 0) ((hW.block G (Array.getElem?_eq_some_iff.1 K2).1).trans K2), cell_of_row W G 2 _ 25 (0, 0) ((hW.block G (Array.getElem?_eq_some_iff.1 K2).1).trans K2)⟩)
  have BB := Lib.hid fun (o1 o2 : Obj) (W : World) (hW : Below ((w2.alloc o1).alloc o2).drew.heap.size ((w2.alloc o1).alloc o2).drew W) => (show Below w2.heap.size w2 W from Below.trans ((((Below.refl _ _).alloc (Nat.le_refl _) _).alloc (by simp) _).drew) (hW.mono (by simp; omega)))
  have B2 := Lib.hid (HB1.out.trans (b2.mono B1s))
  have hGw : G < w2.heap.size := (Array.getElem?_eq_some_iff.1 K2).1
  have i0 : (0 : Int) ≤ (i : Int) := Int.natCast_nonneg _
  have hic : i ≤ c := by omega
  have hi1 : (i : Int) ≤ (l.length : Int) := by omega
  have hi2 : (i : Int) ≤ (c : Int) := by omega
  have hcm : c ≤ 9223372036854775807 := by have := hlen.2.2; unfold maxLen at this; omega
  clear FN K2 b2 d0 HR1 HK hGl
  cases b with
  | false =>
    have HP := Lib.hid (put_none (f := (p, m, d)) hs (h2 rfl))
    have CT := Lib.hid (put_core w2 A c l p d m i i R2.out (Nat.le_refl i) hi (by omega))
    by_cases hci : c = i
    · rw [if_pos hci] at CT
      have hct : (c = i) = True := eq_true hci
      clear hci
      clear h1 h2 hs
      go_wp2_with fail
      go_region_held3 (fun w' => w'.cell? ⟨G, 0, none⟩ = some (.string p) ∧ w'.cell? ⟨G, 1, none⟩ = some (.int .i64 m) ∧ w'.cell? ⟨G, 2, none⟩ = some (.string d)) (first | exact z0 | exact z5 | exact ZZ.out _ (((Below.refl _ _).alloc (Nat.le_refl _) _).drew) | exact ZZ.out _ ((((Below.refl _ _).alloc (Nat.le_refl _) _).alloc (by simp) _).drew))
        ((go_at_call 53; refine (CT.out (World.drew _) (fun _ => rfl)).mono ?_; rintro e w5 ⟨v5, rfl, o5, b5⟩; have b6 := BB.out _ _ _ b5; have z5 := ZZ.out _ b6))
      have B6 := Lib.hid (B2.out.trans (b6.mono B2.out.size))
      have O6 := Lib.hid (own_base o5 (B' := w.heap.size) (by have := B2.out.size; simp; omega))
      clear o5 b5 b6 z0 z5
      go_wp2_with fail
      go_ret
      exact ⟨_, rfl, by rw [HP.out]; exact O6.out, B6.out⟩
    · rw [if_neg hci] at CT
      clear h1 h2 hs
      go_wp2_with fail
      go_region_held3 (fun w' => w'.cell? ⟨G, 0, none⟩ = some (.string p) ∧ w'.cell? ⟨G, 1, none⟩ = some (.int .i64 m) ∧ w'.cell? ⟨G, 2, none⟩ = some (.string d)) (first | exact z0 | exact z5 | exact ZZ.out _ (((Below.refl _ _).alloc (Nat.le_refl _) _).drew) | exact ZZ.out _ ((((Below.refl _ _).alloc (Nat.le_refl _) _).alloc (by simp) _).drew))
        ((go_at_call 53; refine (CT.out (World.drew _) (fun _ => rfl)).mono ?_; rintro e w5 ⟨v5, rfl, o5, b5⟩; have b6 := BB.out _ _ _ b5; have z5 := ZZ.out _ b6))
      have B6 := Lib.hid (B2.out.trans (b6.mono B2.out.size))
      have O6 := Lib.hid (own_base o5 (B' := w.heap.size) (by have := B2.out.size; simp; omega))
      clear o5 b5 b6 z0 z5
      go_wp2_with fail
      go_ret
      exact ⟨_, rfl, by rw [HP.out]; exact O6.out, B6.out⟩
  | true =>
    obtain ⟨g, hg, hgf⟩ := h1 rfl
    have hil := (List.getElem?_eq_some_iff.1 hg).1
    have HP := Lib.hid (put_some (f := (p, m, d)) HRI.out hs hg hgf)
    have CT := Lib.hid (put_core w2 A c l p d m i (i + 1) R2.out (Nat.le_succ i) hil (by omega))
    have hw1 : IntKind.i64.wrap ((i : Int) + 1) = (i : Int) + 1 := by rw [IntKind.wrap_i64] <;> omega
    have htn : ((i : Int) + 1).toNat = i + 1 := by omega
    have hj0 : (0 : Int) ≤ (i : Int) + 1 := by omega
    have hj1 : (i : Int) + 1 ≤ (l.length : Int) := by omega
    have hj2 : (i : Int) + 1 ≤ (c : Int) := by omega
    clear hg hgf
    by_cases hci : c = i + 1
    · rw [if_pos hci] at CT
      have hct : (c = i + 1) = True := eq_true hci
      clear hci
      clear h1 h2 hs
      go_wp2_with fail
      go_region_held3 (fun w' => w'.cell? ⟨G, 0, none⟩ = some (.string p) ∧ w'.cell? ⟨G, 1, none⟩ = some (.int .i64 m) ∧ w'.cell? ⟨G, 2, none⟩ = some (.string d)) (first | exact z0 | exact z5 | exact ZZ.out _ (((Below.refl _ _).alloc (Nat.le_refl _) _).drew) | exact ZZ.out _ ((((Below.refl _ _).alloc (Nat.le_refl _) _).alloc (by simp) _).drew))
        ((go_at_call 53; refine (CT.out (World.drew _) (fun _ => rfl)).mono ?_; rintro e w5 ⟨v5, rfl, o5, b5⟩; have b6 := BB.out _ _ _ b5; have z5 := ZZ.out _ b6))
      have B6 := Lib.hid (B2.out.trans (b6.mono B2.out.size))
      have O6 := Lib.hid (own_base o5 (B' := w.heap.size) (by have := B2.out.size; simp; omega))
      clear o5 b5 b6 z0 z5
      go_wp2_with fail
      go_ret
      exact ⟨_, rfl, by rw [HP.out]; exact O6.out, B6.out⟩
    · rw [if_neg hci] at CT
      clear h1 h2 hs
      go_wp2_with fail
      go_region_held3 (fun w' => w'.cell? ⟨G, 0, none⟩ = some (.string p) ∧ w'.cell? ⟨G, 1, none⟩ = some (.int .i64 m) ∧ w'.cell? ⟨G, 2, none⟩ = some (.string d)) (first | exact z0 | exact z5 | exact ZZ.out _ (((Below.refl _ _).alloc (Nat.le_refl _) _).drew) | exact ZZ.out _ ((((Below.refl _ _).alloc (Nat.le_refl _) _).alloc (by simp) _).drew))
        ((go_at_call 53; refine (CT.out (World.drew _) (fun _ => rfl)).mono ?_; rintro e w5 ⟨v5, rfl, o5, b5⟩; have b6 := BB.out _ _ _ b5; have z5 := ZZ.out _ b6))
      have B6 := Lib.hid (B2.out.trans (b6.mono B2.out.size))
      have O6 := Lib.hid (own_base o5 (B' := w.heap.size) (by have := B2.out.size; simp; omega))
      clear o5 b5 b6 z0 z5
      go_wp2_with fail
      go_ret
      exact ⟨_, rfl, by rw [HP.out]; exact O6.out, B6.out⟩
end Go.Proofs.YtplleaimmmanhaaGreatDoor
