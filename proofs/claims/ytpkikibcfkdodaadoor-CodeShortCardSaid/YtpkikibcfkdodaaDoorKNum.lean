/-
  (*Enc).number.
-/
import Derived.Test.YtpkikibcfkdodaaDoorKMem
namespace Go.Proofs.YtpkikibcfkdodaaDoor
open Go Go.RowKit

/-- An Enc that had l at v has l' now. -/
def Put (w : World) (B E : Nat) (v : Value) (l' : List UInt8) (w' : World) : Prop := ∃ v', EncAt w' B E v' l' ∧ Touch w w' E v.ownBlock ∧ Same1 w v.ownBlock v'.ownBlock

theorem byte_cell {y : Nat} (h : y < 256) : [Value.int .u8 (y : Int)] = bc [UInt8.ofNat y] := by
  show _ = [Value.int .u8 ((UInt8.ofNat y).toNat : Int)]
  rw [show (UInt8.ofNat y).toNat = y by simp [UInt8.toNat_ofNat']; omega]
/-- One append, stored. -/
theorem put_step {w wr w3 : World} {B E : Nat} {v v2 v3 : Value} {l2 m : List UInt8} {cs : List Value} {o : Obj} (hE : EncAt wr B E v2 l2) (hT : Touch w wr E v.ownBlock) (hS : Same1 w v.ownBlock v2.ownBlock)
    (hc : cs = bc m) (ho : w3.ownsRow B 5 1 v3 (l2.length + m.length) (bc l2 ++ cs)) (hg : (wr.alloc o).grownBy w3 v2.ownBlock) (hat : v3.ownBlock = v2.ownBlock ∨ ∃ g, v3.ownBlock = some g ∧ wr.heap.size ≤ g) (hb : Blk w3 E 51 #[v2]) :
    EncAt (w3.setCell ⟨E, 0, none⟩ v3) B E v3 (l2 ++ m) ∧ Touch w (w3.setCell ⟨E, 0, none⟩ v3) E v.ownBlock ∧ Same1 w v.ownBlock v3.ownBlock := by
  subst hc
  have hS3 : Same1 wr v2.ownBlock v3.ownBlock := hat
  have hw3 : wr.heap.size ≤ w3.heap.size := Nat.le_trans (by simp) hg.size
  have hT3 : Touch wr w3 E v2.ownBlock := (Touch.of_below ((Below.refl wr.heap.size wr).alloc (Nat.le_refl _) o)).trans (.inl rfl) (Touch.of_grown hg)
  have hne : v3.ownBlock ≠ some E := own_blk_ne ho hb (by decide)
  have hT4 : Touch w3 (w3.setCell ⟨E, 0, none⟩ v3) E none := ⟨rfl, rfl, rfl, by simp, fun k _ hk _ => Below.heap_setCell _ _ _ _ hk⟩
  have hT4' : Touch w3 (w3.setCell ⟨E, 0, none⟩ v3) E v3.ownBlock := ⟨hT4.os, hT4.tape, hT4.output, hT4.size, fun k hk hE _ => hT4.block k hk hE (by simp)⟩
  refine ⟨⟨by have := hb.set_ 0 v3; simpa using this, ?_, hE.lo⟩, hT.trans hS (hT3.trans hS3 hT4'), hS.trans hT.size hS3⟩
  have := hT4.own ho hne (by cases h : v3.ownBlock <;> simp)
  show World.ownsRow _ B 5 1 v3 _ _
  rw [List.length_append]
  show World.ownsRow _ B 5 1 v3 _ (Lib.byteCells _)
  rw [Lib.byteCells_append]
  exact this

set_option maxRecDepth 100000 in
set_option maxHeartbeats 2000000 in
theorem number_any (w : World) (B E : Nat) (v : Value) (l : List UInt8) (u : Nat) (h : EncAt w B E v l) (hu : u < 18446744073709551616) (hl : l.length ≤ 1000000) (hBw : B ≤ w.heap.size) :
    Calls Tryd.prog 47 #[.pointer (some ⟨E, 0, none⟩), .int .u64 u] w fun e w' => e = .returned (.tuple #[]) ∧ Put w B E v (l ++ enc u) w' := by
  obtain ⟨i0, hi0, hz0, hz1, hz2⟩ := info_parts byteInfo
  have H0 := Lib.hid h
  have HU := Lib.hid hu
  clear h hu
  go_enter Tryd.func47, Tryd.ntmps47
  go_wp2_with fail
  go_loopw [1] (fun s1 wr => ∃ (x : Nat) (l2 : List UInt8) (v2 : Value) (n : Nat), s1 = .int .u64 x ∧ Hid (x < 18446744073709551616) ∧ Hid (l2 ++ enc x = l ++ enc u) ∧ Hid (l2.length = l.length + n) ∧ Hid (x < 2 ^ (7 * (10 - n)) ∧ n ≤ 10) ∧ EncAt wr B E v2 l2 ∧ Touch w wr E v.ownBlock ∧ Same1 w v.ownBlock v2.ownBlock) (fun s1 _ => (intOf s1).toNat)
  case atStart => exact ⟨u, l, v, 0, rfl, HU, Lib.hid rfl, Lib.hid rfl, Lib.hid ⟨Nat.lt_trans HU.out (by decide), by omega⟩, H0.out, Touch.refl _ _ _, .inl rfl⟩
  case round =>
    obtain ⟨x, l2, v2, n, rfl, HX, hL, hN, HP, hE, hT, hS⟩ := hrel
    have x0 : (0 : Int) ≤ (x : Int) := Int.natCast_nonneg _
    have c0 := hE.blk.cell 0
    have f0 := hE.blk.frozen 0
    have hlt := hE.blk.lt
    have HE := Lib.hid hE
    have HT := Lib.hid hT
    have HS := Lib.hid hS
    clear hE hT hS
    obtain ⟨A, c, rfl⟩ := own_form HE.out.own
    have hBr : B ≤ wr.heap.size := Nat.le_trans hBw HT.out.size
    have hl2 : l2.length ≤ 1000010 := by have := hN.out; have := HP.out.2; omega
    by_cases h128 : x < 128
    · have b1 : ¬ (128 : Int) ≤ (x : Int) := by omega
      have hy : x < 256 := by omega
      go_wp2_with (at_builtin; refine wpList_append_own_at _ rfl _ _ 39 rfl B 5 i0 _ 1 1 Tryd.underlying39 hi0 hz0 hz1 hz2 rfl (by decide) _ _ _ rfl (HE.out.own.alloc _) ⟨wr.heap.size, 0, none⟩ 1 1 [.int .u8 (x : Int)] rfl rfl ?c1 ?c2 ?c3 ?c4 ?c5 ?_)
      try case c1 => exact World.news_of_block (heap_alloc_new wr _)
      case c2 => first | rfl | (intro u hu; simp at hu; rcases hu with rfl; rfl)
      case c3 => unfold maxLen; omega
      case c4 => omega
      case c5 => first | exact hBr | omega | (simp; omega)
      intro v3 w3 hown3 hg3 _ hat3
      obtain ⟨A3, c3, rfl⟩ := own_form hown3
      have E3 : Blk w3 E 51 #[.slice A l2.length c] := (HE.out.blk.alloc _).grown hg3 (fun e => HE.out.ne e.symm)
      have c0' := E3.cell 0
      have f0' := E3.frozen 0
      have hlt3 := E3.lt
      have HPUT := Lib.hid (put_step (m := [UInt8.ofNat x]) HE.out HT.out HS.out (byte_cell hy) hown3 hg3 (hat3.imp id fun h => ⟨_, h, by first | omega | simp⟩) E3)
      clear hown3 hg3 hat3 E3
      go_wp2_with fail
      go_end0
      exact ⟨rfl, _, by rw [← hL.out, enc_small h128]; exact HPUT.out.1, HPUT.out.2.1, HPUT.out.2.2⟩
    · have b1 : (128 : Int) ≤ (x : Int) := by omega
      obtain ⟨y, hyx⟩ : ∃ y, y = x % 128 + 128 := ⟨_, rfl⟩
      have hy : y < 256 := by omega
      have hb : bits .or .u8 ((x : Int) % 256) 128 = (y : Int) := by
        have := u8_or128' (x % 256) (by omega)
        rw [show ((x % 256 : Nat) : Int) = (x : Int) % 256 by omega] at this
        rw [this, hyx]; omega
      have HY := Lib.hid hyx
      clear hyx
      go_wp2_with (at_builtin; refine wpList_append_own_at _ rfl _ _ 39 rfl B 5 i0 _ 1 1 Tryd.underlying39 hi0 hz0 hz1 hz2 rfl (by decide) _ _ _ rfl (HE.out.own.alloc _) ⟨wr.heap.size, 0, none⟩ 1 1 [.int .u8 (y : Int)] rfl rfl ?d1 ?d2 ?d3 ?d4 ?d5 ?_)
      try case d1 => exact World.news_of_block (heap_alloc_new wr _)
      case d2 => first | rfl | (intro u hu; simp at hu; rcases hu with rfl; rfl)
      case d3 => unfold maxLen; omega
      case d4 => omega
      case d5 => first | exact hBr | omega | (simp; omega)
      intro v3 w3 hown3 hg3 _ hat3
      obtain ⟨A3, c3, rfl⟩ := own_form hown3
      have E3 : Blk w3 E 51 #[.slice A l2.length c] := (HE.out.blk.alloc _).grown hg3 (fun e => HE.out.ne e.symm)
      have c0' := E3.cell 0
      have f0' := E3.frozen 0
      have hlt3 := E3.lt
      have HPUT := Lib.hid (put_step (m := [UInt8.ofNat y]) HE.out HT.out HS.out (byte_cell hy) hown3 hg3 (hat3.imp id fun h => ⟨_, h, by first | omega | simp⟩) E3)
      clear hown3 hg3 hat3 E3
      go_wp2_with fail
      have HX2 : Hid (x / 128 < 18446744073709551616) := Lib.hid (by have := HX.out; omega)
      have HL2 : Hid ((l2 ++ [UInt8.ofNat y]) ++ enc (x / 128) = l ++ enc u) := Lib.hid (by rw [← hL.out, enc_big h128, HY.out, List.append_assoc]; rfl)
      have HN2 : Hid ((l2 ++ [UInt8.ofNat y]).length = l.length + (n + 1)) := Lib.hid (by rw [List.length_append, hN.out]; rfl)
      have HP2 : Hid (x / 128 < 2 ^ (7 * (10 - (n + 1))) ∧ n + 1 ≤ 10) := Lib.hid (by
        obtain ⟨p1, p2⟩ := HP.out
        rcases Nat.lt_or_ge n 10 with h | h
        · refine ⟨?_, by omega⟩
          rw [show 7 * (10 - n) = 7 * (10 - (n + 1)) + 7 by omega, Nat.pow_add] at p1
          exact Nat.div_lt_of_lt_mul (by omega)
        · rw [show 7 * (10 - n) = 0 by omega] at p1; simp at p1; omega)
      go_roundw
      case rel => exact ⟨x / 128, _, _, n + 1, by go_num, HX2, HL2, HN2, HP2, HPUT.out.1, HPUT.out.2.1, HPUT.out.2.2⟩
      case measure => simp [intOf]; omega
#print axioms number_any
end Go.Proofs.YtpkikibcfkdodaaDoor
