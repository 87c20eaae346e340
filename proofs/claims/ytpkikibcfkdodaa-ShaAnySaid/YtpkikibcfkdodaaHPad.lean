/-
  padded: whole blocks of what is left and of the length.
-/
import Derived.Test.YtpkikibcfkdodaaHNot
import Derived.Test.YtpkikibcfkdodaaKMem
import Derived.Laws.CopyOwn
import Derived.Deep.DeepCutAuto
import Derived.Deep.RegionHeld
namespace Go.Proofs.Ytpkikibcfkdodaa
open Go Go.RowKit

def zer (k : Nat) : List UInt8 := List.replicate k 0
def lastB (N : Nat) : Nat → List UInt8
  | 0 => []
  | i + 1 => UInt8.ofNat (N / 2 ^ (8 * i)) :: lastB N i
theorem lastB_len (N : Nat) : ∀ i, (lastB N i).length = i
  | 0 => rfl
  | i + 1 => by rw [lastB, List.length_cons, lastB_len N i]
def rowP (l : List UInt8) (sz N i : Nat) : List UInt8 := l ++ 128 :: (zer (sz - l.length - 1 - i) ++ lastB N i)
theorem rowP_len {l : List UInt8} {sz N i : Nat} (h : l.length + 1 + i ≤ sz) : (rowP l sz N i).length = sz := by
  unfold rowP zer
  simp [lastB_len]; omega
theorem rowP_set {l : List UInt8} {sz N i : Nat} (h : l.length + 1 + i < sz) :
    (bc (rowP l sz N i)).toArray.setIfInBounds (sz - 1 - i) (.int .u8 (UInt8.ofNat (N / 2 ^ (8 * i))).toNat) = (bc (rowP l sz N (i + 1))).toArray := by
  obtain ⟨k, hk⟩ : ∃ k, sz - l.length - 1 - i = k + 1 := ⟨sz - l.length - 2 - i, by omega⟩
  have hk2 : sz - l.length - 1 - (i + 1) = k := by omega
  unfold rowP
  rw [hk, hk2, List.setIfInBounds_toArray]
  congr 1
  show (List.map _ _).set _ _ = List.map _ _
  have e : l ++ 128 :: (zer (k + 1) ++ lastB N i) = (l ++ 128 :: zer k) ++ 0 :: lastB N i := by
    unfold zer; rw [List.replicate_succ']; simp
  have e2 : sz - 1 - i = (l ++ 128 :: zer k).length := by unfold zer; simp; omega
  rw [e, e2]
  have e3 : l ++ 128 :: (zer k ++ lastB N (i + 1)) = (l ++ 128 :: zer k) ++ UInt8.ofNat (N / 2 ^ (8 * i)) :: lastB N i := by rw [lastB]; simp
  rw [e3]
  rw [List.map_append, List.map_append, List.set_append_right _ _ (by simp)]
  simp
theorem row0_set {l : List UInt8} {sz N : Nat} (h : l.length < sz) :
    (bc (l ++ zer (sz - l.length))).toArray.setIfInBounds l.length (.int .u8 128) = (bc (rowP l sz N 0)).toArray := by
  obtain ⟨k, hk⟩ : ∃ k, sz - l.length = k + 1 := ⟨sz - l.length - 1, by omega⟩
  have hk2 : k + 1 - 1 - 0 = k := by omega
  unfold rowP
  rw [hk, hk2, List.setIfInBounds_toArray]
  congr 1
  show (List.map _ _).set _ _ = List.map _ _
  unfold zer
  rw [List.replicate_succ, List.map_append, List.map_append, List.set_append_right _ _ (by simp)]
  simp [lastB]
theorem splice_zer {l : List UInt8} {sz : Nat} : splice (bc (zer sz)) 0 (bc l) = bc (l ++ zer (sz - l.length)) := by
  unfold splice zer
  simp [Lib.byteCells, List.drop_replicate]
def sizeF (n : Nat) : Nat := if 55 < n then 128 else 64
/-- What is left, and the length of all in bits. -/
def padF (l : List UInt8) (len : Nat) : List UInt8 := rowP l (sizeF l.length) (len * 8 % 18446744073709551616) 8
theorem hmk64 (w : World) : (Instr.makeSlice 22 (.int .i64 64) (.int .i64 64)).run Try.prog w = .ok (.slice (some ⟨w.heap.size, 0, none⟩) 64 64) (w.alloc (.cells (bc (zer 64)).toArray 5)) := by kernel_rfl
theorem hmk128 (w : World) : (Instr.makeSlice 22 (.int .i64 128) (.int .i64 128)).run Try.prog w = .ok (.slice (some ⟨w.heap.size, 0, none⟩) 128 128) (w.alloc (.cells (bc (zer 128)).toArray 5)) := by kernel_rfl
theorem u64_mul8 {n : Nat} : IntKind.u64.wrap ((n : Int) * 8) = ((n * 8 % 18446744073709551616 : Nat) : Int) := by
  rw [IntKind.wrap_u64]; omega
theorem u8_shr {N i : Nat} : IntKind.u8.wrap (((N / 2 ^ (8 * i) : Nat) : Int)) = (((UInt8.ofNat (N / 2 ^ (8 * i))).toNat : Nat) : Int) := by
  rw [IntKind.wrap_u8, UInt8.toNat_ofNat']; omega

set_option maxRecDepth 100000 in
set_option maxHeartbeats 40000000 in
theorem padded_any (w : World) (sp : Option Addr) (l : List UInt8) (c len : Nat) (hl : l.length < 64) (hn : len < 9223372036854775808)
    (hs : 0 < l.length → ∃ ad, sp = some ad ∧ ∀ j v, (bc l)[j]? = some v → w.cell? (ad.add j) = some v) :
    Calls Try.prog 31 #[.slice sp l.length c, .int .i64 len] w fun e w' => e = .returned (.slice (some ⟨w.heap.size, 0, none⟩) (sizeF l.length) (sizeF l.length)) ∧ Blk w' w.heap.size 5 (bc (padF l len)).toArray ∧ Below w.heap.size w w' := by
  have HS := Lib.hid hs
  have HN := Lib.hid hn
  have hnl : (len : Int) < 9223372036854775808 := by omega
  have h8 := u64_mul8 (n := len)
  have h9 : IntKind.u64.wrap (len : Int) = (len : Int) := by rw [IntKind.wrap_u64]; omega
  obtain ⟨N, hN⟩ : ∃ N, N = len * 8 % 18446744073709551616 := ⟨_, rfl⟩
  have HNN := Lib.hid hN
  rw [← hN] at h8
  clear hs hn hN
  have n0 : (0 : Int) ≤ (l.length : Int) := Int.natCast_nonneg _
  have hl' : (l.length : Int) < 64 := by omega
  by_cases h55 : 55 < l.length
  · have hc : (55 : Int) < (l.length : Int) := by omega
    have hsz : sizeF l.length = 128 := if_pos h55
    rw [show padF l len = rowP l 128 N 8 by unfold padF; rw [hsz, HNN.out], hsz]
    have HSZ := Lib.hid hsz
    have HL := Lib.hid hl
    have H55 := Lib.hid h55
    clear hsz hl h55
    go_enter Try.func31, Try.ntmps31
    go_upto_region 4 with fail
    obtain ⟨Z, hZ⟩ : ∃ Z, Z = bc (zer 128) := ⟨_, rfl⟩
    have HMK := hmk128
    rw [← hZ] at HMK
    have HZ := Lib.hid hZ
    clear hZ
    go_upto_region 5 with fail
    have A1 := Blk.new w 5 Z.toArray
    have B1 := (Below.refl w.heap.size w).alloc (Nat.le_refl _) (.cells Z.toArray 5)
    clear HMK
    obtain ⟨X, hX⟩ : ∃ X, X = w.heap.size := ⟨_, rfl⟩
    have HX := Lib.hid hX
    rw [← hX] at A1 B1
    obtain ⟨W1, hW1⟩ : ∃ W1, W1 = w.alloc (.cells Z.toArray 5) := ⟨_, rfl⟩
    rw [← hW1] at A1 B1
    rw [← hW1]
    rw [← hX]
    have hcn : (bc l).length = Nat.min l.length 128 := by have := HL.out; show _ = min l.length 128; simp [Lib.byteCells]; omega
    have hcf : 0 + (bc l).length ≤ Z.length := by have := HL.out; rw [HZ.out]; simp [Lib.byteCells, zer]; omega
    have hcp : 0 < (bc l).length → (some (⟨X, 0, none⟩ : Addr) = some ⟨X, 0, none⟩ ∧ ∃ ad, sp = some ad ∧ ∀ j v, (bc l)[j]? = some v → W1.cell? (ad.add j) = some v) := fun h => by
      obtain ⟨ad, e, h2⟩ := HS.out (by simpa [Lib.byteCells] using h)
      refine ⟨rfl, ad, e, fun j v hj => ?_⟩
      have h3 := h2 j v hj
      rw [hW1, World.cell?_alloc_some _ _ _ (by rw [h3]; rfl)]; exact h3
    have HCN := Lib.hid hcn
    have HCF := Lib.hid hcf
    have HCP := Lib.hid hcp
    have HA1 : Hid (W1.heap[X]? = some (.cells Z.toArray 5 (0, 0))) := Lib.hid A1
    have HB1 := Lib.hid B1
    clear hW1 hX hcn hcf hcp A1 B1
    obtain ⟨cs, hcs⟩ : ∃ cs, cs = bc l := ⟨_, rfl⟩
    have HCS := Lib.hid hcs
    have H1C : Hid (∀ v ∈ cs, v.oneCell' = true) := Lib.hid (by rw [hcs]; exact bc_one l)
    rw [← hcs] at HCN HCF HCP
    clear hcs
    go_upto_region 6 with (refine wpList_copy_splice (o := ⟨some 16, _, _, _, _, _⟩) rfl (.tmp 14) (.tmp 15) 22 22 rfl 5 (by kernel_rfl) (by kernel_rfl) (some ⟨X, 0, none⟩) sp 128 128 l.length c (by rfl) (by rfl) X 0 Z 5 HA1.out cs HCN.out HCP.out HCF.out H1C.out X w HB1.out (Nat.le_refl _) ?_; intro w2 HG2 hB2)
    have HB2 := Lib.hid hB2
    have HG : Hid (Blk w2 X 5 (bc (l ++ zer (128 - l.length))).toArray) := Lib.hid (by
      have h := HG2.out
      rw [HCS.out, HZ.out, splice_zer] at h; exact h)
    have x0 : w2.cell? ⟨X, l.length, none⟩ = some (.int .u8 0) := by
      have h := HL.out
      rw [HG.out.cell, List.getElem?_toArray]
      have h2 : (l ++ zer (128 - l.length))[l.length]? = some 0 := by
        rw [List.getElem?_append_right (Nat.le_refl _), Nat.sub_self]
        unfold zer
        rw [List.getElem?_replicate, if_pos (by omega)]
      exact bc_at h2
    have f0 := HG.out.frozen l.length
    have HG3 : Hid (Blk (w2.setCell ⟨X, l.length, none⟩ (.int .u8 128)) X 5 (bc (rowP l 128 N 0)).toArray) := Lib.hid (by
      have h := HG.out.set_ l.length (.int .u8 128)
      rw [row0_set (N := N) (by have := HL.out; omega)] at h; exact h)
    have HB3 := Lib.hid (HB2.out.setCell (p := ⟨X, l.length, none⟩) (Nat.le_refl _) (.int .u8 128))
    have n1 : (l.length : Int) < 128 := by omega
    clear hB2 HG2 HA1 HB1
    go_wp2_with fail
    go_loopw [24] (fun s24 wr => ∃ i : Nat, s24 = .int .i64 i ∧ i ≤ 8 ∧ Hid (Blk wr X 5 (bc (rowP l 128 N i)).toArray) ∧ Hid (Below X w wr)) (fun s24 _ => 8 - (intOf s24).toNat)
    case atStart => exact ⟨0, rfl, by omega, HG3, HB3⟩
    case round =>
      clear x0 f0 HG HG3 HB3
      obtain ⟨i, rfl, hi, hb, hB⟩ := hrel
      have i0 : (0 : Int) ≤ (i : Int) := Int.natCast_nonneg _
      by_cases hlt : i < 8
      · have i1 : (i : Int) < 8 := by omega
        have hlen : l.length + 1 + i < 128 := by have h1 := HL.out; have h2 := H55.out; omega
        have hset := rowP_set (N := N) hlen
        obtain ⟨p, hp⟩ : ∃ p, p = 128 - 1 - i := ⟨_, rfl⟩
        obtain ⟨q, hq⟩ : ∃ q, q = 8 * i := ⟨_, rfl⟩
        have y := u8_shr (N := N) (i := i)
        rw [← hp, ← hq] at hset
        rw [← hq] at y
        obtain ⟨bb, hbb⟩ : ∃ b, b = (UInt8.ofNat (N / 2 ^ q)).toNat := ⟨_, rfl⟩
        rw [← hbb] at hset y
        have HSET := Lib.hid hset
        have y1 : IntKind.i64.wrap (127 - (i : Int)) = (p : Int) := by rw [IntKind.wrap_i64]; omega
        have y2 : IntKind.i64.wrap (8 * (i : Int)) = (q : Int) := by rw [IntKind.wrap_i64]; omega
        have p0 : (0 : Int) ≤ (p : Int) := Int.natCast_nonneg _
        have p1 : (p : Int) < 128 := by omega
        have q0 : (0 : Int) ≤ (q : Int) := Int.natCast_nonneg _
        have q1 : (q : Int) ≤ 64 := by omega
        have HV : Hid ((N : Int) / 2 ^ q % 256 = (bb : Int)) := Lib.hid (by rw [u32_shr, ← IntKind.wrap_u8]; exact y)
        have hpl : p < (rowP l 128 N i).length := by rw [rowP_len (by omega)]; omega
        obtain ⟨ob, x0⟩ : ∃ ob : Int, wr.cell? ⟨X, p, none⟩ = some (.int .u8 ob) := ⟨((rowP l 128 N i)[p]).toNat, by
          rw [hb.out.cell, List.getElem?_toArray]
          exact bc_at (List.getElem?_eq_getElem hpl)⟩
        have f0 := hb.out.frozen p
        have HPL := Lib.hid hpl
        have HLE := Lib.hid hlen
        clear hset hp hq hbb hlen y
        go_wp2_with fail
        go_roundw
        case rel =>
          refine ⟨i + 1, by go_num, hlt, Lib.hid ?_, Lib.hid ?_⟩
          · rw [← HSET.out, HV.out]; exact hb.out.set_ p _
          · exact hB.out.setCell (p := ⟨X, p, none⟩) (Nat.le_refl _) _
        case measure => simp [intOf]; omega
      · obtain rfl : i = 8 := by omega
        go_wp2_with fail
        go_ret
        exact ⟨by rw [← HX.out]; rfl, by rw [← HX.out]; exact hb.out, by rw [← HX.out]; exact hB.out⟩
  · have hc : ¬ (55 : Int) < (l.length : Int) := by omega
    have hsz : sizeF l.length = 64 := if_neg h55
    rw [show padF l len = rowP l 64 N 8 by unfold padF; rw [hsz, HNN.out], hsz]
    have HSZ := Lib.hid hsz
    have HL := Lib.hid hl
    have H55 := Lib.hid h55
    clear hsz hl h55
    go_enter Try.func31, Try.ntmps31
    go_upto_region 4 with fail
    obtain ⟨Z, hZ⟩ : ∃ Z, Z = bc (zer 64) := ⟨_, rfl⟩
    have HMK := hmk64
    rw [← hZ] at HMK
    have HZ := Lib.hid hZ
    clear hZ
    go_upto_region 5 with fail
    have A1 := Blk.new w 5 Z.toArray
    have B1 := (Below.refl w.heap.size w).alloc (Nat.le_refl _) (.cells Z.toArray 5)
    clear HMK
    obtain ⟨X, hX⟩ : ∃ X, X = w.heap.size := ⟨_, rfl⟩
    have HX := Lib.hid hX
    rw [← hX] at A1 B1
    obtain ⟨W1, hW1⟩ : ∃ W1, W1 = w.alloc (.cells Z.toArray 5) := ⟨_, rfl⟩
    rw [← hW1] at A1 B1
    rw [← hW1]
    rw [← hX]
    have hcn : (bc l).length = Nat.min l.length 64 := by have := HL.out; show _ = min l.length 64; simp [Lib.byteCells]; omega
    have hcf : 0 + (bc l).length ≤ Z.length := by have := HL.out; rw [HZ.out]; simp [Lib.byteCells, zer]; omega
    have hcp : 0 < (bc l).length → (some (⟨X, 0, none⟩ : Addr) = some ⟨X, 0, none⟩ ∧ ∃ ad, sp = some ad ∧ ∀ j v, (bc l)[j]? = some v → W1.cell? (ad.add j) = some v) := fun h => by
      obtain ⟨ad, e, h2⟩ := HS.out (by simpa [Lib.byteCells] using h)
      refine ⟨rfl, ad, e, fun j v hj => ?_⟩
      have h3 := h2 j v hj
      rw [hW1, World.cell?_alloc_some _ _ _ (by rw [h3]; rfl)]; exact h3
    have HCN := Lib.hid hcn
    have HCF := Lib.hid hcf
    have HCP := Lib.hid hcp
    have HA1 : Hid (W1.heap[X]? = some (.cells Z.toArray 5 (0, 0))) := Lib.hid A1
    have HB1 := Lib.hid B1
    clear hW1 hX hcn hcf hcp A1 B1
    obtain ⟨cs, hcs⟩ : ∃ cs, cs = bc l := ⟨_, rfl⟩
    have HCS := Lib.hid hcs
    have H1C : Hid (∀ v ∈ cs, v.oneCell' = true) := Lib.hid (by rw [hcs]; exact bc_one l)
    rw [← hcs] at HCN HCF HCP
    clear hcs
    go_upto_region 6 with (refine wpList_copy_splice (o := ⟨some 16, _, _, _, _, _⟩) rfl (.tmp 14) (.tmp 15) 22 22 rfl 5 (by kernel_rfl) (by kernel_rfl) (some ⟨X, 0, none⟩) sp 64 64 l.length c (by rfl) (by rfl) X 0 Z 5 HA1.out cs HCN.out HCP.out HCF.out H1C.out X w HB1.out (Nat.le_refl _) ?_; intro w2 HG2 hB2)
    have HB2 := Lib.hid hB2
    have HG : Hid (Blk w2 X 5 (bc (l ++ zer (64 - l.length))).toArray) := Lib.hid (by
      have h := HG2.out
      rw [HCS.out, HZ.out, splice_zer] at h; exact h)
    have x0 : w2.cell? ⟨X, l.length, none⟩ = some (.int .u8 0) := by
      have h := HL.out
      rw [HG.out.cell, List.getElem?_toArray]
      have h2 : (l ++ zer (64 - l.length))[l.length]? = some 0 := by
        rw [List.getElem?_append_right (Nat.le_refl _), Nat.sub_self]
        unfold zer
        rw [List.getElem?_replicate, if_pos (by omega)]
      exact bc_at h2
    have f0 := HG.out.frozen l.length
    have HG3 : Hid (Blk (w2.setCell ⟨X, l.length, none⟩ (.int .u8 128)) X 5 (bc (rowP l 64 N 0)).toArray) := Lib.hid (by
      have h := HG.out.set_ l.length (.int .u8 128)
      rw [row0_set (N := N) (by have := HL.out; omega)] at h; exact h)
    have HB3 := Lib.hid (HB2.out.setCell (p := ⟨X, l.length, none⟩) (Nat.le_refl _) (.int .u8 128))
    have n1 : (l.length : Int) < 64 := by omega
    clear hB2 HG2 HA1 HB1
    go_wp2_with fail
    go_loopw [24] (fun s24 wr => ∃ i : Nat, s24 = .int .i64 i ∧ i ≤ 8 ∧ Hid (Blk wr X 5 (bc (rowP l 64 N i)).toArray) ∧ Hid (Below X w wr)) (fun s24 _ => 8 - (intOf s24).toNat)
    case atStart => exact ⟨0, rfl, by omega, HG3, HB3⟩
    case round =>
      clear x0 f0 HG HG3 HB3
      obtain ⟨i, rfl, hi, hb, hB⟩ := hrel
      have i0 : (0 : Int) ≤ (i : Int) := Int.natCast_nonneg _
      by_cases hlt : i < 8
      · have i1 : (i : Int) < 8 := by omega
        have hlen : l.length + 1 + i < 64 := by have h1 := HL.out; have h2 := H55.out; omega
        have hset := rowP_set (N := N) hlen
        obtain ⟨p, hp⟩ : ∃ p, p = 64 - 1 - i := ⟨_, rfl⟩
        obtain ⟨q, hq⟩ : ∃ q, q = 8 * i := ⟨_, rfl⟩
        have y := u8_shr (N := N) (i := i)
        rw [← hp, ← hq] at hset
        rw [← hq] at y
        obtain ⟨bb, hbb⟩ : ∃ b, b = (UInt8.ofNat (N / 2 ^ q)).toNat := ⟨_, rfl⟩
        rw [← hbb] at hset y
        have HSET := Lib.hid hset
        have y1 : IntKind.i64.wrap (63 - (i : Int)) = (p : Int) := by rw [IntKind.wrap_i64]; omega
        have y2 : IntKind.i64.wrap (8 * (i : Int)) = (q : Int) := by rw [IntKind.wrap_i64]; omega
        have p0 : (0 : Int) ≤ (p : Int) := Int.natCast_nonneg _
        have p1 : (p : Int) < 64 := by omega
        have q0 : (0 : Int) ≤ (q : Int) := Int.natCast_nonneg _
        have q1 : (q : Int) ≤ 64 := by omega
        have HV : Hid ((N : Int) / 2 ^ q % 256 = (bb : Int)) := Lib.hid (by rw [u32_shr, ← IntKind.wrap_u8]; exact y)
        have hpl : p < (rowP l 64 N i).length := by rw [rowP_len (by omega)]; omega
        obtain ⟨ob, x0⟩ : ∃ ob : Int, wr.cell? ⟨X, p, none⟩ = some (.int .u8 ob) := ⟨((rowP l 64 N i)[p]).toNat, by
          rw [hb.out.cell, List.getElem?_toArray]
          exact bc_at (List.getElem?_eq_getElem hpl)⟩
        have f0 := hb.out.frozen p
        have HPL := Lib.hid hpl
        have HLE := Lib.hid hlen
        clear hset hp hq hbb hlen y
        go_wp2_with fail
        go_roundw
        case rel =>
          refine ⟨i + 1, by go_num, hlt, Lib.hid ?_, Lib.hid ?_⟩
          · rw [← HSET.out, HV.out]; exact hb.out.set_ p _
          · exact hB.out.setCell (p := ⟨X, p, none⟩) (Nat.le_refl _) _
        case measure => simp [intOf]; omega
      · obtain rfl : i = 8 := by omega
        go_wp2_with fail
        go_ret
        exact ⟨by rw [← HX.out]; rfl, by rw [← HX.out]; exact hb.out, by rw [← HX.out]; exact hB.out⟩
end Go.Proofs.Ytpkikibcfkdodaa
