/-
  sha: a digit of a name; a name in digits; how many two share.
-/
import Derived.Test.YtpkikibcfkdodaaHSum
import Derived.Laws.IdiomStrings
namespace Go.Proofs.Ytpkikibcfkdodaa
open Go Go.RowKit
attribute [-go_sem] loadCells run_index_string
theorem ld_blk {w : World} {g n : Nat} {t : TypeId} {cs : Array Value} (h : Blk w g t cs) (hc : cs.size = n) : (loadCells ⟨g, 0, none⟩ n).run Try.prog w = .ok cs w := by
  have h1 := run_loadCells_list (P := Try.prog) w ⟨g, 0, none⟩ cs.toList (fun j v hv => by
    have hadd : (⟨g, 0, none⟩ : Addr).add j = ⟨g, j, none⟩ := by unfold Addr.add; split <;> simp_all
    rw [hadd, h.cell]; simpa using hv)
  rw [Array.length_toList, hc] at h1
  exact h1
/-- The digit i of some bytes. -/
def nib (l : List UInt8) (i : Nat) : Nat := if i % 2 = 0 then byteAt l (i / 2) / 16 else byteAt l (i / 2) % 16
theorem nib_lt (l : List UInt8) (i : Nat) : nib l i < 16 := by
  have := byteAt_lt l (i / 2)
  unfold nib; split <;> omega
theorem bc_byteAt {l : List UInt8} {i : Nat} (h : i < l.length) : (bc l)[i]? = some (.int .u8 (byteAt l i : Int)) := by
  have e : byteAt l i = (l[i]).toNat := by unfold byteAt; rw [List.getElem?_eq_getElem h]; rfl
  rw [e]; exact bc_at (List.getElem?_eq_getElem h)
theorem u8_and15 : ∀ n : Fin 256, bits .and .u8 (n.val : Int) 15 = ((n.val % 16 : Nat) : Int) := by decide +kernel
set_option maxHeartbeats 4000000 in
theorem digit_any (w : World) (l : List UInt8) (i : Nat) (hl : l.length = 32) (hi : i < 64) :
    Calls Try.prog 34 #[.agg (bc l).toArray, .int .i64 i] w fun e w' => e = .returned (.int .u8 (nib l i)) ∧ Below w.heap.size w w' := by
  have i0 : (0 : Int) ≤ (i : Int) := Int.natCast_nonneg _
  have i1 : (i : Int) < 64 := by omega
  have hb := byteAt_lt l (i / 2)
  have hbc := bc_byteAt (l := l) (i := i / 2) (by omega)
  have h15 := u8_and15 ⟨byteAt l (i / 2), hb⟩
  simp only at h15
  obtain ⟨b, eb⟩ : ∃ b, b = byteAt l (i / 2) := ⟨_, rfl⟩
  obtain ⟨q, eq⟩ : ∃ q, q = i / 2 := ⟨_, rfl⟩
  rw [← eb] at h15 hb hbc
  rw [← eq] at hbc
  have B0 := (Below.refl w.heap.size w).alloc (Nat.le_refl _) (.cells (bc l).toArray 25)
  have X0 : Blk (w.alloc (.cells (bc l).toArray 25)) w.heap.size 25 (bc l).toArray := Blk.new _ _ _
  have x0 : (w.alloc (.cells (bc l).toArray 25)).cell? ⟨w.heap.size, q, none⟩ = some (.int .u8 (b : Int)) := by
    rw [X0.cell, List.getElem?_toArray]; exact hbc
  obtain ⟨cs, hcs⟩ : ∃ cs, cs = (bc l).toArray := ⟨_, rfl⟩
  have b0 : (0 : Int) ≤ (b : Int) := Int.natCast_nonneg _
  have b1 : (b : Int) < 256 := by omega
  have q0 : (0 : Int) ≤ (q : Int) := Int.natCast_nonneg _
  have q1 : (q : Int) < 32 := by omega
  have y0 : (i : Int) / 2 = (q : Int) := by omega
  rw [← hcs] at B0 x0
  rw [← hcs]
  have HQ := Lib.hid eq
  have HE := Lib.hid eb
  have HB := Lib.hid B0
  clear eq eb hcs X0 hbc hl hi hb B0
  by_cases hev : i % 2 = 0
  · have h2 : (i : Int) % 2 = 0 := by omega
    have HN : Hid (nib l i = b / 16) := Lib.hid (by unfold nib; rw [if_pos hev, HE.out])
    clear hev
    go_enter Try.func34, Try.ntmps34
    go_wp2_with fail
    go_ret
    exact ⟨by rw [HN.out]; rfl, HB.out⟩
  · have h2 : ¬ (i : Int) % 2 = 0 := by omega
    have h3 : (i : Int) % 2 = 1 := by omega
    obtain ⟨d, hd⟩ : ∃ d, d = b % 16 := ⟨_, rfl⟩
    have HN : Hid (nib l i = d) := Lib.hid (by unfold nib; rw [if_neg hev, ← HE.out, hd])
    rw [← hd] at h15
    clear hev hd
    go_enter Try.func34, Try.ntmps34
    go_wp2_with fail
    go_ret
    exact ⟨by rw [HN.out]; rfl, HB.out⟩
/-- The letter of a digit. -/
def hexc (d : Nat) : UInt8 := if d < 10 then UInt8.ofNat (48 + d) else UInt8.ofNat (87 + d)
def hex16 : ByteArray := ⟨#[48, 49, 50, 51, 52, 53, 54, 55, 56, 57, 97, 98, 99, 100, 101, 102]⟩
theorem hex16_at : ∀ d, d < 16 → hex16.data[d]? = some (hexc d)
  | 0, _ => rfl
  | 1, _ => rfl
  | 2, _ => rfl
  | 3, _ => rfl
  | 4, _ => rfl
  | 5, _ => rfl
  | 6, _ => rfl
  | 7, _ => rfl
  | 8, _ => rfl
  | 9, _ => rfl
  | 10, _ => rfl
  | 11, _ => rfl
  | 12, _ => rfl
  | 13, _ => rfl
  | 14, _ => rfl
  | 15, _ => rfl
  | n + 16, h => absurd h (by omega)
/-- A name in digits. -/
def hexOf (l : List UInt8) : List UInt8 := (List.range 64).map fun i => hexc (nib l i)
def hexS (l : List UInt8) : ByteArray := ⟨(hexOf l).toArray⟩
theorem hexOf_len (l : List UInt8) : (hexOf l).length = 64 := by simp [hexOf]
def hexRow (l : List UInt8) (i : Nat) : List UInt8 := (hexOf l).take i ++ zer (64 - i)
theorem hexRow_set {l : List UInt8} {i : Nat} (h : i < 64) : (bc (hexRow l i)).toArray.setIfInBounds i (.int .u8 (hexc (nib l i)).toNat) = (bc (hexRow l (i + 1))).toArray := by
  rw [List.setIfInBounds_toArray]
  congr 1
  show (List.map _ _).set _ _ = List.map _ _
  unfold hexRow zer
  have hl := hexOf_len l
  obtain ⟨k, hk⟩ : ∃ k, 64 - i = k + 1 := ⟨63 - i, by omega⟩
  rw [hk, show 64 - (i + 1) = k by omega, List.replicate_succ, List.map_append, List.map_append, List.set_append_right _ _ (by simp; omega)]
  have e : i - (List.map (fun b : UInt8 => Value.int .u8 b.toNat) ((hexOf l).take i)).length = 0 := by simp; omega
  have e2 : (hexOf l).take (i + 1) = (hexOf l).take i ++ [hexc (nib l i)] := by
    rw [List.take_succ_eq_append_getElem (by omega)]
    simp [hexOf]
  rw [e, e2]
  simp
theorem hexRow_len (l : List UInt8) {i : Nat} (h : i ≤ 64) : (hexRow l i).length = 64 := by
  have hl := hexOf_len l
  unfold hexRow zer
  simp; omega
theorem run_hex (w : World) : ∀ d : Nat, d < 16 → (Instr.index 9 (.string ⟨#[48, 49, 50, 51, 52, 53, 54, 55, 56, 57, 97, 98, 99, 100, 101, 102]⟩) (.int .u8 (d : Int))).run Try.prog w = .ok (.int .u8 ((hexc d).toNat : Int)) w
  | 0, _ => by kernel_rfl
  | 1, _ => by kernel_rfl
  | 2, _ => by kernel_rfl
  | 3, _ => by kernel_rfl
  | 4, _ => by kernel_rfl
  | 5, _ => by kernel_rfl
  | 6, _ => by kernel_rfl
  | 7, _ => by kernel_rfl
  | 8, _ => by kernel_rfl
  | 9, _ => by kernel_rfl
  | 10, _ => by kernel_rfl
  | 11, _ => by kernel_rfl
  | 12, _ => by kernel_rfl
  | 13, _ => by kernel_rfl
  | 14, _ => by kernel_rfl
  | 15, _ => by kernel_rfl
  | n + 16, h => absurd h (by omega)
theorem row_cell {w : World} {R i : Nat} {m : List UInt8} (h : Blk w R 5 (bc m).toArray) (hi : i < m.length) : ∃ b : Int, w.cell? ⟨R, i, none⟩ = some (.int .u8 b) :=
  ⟨(m[i]).toNat, by rw [h.cell, List.getElem?_toArray]; exact bc_at (List.getElem?_eq_getElem hi)⟩
set_option maxRecDepth 100000 in
set_option maxHeartbeats 4000000 in
theorem string_any (w : World) (l : List UInt8) (hl : l.length = 32) :
    Calls Try.prog 10 #[.agg (bc l).toArray] w fun e w' => e = .returned (.string (hexS l)) ∧ Below w.heap.size w w' := by
  have HMK := hmk64
  obtain ⟨cs, hcs⟩ : ∃ cs, cs = (bc l).toArray := ⟨_, rfl⟩
  have hcz : cs.size = 32 := by rw [hcs]; simp [Lib.byteCells, hl]
  rw [← hcs]
  have HCS := Lib.hid hcs
  have HL := Lib.hid hl
  have HCZ := Lib.hid hcz
  clear hcs hl hcz
  obtain ⟨Z, hZ⟩ : ∃ Z, Z = bc (zer 64) := ⟨_, rfl⟩
  rw [← hZ] at HMK
  have HZ := Lib.hid hZ
  clear hZ
  go_enter Try.func10, Try.ntmps10
  go_upto_region 2 with fail
  have I0 : Blk ((w.alloc (.cells cs 25)).alloc (.cells Z.toArray 5)) w.heap.size 25 cs := (Blk.new w 25 cs).alloc _
  have R0 : Blk ((w.alloc (.cells cs 25)).alloc (.cells Z.toArray 5)) (w.heap.size + 1) 5 Z.toArray := by
    have := Blk.new (w.alloc (.cells cs 25)) 5 Z.toArray
    rwa [World.size_alloc] at this
  have B0 := ((Below.refl w.heap.size w).alloc (Nat.le_refl _) (.cells cs 25)).alloc (by simp) (.cells Z.toArray 5)
  obtain ⟨I, hI⟩ : ∃ I, I = w.heap.size := ⟨_, rfl⟩
  obtain ⟨R, hR⟩ : ∃ R, R = w.heap.size + 1 := ⟨_, rfl⟩
  obtain ⟨W, hW⟩ : ∃ W, W = (w.alloc (.cells cs 25)).alloc (.cells Z.toArray 5) := ⟨_, rfl⟩
  rw [← hI, ← hW] at I0
  rw [← hR, ← hW] at R0
  rw [← hW] at B0
  rw [← hR, ← hW, ← hI]
  have HR : Hid (w.heap.size ≤ R) := Lib.hid (by omega)
  have HRI : Hid (R ≠ I) := Lib.hid (by omega)
  have I1 := Lib.hid I0
  have R1 : Hid (Blk W R 5 (bc (hexRow l 0)).toArray) := Lib.hid (by rw [HZ.out] at R0; exact R0)
  have B1 := Lib.hid B0
  clear hI hR hW I0 R0 B0 HMK
  go_wp2_with fail
  go_loopw [8] (fun s8 wr => ∃ i : Nat, s8 = .int .i64 i ∧ i ≤ 64 ∧ Hid (Blk wr I 25 cs) ∧ Hid (Blk wr R 5 (bc (hexRow l i)).toArray) ∧ Hid (Below w.heap.size w wr)) (fun s8 _ => 64 - (intOf s8).toNat)
  case atStart => exact ⟨0, rfl, by omega, I1, R1, B1⟩
  case round =>
    clear I1 R1 B1
    obtain ⟨i, rfl, hi, hI, hR, hB⟩ := hrel
    have i0 : (0 : Int) ≤ (i : Int) := Int.natCast_nonneg _
    by_cases hlt : i < 64
    · have i1 : (i : Int) < 64 := by omega
      have hld := ld_blk hI.out HCZ.out
      have HLT := Lib.hid hlt
      obtain ⟨d, hd⟩ : ∃ d, d = nib l i := ⟨_, rfl⟩
      have HD := Lib.hid hd
      have hhx := fun W : World => run_hex W d (by rw [hd]; exact nib_lt l i)
      clear hd hlt
      go_upto_region 6 with (go_at_call 34; refine (show Calls Try.prog 34 #[.agg cs, .int .i64 i] wr (fun e w' => e = .returned (.int .u8 (d : Int)) ∧ Below wr.heap.size wr w') from by rw [HCS.out, HD.out]; exact digit_any wr l i HL.out HLT.out).mono ?_; rintro e w3 ⟨rfl, hb3⟩; have hR3 := hR.out.below hb3 hR.out.lt; obtain ⟨b3, x3⟩ := row_cell hR3 (by rw [hexRow_len l hi]; exact HLT.out); have f3 := hR3.frozen i)
      have hR4 : Hid (Blk (w3.setCell ⟨R, i, none⟩ (.int .u8 ((hexc d).toNat : Int))) R 5 (bc (hexRow l (i + 1))).toArray) := Lib.hid (by
        rw [← hexRow_set HLT.out, ← HD.out]
        exact (hR.out.below hb3 hR.out.lt).set_ _ _)
      have hI4 : Hid (Blk (w3.setCell ⟨R, i, none⟩ (.int .u8 ((hexc d).toNat : Int))) I 25 cs) := Lib.hid ((hI.out.below hb3 hI.out.lt).far HRI.out.symm _)
      have hB4 : Hid (Below w.heap.size w (w3.setCell ⟨R, i, none⟩ (.int .u8 ((hexc d).toNat : Int)))) := Lib.hid ((hB.out.trans (hb3.mono hB.out.size)).setCell HR.out _)
      clear hR hI hB hb3 hld hhx
      go_wp2_with fail
      go_roundw
      case rel => exact ⟨i + 1, by go_num, HLT.out, hI4, hR4, hB4⟩
      case measure => have := HLT.out; simp [intOf]; omega
    · obtain rfl : i = 64 := by omega
      have hre : hexRow l 64 = hexOf l := by
        have hl := hexOf_len l
        unfold hexRow zer; simp
        rw [List.take_of_length_le (by omega)]
      rw [hre] at hR
      have hcv : (convert 22 9 (.slice (some ⟨R, 0, none⟩) 64 64)).run Try.prog wr = .ok (.string (hexS l)) wr := by
        have h := run_convert_bytes_back (P := Try.prog) wr 22 9 5 ⟨R, 0, none⟩ 64 (hexOf l) Try.underlying22 Try.underlying5 Try.underlying9 (fun j hj => by
          have hadd : (⟨R, 0, none⟩ : Addr).add j = ⟨R, j, none⟩ := by unfold Addr.add; split <;> simp_all
          rw [hadd, hR.out.cell, List.getElem?_toArray]
          exact bc_at (List.getElem?_eq_getElem hj))
        rw [hexOf_len] at h
        exact h
      clear hre
      obtain ⟨S, hS⟩ : ∃ S, S = hexS l := ⟨_, rfl⟩
      rw [← hS] at hcv
      have HS := Lib.hid hS
      clear hS
      go_wp2_with fail
      go_ret
      exact ⟨by rw [← HS.out]; rfl, hB.out⟩
end Go.Proofs.Ytpkikibcfkdodaa
