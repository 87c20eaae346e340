/-
  sha.Short.
-/
import Derived.Test.YtpkikibcfkdodaaHEq
namespace Go.Proofs.Ytpkikibcfkdodaa
open Go Go.RowKit
attribute [-go_sem] loadCells run_index_string
/-- One name more. -/
def stepS (id : List UInt8) (n : Nat) (m : List UInt8) : Nat := if m = id then n else max n (share m id + 1)
def shortN (id : List UInt8) (n : Nat) (l : List (List UInt8)) : Nat := l.foldl (stepS id) n
def least0 (k : Int) : Nat := (min (max k 0) 64).toNat
theorem least0_le (k : Int) : least0 k ≤ 64 := by unfold least0; omega
theorem stepS_le {id : List UInt8} {n B : Nat} {m : List UInt8} (h : n ≤ B) (hB : 65 ≤ B) : stepS id n m ≤ B := by
  have := share_le m id
  unfold stepS; split <;> omega
theorem shortN_le {id : List UInt8} {B : Nat} (hB : 65 ≤ B) : ∀ (l : List (List UInt8)) (n : Nat), n ≤ B → shortN id n l ≤ B
  | [], _, h => h
  | m :: ms, _, h => shortN_le hB ms (stepS id _ m) (stepS_le h hB)
theorem shortN_snoc (id : List UInt8) (n : Nat) (l : List (List UInt8)) (m : List UInt8) : shortN id n (l ++ [m]) = stepS id (shortN id n l) m := by
  unfold shortN; rw [List.foldl_append]; rfl
set_option maxRecDepth 100000 in
set_option maxHeartbeats 4000000 in
theorem short_any (w : World) (sp : Option Addr) (l : List (List UInt8)) (c : Nat) (id : List UInt8) (k : Int) (hid : id.length = 32) (hl : l.length < 1000000) (hr : IDs w sp l) :
    Calls Try.prog 15 #[.slice sp l.length c, .agg (bc id).toArray, .int .i64 k] w fun e w' => e = .returned (.int .i64 (shortN id (least0 k) l)) ∧ Below w.heap.size w w' := by
  have HID := Lib.hid hid
  have HR := Lib.hid hr
  have SH := Lib.hid fun (W : World) (m : List UInt8) (hm : m.length = 32) => shared_any W m id hm hid
  have EQ := Lib.hid fun (W : World) (m : List UInt8) (hm : m.length = 32) => eq25 W m id hm hid
  obtain ⟨ci, hci⟩ : ∃ cs, cs = bc id := ⟨_, rfl⟩
  rw [← hci] at SH EQ
  have hcz : ci.length = 32 := by rw [hci, bc_len, hid]
  rw [← hci]
  have HCZ := Lib.hid hcz
  have HCI := Lib.hid hci
  have hk0 : min (max k 0) 64 = (least0 k : Int) := by unfold least0; omega
  clear hid hr hci hcz
  have l0 : (0 : Int) ≤ (l.length : Int) := Int.natCast_nonneg _
  have l1 : (l.length : Int) < 1000000 := by omega
  have HLL := Lib.hid hl
  clear hl
  go_enter Try.func15, Try.ntmps15
  go_upto_region 2 with fail
  rw [show (if 64 < (if k < 0 then 0 else k) then 64 else if k < 0 then 0 else k) = (least0 k : Int) by rw [← hk0]; omega]
  generalize (if k < 0 then (0 : Int) else k) = k1
  have X0 : Blk (w.alloc (.cells ci.toArray 25)) w.heap.size 25 ci.toArray := Blk.new _ _ _
  have B0 := (Below.refl w.heap.size w).alloc (Nat.le_refl _) (.cells ci.toArray 25)
  obtain ⟨I, hI⟩ : ∃ I, I = w.heap.size := ⟨_, rfl⟩
  obtain ⟨W, hW⟩ : ∃ W, W = w.alloc (.cells ci.toArray 25) := ⟨_, rfl⟩
  rw [← hI, ← hW] at X0
  rw [← hW] at B0
  rw [← hW, ← hI]
  have X1 := Lib.hid X0
  have B1 := Lib.hid B0
  have HLI : Hid (w.heap.size ≤ I) := Lib.hid (by omega)
  clear hI hW X0 B0
  have hk1 := Lib.hid hk0
  have hln := least0_le k
  have HLN := Lib.hid hln
  clear hk0 hln
  obtain ⟨n0, hn0⟩ : ∃ n, n = least0 k := ⟨_, rfl⟩
  rw [← hn0]
  rw [← hn0] at HLN
  have HN0 := Lib.hid hn0
  clear hn0 hk1
  go_wp2_with fail
  go_loopw [7, 15] (fun s7 s15 wr => ∃ i n : Nat, s15 = .int .i64 i ∧ s7 = .int .i64 n ∧ i ≤ l.length ∧ Hid (shortN id n0 (l.take i) = n) ∧ Hid (Blk wr I 25 ci.toArray) ∧ Hid (Below w.heap.size w wr)) (fun _ s15 _ => l.length - (intOf s15).toNat)
  case atStart => exact ⟨0, n0, rfl, rfl, by omega, Lib.hid rfl, X1, B1⟩
  case round =>
    clear X1 B1
    obtain ⟨i, n, rfl, rfl, hi, hsn, hI, hB⟩ := hrel
    have i0 : (0 : Int) ≤ (i : Int) := Int.natCast_nonneg _
    have n0' : (0 : Int) ≤ (n : Int) := Int.natCast_nonneg _
    have n1 : (n : Int) ≤ 65 := by
      have := shortN_le (id := id) (B := 65) (by omega) (l.take i) n0 (by have := HLN.out; omega)
      rw [hsn.out] at this; omega
    by_cases hlt : i < l.length
    · have i1 : (i : Int) < (l.length : Int) := by omega
      obtain ⟨g, o, rfl, hat⟩ := HR.out.at_ (by omega)
      obtain ⟨m, hm⟩ : ∃ m, l[i]? = some m := ⟨_, List.getElem?_eq_getElem hlt⟩
      have hml := HR.out.len m (List.mem_of_getElem? hm)
      have hat2 := hat i m hm
      have hgl : g < w.heap.size := World.block_lt_of_cell? w _ (hat2 0 _ (bc_byteAt (by omega)))
      have hld : (loadCells ⟨g, o + i * 32, none⟩ 32).run Try.prog wr = .ok (bc m).toArray wr := ld_mid hml (fun j v hv => by
        have h0 := hat2 j v hv
        have := hB.out.block g hgl
        simp only [World.cell?, this]; exact h0)
      have hst := st25 wr m hml
      have hone : Hid (l.take (i + 1) = l.take i ++ [m]) := Lib.hid (by
        rw [List.take_add_one, hm]; rfl)
      have HML := Lib.hid hml
      obtain ⟨cm, hcm⟩ : ∃ cm, cm = bc m := ⟨_, rfl⟩
      rw [← hcm] at hld hst
      have hcml : cm.length = 32 := by rw [hcm, bc_len, hml]
      have hcmz : cm.toArray.size = 32 := by simpa using hcml
      have HCM := Lib.hid hcm
      have HLT := Lib.hid hlt
      clear hml hat hat2 hm hcm hgl hlt
      go_upto_region 5 with fail
      have hX := Blk.new wr 25 cm.toArray
      have hI5 := hI.out.alloc (.cells cm.toArray 25)
      have hB5 := hB.out.alloc hB.out.size (.cells cm.toArray 25)
      obtain ⟨W5, hW5⟩ : ∃ W, W = wr.alloc (.cells cm.toArray 25) := ⟨_, rfl⟩
      obtain ⟨X, hXX⟩ : ∃ X, X = wr.heap.size := ⟨_, rfl⟩
      rw [← hW5, ← hXX] at hX
      rw [← hW5] at hI5 hB5
      rw [← hW5, ← hXX]
      have hlx := ld_blk hX hcmz
      have hli := ld_blk hI5 (by simpa using HCZ.out : ci.toArray.size = 32)
      have heq := EQ.out W5 m HML.out
      rw [← HCM.out] at heq
      have BX := Lib.hid hX
      have BI := Lib.hid hI5
      have BB := Lib.hid hB5
      clear hW5 hXX hX hI5 hB5 hI hB hld hst
      by_cases hmi : m = id
      · rw [decide_eq_true hmi] at heq
        have HS : Hid (shortN id n0 (l.take (i + 1)) = n) := Lib.hid (by rw [hone.out, shortN_snoc, hsn.out]; exact if_pos hmi)
        clear hmi
        go_wp2_with fail
        go_roundw
        case rel => exact ⟨i + 1, n, by go_num, rfl, HLT.out, HS, BI, BB⟩
        case measure => have := HLT.out; simp [intOf]; omega
      · rw [decide_eq_false hmi] at heq
        have HS : Hid (shortN id n0 (l.take (i + 1)) = max n (share m id + 1)) := Lib.hid (by rw [hone.out, shortN_snoc, hsn.out]; exact if_neg hmi)
        have hsl := share_le m id
        have SHm : Hid (∀ W, Calls Try.prog 13 #[.agg cm.toArray, .agg ci.toArray] W (fun e w' => e = .returned (.int .i64 (share m id)) ∧ Below W.heap.size W w')) := Lib.hid (by rw [HCM.out]; exact fun W => SH.out W m HML.out)
        obtain ⟨q, hq⟩ : ∃ q, q = share m id := ⟨_, rfl⟩
        rw [← hq] at HS hsl SHm
        have q0 : (0 : Int) ≤ (q : Int) := Int.natCast_nonneg _
        have q1 : (q : Int) ≤ 64 := by omega
        clear hmi hq hsl
        go_upto_region 7 with (go_at_call 13; refine (SHm.out _).mono ?_; rintro e w6 ⟨rfl, hb6⟩)
        rw [show (if (n : Int) < (q : Int) + 1 then (q : Int) + 1 else (n : Int)) = ((max n (q + 1) : Nat) : Int) by split <;> omega]
        obtain ⟨t, ht⟩ : ∃ t, t = max n (q + 1) := ⟨_, rfl⟩
        rw [← ht]
        rw [← ht] at HS
        have BI6 := Lib.hid (BI.out.below hb6 BI.out.lt)
        have BB6 := Lib.hid (BB.out.trans (hb6.mono BB.out.size))
        clear ht hlx hli heq BI BB BX hb6
        go_wp2_with fail
        go_roundw
        case rel => exact ⟨i + 1, t, by go_num, rfl, HLT.out, HS, BI6, BB6⟩
        case measure => have := HLT.out; simp [intOf]; omega
    · obtain rfl : i = l.length := by omega
      have HS : Hid (shortN id n0 l = n) := Lib.hid (by rw [← hsn.out, List.take_of_length_le (Nat.le_refl _)])
      clear hsn hi hlt
      go_wp2_with fail
      go_ret
      exact ⟨by rw [← HN0.out, HS.out]; rfl, hB.out⟩
end Go.Proofs.Ytpkikibcfkdodaa
