/-
  The document's message gives the same sum; the bytes of the sum, one by one.
-/
import Derived.Test.YtpkikibcfkdodaaHRblk
namespace Go.Proofs.Ytpkikibcfkdodaa
open Go Go.RowKit
/-- How many zeros. -/
def zn (n : Nat) : Nat := (119 - n % 64) % 64
theorem zn_iff (n k : Nat) (h : k ≤ zn n) : (n + 1 + k) % 64 = 56 ↔ k = zn n := by unfold zn at *; omega
def lb8 (N j : Nat) : List UInt8 := (lastB N 8).take j
theorem lb8_len (N : Nat) {j : Nat} (h : j ≤ 8) : (lb8 N j).length = j := by
  unfold lb8; rw [List.length_take, lastB_len]; omega
theorem lb8_snoc (N : Nat) : ∀ j, j < 8 → lb8 N (j + 1) = lb8 N j ++ [UInt8.ofNat (N / 2 ^ (8 * (7 - j)))]
  | 0, _ => rfl
  | 1, _ => rfl
  | 2, _ => rfl
  | 3, _ => rfl
  | 4, _ => rfl
  | 5, _ => rfl
  | 6, _ => rfl
  | 7, _ => rfl
  | n + 8, h => absurd h (by omega)
/-- The message of the document: whole blocks. -/
def msgN (l : List UInt8) (k : Nat) : List UInt8 := l ++ 128 :: zer k
def msgF (l : List UInt8) : List UInt8 := msgN l (zn l.length) ++ lb8 (l.length * 8 % 18446744073709551616) 8
theorem msgN_len (l : List UInt8) (k : Nat) : (msgN l k).length = l.length + 1 + k := by unfold msgN zer; simp; omega
theorem msgN_snoc (l : List UInt8) (k : Nat) : msgN l (k + 1) = msgN l k ++ [0] := by unfold msgN zer; rw [List.replicate_succ']; simp
theorem msgF_len (l : List UInt8) : (msgF l).length = l.length + 1 + zn l.length + 8 := by
  unfold msgF
  rw [List.length_append, msgN_len, lb8_len _ (Nat.le_refl _)]
theorem msgF_mod (l : List UInt8) : (msgF l).length % 64 = 0 := by
  rw [msgF_len]; unfold zn; omega
theorem hashN_congr (s : St8) (M l : List UInt8) : ∀ q, (∀ j, j < q → (M.drop (64 * j)).take 64 = (l.drop (64 * j)).take 64) → hashN s M q = hashN s l q
  | 0, _ => rfl
  | q + 1, h => by
    rw [hashN, hashN, hashN_congr s M l q (fun j hj => h j (by omega)), h q (by omega)]
theorem hashN_shift (s : St8) (M : List UInt8) (q : Nat) : ∀ k, hashN s M (q + k) = hashN (hashN s M q) (M.drop (64 * q)) k
  | 0 => rfl
  | k + 1 => by
    rw [show q + (k + 1) = (q + k) + 1 by omega, hashN, hashN, hashN_shift s M q k, List.drop_drop, show 64 * q + 64 * k = 64 * (q + k) by omega]
theorem msg_drop (l : List UInt8) : (msgF l).drop (64 * (l.length / 64)) = padF (l.drop (64 * (l.length / 64))) l.length := by
  have h1 : 64 * (l.length / 64) ≤ l.length := by omega
  have e : msgF l = l ++ 128 :: (zer (zn l.length) ++ lastB (l.length * 8 % 18446744073709551616) 8) := by
    unfold msgF msgN lb8
    rw [List.take_of_length_le (by rw [lastB_len]; exact Nat.le_refl _)]
    simp
  rw [e, List.drop_append_of_le_length h1]
  unfold padF rowP
  congr 3
  have hl : (l.drop (64 * (l.length / 64))).length = l.length % 64 := by rw [List.length_drop]; omega
  rw [hl]
  unfold sizeF zn
  congr 1
  split <;> omega
theorem hash_msg (l : List UInt8) : hashN iv (msgF l) ((msgF l).length / 64) = sumS l := by
  have hl : (l.drop (64 * (l.length / 64))).length = l.length % 64 := by rw [List.length_drop]; omega
  have hq : (msgF l).length / 64 = l.length / 64 + sizeF (l.drop (64 * (l.length / 64))).length / 64 := by
    rw [msgF_len, hl]; unfold sizeF zn
    split <;> omega
  rw [hq, hashN_shift, msg_drop]
  unfold sumS
  congr 1
  refine hashN_congr iv (msgF l) l _ (fun j hj => ?_)
  have e : msgF l = l ++ (128 :: zer (zn l.length) ++ lb8 (l.length * 8 % 18446744073709551616) 8) := by unfold msgF msgN; rw [List.append_assoc]
  rw [e, List.drop_append_of_le_length (by omega), List.take_append_of_le_length (by rw [List.length_drop]; omega)]
/-- The first i bytes of the sum; 0 behind them. -/
def idB (s : St8) (i : Nat) : List UInt8 := (idOf s).take i ++ zer (32 - i)
theorem idB_set (s : St8) : ∀ i, i < 32 → (bc (idB s i)).toArray.setIfInBounds i (.int .u8 ((UInt8.ofNat (at0 s.list (i / 4) / 2 ^ (24 - 8 * (i % 4)))).toNat : Int)) = (bc (idB s (i + 1))).toArray
  | 0, _ => by kernel_rfl
  | 1, _ => by kernel_rfl
  | 2, _ => by kernel_rfl
  | 3, _ => by rw [show at0 s.list (3 / 4) / 2 ^ (24 - 8 * (3 % 4)) = at0 s.list (3 / 4) from Nat.div_one _]; kernel_rfl
  | 4, _ => by kernel_rfl
  | 5, _ => by kernel_rfl
  | 6, _ => by kernel_rfl
  | 7, _ => by rw [show at0 s.list (7 / 4) / 2 ^ (24 - 8 * (7 % 4)) = at0 s.list (7 / 4) from Nat.div_one _]; kernel_rfl
  | 8, _ => by kernel_rfl
  | 9, _ => by kernel_rfl
  | 10, _ => by kernel_rfl
  | 11, _ => by rw [show at0 s.list (11 / 4) / 2 ^ (24 - 8 * (11 % 4)) = at0 s.list (11 / 4) from Nat.div_one _]; kernel_rfl
  | 12, _ => by kernel_rfl
  | 13, _ => by kernel_rfl
  | 14, _ => by kernel_rfl
  | 15, _ => by rw [show at0 s.list (15 / 4) / 2 ^ (24 - 8 * (15 % 4)) = at0 s.list (15 / 4) from Nat.div_one _]; kernel_rfl
  | 16, _ => by kernel_rfl
  | 17, _ => by kernel_rfl
  | 18, _ => by kernel_rfl
  | 19, _ => by rw [show at0 s.list (19 / 4) / 2 ^ (24 - 8 * (19 % 4)) = at0 s.list (19 / 4) from Nat.div_one _]; kernel_rfl
  | 20, _ => by kernel_rfl
  | 21, _ => by kernel_rfl
  | 22, _ => by kernel_rfl
  | 23, _ => by rw [show at0 s.list (23 / 4) / 2 ^ (24 - 8 * (23 % 4)) = at0 s.list (23 / 4) from Nat.div_one _]; kernel_rfl
  | 24, _ => by kernel_rfl
  | 25, _ => by kernel_rfl
  | 26, _ => by kernel_rfl
  | 27, _ => by rw [show at0 s.list (27 / 4) / 2 ^ (24 - 8 * (27 % 4)) = at0 s.list (27 / 4) from Nat.div_one _]; kernel_rfl
  | 28, _ => by kernel_rfl
  | 29, _ => by kernel_rfl
  | 30, _ => by kernel_rfl
  | 31, _ => by rw [show at0 s.list (31 / 4) / 2 ^ (24 - 8 * (31 % 4)) = at0 s.list (31 / 4) from Nat.div_one _]; kernel_rfl
  | n + 32, h => absurd h (by omega)
theorem idB_len (s : St8) (i : Nat) (h : i ≤ 32) : (idB s i).length = 32 := by
  have h1 : (idOf s).length = 32 := by kernel_rfl
  unfold idB zer
  simp [h1]; omega
theorem idB_all (s : St8) : idB s 32 = idOf s := by kernel_rfl
end Go.Proofs.Ytpkikibcfkdodaa
