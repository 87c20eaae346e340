/-
  The document's Join.
-/
import Derived.Test.YtiefenfogjlnoaaAlike
namespace Go.Proofs.Ytiefenfogjlnoaa
open Go.RowKit

set_option maxHeartbeats 2000000 in
/-- The document's Join. -/
theorem refJoin_any (w : World) (v : Value) (xs : List ByteArray) (h : Strs w v xs) (hl : (cat xs).length ≤ 2000000) :
    Calls Try.prog 15 #[v] w fun e w' => e = .returned (.string (mk (cat xs))) ∧ w = w' := by
  obtain ⟨A, n, c, rfl⟩ := h.form
  have hn := h.len
  have hb1 : n ≤ 9223372036854775807 := by have := hn.2; unfold maxLen at this; omega
  have HH := Lib.hid (fun k (hk : k < n) => h.cell hk)
  have HN := Lib.hid hn.1
  clear h hn
  go_enter Try.func15, Try.ntmps15
  go_wp2
  go_loopw [3, 4] (fun s i wr => ∃ k : Nat, k ≤ n ∧ i = .int .i64 k ∧ s = .string (mk (cat (xs.take k))) ∧ wr = w) (fun _ i _ => n - (intOf i).toNat)
  case atStart => exact ⟨0, Nat.zero_le _, rfl, rfl, rfl⟩
  case round =>
    obtain ⟨k, hk, rfl, rfl, rfl⟩ := hrel
    by_cases hlt : k < n
    · obtain ⟨a, x, rfl, hx, hc1⟩ := HH.out k hlt
      have hi0 : (0 : Int) ≤ (k : Int) := Int.natCast_nonneg _
      have hi1 : (k : Int) < (n : Int) := by omega
      have ht := cat_take xs k x hx
      have hs1 : (mk (cat (xs.take k))).size ≤ 2000000 := by rw [mk_size]; have := cat_le xs k; omega
      have hs2 : x.size ≤ 2000000 := by
        have h2 : (mk (cat (xs.take (k + 1)))).size ≤ 2000000 := by rw [mk_size]; have := cat_le xs (k + 1); omega
        rw [ht, ByteArray.size_append] at h2
        omega
      have HT := Lib.hid ht
      clear ht hx
      generalize mk (cat (xs.take k)) = p at *
      go_wp2
      go_roundw
      case rel => exact ⟨k + 1, by omega, by go_num, by rw [HT.out], trivial⟩
      case measure => simp [intOf]; omega
    · obtain rfl : k = n := by omega
      have hall : xs.take k = xs := List.take_of_length_le (by rw [← HN.out]; omega)
      rw [hall]
      clear hall
      go_wp2
      go_ret
      exact ⟨rfl, rfl⟩

end Go.Proofs.Ytiefenfogjlnoaa
