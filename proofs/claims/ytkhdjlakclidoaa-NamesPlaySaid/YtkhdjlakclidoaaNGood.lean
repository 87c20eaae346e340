/-
  names.Good: whether a text may be a branch's name.
-/
import Derived.Test.YtkhdjlakclidoaaNDel
namespace Go.Proofs.Ytkhdjlakclidoaa
open Go.RowKit

theorem ret_b {p q : Bool} (h : p = q) : Ending.returned (.bool p) = .returned (.bool q) := by rw [h]
def gbv (c i : Int) : Bool := (decide (97 ≤ c) && decide (c ≤ 122)) || (((decide (48 ≤ c) && decide (c ≤ 57)) || decide (c = 45)) && decide (0 < i))
set_option maxHeartbeats 1000000 in
theorem byte_any (c i : Int) (w : World) (h0 : 0 ≤ c) (h1 : c ≤ 255) (hi : 0 ≤ i) (hi2 : i ≤ 1000000) :
    Calls Try.prog 29 #[.int .u8 c, .int .i64 i] w fun e w' => e = .returned (.bool (gbv c i)) ∧ w = w' := by
  by_cases h45 : c = 45
  · subst h45
    have hg : Hid (decide (0 < i) = gbv 45 i) := by show decide (0 < i) = gbv 45 i; unfold gbv; simp
    go_enter Try.func29, Try.ntmps29
    go_wp2
    all_goals
      go_ret
      exact ⟨ret_b hg.out, rfl⟩
  · have hb : (c == 45) = false := by rw [beq_eq_false_iff_ne]; exact h45
    go_enter Try.func29, Try.ntmps29
    go_wp2
    all_goals
      go_ret
      exact ⟨ret_b (by unfold gbv; rw [Bool.eq_iff_iff]; simp only [Bool.or_eq_true, Bool.and_eq_true, decide_eq_true_eq, Bool.false_eq_true, true_iff, false_iff] <;> omega), rfl⟩
/-- The bytes from k on are good. -/
def tailOk (s : ByteArray) (k : Nat) : Bool := (List.range s.size).all fun j => decide (j < k) || gbv ((s[j]?.getD 0).toNat : Int) (j : Int)
def goodN (s : ByteArray) : Bool := decide (0 < s.size) && decide (s.size ≤ 32) && tailOk s 0
theorem tail_bad {s : ByteArray} {k j : Nat} (hk : k ≤ j) (h : j < s.size) (hb : gbv (s[j].toNat : Int) (j : Int) = false) : tailOk s k = false := by
  rw [Bool.eq_false_iff]
  intro ht
  unfold tailOk at ht
  rw [List.all_eq_true] at ht
  have := ht j (List.mem_range.2 h)
  rw [show s[j]? = some s[j] from getElem?_pos s j h] at this
  simp [hb] at this
  omega
theorem tail_all {s : ByteArray} (h : ∀ j (hj : j < s.size), gbv (s[j].toNat : Int) (j : Int) = true) : tailOk s 0 = true := by
  unfold tailOk
  rw [List.all_eq_true]
  intro j hj
  have hj := List.mem_range.1 hj
  rw [show s[j]? = some s[j] from getElem?_pos s j hj]
  simp [h j hj]

set_option maxHeartbeats 2000000 in
theorem good_any (s : ByteArray) (w : World) (hs : s.size ≤ 1000000) :
    Calls Try.prog 22 #[.string s] w fun e w' => e = .returned (.bool (goodN s)) ∧ w = w' := by
  have hsz : s.data.toList.length = s.size := by rw [Array.length_toList]; rfl
  by_cases h0 : s.size = 0
  · have HG : Hid (goodN s = false) := by show goodN s = false; unfold goodN; simp [h0]
    have he : s.toList = [] := by rw [ByteArray.toList_eq]; exact List.eq_nil_of_length_eq_zero (by omega)
    have he2 : s.toList.isEmpty = true := by rw [List.isEmpty_iff]; exact he
    clear h0 hsz
    go_enter Try.func22, Try.ntmps22
    go_wp2
    all_goals
      go_ret
      exact ⟨ret_b (by rw [HG.out]), rfl⟩
  · have hne : ¬ s.toList = [] := by
      rw [ByteArray.toList_eq]
      intro h
      rw [h] at hsz
      exact h0 hsz.symm
    have hne2 : s.toList.isEmpty = false := by rw [List.isEmpty_eq_false_iff]; exact hne
    by_cases h1 : s.size ≤ 32
    · have hi1 : (s.size : Int) ≤ 32 := by omega
      have HG0 : Hid (goodN s = tailOk s 0) := by show goodN s = tailOk s 0; unfold goodN; rw [decide_eq_true (by omega), decide_eq_true h1]; simp
      clear hsz
      go_enter Try.func22, Try.ntmps22
      go_wp2
      go_loop [3, 13] (fun _ i => ∃ k : Nat, k ≤ s.size ∧ i = .int .i64 k ∧ Hid (∀ j (hj : j < s.size), j < k → gbv (s[j].toNat : Int) (j : Int) = true)) (fun _ i => s.size - (intOf i).toNat)
      case atStart => exact ⟨0, Nat.zero_le _, rfl, fun j _ h => absurd h (Nat.not_lt_zero _)⟩
      case round =>
        obtain ⟨k, hk, rfl, I⟩ := hrel
        have hk0 : (0 : Int) ≤ (k : Int) := Int.natCast_nonneg _
        by_cases hlt : k < s.size
        · have hki : (k : Int) < (s.size : Int) := by omega
          have hb := UInt8.toNat_lt s[k]
          have B := Lib.hid fun W => byte_any (s[k].toNat : Int) (k : Int) W (by omega) (by omega) hk0 (by omega)
          cases hg : gbv (s[k].toNat : Int) (k : Int) with
          | true =>
            rw [hg] at B
            have HX := Lib.hid hg
            clear hg
            go_wp2_with (go_at_call 29; refine (B.out _).mono ?_; rintro e w' ⟨rfl, rfl⟩)
            go_round
            case rel => exact ⟨k + 1, by omega, by go_num, fun j hj hjk => by
              rcases Nat.lt_or_ge j k with h | h
              · exact I.out j hj h
              · obtain rfl : j = k := by omega
                exact HX.out⟩
            case measure => simp [intOf]; omega
          | false =>
            rw [hg] at B
            have HX := Lib.hid hg
            clear hg
            go_wp2_with (go_at_call 29; refine (B.out _).mono ?_; rintro e w' ⟨rfl, rfl⟩)
            go_ret
            exact ⟨ret_b (by rw [HG0.out, tail_bad (Nat.zero_le _) hlt HX.out]), rfl⟩
        · go_wp2
          go_ret
          exact ⟨ret_b (by rw [HG0.out, tail_all fun j hj => I.out j hj (by omega)]), rfl⟩
    · have hi1 : ¬ (s.size : Int) ≤ 32 := by omega
      have hi2 : (32 : Int) < (s.size : Int) := by omega
      have HG : Hid (goodN s = false) := by show goodN s = false; unfold goodN; rw [decide_eq_false h1]; simp
      clear hsz
      go_enter Try.func22, Try.ntmps22
      go_wp2
      all_goals
        go_ret
        exact ⟨ret_b (by rw [HG.out]), rfl⟩
end Go.Proofs.Ytkhdjlakclidoaa
