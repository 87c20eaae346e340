/-
  goodByte and goodPart: what may be in a part of a path.
-/
import Derived.Test.YtapcnmnnichamaaGreatDoorRP
import Derived.WalkKit
import Derived.WalkSpells
import Derived.WalkSmall
import Derived.LoopTactic
import Derived.Lib.Hide
import Derived.IntWalk
namespace Go.Proofs.YtapcnmnnichamaaGreatDoor
open Go Go.RowKit

theorem byte_any (c : Int) (w : World) (h0 : 0 ≤ c) (h1 : c ≤ 255) : Calls Tryz.prog 102 #[.int .u8 c] w fun e w' => e = .returned (.bool (gbv c)) ∧ w = w' := by
  by_cases h46 : c = 46
  · subst h46
    have hg : Hid (true = gbv 46) := by show true = gbv 46; rfl
    go_enter Tryz.func102, Tryz.ntmps102
    go_wp2
    all_goals
      go_ret
      exact ⟨ret_b hg.out, rfl⟩
  · by_cases h45 : c = 45
    · subst h45
      have hg : Hid (true = gbv 45) := by show true = gbv 45; rfl
      go_enter Tryz.func102, Tryz.ntmps102
      go_wp2
      all_goals
        go_ret
        exact ⟨ret_b hg.out, rfl⟩
    · by_cases h95 : c = 95
      · subst h95
        have hg : Hid (true = gbv 95) := by show true = gbv 95; rfl
        go_enter Tryz.func102, Tryz.ntmps102
        go_wp2
        all_goals
          go_ret
          exact ⟨ret_b hg.out, rfl⟩
      · have b1 : (c == 46) = false := by rw [beq_eq_false_iff_ne]; exact h46
        have b2 : (c == 45) = false := by rw [beq_eq_false_iff_ne]; exact h45
        have b3 : (c == 95) = false := by rw [beq_eq_false_iff_ne]; exact h95
        go_enter Tryz.func102, Tryz.ntmps102
        go_wp2
        all_goals
          go_ret
          exact ⟨ret_b (by unfold gbv; rw [Bool.eq_iff_iff]; simp only [Bool.or_eq_true, Bool.and_eq_true, decide_eq_true_eq, Bool.false_eq_true, true_iff, false_iff] <;> omega), rfl⟩

set_option maxHeartbeats 2000000 in
theorem part_any (s : ByteArray) (w : World) (hs : s.size ≤ 1000000) : Calls Tryz.prog 75 #[.string s] w fun e w' => e = .returned (.bool (gp s.data.toList)) ∧ w = w' := by
  have hsz : s.data.toList.length = s.size := by rw [Array.length_toList]; rfl
  by_cases e0 : s.data.toList = []
  · obtain rfl := bytes_eq (b := ⟨#[]⟩) e0
    clear hsz e0
    go_enter Tryz.func75, Tryz.ntmps75
    go_wp2
    go_ret
    exact ⟨rfl, rfl⟩
  by_cases e1 : s.data.toList = [46]
  · obtain rfl := bytes_eq (b := ⟨#[46]⟩) e1
    clear hsz e0 e1
    go_enter Tryz.func75, Tryz.ntmps75
    go_wp2
    go_ret
    exact ⟨rfl, rfl⟩
  by_cases e2 : s.data.toList = [46, 46]
  · obtain rfl := bytes_eq (b := ⟨#[46, 46]⟩) e2
    clear hsz e0 e1 e2
    go_enter Tryz.func75, Tryz.ntmps75
    go_wp2
    go_ret
    exact ⟨rfl, rfl⟩
  have q0 : ¬ s.toList = [] := by rw [ByteArray.toList_eq]; exact e0
  have q0' : s.toList.isEmpty = false := by rw [List.isEmpty_eq_false_iff]; exact q0
  have q1 : ¬ s.toList = [46] := by rw [ByteArray.toList_eq]; exact e1
  have q1' : (s.toList == [46]) = false := by rw [beq_eq_false_iff_ne]; exact q1
  have q2 : ¬ s.toList = [46, 46] := by rw [ByteArray.toList_eq]; exact e2
  have q2' : (s.toList == [46, 46]) = false := by rw [beq_eq_false_iff_ne]; exact q2
  have E := Lib.hid (And.intro e0 (And.intro e1 e2))
  have HS := Lib.hid hsz
  clear e0 e1 e2 hsz
  go_enter Tryz.func75, Tryz.ntmps75
  go_wp2
  go_loop [3, 11] (fun _ i => ∃ k : Nat, k ≤ s.size ∧ i = .int .i64 k ∧ Hid (∀ j (hj : j < s.size), j < k → gbv (s[j].toNat : Int) = true)) (fun _ i => s.size - (intOf i).toNat)
  case atStart => exact ⟨0, Nat.zero_le _, rfl, fun j _ h => absurd h (Nat.not_lt_zero _)⟩
  case round =>
    obtain ⟨k, hk, rfl, I⟩ := hrel
    have hk0 : (0 : Int) ≤ (k : Int) := Int.natCast_nonneg _
    by_cases hlt : k < s.size
    · have hki : (k : Int) < (s.size : Int) := by omega
      have hb := UInt8.toNat_lt s[k]
      have B := Lib.hid fun W => byte_any (s[k].toNat : Int) W (by omega) (by omega)
      cases hg : gbv (s[k].toNat : Int) with
      | true =>
        rw [hg] at B
        have HX := Lib.hid hg
        clear hg
        go_wp2_with (go_at_call 102; refine (B.out _).mono ?_; rintro e w' ⟨rfl, rfl⟩)
        go_round
        case rel => exact ⟨k + 1, by omega, by go_num, fun j hj hjk => by
          rcases Nat.lt_or_ge j k with h | h
          · exact I.out j hj h
          · obtain rfl : j = k := by omega
            exact HX.out⟩
        case measure => simp [intOf]; omega
      | false =>
        rw [hg] at B
        have HX := Lib.hid hg
        clear hg
        go_wp2_with (go_at_call 102; refine (B.out _).mono ?_; rintro e w' ⟨rfl, rfl⟩)
        go_ret
        exact ⟨ret_b (gp_bad (l := s.data.toList) (j := k) (by rw [HS.out]; exact hlt) HX.out).symm, rfl⟩
    · go_wp2
      go_ret
      exact ⟨ret_b (gp_all E.out.1 E.out.2.1 E.out.2.2 fun j hj => I.out j (by rw [HS.out] at hj; exact hj) (by rw [HS.out] at hj; omega)).symm, rfl⟩
end Go.Proofs.YtapcnmnnichamaaGreatDoor
