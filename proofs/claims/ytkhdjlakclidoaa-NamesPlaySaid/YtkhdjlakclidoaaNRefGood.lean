/-
  The document's Good: the same names.
-/
import Derived.Test.YtkhdjlakclidoaaNGood
import Derived.Lib.Hide
import Derived.LoopTactic
namespace Go.Proofs.Ytkhdjlakclidoaa
open Go Go.RowKit

/-- The world is as it was. -/
def SameW (a b : World) : Prop := a = b
theorem goodN_short {s : ByteArray} (h : s.size = 0) : goodN s = false := by unfold goodN; simp [h]
theorem goodN_long {s : ByteArray} (h : 32 < s.size) : goodN s = false := by
  unfold goodN
  rw [decide_eq_false (p := s.size ≤ 32) (by omega), Bool.and_false, Bool.false_and]
theorem goodN_bad {s : ByteArray} {j : Nat} (h : j < s.size) (hb : gbv (s[j].toNat : Int) (j : Int) = false) : goodN s = false := by
  unfold goodN
  rw [tail_bad (Nat.zero_le j) h hb, Bool.and_false]
theorem goodN_all {s : ByteArray} (h0 : 0 < s.size) (h1 : s.size ≤ 32) (h : ∀ j (hj : j < s.size), gbv (s[j].toNat : Int) (j : Int) = true) : goodN s = true := by
  unfold goodN
  rw [tail_all h, decide_eq_true h0, decide_eq_true h1]; rfl

set_option maxHeartbeats 4000000 in
theorem refGood_any (s : ByteArray) (w : World) (hs : s.size ≤ 9223372036854775807) :
    Calls Try.prog 23 #[.string s] w fun e w' => e = .returned (.bool (goodN s)) ∧ w = w' := by
  by_cases h0 : s.size = 0
  · have HG := Lib.hid (goodN_short h0)
    have h0i : (s.size : Int) < 1 := by omega
    clear h0
    go_enter Try.func23, Try.ntmps23
    go_wp2
    all_goals
      go_ret
      exact ⟨ret_b (by rw [HG.out]), rfl⟩
  by_cases h32 : 32 < s.size
  · have HG := Lib.hid (goodN_long h32)
    have h0i : ¬ (s.size : Int) < 1 := by omega
    have h32i : (32 : Int) < (s.size : Int) := by omega
    clear h0 h32
    go_enter Try.func23, Try.ntmps23
    go_wp2
    all_goals
      go_ret
      exact ⟨ret_b (by rw [HG.out]), rfl⟩
  have h0i : ¬ (s.size : Int) < 1 := by omega
  have h32i : ¬ (32 : Int) < (s.size : Int) := by omega
  have hp : 0 < s.size := by omega
  have hp1 : (0 : Int) < (s.size : Int) := by omega
  by_cases ha : (s[0].toNat : Int) < 97
  · have HG := Lib.hid (goodN_bad hp (by unfold gbv; rw [Bool.eq_false_iff]; simp only [ne_eq, Bool.or_eq_true, Bool.and_eq_true, decide_eq_true_eq]; omega))
    go_enter Try.func23, Try.ntmps23
    go_wp2
    all_goals
      go_ret
      exact ⟨ret_b (by rw [HG.out]), rfl⟩
  by_cases hz : (122 : Int) < (s[0].toNat : Int)
  · have HG := Lib.hid (goodN_bad hp (by unfold gbv; rw [Bool.eq_false_iff]; simp only [ne_eq, Bool.or_eq_true, Bool.and_eq_true, decide_eq_true_eq]; omega))
    go_enter Try.func23, Try.ntmps23
    go_wp2
    all_goals
      go_ret
      exact ⟨ret_b (by rw [HG.out]), rfl⟩
  have HZ := Lib.hid (And.intro ha hz)
  go_enter Try.func23, Try.ntmps23
  go_wp2_with fail
  clear ha hz
  go_loopw [3] (fun i wr => ∃ k : Nat, i = .int .i64 k ∧ k ≤ s.size ∧ SameW wr w ∧ Hid (∀ j (hj : j < s.size), j < k → gbv (s[j].toNat : Int) (j : Int) = true)) (fun i _ => s.size - (intOf i).toNat)
  case atStart => exact ⟨0, rfl, Nat.zero_le _, rfl, Lib.hid fun j _ hj => absurd hj (Nat.not_lt_zero _)⟩
  case round =>
    obtain ⟨k, rfl, hk, hw, hall⟩ := hrel
    unfold SameW at hw
    subst hw
    by_cases hlt : k < s.size
    · have hk0 : (0 : Int) ≤ (k : Int) := Int.natCast_nonneg _
      have hk1 : (k : Int) < (s.size : Int) := by omega
      have hc0 : (0 : Int) ≤ (s[k].toNat : Int) := Int.natCast_nonneg _
      have K0 : Hid (k = 0 → 97 ≤ (s[k].toNat : Int) ∧ (s[k].toNat : Int) ≤ 122) := Lib.hid fun e => by subst e; have := HZ.out; omega
      by_cases c1 : (s[k].toNat : Int) < 97
      · by_cases c2 : (s[k].toNat : Int) < 48
        · have c3 : ¬ (57 : Int) < (s[k].toNat : Int) := by omega
          by_cases c4 : (s[k].toNat : Int) = 45
          · have c5 : ((s[k].toNat : Int) == 45) = true := by rw [beq_iff_eq]; exact c4
            have HA : Hid (∀ j (hj : j < s.size), j < k + 1 → gbv (s[j].toNat : Int) (j : Int) = true) := Lib.hid fun j hj hjk => by
              by_cases e : j = k
              · subst e
                have hK := K0.out
                unfold gbv
                simp only [Bool.or_eq_true, Bool.and_eq_true, decide_eq_true_eq]
                omega
              · exact hall.out j hj (by omega)
            clear hall
            go_wp2
            go_roundw
            case rel => exact ⟨k + 1, by go_num, hlt, rfl, HA⟩
            case measure => simp [intOf]; omega
          · have c5 : ((s[k].toNat : Int) == 45) = false := by rw [beq_eq_false_iff_ne]; exact c4
            have HG := Lib.hid (goodN_bad hlt (by unfold gbv; rw [Bool.eq_false_iff]; simp only [ne_eq, Bool.or_eq_true, Bool.and_eq_true, decide_eq_true_eq]; omega))
            clear hall
            go_wp2
            all_goals
              go_ret
              exact ⟨ret_b (by rw [HG.out]), rfl⟩
        · have c5 : ((s[k].toNat : Int) == 45) = false := by rw [beq_eq_false_iff_ne]; omega
          by_cases c3 : (57 : Int) < (s[k].toNat : Int)
          · have c6 : True := trivial
            have HG := Lib.hid (goodN_bad hlt (by unfold gbv; rw [Bool.eq_false_iff]; simp only [ne_eq, Bool.or_eq_true, Bool.and_eq_true, decide_eq_true_eq]; omega))
            clear hall
            go_wp2
            all_goals
              go_ret
              exact ⟨ret_b (by rw [HG.out]), rfl⟩
          · have c6 : True := trivial
            have HA : Hid (∀ j (hj : j < s.size), j < k + 1 → gbv (s[j].toNat : Int) (j : Int) = true) := Lib.hid fun j hj hjk => by
              by_cases e : j = k
              · subst e
                have hK := K0.out
                unfold gbv
                simp only [Bool.or_eq_true, Bool.and_eq_true, decide_eq_true_eq]
                omega
              · exact hall.out j hj (by omega)
            clear hall
            go_wp2
            go_roundw
            case rel => exact ⟨k + 1, by go_num, hlt, rfl, HA⟩
            case measure => simp [intOf]; omega
      · by_cases c2 : (122 : Int) < (s[k].toNat : Int)
        · have c3 : ¬ (s[k].toNat : Int) < 48 := by omega
          have c4 : (57 : Int) < (s[k].toNat : Int) := by omega
          have c5 : ((s[k].toNat : Int) == 45) = false := by rw [beq_eq_false_iff_ne]; omega
          have HG := Lib.hid (goodN_bad hlt (by unfold gbv; rw [Bool.eq_false_iff]; simp only [ne_eq, Bool.or_eq_true, Bool.and_eq_true, decide_eq_true_eq]; omega))
          clear hall
          go_wp2
          all_goals
            go_ret
            exact ⟨ret_b (by rw [HG.out]), rfl⟩
        · have c3 : ¬ (s[k].toNat : Int) < 48 := by omega
          have c4 : (57 : Int) < (s[k].toNat : Int) := by omega
          have c5 : ((s[k].toNat : Int) == 45) = false := by rw [beq_eq_false_iff_ne]; omega
          have HA : Hid (∀ j (hj : j < s.size), j < k + 1 → gbv (s[j].toNat : Int) (j : Int) = true) := Lib.hid fun j hj hjk => by
            by_cases e : j = k
            · subst e
              have hK := K0.out
              unfold gbv
              simp only [Bool.or_eq_true, Bool.and_eq_true, decide_eq_true_eq]
              omega
            · exact hall.out j hj (by omega)
          clear hall
          go_wp2
          go_roundw
          case rel => exact ⟨k + 1, by go_num, hlt, rfl, HA⟩
          case measure => simp [intOf]; omega
    · have HG := Lib.hid (goodN_all hp (by omega) fun j hj => hall.out j hj (by omega))
      clear hall
      go_wp2
      go_ret
      exact ⟨ret_b (by rw [HG.out]), rfl⟩
#print axioms refGood_any
end Go.Proofs.Ytkhdjlakclidoaa
