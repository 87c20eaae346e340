/-
  digits.Number: a number in digits.
-/
import Derived.Test.YtanjcjnkppnhcaaDoorTdB
namespace Go.Proofs.YtanjcjnkppnhcaaDoor
open Go Go.RowKit

def digB (c : UInt8) : Bool := decide (48 ≤ c.toNat) && decide (c.toNat ≤ 57)
def numV (l : List UInt8) : Nat := l.foldl (fun n c => 10 * n + (c.toNat - 48)) 0
/-- A number in digits, and whether it is one. -/
def numP (l : List UInt8) : Nat × Bool :=
  if l = [] ∨ 7 < l.length ∨ (1 < l.length ∧ l.head? = some 48) then (0, false)
  else if l.all digB = false then (0, false)
  else if 1000000 < numV l then (0, false) else (numV l, true)
theorem numV_snoc (l : List UInt8) (c : UInt8) : numV (l ++ [c]) = 10 * numV l + (c.toNat - 48) := by unfold numV; rw [List.foldl_append]; rfl
theorem take_snocB {l : List UInt8} {k : Nat} {c : UInt8} (h : l[k]? = some c) : l.take (k + 1) = l.take k ++ [c] := by
  obtain ⟨hk, rfl⟩ := List.getElem?_eq_some_iff.1 h
  exact List.take_succ_eq_append_getElem hk
theorem all_bad {l : List UInt8} {k : Nat} {c : UInt8} (h : l[k]? = some c) (hc : digB c = false) : l.all digB = false := by
  rw [List.all_eq_false]
  exact ⟨c, List.mem_of_getElem? h, by rw [hc]; simp⟩
theorem all_take {l : List UInt8} (h : (l.take l.length).all digB = true) : l.all digB = true := by rwa [List.take_length] at h
theorem nil_ofB {s : ByteArray} (h : s.size = 0) : s = ⟨#[]⟩ := bytesB_eq (List.eq_nil_of_length_eq_zero (by rw [size_listB]; exact h))
theorem ret_n {a b : Nat × Bool} (h : a = b) : Ending.returned (.tuple #[.int .i64 (a.1 : Int), .bool a.2]) = .returned (.tuple #[.int .i64 (b.1 : Int), .bool b.2]) := by rw [h]
set_option maxRecDepth 100000 in
set_option maxHeartbeats 2000000 in
theorem number_any (s : ByteArray) (w : World) (hs : s.size ≤ 9223372036854775807) : Calls Tryd.prog 30 #[.string s] w fun e w' => e = .returned (.tuple #[.int .i64 ((numP s.data.toList).1 : Int), .bool (numP s.data.toList).2]) ∧ w' = w := by
  by_cases h0 : s.size = 0
  · obtain rfl := nil_ofB h0
    go_enter Tryd.func30, Tryd.ntmps30
    go_wp2
    go_ret2
    exact ⟨rfl, rfl⟩
  have hne : s.data.toList ≠ [] := fun e => h0 (by rw [← size_listB, e]; rfl)
  have q1 : ¬ s.toList = [] := by rw [ByteArray.toList_eq]; exact hne
  have q2 : s.toList.isEmpty = false := by
    cases hl : s.toList with
    | nil => exact absurd hl q1
    | cons a l => rfl
  have HNE := Lib.hid hne
  have h0l : (0 : Int) < (s.size : Int) := by omega
  have h0n : 0 < s.size := by omega
  clear hne
  by_cases h7 : 7 < s.size
  · have HV := Lib.hid (show numP s.data.toList = (0, false) by unfold numP; rw [if_pos (.inr (.inl (by rw [size_listB]; exact h7)))])
    have h7i : (7 : Int) < (s.size : Int) := by omega
    go_enter Tryd.func30, Tryd.ntmps30
    go_wp2
    go_ret2
    exact ⟨ret_n HV.out.symm, rfl⟩
  have h7i : ¬ (7 : Int) < (s.size : Int) := by omega
  have hd0 : s.data.toList.head? = some s[0] := by
    rw [List.head?_eq_getElem?]
    exact List.getElem?_eq_getElem (by rw [size_listB]; exact h0n)
  by_cases hz : 1 < s.size ∧ s[0] = 48
  · have HV := Lib.hid (show numP s.data.toList = (0, false) by unfold numP; rw [if_pos (.inr (.inr ⟨by rw [size_listB]; exact hz.1, by rw [hd0, hz.2]⟩))])
    have h1i : (1 : Int) < (s.size : Int) := by omega
    have b1 : ((s[0].toNat : Int) == 48) = true := by rw [hz.2]; rfl
    have b2 : (s[0].toNat : Int) = 48 := by rw [hz.2]; rfl
    clear hz hd0
    go_enter Tryd.func30, Tryd.ntmps30
    go_wp2
    go_ret2
    exact ⟨ret_n HV.out.symm, rfl⟩
  have HQ := Lib.hid (show ¬ (s.data.toList = [] ∨ 7 < s.data.toList.length ∨ (1 < s.data.toList.length ∧ s.data.toList.head? = some 48)) from fun e => e.elim HNE.out fun e => e.elim (fun h => h7 (by rw [← size_listB]; exact h)) fun h => hz ⟨by rw [← size_listB]; exact h.1, by have := h.2; rw [hd0] at this; exact Option.some.inj this⟩)
  have hz2 : (1 : Int) < (s.size : Int) → ((s[0].toNat : Int) == 48) = false := fun h => by
    have hx : ¬ s[0] = 48 := fun e => hz ⟨by omega, e⟩
    have : ¬ (s[0].toNat : Int) = 48 := fun e => hx (UInt8.toNat_inj.1 (by show s[0].toNat = 48; omega))
    simpa using this
  clear hz hd0
  have h8 : s.size ≤ 7 := by omega
  by_cases h1 : 1 < s.size
  · have h1i : (1 : Int) < (s.size : Int) := by omega
    have b1 := hz2 h1i
    have b2 : ¬ (s[0].toNat : Int) = 48 := by simpa using b1
    clear hz2
    go_enter Tryd.func30, Tryd.ntmps30
    go_wp2_with fail
    clear b1 b2
    go_loopw [4, 5, 25] (fun s4 _ s25 wr => ∃ k n : Nat, k ≤ s.size ∧ s25 = .int .i64 k ∧ s4 = .int .i64 n ∧ Hid (n = numV (s.data.toList.take k)) ∧ Hid (n < 10 ^ k) ∧ Hid ((s.data.toList.take k).all digB = true) ∧ Hid (wr = w)) (fun _ _ s25 _ => s.size - (intOf s25).toNat)
    case atStart => exact ⟨0, 0, Nat.zero_le _, rfl, rfl, Lib.hid rfl, Lib.hid (by decide), Lib.hid rfl, Lib.hid rfl⟩
    case round =>
      obtain ⟨k, n, hk, rfl, rfl, HN, HP, HA, HW⟩ := hrel
      have k0 : (0 : Int) ≤ (k : Int) := Int.natCast_nonneg _
      have n0 : (0 : Int) ≤ (n : Int) := Int.natCast_nonneg _
      by_cases hlt : k < s.size
      · have hki : (k : Int) < (s.size : Int) := by omega
        have hget : s.data.toList[k]? = some s[k] := List.getElem?_eq_getElem (by rw [size_listB]; exact hlt)
        have hn6 : n < 1000000 := Nat.lt_of_lt_of_le HP.out (Nat.pow_le_pow_right (by decide) (show k ≤ 6 by omega))
        have hn6i : (n : Int) < 1000000 := by omega
        cases hc : digB s[k] with
        | false =>
          have HV := Lib.hid (show numP s.data.toList = (0, false) by unfold numP; rw [if_neg HQ.out, if_pos (all_bad hget hc)])
          have hc2 : s[k].toNat < 48 ∨ (¬ s[k].toNat < 48 ∧ 57 < s[k].toNat) := by
            unfold digB at hc
            rw [Bool.and_eq_false_iff, decide_eq_false_iff_not, decide_eq_false_iff_not] at hc
            omega
          rcases hc2 with h | ⟨h, h'⟩
          · have b1 : (s[k].toNat : Int) < 48 := by omega
            clear hc h
            go_wp2
            go_ret2
            exact ⟨ret_n HV.out.symm, HW.out⟩
          · have b1 : ¬ (s[k].toNat : Int) < 48 := by omega
            have b2 : (57 : Int) < (s[k].toNat : Int) := by omega
            clear hc h h'
            go_wp2
            go_ret2
            exact ⟨ret_n HV.out.symm, HW.out⟩
        | true =>
          have hc2 : 48 ≤ s[k].toNat ∧ s[k].toNat ≤ 57 := by
            unfold digB at hc
            rw [Bool.and_eq_true, decide_eq_true_iff, decide_eq_true_iff] at hc
            exact hc
          have HT := Lib.hid (take_snocB hget)
          have HN2 := Lib.hid (show 10 * n + (s[k].toNat - 48) = numV (s.data.toList.take (k + 1)) by rw [HT.out, numV_snoc, ← HN.out])
          have HP2 := Lib.hid (show 10 * n + (s[k].toNat - 48) < 10 ^ (k + 1) by rw [Nat.pow_succ]; have := HP.out; omega)
          have HA2 := Lib.hid (show (s.data.toList.take (k + 1)).all digB = true by rw [HT.out, List.all_append, HA.out]; simpa using hc)
          obtain ⟨d, hd⟩ : ∃ d : Nat, s[k].toNat = 48 + d := ⟨s[k].toNat - 48, by omega⟩
          have hd9 : d ≤ 9 := by omega
          have HD := Lib.hid (show s[k].toNat - 48 = d by omega)
          rw [HD.out] at HN2 HP2
          have b1 : ¬ (s[k].toNat : Int) < 48 := by omega
          have b2 : ¬ (57 : Int) < (s[k].toNat : Int) := by omega
          have b3 : (s[k].toNat : Int) - 48 = (d : Int) := by omega
          have d0 : (0 : Int) ≤ (d : Int) := Int.natCast_nonneg _
          have d9 : (d : Int) ≤ 9 := by omega
          clear hc hc2 hd HT HD
          go_wp2
          go_roundw
          case rel => exact ⟨k + 1, 10 * n + d, by omega, by go_num, by go_num, HN2, HP2, HA2, HW⟩
          case measure => simp [intOf]; omega
      · obtain rfl : k = s.size := by omega
        have HA2 := all_take (l := s.data.toList) (by rw [size_listB]; exact HA.out)
        have HN2 : n = numV s.data.toList := by rw [HN.out, ← size_listB, List.take_length]
        have hn7 : n < 10000000 := Nat.lt_of_lt_of_le HP.out (Nat.pow_le_pow_right (by decide) h8)
        have hn7i : (n : Int) < 10000000 := by omega
        by_cases hm : 1000000 < n
        · have HV := Lib.hid (show numP s.data.toList = (0, false) by unfold numP; rw [if_neg HQ.out, if_neg (by rw [HA2]; simp), if_pos (by rw [← HN2]; exact hm)])
          have hmi : (1000000 : Int) < (n : Int) := by omega
          clear HN2 HA2 hm
          go_wp2
          go_ret2
          exact ⟨ret_n HV.out.symm, HW.out⟩
        · have HV := Lib.hid (show numP s.data.toList = (n, true) by unfold numP; rw [if_neg HQ.out, if_neg (by rw [HA2]; simp), ← HN2, if_neg hm])
          have hmi : ¬ (1000000 : Int) < (n : Int) := by omega
          clear HN2 HA2 hm
          go_wp2
          go_ret2
          exact ⟨ret_n HV.out.symm, HW.out⟩
  · have h1i : ¬ (1 : Int) < (s.size : Int) := by omega
    clear hz2
    go_enter Tryd.func30, Tryd.ntmps30
    go_wp2_with fail
    go_loopw [4, 5, 25] (fun s4 _ s25 wr => ∃ k n : Nat, k ≤ s.size ∧ s25 = .int .i64 k ∧ s4 = .int .i64 n ∧ Hid (n = numV (s.data.toList.take k)) ∧ Hid (n < 10 ^ k) ∧ Hid ((s.data.toList.take k).all digB = true) ∧ Hid (wr = w)) (fun _ _ s25 _ => s.size - (intOf s25).toNat)
    case atStart => exact ⟨0, 0, Nat.zero_le _, rfl, rfl, Lib.hid rfl, Lib.hid (by decide), Lib.hid rfl, Lib.hid rfl⟩
    case round =>
      obtain ⟨k, n, hk, rfl, rfl, HN, HP, HA, HW⟩ := hrel
      have k0 : (0 : Int) ≤ (k : Int) := Int.natCast_nonneg _
      have n0 : (0 : Int) ≤ (n : Int) := Int.natCast_nonneg _
      by_cases hlt : k < s.size
      · have hki : (k : Int) < (s.size : Int) := by omega
        have hget : s.data.toList[k]? = some s[k] := List.getElem?_eq_getElem (by rw [size_listB]; exact hlt)
        have hn6 : n < 1000000 := Nat.lt_of_lt_of_le HP.out (Nat.pow_le_pow_right (by decide) (show k ≤ 6 by omega))
        have hn6i : (n : Int) < 1000000 := by omega
        cases hc : digB s[k] with
        | false =>
          have HV := Lib.hid (show numP s.data.toList = (0, false) by unfold numP; rw [if_neg HQ.out, if_pos (all_bad hget hc)])
          have hc2 : s[k].toNat < 48 ∨ (¬ s[k].toNat < 48 ∧ 57 < s[k].toNat) := by
            unfold digB at hc
            rw [Bool.and_eq_false_iff, decide_eq_false_iff_not, decide_eq_false_iff_not] at hc
            omega
          rcases hc2 with h | ⟨h, h'⟩
          · have b1 : (s[k].toNat : Int) < 48 := by omega
            clear hc h
            go_wp2
            go_ret2
            exact ⟨ret_n HV.out.symm, HW.out⟩
          · have b1 : ¬ (s[k].toNat : Int) < 48 := by omega
            have b2 : (57 : Int) < (s[k].toNat : Int) := by omega
            clear hc h h'
            go_wp2
            go_ret2
            exact ⟨ret_n HV.out.symm, HW.out⟩
        | true =>
          have hc2 : 48 ≤ s[k].toNat ∧ s[k].toNat ≤ 57 := by
            unfold digB at hc
            rw [Bool.and_eq_true, decide_eq_true_iff, decide_eq_true_iff] at hc
            exact hc
          have HT := Lib.hid (take_snocB hget)
          have HN2 := Lib.hid (show 10 * n + (s[k].toNat - 48) = numV (s.data.toList.take (k + 1)) by rw [HT.out, numV_snoc, ← HN.out])
          have HP2 := Lib.hid (show 10 * n + (s[k].toNat - 48) < 10 ^ (k + 1) by rw [Nat.pow_succ]; have := HP.out; omega)
          have HA2 := Lib.hid (show (s.data.toList.take (k + 1)).all digB = true by rw [HT.out, List.all_append, HA.out]; simpa using hc)
          obtain ⟨d, hd⟩ : ∃ d : Nat, s[k].toNat = 48 + d := ⟨s[k].toNat - 48, by omega⟩
          have hd9 : d ≤ 9 := by omega
          have HD := Lib.hid (show s[k].toNat - 48 = d by omega)
          rw [HD.out] at HN2 HP2
          have b1 : ¬ (s[k].toNat : Int) < 48 := by omega
          have b2 : ¬ (57 : Int) < (s[k].toNat : Int) := by omega
          have b3 : (s[k].toNat : Int) - 48 = (d : Int) := by omega
          have d0 : (0 : Int) ≤ (d : Int) := Int.natCast_nonneg _
          have d9 : (d : Int) ≤ 9 := by omega
          clear hc hc2 hd HT HD
          go_wp2
          go_roundw
          case rel => exact ⟨k + 1, 10 * n + d, by omega, by go_num, by go_num, HN2, HP2, HA2, HW⟩
          case measure => simp [intOf]; omega
      · obtain rfl : k = s.size := by omega
        have HA2 := all_take (l := s.data.toList) (by rw [size_listB]; exact HA.out)
        have HN2 : n = numV s.data.toList := by rw [HN.out, ← size_listB, List.take_length]
        have hn7 : n < 10000000 := Nat.lt_of_lt_of_le HP.out (Nat.pow_le_pow_right (by decide) h8)
        have hn7i : (n : Int) < 10000000 := by omega
        by_cases hm : 1000000 < n
        · have HV := Lib.hid (show numP s.data.toList = (0, false) by unfold numP; rw [if_neg HQ.out, if_neg (by rw [HA2]; simp), if_pos (by rw [← HN2]; exact hm)])
          have hmi : (1000000 : Int) < (n : Int) := by omega
          clear HN2 HA2 hm
          go_wp2
          go_ret2
          exact ⟨ret_n HV.out.symm, HW.out⟩
        · have HV := Lib.hid (show numP s.data.toList = (n, true) by unfold numP; rw [if_neg HQ.out, if_neg (by rw [HA2]; simp), ← HN2, if_neg hm])
          have hmi : ¬ (1000000 : Int) < (n : Int) := by omega
          clear HN2 HA2 hm
          go_wp2
          go_ret2
          exact ⟨ret_n HV.out.symm, HW.out⟩
end Go.Proofs.YtanjcjnkppnhcaaDoor
