/-
  The contract of the law's own 'Few': what it answers true of has few and short lines.
-/
import Derived.Test.YtdpoeagmeiedcaaDoorDiffKnown
namespace Go.Proofs.YtdpoeagmeiedcaaDoor
open Go.RowKit

structure FewL (xs ys : List ByteArray) : Prop where
  a : xs.length ≤ 300
  b : ys.length ≤ 300
  s : ∀ s ∈ xs, s.size ≤ 300
  t : ∀ s ∈ ys, s.size ≤ 300

def FewSays (w : World) (xs ys : List ByteArray) (e : Ending) (w' : World) : Prop := ∃ b : Bool, e = .returned (.bool b) ∧ (b = true → FewL xs ys) ∧ w = w'

theorem few_no {w : World} {xs ys : List ByteArray} : FewSays w xs ys (.returned (.bool false)) w := ⟨false, rfl, (fun h => by cases h), rfl⟩

theorem few_all {n : Nat} {xs : List ByteArray} (hn : n = xs.length) (h : ∀ i, i < n → ∀ s, xs[i]? = some s → s.size ≤ 300) : ∀ s ∈ xs, s.size ≤ 300 := by
  intro s hs
  obtain ⟨i, hi⟩ := List.mem_iff_getElem?.1 hs
  exact h i (by rw [hn]; exact (List.getElem?_eq_some_iff.1 hi).1) s hi

set_option maxRecDepth 100000 in
set_option maxHeartbeats 2000000 in
theorem few_any (w : World) (v u : Value) (xs ys : List ByteArray) (h : Strs w v xs) (g : Strs w u ys) : Calls Tryd.prog 9 #[v, u] w (FewSays w xs ys) := by
  obtain ⟨A, n, c, rfl⟩ := h.form
  obtain ⟨B, m, d, rfl⟩ := g.form
  have hn := h.len
  have hm := g.len
  have hn2 : n ≤ 9223372036854775807 := by have := hn.2; unfold maxLen at this; omega
  have hm2 : m ≤ 9223372036854775807 := by have := hm.2; unfold maxLen at this; omega
  have H := Lib.hid fun k (hk : k < n) => h.cell hk
  have G := Lib.hid fun k (hk : k < m) => g.cell hk
  have HN := Lib.hid hn.1
  have HM := Lib.hid hm.1
  clear h g hn hm
  by_cases h1 : 300 < n
  · go_enter Tryd.func9, Tryd.ntmps9
    go_wp2
    go_ret
    exact few_no
  by_cases h2 : 300 < m
  · go_enter Tryd.func9, Tryd.ntmps9
    go_wp2
    go_ret
    exact few_no
  by_cases h3 : n ≤ 256
  · by_cases h4 : m ≤ 256
    · have hcast : (n : Int) * (m : Int) = ((n * m : Nat) : Int) := by simp
      have hmul : n * m ≤ 65536 := Nat.mul_le_mul h3 h4
      have hmw : IntKind.i64.wrap ((n : Int) * (m : Int)) = ((n * m : Nat) : Int) := by rw [hcast]; exact IntWalk.i64_in _ (by omega)
      generalize n * m = P at *
      clear hcast
      by_cases h5 : 2500 < P
      · go_enter Tryd.func9, Tryd.ntmps9
        go_wp2
        go_ret
        exact few_no
      · skip
        go_enter Tryd.func9, Tryd.ntmps9
        go_wp2
        go_loop [5] (fun s5 => ∃ k : Nat, k ≤ n ∧ s5 = .int .i64 k ∧ Hid (∀ i, i < k → ∀ s, xs[i]? = some s → s.size ≤ 300)) (fun s5 => n - (intOf s5).toNat)
        case atStart => exact ⟨0, Nat.zero_le _, rfl, fun i hi => absurd hi (by omega)⟩
        case round =>
          obtain ⟨k, hk, rfl, hs⟩ := hrel
          have k0 : (0 : Int) ≤ (k : Int) := Int.natCast_nonneg _
          by_cases hlt : k < n
          · obtain ⟨ad, s, rfl, hxs, hc⟩ := H.out k hlt
            have k1 : (k : Int) < (n : Int) := by omega
            have HX := Lib.hid hxs
            clear hxs
            by_cases hlen : 300 < s.size
            · go_wp2
              go_ret
              exact few_no
            · have hle : s.size ≤ 300 := by omega
              go_wp2
              go_round
              case rel => exact ⟨k + 1, by omega, by go_num, fun i hi t ht => by
                by_cases hik : i < k
                · exact hs.out i hik t ht
                · obtain rfl : i = k := by omega
                  rw [HX.out] at ht
                  cases ht
                  omega⟩
              case measure => simp [intOf]; omega
          · obtain rfl : k = n := by omega
            clear hlt
            go_wp2
            go_loop [6] (fun s6 => ∃ j : Nat, j ≤ m ∧ s6 = .int .i64 j ∧ Hid (∀ i, i < j → ∀ s, ys[i]? = some s → s.size ≤ 300)) (fun s6 => m - (intOf s6).toNat)
            case atStart => exact ⟨0, Nat.zero_le _, rfl, fun i hi => absurd hi (by omega)⟩
            case round =>
              obtain ⟨j, hj, rfl, ht⟩ := hrel
              have j0 : (0 : Int) ≤ (j : Int) := Int.natCast_nonneg _
              by_cases hlt : j < m
              · obtain ⟨ad, s, rfl, hys, hc⟩ := G.out j hlt
                have j1 : (j : Int) < (m : Int) := by omega
                have HY := Lib.hid hys
                clear hys
                by_cases hlen : 300 < s.size
                · go_wp2
                  go_ret
                  exact few_no
                · have hle : s.size ≤ 300 := by omega
                  go_wp2
                  go_round
                  case rel => exact ⟨j + 1, by omega, by go_num, fun i hi t' ht' => by
                    by_cases hik : i < j
                    · exact ht.out i hik t' ht'
                    · obtain rfl : i = j := by omega
                      rw [HY.out] at ht'
                      cases ht'
                      omega⟩
                  case measure => simp [intOf]; omega
              · obtain rfl : j = m := by omega
                go_wp2
                go_ret
                exact ⟨true, rfl, fun _ => ⟨by rw [← HN.out]; omega, by rw [← HM.out]; omega, few_all HN.out hs.out, few_all HM.out ht.out⟩, rfl⟩
    · skip
      go_enter Tryd.func9, Tryd.ntmps9
      go_wp2
      go_loop [5] (fun s5 => ∃ k : Nat, k ≤ n ∧ s5 = .int .i64 k ∧ Hid (∀ i, i < k → ∀ s, xs[i]? = some s → s.size ≤ 300)) (fun s5 => n - (intOf s5).toNat)
      case atStart => exact ⟨0, Nat.zero_le _, rfl, fun i hi => absurd hi (by omega)⟩
      case round =>
        obtain ⟨k, hk, rfl, hs⟩ := hrel
        have k0 : (0 : Int) ≤ (k : Int) := Int.natCast_nonneg _
        by_cases hlt : k < n
        · obtain ⟨ad, s, rfl, hxs, hc⟩ := H.out k hlt
          have k1 : (k : Int) < (n : Int) := by omega
          have HX := Lib.hid hxs
          clear hxs
          by_cases hlen : 300 < s.size
          · go_wp2
            go_ret
            exact few_no
          · have hle : s.size ≤ 300 := by omega
            go_wp2
            go_round
            case rel => exact ⟨k + 1, by omega, by go_num, fun i hi t ht => by
              by_cases hik : i < k
              · exact hs.out i hik t ht
              · obtain rfl : i = k := by omega
                rw [HX.out] at ht
                cases ht
                omega⟩
            case measure => simp [intOf]; omega
        · obtain rfl : k = n := by omega
          clear hlt
          go_wp2
          go_loop [6] (fun s6 => ∃ j : Nat, j ≤ m ∧ s6 = .int .i64 j ∧ Hid (∀ i, i < j → ∀ s, ys[i]? = some s → s.size ≤ 300)) (fun s6 => m - (intOf s6).toNat)
          case atStart => exact ⟨0, Nat.zero_le _, rfl, fun i hi => absurd hi (by omega)⟩
          case round =>
            obtain ⟨j, hj, rfl, ht⟩ := hrel
            have j0 : (0 : Int) ≤ (j : Int) := Int.natCast_nonneg _
            by_cases hlt : j < m
            · obtain ⟨ad, s, rfl, hys, hc⟩ := G.out j hlt
              have j1 : (j : Int) < (m : Int) := by omega
              have HY := Lib.hid hys
              clear hys
              by_cases hlen : 300 < s.size
              · go_wp2
                go_ret
                exact few_no
              · have hle : s.size ≤ 300 := by omega
                go_wp2
                go_round
                case rel => exact ⟨j + 1, by omega, by go_num, fun i hi t' ht' => by
                  by_cases hik : i < j
                  · exact ht.out i hik t' ht'
                  · obtain rfl : i = j := by omega
                    rw [HY.out] at ht'
                    cases ht'
                    omega⟩
                case measure => simp [intOf]; omega
            · obtain rfl : j = m := by omega
              go_wp2
              go_ret
              exact ⟨true, rfl, fun _ => ⟨by rw [← HN.out]; omega, by rw [← HM.out]; omega, few_all HN.out hs.out, few_all HM.out ht.out⟩, rfl⟩
  · skip
    go_enter Tryd.func9, Tryd.ntmps9
    go_wp2
    go_loop [5] (fun s5 => ∃ k : Nat, k ≤ n ∧ s5 = .int .i64 k ∧ Hid (∀ i, i < k → ∀ s, xs[i]? = some s → s.size ≤ 300)) (fun s5 => n - (intOf s5).toNat)
    case atStart => exact ⟨0, Nat.zero_le _, rfl, fun i hi => absurd hi (by omega)⟩
    case round =>
      obtain ⟨k, hk, rfl, hs⟩ := hrel
      have k0 : (0 : Int) ≤ (k : Int) := Int.natCast_nonneg _
      by_cases hlt : k < n
      · obtain ⟨ad, s, rfl, hxs, hc⟩ := H.out k hlt
        have k1 : (k : Int) < (n : Int) := by omega
        have HX := Lib.hid hxs
        clear hxs
        by_cases hlen : 300 < s.size
        · go_wp2
          go_ret
          exact few_no
        · have hle : s.size ≤ 300 := by omega
          go_wp2
          go_round
          case rel => exact ⟨k + 1, by omega, by go_num, fun i hi t ht => by
            by_cases hik : i < k
            · exact hs.out i hik t ht
            · obtain rfl : i = k := by omega
              rw [HX.out] at ht
              cases ht
              omega⟩
          case measure => simp [intOf]; omega
      · obtain rfl : k = n := by omega
        clear hlt
        go_wp2
        go_loop [6] (fun s6 => ∃ j : Nat, j ≤ m ∧ s6 = .int .i64 j ∧ Hid (∀ i, i < j → ∀ s, ys[i]? = some s → s.size ≤ 300)) (fun s6 => m - (intOf s6).toNat)
        case atStart => exact ⟨0, Nat.zero_le _, rfl, fun i hi => absurd hi (by omega)⟩
        case round =>
          obtain ⟨j, hj, rfl, ht⟩ := hrel
          have j0 : (0 : Int) ≤ (j : Int) := Int.natCast_nonneg _
          by_cases hlt : j < m
          · obtain ⟨ad, s, rfl, hys, hc⟩ := G.out j hlt
            have j1 : (j : Int) < (m : Int) := by omega
            have HY := Lib.hid hys
            clear hys
            by_cases hlen : 300 < s.size
            · go_wp2
              go_ret
              exact few_no
            · have hle : s.size ≤ 300 := by omega
              go_wp2
              go_round
              case rel => exact ⟨j + 1, by omega, by go_num, fun i hi t' ht' => by
                by_cases hik : i < j
                · exact ht.out i hik t' ht'
                · obtain rfl : i = j := by omega
                  rw [HY.out] at ht'
                  cases ht'
                  omega⟩
              case measure => simp [intOf]; omega
          · obtain rfl : j = m := by omega
            go_wp2
            go_ret
            exact ⟨true, rfl, fun _ => ⟨by rw [← HN.out]; omega, by rw [← HM.out]; omega, few_all HN.out hs.out, few_all HM.out ht.out⟩, rfl⟩

end Go.Proofs.YtdpoeagmeiedcaaDoor
