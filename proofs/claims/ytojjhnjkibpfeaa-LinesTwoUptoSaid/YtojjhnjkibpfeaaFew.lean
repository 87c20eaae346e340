/-
  Contracts of Whole, Prefix, Suffix, Join, Equal and the document's Equal.
-/
import Derived.Test.YtojjhnjkibpfeaaSplitRef
import Derived.Test.YtojjhnjkibpfeaaShelf
import Derived.BigQuiet
import Derived.Deep.QuietTactic
namespace Go.Proofs.Ytojjhnjkibpfeaa
open Go.RowKit

set_option maxHeartbeats 1000000 in
theorem whole_any (w : World) (s : ByteArray) (hs : s.size ≤ 1000000) :
    Calls Try.prog 11 #[.string s] w fun e w' => e = .returned (.bool (wholeL s.data.toList)) ∧ w = w' := by
  have hsz : s.data.toList.length = s.size := by rw [Array.length_toList]; rfl
  by_cases h0 : s.size = 0
  · have e : s = ⟨#[]⟩ := by
      have : s.data.toList = [] := List.eq_nil_of_length_eq_zero (by omega)
      cases s
      simp at this
      simp [this]
    subst e
    go_enter Try.func11, Try.ntmps11
    go_wp2
    go_ret
    exact ⟨rfl, rfl⟩
  · have hlast : s.data.toList.getLast? = some s[s.size - 1] := by
      rw [List.getLast?_eq_getElem?, hsz]
      exact List.getElem?_eq_getElem (by omega)
    have hw : wholeL s.data.toList = (s[s.size - 1] == 10) := by simp [wholeL, hlast]
    have HW := Lib.hid hw
    have hne : ¬ s.toList = [] := by
      rw [ByteArray.toList_eq]
      intro e
      rw [e] at hsz
      exact h0 hsz.symm
    have hne2 : s.toList.isEmpty = false := by rw [List.isEmpty_eq_false_iff]; exact hne
    clear hw hlast
    obtain ⟨n, hn⟩ : ∃ n, s.size = n + 1 := ⟨s.size - 1, by omega⟩
    go_enter Try.func11, Try.ntmps11
    go_wp2
    go_ret
    refine ⟨?_, rfl⟩
    rw [HW.out]
    simp only [hn, Nat.add_sub_cancel]
    have : (((s[n].toNat : Nat) : Int) == 10) = (s[n] == 10) := by
      rw [Bool.eq_iff_iff, beq_iff_eq, beq_iff_eq, ← UInt8.toNat_inj]
      show ((s[n].toNat : Nat) : Int) = 10 ↔ s[n].toNat = 10
      omega
    rw [← this]
    simp

/-- How many of two rows are the same, from the front on. -/
def IsPre (xs ys : List ByteArray) (k : Nat) : Prop := k ≤ xs.length ∧ k ≤ ys.length ∧ (∀ i, i < k → xs[i]? = ys[i]?) ∧ (k < xs.length → k < ys.length → xs[k]? ≠ ys[k]?)

def Num (P : Nat → Prop) (w : World) (e : Ending) (w' : World) : Prop := ∃ n q : Nat, P n ∧ e = .returned (.int .i64 n) ∧ w' = w.drewN q

theorem Strs.cell {w : World} {A : Option Addr} {n c : Nat} {ss : List ByteArray} (h : Strs w (.slice A n c) ss) {k : Nat} (hk : k < n) :
    ∃ (ad : Addr) (s : ByteArray), A = some ad ∧ ss[k]? = some s ∧ w.cell? (ad.add k) = some (.string s) := by
  obtain ⟨A', c', hv, h1, h2, h3, h4⟩ := h
  injection hv with e1 e2 e3
  subst e1; subst e3
  cases A with
  | none => have := h3 rfl; omega
  | some ad =>
    have hl : k < ss.length := by omega
    exact ⟨ad, ss[k], rfl, List.getElem?_eq_getElem hl, h4 ad rfl k _ (List.getElem?_eq_getElem hl)⟩

theorem Strs.len {w : World} {A : Option Addr} {n c : Nat} {ss : List ByteArray} (h : Strs w (.slice A n c) ss) : n = ss.length ∧ n ≤ c ∧ c ≤ maxLen := by
  obtain ⟨A', c', hv, h1, h2, h3, h4⟩ := h
  injection hv with e1 e2 e3
  subst e3
  exact ⟨e2, by omega, h2⟩

theorem Strs.form {w : World} {v : Value} {ss : List ByteArray} (h : Strs w v ss) : ∃ A n c, v = .slice A n c := by
  obtain ⟨A, c, hv, _⟩ := h
  exact ⟨_, _, _, hv⟩

set_option maxRecDepth 100000 in
set_option maxHeartbeats 2000000 in
theorem prefix_any (w : World) (v u : Value) (xs ys : List ByteArray) (h : Strs w v xs) (g : Strs w u ys) :
    Calls Try.prog 15 #[v, u] w (Num (IsPre xs ys) w) := by
  obtain ⟨A, n, c, rfl⟩ := h.form
  obtain ⟨B, m, d, rfl⟩ := g.form
  have hn := h.len
  have gn := g.len
  have hb1 : n ≤ 9223372036854775807 := by have := hn.2; unfold maxLen at this; omega
  have hb2 : m ≤ 9223372036854775807 := by have := gn.2; unfold maxLen at this; omega
  have H := fun k (hk : k < n) => h.cell hk
  have HH := Lib.hid H
  have G := fun k (hk : k < m) => g.cell hk
  have GG := Lib.hid G
  have HN := Lib.hid hn.1
  have GN := Lib.hid gn.1
  clear H G h g hn gn
  go_enter Try.func15, Try.ntmps15
  go_wp2
  go_loopw [5] (fun i wr => ∃ k q : Nat, k ≤ n ∧ k ≤ m ∧ i = .int .i64 k ∧ Hid (∀ i, i < k → xs[i]? = ys[i]?) ∧ wr = w.drewN q) (fun i _ => n - (intOf i).toNat)
  case atStart => exact ⟨0, 0, Nat.zero_le _, Nat.zero_le _, rfl, fun i hi => absurd hi (by omega), rfl⟩
  case round =>
    obtain ⟨k, q, hk1, hk2, rfl, hp, rfl⟩ := hrel
    have hi0 : (0 : Int) ≤ (k : Int) := Int.natCast_nonneg _
    by_cases h1 : k < n
    · by_cases h2 : k < m
      · obtain ⟨a, x, rfl, hx, hc1⟩ := HH.out k h1
        obtain ⟨b, y, rfl, hy, hc2⟩ := GG.out k h2
        have hi1 : (k : Int) < (n : Int) := by omega
        have hi2 : (k : Int) < (m : Int) := by omega
        have hi3 : decide ((k : Int) < min (n : Int) (m : Int)) = true := by simp; omega
        have HX := Lib.hid hx
        have HY := Lib.hid hy
        clear hx hy
        have hs : (x.toList == y.toList) = decide (x = y) := by
          rw [ByteArray.toList_eq, ByteArray.toList_eq]
          by_cases e : x = y
          · simp [e]
          · simp [e]
            intro h
            exact e (ByteArray.ext h)
        have HP := Lib.hid hp
        clear hp
        by_cases hxy : x = y
        · subst hxy
          clear hs
          go_wp2_with fail
          go_quiet (fail)
          go_wp2
          go_roundw
          case rel =>
            refine ⟨k + 1, _, by omega, by omega, by go_num, fun i hi => ?_, rfl⟩
            by_cases hik : i < k
            · exact HP.out.out i hik
            · obtain rfl : i = k := by omega
              rw [HX.out, HY.out]
          case measure => simp [intOf]; omega
        · rw [decide_eq_false hxy] at hs
          go_wp2_with fail
          go_quiet (fail)
          go_wp2
          go_ret
          refine ⟨k, _, ⟨by rw [← HN.out]; omega, by rw [← GN.out]; omega, HP.out.out, fun _ _ => ?_⟩, rfl, World.drewN_drewN _ _ _⟩
          rw [HX.out, HY.out]
          simpa using hxy
      · have hi3 : decide ((k : Int) < min (n : Int) (m : Int)) = false := by simp; omega
        have HP := Lib.hid hp
        clear hp
        go_wp2_with fail
        go_quiet (fail)
        go_wp2
        go_ret
        exact ⟨k, _, ⟨by rw [← HN.out]; omega, by rw [← GN.out]; omega, HP.out.out, fun _ h => by rw [← GN.out] at h; omega⟩, rfl, World.drewN_drewN _ _ _⟩
    · have hi3 : decide ((k : Int) < min (n : Int) (m : Int)) = false := by simp; omega
      have HP := Lib.hid hp
      clear hp
      go_wp2_with fail
      go_quiet (fail)
      go_wp2
      go_ret
      exact ⟨k, _, ⟨by rw [← HN.out]; omega, by rw [← GN.out]; omega, HP.out.out, fun h => by rw [← HN.out] at h; omega⟩, rfl, World.drewN_drewN _ _ _⟩

/-- The same from the end. -/
def IsSuf (xs ys : List ByteArray) (k : Nat) : Prop := k ≤ xs.length ∧ k ≤ ys.length ∧ (∀ i, i < k → xs[xs.length - 1 - i]? = ys[ys.length - 1 - i]?) ∧ (k < xs.length → k < ys.length → xs[xs.length - 1 - k]? ≠ ys[ys.length - 1 - k]?)

set_option maxRecDepth 100000 in
set_option maxHeartbeats 2000000 in
theorem suffix_any (w : World) (v u : Value) (xs ys : List ByteArray) (h : Strs w v xs) (g : Strs w u ys) :
    Calls Try.prog 16 #[v, u] w (Num (IsSuf xs ys) w) := by
  obtain ⟨A, n, c, rfl⟩ := h.form
  obtain ⟨B, m, d, rfl⟩ := g.form
  have hn := h.len
  have gn := g.len
  have hb1 : n ≤ 9223372036854775807 := by have := hn.2; unfold maxLen at this; omega
  have hb2 : m ≤ 9223372036854775807 := by have := gn.2; unfold maxLen at this; omega
  have H := fun k (hk : k < n) => h.cell hk
  have HH := Lib.hid H
  have G := fun k (hk : k < m) => g.cell hk
  have GG := Lib.hid G
  have HN := Lib.hid hn.1
  have GN := Lib.hid gn.1
  clear H G h g hn gn
  go_enter Try.func16, Try.ntmps16
  go_wp2
  go_loopw [5] (fun i wr => ∃ k q : Nat, k ≤ n ∧ k ≤ m ∧ i = .int .i64 k ∧ Hid (∀ i, i < k → xs[xs.length - 1 - i]? = ys[ys.length - 1 - i]?) ∧ wr = w.drewN q) (fun i _ => n - (intOf i).toNat)
  case atStart => exact ⟨0, 0, Nat.zero_le _, Nat.zero_le _, rfl, fun i hi => absurd hi (by omega), rfl⟩
  case round =>
    obtain ⟨k, q, hk1, hk2, rfl, hp, rfl⟩ := hrel
    have hi0 : (0 : Int) ≤ (k : Int) := Int.natCast_nonneg _
    by_cases h1 : k < n
    · by_cases h2 : k < m
      · obtain ⟨p1, hp1⟩ : ∃ p1, n = p1 + 1 + k := ⟨n - 1 - k, by omega⟩
        obtain ⟨p2, hp2⟩ : ∃ p2, m = p2 + 1 + k := ⟨m - 1 - k, by omega⟩
        obtain ⟨a, x, rfl, hx, hc1⟩ := HH.out p1 (by omega)
        obtain ⟨b, y, rfl, hy, hc2⟩ := GG.out p2 (by omega)
        have hi1 : (n : Int) - 1 - (k : Int) = (p1 : Int) := by omega
        have hi2 : (m : Int) - 1 - (k : Int) = (p2 : Int) := by omega
        have hj1 : (p1 : Int) < (n : Int) := by omega
        have hj2 : (p2 : Int) < (m : Int) := by omega
        have hj3 : (0 : Int) ≤ (p1 : Int) := by omega
        have hj4 : (0 : Int) ≤ (p2 : Int) := by omega
        have HP1 := Lib.hid hp1
        have HP2 := Lib.hid hp2
        clear hp1 hp2
        have hi3 : decide ((k : Int) < min (n : Int) (m : Int)) = true := by simp; omega
        have HX := Lib.hid hx
        have HY := Lib.hid hy
        clear hx hy
        have hs : (x.toList == y.toList) = decide (x = y) := by
          rw [ByteArray.toList_eq, ByteArray.toList_eq]
          by_cases e : x = y
          · simp [e]
          · simp [e]
            intro h
            exact e (ByteArray.ext h)
        have HP := Lib.hid hp
        clear hp
        by_cases hxy : x = y
        · subst hxy
          clear hs
          go_wp2_with fail
          go_quiet (fail)
          go_wp2
          go_roundw
          case rel =>
            refine ⟨k + 1, _, by omega, by omega, by go_num, fun i hi => ?_, rfl⟩
            by_cases hik : i < k
            · exact HP.out.out i hik
            · obtain rfl : i = k := by omega
              rw [← HN.out, ← GN.out, show n - 1 - i = p1 by have := HP1.out; omega, show m - 1 - i = p2 by have := HP2.out; omega, HX.out, HY.out]
          case measure => simp [intOf]; omega
        · rw [decide_eq_false hxy] at hs
          go_wp2_with fail
          go_quiet (fail)
          go_wp2
          go_ret
          refine ⟨k, _, ⟨by rw [← HN.out]; omega, by rw [← GN.out]; omega, HP.out.out, fun _ _ => ?_⟩, rfl, World.drewN_drewN _ _ _⟩
          rw [← HN.out, ← GN.out, show n - 1 - k = p1 by have := HP1.out; omega, show m - 1 - k = p2 by have := HP2.out; omega, HX.out, HY.out]
          simpa using hxy
      · have hi3 : decide ((k : Int) < min (n : Int) (m : Int)) = false := by simp; omega
        have HP := Lib.hid hp
        clear hp
        go_wp2_with fail
        go_quiet (fail)
        go_wp2
        go_ret
        exact ⟨k, _, ⟨by rw [← HN.out]; omega, by rw [← GN.out]; omega, HP.out.out, fun _ h => by rw [← GN.out] at h; omega⟩, rfl, World.drewN_drewN _ _ _⟩
    · have hi3 : decide ((k : Int) < min (n : Int) (m : Int)) = false := by simp; omega
      have HP := Lib.hid hp
      clear hp
      go_wp2_with fail
      go_quiet (fail)
      go_wp2
      go_ret
      exact ⟨k, _, ⟨by rw [← HN.out]; omega, by rw [← GN.out]; omega, HP.out.out, fun h => by rw [← HN.out] at h; omega⟩, rfl, World.drewN_drewN _ _ _⟩

end Go.Proofs.Ytojjhnjkibpfeaa
