/-
  Contracts of Equal, Texts and Join, where both sides have the same strings: true.
-/
import Derived.Test.YtojjhnjkibpfeaaFew
namespace Go.Proofs.Ytojjhnjkibpfeaa
open Go.RowKit

/-- true; at most draws. -/
def Yes (w : World) (e : Ending) (w' : World) : Prop := ∃ n, e = .returned (.bool true) ∧ w' = w.drewN n

/-- The same cell in both, where both are of one list. -/
theorem Strs.both {w : World} {A B : Option Addr} {n c m d : Nat} {ss : List ByteArray} (h : Strs w (.slice A n c) ss) (g : Strs w (.slice B m d) ss) {k : Nat} (hk : k < n) :
    ∃ (a b : Addr) (s : ByteArray), A = some a ∧ B = some b ∧ w.cell? (a.add k) = some (.string s) ∧ w.cell? (b.add k) = some (.string s) := by
  obtain ⟨a, s, hA, hs, hc⟩ := h.cell hk
  obtain ⟨b, s', hB, hs', hc'⟩ := g.cell (k := k) (by have := h.len; have := g.len; omega)
  rw [hs] at hs'
  cases hs'
  exact ⟨a, b, s, hA, hB, hc, hc'⟩

set_option maxHeartbeats 2000000 in
theorem equal_yes (w : World) (v u : Value) (ss : List ByteArray) (h : Strs w v ss) (g : Strs w u ss) :
    Calls Try.prog 27 #[v, u] w (Yes w) := by
  obtain ⟨A, n, c, rfl⟩ := h.form
  obtain ⟨B, m, d, rfl⟩ := g.form
  obtain rfl : m = n := by have := h.len; have := g.len; omega
  have hb : m ≤ 9223372036854775807 := by have := h.len; unfold maxLen at this; omega
  have H := fun k (hk : k < m) => h.both g (k := k) hk
  have HH := Lib.hid H
  clear H h g
  go_enter Try.func27, Try.ntmps27
  go_wp2
  go_loopw [5, 13] (fun _ i wr => ∃ k q : Nat, k ≤ m ∧ i = .int .i64 k ∧ wr = w.drewN q) (fun _ i _ => m - (intOf i).toNat)
  case atStart => exact ⟨0, 0, Nat.zero_le _, rfl, rfl⟩
  case round =>
    obtain ⟨k, q, hk, rfl, rfl⟩ := hrel
    by_cases hlt : k < m
    · obtain ⟨a, b, s, rfl, rfl, hc1, hc2⟩ := HH.out k hlt
      have hi0 : (0 : Int) ≤ (k : Int) := Int.natCast_nonneg _
      have hi1 : (k : Int) < (m : Int) := by omega
      go_wp2_with fail
      go_quiet (fail)
      go_wp2
      go_roundw
      case rel => exact ⟨k + 1, _, by omega, by go_num, rfl⟩
      case measure => simp [intOf]; omega
    · obtain rfl : k = m := by omega
      go_wp2
      go_ret
      exact ⟨q, rfl, rfl⟩

set_option maxHeartbeats 2000000 in
theorem texts_yes (w : World) (v u : Value) (ss : List ByteArray) (h : Strs w v ss) (g : Strs w u ss) :
    Calls Try.prog 25 #[v, u] w (Yes w) := by
  obtain ⟨A, n, c, rfl⟩ := h.form
  obtain ⟨B, m, d, rfl⟩ := g.form
  obtain rfl : m = n := by have := h.len; have := g.len; omega
  have hb : m ≤ 9223372036854775807 := by have := h.len; unfold maxLen at this; omega
  have H := fun k (hk : k < m) => h.both g (k := k) hk
  have HH := Lib.hid H
  clear H h g
  go_enter Try.func25, Try.ntmps25
  go_wp2
  go_loopw [5] (fun i wr => ∃ k q : Nat, k ≤ m ∧ i = .int .i64 k ∧ wr = w.drewN q) (fun i _ => m - (intOf i).toNat)
  case atStart => exact ⟨0, 0, Nat.zero_le _, rfl, rfl⟩
  case round =>
    obtain ⟨k, q, hk, rfl, rfl⟩ := hrel
    by_cases hlt : k < m
    · obtain ⟨a, b, s, rfl, rfl, hc1, hc2⟩ := HH.out k hlt
      have hi0 : (0 : Int) ≤ (k : Int) := Int.natCast_nonneg _
      have hi1 : (k : Int) < (m : Int) := by omega
      go_wp2_with fail
      go_quiet (fail)
      go_wp2
      go_roundw
      case rel => exact ⟨k + 1, _, by omega, by go_num, rfl⟩
      case measure => simp [intOf]; omega
    · obtain rfl : k = m := by omega
      go_wp2
      go_ret
      exact ⟨q, rfl, rfl⟩

set_option maxHeartbeats 2000000 in
theorem refEqual_yes (w : World) (v u : Value) (ss : List ByteArray) (h : Strs w v ss) (g : Strs w u ss) :
    Calls Try.prog 18 #[v, u] w (Yes w) := by
  obtain ⟨A, n, c, rfl⟩ := h.form
  obtain ⟨B, m, d, rfl⟩ := g.form
  obtain rfl : m = n := by have := h.len; have := g.len; omega
  have hb : m ≤ 9223372036854775807 := by have := h.len; unfold maxLen at this; omega
  have H := fun k (hk : k < m) => h.both g (k := k) hk
  have HH := Lib.hid H
  clear H h g
  go_enter Try.func18, Try.ntmps18
  go_wp2
  go_loopw [5] (fun i wr => ∃ k q : Nat, k ≤ m ∧ i = .int .i64 k ∧ wr = w.drewN q) (fun i _ => m - (intOf i).toNat)
  case atStart => exact ⟨0, 0, Nat.zero_le _, rfl, rfl⟩
  case round =>
    obtain ⟨k, q, hk, rfl, rfl⟩ := hrel
    by_cases hlt : k < m
    · obtain ⟨a, b, s, rfl, rfl, hc1, hc2⟩ := HH.out k hlt
      have hi0 : (0 : Int) ≤ (k : Int) := Int.natCast_nonneg _
      have hi1 : (k : Int) < (m : Int) := by omega
      go_wp2_with fail
      go_quiet (fail)
      go_wp2
      go_roundw
      case rel => exact ⟨k + 1, _, by omega, by go_num, rfl⟩
      case measure => simp [intOf]; omega
    · obtain rfl : k = m := by omega
      go_wp2
      go_ret
      exact ⟨q, rfl, rfl⟩


theorem Texts_yes (w : World) (v u : Value) (ss : List ByteArray) (h : Strs w v ss) (g : Strs w u ss) :
    Calls Try.prog 12 #[v, u] w (Yes w) := by
  go_enter Try.func12, Try.ntmps12
  go_wp2_with (go_at_call 25; refine (texts_yes w v u ss h g).mono ?_; rintro e w1 ⟨q, rfl, rfl⟩)
  go_ret
  exact ⟨q, rfl, rfl⟩

theorem linesEqual_yes (w : World) (v u : Value) (ss : List ByteArray) (h : Strs w v ss) (g : Strs w u ss) :
    Calls Try.prog 17 #[v, u] w (Yes w) := by
  go_enter Try.func17, Try.ntmps17
  go_wp2_with (go_at_call 27; refine (equal_yes w v u ss h g).mono ?_; rintro e w1 ⟨q, rfl, rfl⟩)
  go_ret
  exact ⟨q, rfl, rfl⟩

theorem intercalate_none (xs : List (List UInt8)) : Lib.join xs [] = xs.flatten := by
  cases xs with
  | nil => rfl
  | cons x r => rw [Lib.join_cons]; simp [Lib.joinTail]

/-- Join of what the call has made: all bytes, one behind the other. -/
theorem join_own (w : World) (base n : Nat) (v : Value) (ls : List (List UInt8)) (hn : n = ls.length) (h : w.ownsRow base 9 1 v n ((ls.map mk).map Value.string)) (hl : ls.flatten.length ≤ 1000000) (hc : ls.length ≤ 1000000) :
    Calls Try.prog 14 #[v] w fun e w' => e = .returned (.string (mk ls.flatten)) ∧ Below w.heap.size w w' := by
  subst hn
  have hmap : (ls.map mk).map (·.data.toList) = ls := by
    rw [List.map_map]
    conv => rhs; rw [← List.map_id ls]
    apply List.map_congr_left
    intro x _
    simp [mk]
  rcases h.2 with ⟨rfl, h0⟩ | ⟨g, cap, cur, rfl, hb, hg, hnc, hm, hcs, ht⟩
  · have : ls = [] := List.eq_nil_of_length_eq_zero h0
    subst this
    go_enter Try.func14, Try.ntmps14
    go_wp2_with (go_at_call 26; refine (Try.strings_Join_none _ _ _ _).mono ?_; rintro e w1 ⟨rfl, rfl⟩)
    go_ret
    exact ⟨rfl, Below.refl _ _⟩
  · have hcells : ∀ (j : Nat) x, (ls.map mk)[j]? = some x → w.cell? ⟨g, 0 + j, none⟩ = some (.string x) := by
      intro j x hx
      have := h.cells (g := g) rfl j (.string x) (by rw [List.getElem?_map, hx]; rfl)
      rw [Addr.add_lit] at this
      exact this
    have J := Try.strings_Join g 0 cap (ls.map mk) ⟨#[]⟩ w hcells (by have := (Array.getElem?_eq_some_iff.1 hg).1; exact this) (by simp; omega) (by simpa using hnc) (by rw [hmap]; show (Lib.join ls []).length ≤ _; rw [intercalate_none]; omega)
    rw [hmap] at J
    have e : Lib.join ls (⟨#[]⟩ : ByteArray).data.toList = ls.flatten := intercalate_none ls
    rw [e] at J
    simp only [List.length_map] at J
    have JJ := Lib.hid J
    clear J e hmap hcells h
    go_enter Try.func14, Try.ntmps14
    go_wp2_with (go_at_call 26; refine JJ.out.mono ?_; rintro e w1 ⟨rfl, hb1⟩)
    go_ret
    exact ⟨rfl, hb1⟩

end Go.Proofs.Ytojjhnjkibpfeaa
