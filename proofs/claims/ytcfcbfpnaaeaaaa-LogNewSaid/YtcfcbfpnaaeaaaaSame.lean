/-
  Contracts of slices.Equal, texts, Texts and Log.Same, where both sides have the same strings: true.
-/
import Derived.Test.YtcfcbfpnaaeaaaaLog
import Derived.LoopTactic
namespace Go.Proofs.Ytcfcbfpnaaeaaaa
open Go.RowKit

/-- true; at most draws. -/
def Yes (w : World) (e : Ending) (w' : World) : Prop := ∃ n, e = .returned (.bool true) ∧ w' = w.drewN n

theorem Strs.cell {w : World} {A : Option Addr} {n c : Nat} {ss : List ByteArray} (h : Strs w (.slice A n c) ss) {k : Nat} (hk : k < n) :
    ∃ (ad : Addr) (s : ByteArray), A = some ad ∧ ss[k]? = some s ∧ w.cell? (ad.add k) = some (.string s) := by
  obtain ⟨A', c', hv, h1, h2, h3, h4⟩ := h
  injection hv with e1 e2 e3
  subst e1; subst e3
  cases A with
  | none => have := h3 rfl; omega
  | some ad =>
    have hl : k < ss.length := by omega
    exact ⟨ad, ss[k], rfl, List.getElem?_eq_getElem hl, h4 ad rfl k _ (List.getElem?_eq_getElem hl)⟩

theorem Strs.len {w : World} {A : Option Addr} {n c : Nat} {ss : List ByteArray} (h : Strs w (.slice A n c) ss) : n = ss.length ∧ n ≤ c ∧ c ≤ maxLen := by
  obtain ⟨A', c', hv, h1, h2, h3, h4⟩ := h
  injection hv with e1 e2 e3
  subst e3
  exact ⟨e2, by omega, h2⟩

theorem Strs.form {w : World} {v : Value} {ss : List ByteArray} (h : Strs w v ss) : ∃ A n c, v = .slice A n c := by
  obtain ⟨A, c, hv, _⟩ := h
  exact ⟨_, _, _, hv⟩

/-- The same cell in both, where both are of one list. -/
theorem Strs.both {w : World} {A B : Option Addr} {n c m d : Nat} {ss : List ByteArray} (h : Strs w (.slice A n c) ss) (g : Strs w (.slice B m d) ss) {k : Nat} (hk : k < n) :
    ∃ (a b : Addr) (s : ByteArray), A = some a ∧ B = some b ∧ w.cell? (a.add k) = some (.string s) ∧ w.cell? (b.add k) = some (.string s) := by
  obtain ⟨a, s, hA, hs, hc⟩ := h.cell hk
  obtain ⟨b, s', hB, hs', hc'⟩ := g.cell (k := k) (by have := h.len; have := g.len; omega)
  rw [hs] at hs'
  cases hs'
  exact ⟨a, b, s, hA, hB, hc, hc'⟩

set_option maxHeartbeats 2000000 in
theorem equal_yes (w : World) (v u : Value) (ss : List ByteArray) (h : Strs w v ss) (g : Strs w u ss) :
    Calls Try.prog 16 #[v, u] w (Yes w) := by
  obtain ⟨A, n, c, rfl⟩ := h.form
  obtain ⟨B, m, d, rfl⟩ := g.form
  obtain rfl : m = n := by have := h.len; have := g.len; omega
  have hb : m ≤ 9223372036854775807 := by have := h.len; unfold maxLen at this; omega
  have H := fun k (hk : k < m) => h.both g (k := k) hk
  have HH := Lib.hid H
  clear H h g
  go_enter Try.func16, Try.ntmps16
  go_wp2
  go_loopw [5, 13] (fun _ i wr => ∃ k q : Nat, k ≤ m ∧ i = .int .i64 k ∧ wr = w.drewN q) (fun _ i _ => m - (intOf i).toNat)
  case atStart => exact ⟨0, 0, Nat.zero_le _, rfl, rfl⟩
  case round =>
    obtain ⟨k, q, hk, rfl, rfl⟩ := hrel
    by_cases hlt : k < m
    · obtain ⟨a, b, s, rfl, rfl, hc1, hc2⟩ := HH.out k hlt
      have hi0 : (0 : Int) ≤ (k : Int) := Int.natCast_nonneg _
      have hi1 : (k : Int) < (m : Int) := by omega
      go_wp2_with fail
      go_quiet (fail)
      go_wp2
      go_roundw
      case rel => exact ⟨k + 1, _, by omega, by go_num, rfl⟩
      case measure => simp [intOf]; omega
    · obtain rfl : k = m := by omega
      go_wp2
      go_ret
      exact ⟨q, rfl, rfl⟩

set_option maxHeartbeats 2000000 in
theorem texts_yes (w : World) (v u : Value) (ss : List ByteArray) (h : Strs w v ss) (g : Strs w u ss) :
    Calls Try.prog 15 #[v, u] w (Yes w) := by
  obtain ⟨A, n, c, rfl⟩ := h.form
  obtain ⟨B, m, d, rfl⟩ := g.form
  obtain rfl : m = n := by have := h.len; have := g.len; omega
  have hb : m ≤ 9223372036854775807 := by have := h.len; unfold maxLen at this; omega
  have H := fun k (hk : k < m) => h.both g (k := k) hk
  have HH := Lib.hid H
  clear H h g
  go_enter Try.func15, Try.ntmps15
  go_wp2
  go_loopw [5] (fun i wr => ∃ k q : Nat, k ≤ m ∧ i = .int .i64 k ∧ wr = w.drewN q) (fun i _ => m - (intOf i).toNat)
  case atStart => exact ⟨0, 0, Nat.zero_le _, rfl, rfl⟩
  case round =>
    obtain ⟨k, q, hk, rfl, rfl⟩ := hrel
    by_cases hlt : k < m
    · obtain ⟨a, b, s, rfl, rfl, hc1, hc2⟩ := HH.out k hlt
      have hi0 : (0 : Int) ≤ (k : Int) := Int.natCast_nonneg _
      have hi1 : (k : Int) < (m : Int) := by omega
      go_wp2_with fail
      go_quiet (fail)
      go_wp2
      go_roundw
      case rel => exact ⟨k + 1, _, by omega, by go_num, rfl⟩
      case measure => simp [intOf]; omega
    · obtain rfl : k = m := by omega
      go_wp2
      go_ret
      exact ⟨q, rfl, rfl⟩

theorem Texts_yes (w : World) (v u : Value) (ss : List ByteArray) (h : Strs w v ss) (g : Strs w u ss) :
    Calls Try.prog 10 #[v, u] w (Yes w) := by
  go_enter Try.func10, Try.ntmps10
  go_wp2_with (go_at_call 15; refine (texts_yes w v u ss h g).mono ?_; rintro e w1 ⟨q, rfl, rfl⟩)
  go_ret
  exact ⟨q, rfl, rfl⟩

/-- Log.Same of two that are alike: true; its two parameters are boxed. -/
def YesB (w : World) (e : Ending) (w' : World) : Prop := e = .returned (.bool true) ∧ Below w.heap.size w w'

theorem below_drewN {B : Nat} {a w : World} (h : Below B a w) (n : Nat) : Below B a (w.drewN n) := ⟨h.os, h.tape, h.output, h.size, h.block⟩

set_option maxHeartbeats 2000000 in
theorem same_yes (w : World) (v u : Value) (back forth : List ByteArray) (h : Log w v back forth) (g : Log w u back forth) :
    Calls Try.prog 11 #[v, u] w (YesB w) := by
  obtain ⟨vb, vf, rfl, hb, hf⟩ := h
  obtain ⟨ub, uf, rfl, gb, gf⟩ := g
  go_enter Try.func11, Try.ntmps11
  go_wp2_with fail
  refine (equal_yes _ vb ub back ((hb.alloc _).alloc _) ((gb.alloc _).alloc _)).mono ?_
  rintro e w1 ⟨q, rfl, rfl⟩
  go_wp2_with fail
  refine (equal_yes _ vf uf forth (((hf.alloc _).alloc _).drewN q) (((gf.alloc _).alloc _).drewN q)).mono ?_
  rintro e w1 ⟨q2, rfl, rfl⟩
  go_wp2
  go_ret
  exact ⟨rfl, below_drewN (((Below.refl w.heap.size w).alloc (Nat.le_refl _) _).alloc (by simp) _) _⟩

end Go.Proofs.Ytcfcbfpnaaeaaaa
