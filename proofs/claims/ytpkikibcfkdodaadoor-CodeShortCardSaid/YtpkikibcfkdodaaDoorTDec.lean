/-
  A Dec that ends too early.
-/
import Derived.Test.YtpkikibcfkdodaaDoorTRef
namespace Go.Proofs.YtpkikibcfkdodaaDoor
open Go Go.RowKit

/-- The front of a number, not the whole of it: all its bytes are 128 or more. -/
theorem enc_front : ∀ (k u : Nat), k < (enc u).length → ∀ j b, j < k → (enc u)[j]? = some b → 128 ≤ b.toNat
  | 0, _, _, _, _, h, _ => absurd h (by omega)
  | k + 1, u, hk, j, b, hj, hb => by
    by_cases h : u < 128
    · rw [enc_small h] at hk; simp at hk
    · rw [enc_big h] at hk hb
      cases j with
      | zero =>
        simp only [List.getElem?_cons_zero, Option.some.injEq] at hb
        rw [← hb, UInt8.toNat_ofNat']
        omega
      | succ j =>
        simp only [List.length_cons, List.getElem?_cons_succ] at hk hb
        exact enc_front k (u / 128) (by omega) j b (by omega) hb
/-- All bytes are 128 or more, at most nine. -/
def High (M : List UInt8) : Prop := M.length ≤ 9 ∧ ∀ (j : Nat) (b : UInt8), M[j]? = some b → 128 ≤ b.toNat
theorem enc_high {k u : Nat} (hu : u < 18446744073709551616) (hk : k < (enc u).length) : High ((enc u).take k) := by
  have h10 := enc_len hu
  refine ⟨by rw [List.length_take]; omega, fun j b hj => ?_⟩
  have hlt := (List.getElem?_eq_some_iff.1 hj).1
  rw [List.length_take] at hlt
  rw [List.getElem?_take_of_lt (by omega)] at hj
  exact enc_front k u hk j b (by omega) hj

set_option maxRecDepth 100000 in
set_option maxHeartbeats 2000000 in
theorem num_short (w : World) (A : Option Addr) (c : Nat) (M : List UInt8) (hM : High M) (hr : ∀ j b, M[j]? = some b → ∃ g o, A = some ⟨g, o, none⟩ ∧ w.cell? ⟨g, o + j, none⟩ = some (.int .u8 b.toNat)) :
    Calls Tryd.prog 45 #[.slice A M.length c] w fun e w' => e = .returned (.tuple #[.int .u64 0, .int .i64 0, .int .i64 3]) ∧ w' = w := by
  have HM := Lib.hid hM
  have HR := Lib.hid hr
  have hl := hM.1
  clear hM hr
  go_enter Tryd.func45, Tryd.ntmps45
  go_wp2_with fail
  go_loopw [2, 9] (fun s2 s9 wr => ∃ (k : Nat) (X : Int), s2 = .int .u64 X ∧ s9 = .int .i64 k ∧ wr = w ∧ k ≤ M.length) (fun _ s9 _ => M.length - (intOf s9).toNat)
  case atStart => exact ⟨0, 0, rfl, rfl, rfl, by omega⟩
  case round =>
    obtain ⟨k, X, rfl, rfl, rfl, hk⟩ := hrel
    have k0 : (0 : Int) ≤ (k : Int) := Int.natCast_nonneg _
    rcases Nat.lt_or_ge k M.length with hkl | hkl
    · obtain ⟨b, hb⟩ : ∃ b, M[k]? = some b := ⟨_, List.getElem?_eq_getElem hkl⟩
      obtain ⟨g, o, rfl, x0⟩ := HR.out k b hb
      have b0 := HM.out.2 k b hb
      obtain ⟨y, hy⟩ : ∃ y, y = b.toNat := ⟨_, rfl⟩
      rw [← hy] at x0 b0
      have y1 : (128 : Int) ≤ (y : Int) := by omega
      have k1 : (k : Int) < (M.length : Int) := by omega
      have g9 : ((k : Int) == 9) = false := by simp; omega
      generalize hq : bits .and .u8 (y : Int) 127 = q
      clear hy hb
      go_wp2_with fail
      go_roundw
      case rel => exact ⟨k + 1, _, rfl, by go_num, trivial, hkl⟩
      case measure => simp [intOf]; omega
    · obtain rfl : k = M.length := by omega
      have k1 : ¬ ((M.length : Int) < (M.length : Int)) := by omega
      go_wp2_with fail
      go_ret3
      exact ⟨rfl, rfl⟩
#print axioms num_short
end Go.Proofs.YtpkikibcfkdodaaDoor
