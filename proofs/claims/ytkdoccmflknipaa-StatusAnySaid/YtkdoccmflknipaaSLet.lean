/-
  rectolaw19.letter: from one to another, each a file or none; rectolaw14.Rises: whether a tree rises.
-/
import Derived.Test.YtkdoccmflknipaaSKn
namespace Go.Proofs.Ytkdoccmflknipaa
open Go.RowKit

/-- The letter from one tree to another, by the first file alone. -/
def letS : List Fl → List Fl → Int → Int
  | [], [], _ => 32
  | [], _ :: _, n => n
  | _ :: _, [], _ => 68
  | f :: _, g :: _, _ => if f.2.2 = g.2.2 then 32 else 77

set_option maxHeartbeats 4000000 in
theorem letter_any (w : World) (v u : Value) (a b : List Fl) (n : Int) (h : Reads 3 cF w v a) (g : Reads 3 cF w u b) :
    Calls Try.prog 24 #[v, u, .int .u8 n] w fun e w' => e = .returned (.int .u8 (letS a b n)) ∧ ∃ q, w' = w.drewN q := by
  obtain ⟨A, c, rfl⟩ := h.form
  obtain ⟨B, d, rfl⟩ := g.form
  have hn := h.len
  have gn := g.len
  have hm1 : a.length ≤ 9223372036854775807 := by have := hn.2; unfold maxLen at this; omega
  have hm2 : b.length ≤ 9223372036854775807 := by have := gn.2; unfold maxLen at this; omega
  have HA := Lib.hid h
  have HB := Lib.hid g
  clear h g hn gn
  cases a with
  | nil =>
    cases b with
    | nil =>
      go_enter Try.func24, Try.ntmps24
      go_wp2
      go_ret
      exact ⟨rfl, 0, rfl⟩
    | cons y b =>
      simp only [List.length_cons, List.length_nil] at *
      have e1 : ((b.length + 1 : Nat) : Int) ≠ 0 := by omega
      have e2 : ((((b.length + 1 : Nat) : Int)) == 0) = false := by simpa using e1
      go_enter Try.func24, Try.ntmps24
      go_wp2
      go_ret
      exact ⟨rfl, 0, rfl⟩
  | cons x a =>
    obtain ⟨ad, rfl, c0, c1, c2⟩ := Fils.at_ HA.out (i := 0) rfl
    have e1 : (((a.length + 1 : Nat) : Int) == 0) = false := by simp; omega
    have e1' : ¬ ((a.length + 1 : Nat) : Int) = 0 := by omega
    cases b with
    | nil =>
      simp only [List.length_cons, List.length_nil] at *
      go_enter Try.func24, Try.ntmps24
      go_wp2
      go_ret
      exact ⟨rfl, 0, rfl⟩
    | cons y b =>
      obtain ⟨ad2, rfl, d0, d1, d2⟩ := Fils.at_ HB.out (i := 0) rfl
      have e2 : (((b.length + 1 : Nat) : Int) == 0) = false := by simp; omega
      have e2' : ¬ ((b.length + 1 : Nat) : Int) = 0 := by omega
      obtain ⟨p, m, s⟩ := x
      obtain ⟨p2, m2, s2⟩ := y
      have a0 : ad.add (0 * 3) = ad := by simp [Addr.add]
      have b0 : ad2.add (0 * 3) = ad2 := by simp [Addr.add]
      rw [a0] at c0 c1 c2
      rw [b0] at d0 d1 d2
      simp only [List.length_cons] at *
      by_cases hs : s = s2
      · subst hs
        go_enter Try.func24, Try.ntmps24
        go_wp2_with fail
        go_quiet (fail)
        go_wp2
        go_ret
        exact ⟨by simp [letS], _, rfl⟩
      · have hsb : (s.toList == s2.toList) = false := by rw [bytes_beq]; exact decide_eq_false hs
        have hsn : (s.toList != s2.toList) = true := by rw [bne, hsb]; rfl
        have HS := Lib.hid hs
        go_enter Try.func24, Try.ntmps24
        go_wp2_with fail
        go_quiet (fail)
        go_wp2
        go_ret
        exact ⟨by simp [letS, HS.out], _, rfl⟩
end Go.Proofs.Ytkdoccmflknipaa
