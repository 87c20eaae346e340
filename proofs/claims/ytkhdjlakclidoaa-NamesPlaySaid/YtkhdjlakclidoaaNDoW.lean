/-
  Swap and Move at any numbers (the walks only compare them).
-/
import Derived.Test.YtkhdjlakclidoaaNDo2
import Derived.Test.YtkhdjlakclidoaaNSetW
namespace Go.Proofs.Ytkhdjlakclidoaa
open Go Go.RowKit

set_option maxHeartbeats 4000000 in
theorem swap_wide (w : World) (B T : Nat) (v : Value) (l : List Rf) (br s : ByteArray) (d f t : Int) (h : Tab w B T v l br d) (hs : s.size ≤ 1000000) :
    Calls Try.prog 10 #[.pointer (some ⟨T, 0, none⟩), .string s, .int .i64 f, .int .i64 t] w (Did w B T v (swC l br s f t) (swL l br s f t) br d) := by
  have HT := Lib.hid h
  clear h
  have G := Lib.hid fun W => good_any s W hs
  cases hg : goodN s with
  | false =>
    rw [hg] at G
    have HC : Hid (swC l br s f t = 5) := by show swC l br s f t = 5; unfold swC; rw [hg]; rfl
    have HL : Hid (swL l br s f t = l) := by show swL l br s f t = l; unfold swL; rw [hg]; rfl
    clear hg
    go_enter Try.func10, Try.ntmps10
    go_wp2_with (go_at_call 22; refine (G.out _).mono ?_; rintro e w' ⟨rfl, rfl⟩)
    go_ret
    rw [HC.out, HL.out]
    exact Did.same HT.out (Below.refl _ _)
  | true =>
    rw [hg] at G
    by_cases hn : f < 0 ∨ t < 0
    · have HC : Hid (swC l br s f t = 1) := by show swC l br s f t = 1; unfold swC; rw [hg, if_pos rfl]; rcases hn with h | h <;> simp [h]
      have HL : Hid (swL l br s f t = l) := by show swL l br s f t = l; unfold swL; rw [hg, if_pos rfl]; rcases hn with h | h <;> simp [h]
      clear hg
      by_cases hf : f < 0
      · clear hn
        go_enter Try.func10, Try.ntmps10
        go_wp2_with (go_at_call 22; refine (G.out _).mono ?_; rintro e w' ⟨rfl, rfl⟩)
        go_ret
        rw [HC.out, HL.out]
        exact Did.same HT.out (Below.refl _ _)
      · have ht : t < 0 := by omega
        clear hn
        go_enter Try.func10, Try.ntmps10
        go_wp2_with (go_at_call 22; refine (G.out _).mono ?_; rintro e w' ⟨rfl, rfl⟩)
        go_ret
        rw [HC.out, HL.out]
        exact Did.same HT.out (Below.refl _ _)
    · have hf : ¬ f < 0 := by omega
      have ht : ¬ t < 0 := by omega
      clear hn
      obtain ⟨c, hc⟩ : ∃ c, getC l s = c := ⟨_, rfl⟩
      obtain ⟨b, hb⟩ : ∃ b, hasB l s = b := ⟨_, rfl⟩
      have Q := Lib.hid (get_is w B T v l br s d HT.out c b hc hb)
      by_cases hcf : c = f
      · by_cases h0 : 0 < t
        · have HC : Hid (swC l br s f t = setC l s t) := by show swC l br s f t = _; unfold swC; rw [hg, if_pos rfl, if_neg hf, if_neg ht, hc, if_pos hcf, if_pos h0]
          have HL : Hid (swL l br s f t = setL l s t) := by show swL l br s f t = _; unfold swL; rw [hg, if_pos rfl, if_neg hf, if_neg ht, hc, if_pos hcf, if_pos h0]
          subst hcf
          clear hg hc hb
          go_enter Try.func10, Try.ntmps10
          go_wp2_with (first | (go_at_call 22; refine (G.out _).mono ?_; rintro e w' ⟨rfl, rfl⟩) | (go_at_call 20; refine Q.out.mono ?_; rintro e w1 ⟨rfl, hb1⟩))
          refine (set_wide _ B T v l br s d t (HT.out.below hb1) hs).mono ?_
          intro e w2 hD
          have HD := Lib.hid (Did.after hb1 hD HT.out)
          obtain ⟨rfl, _⟩ := hD
          go_wp2_with fail
          go_ret
          rw [HC.out, HL.out]
          exact HD.out
        · by_cases h1 : 0 < f
          · have HC : Hid (swC l br s f t = delC l s br) := by show swC l br s f t = _; unfold swC; rw [hg, if_pos rfl, if_neg hf, if_neg ht, hc, if_pos hcf, if_neg h0, if_pos h1]
            have HL : Hid (swL l br s f t = delL l s br) := by show swL l br s f t = _; unfold swL; rw [hg, if_pos rfl, if_neg hf, if_neg ht, hc, if_pos hcf, if_neg h0, if_pos h1]
            subst hcf
            clear hg hc hb
            go_enter Try.func10, Try.ntmps10
            go_wp2_with (first | (go_at_call 22; refine (G.out _).mono ?_; rintro e w' ⟨rfl, rfl⟩) | (go_at_call 20; refine Q.out.mono ?_; rintro e w1 ⟨rfl, hb1⟩))
            refine (del_any _ B T v l br s d (HT.out.below hb1)).mono ?_
            intro e w2 hD
            have HD := Lib.hid (Did.after hb1 hD HT.out)
            obtain ⟨rfl, _⟩ := hD
            go_wp2_with fail
            go_ret
            rw [HC.out, HL.out]
            exact HD.out
          · have HC : Hid (swC l br s f t = 0) := by show swC l br s f t = _; unfold swC; rw [hg, if_pos rfl, if_neg hf, if_neg ht, hc, if_pos hcf, if_neg h0, if_neg h1]
            have HL : Hid (swL l br s f t = l) := by show swL l br s f t = _; unfold swL; rw [hg, if_pos rfl, if_neg hf, if_neg ht, hc, if_pos hcf, if_neg h0, if_neg h1]
            subst hcf
            clear hg hc hb
            go_enter Try.func10, Try.ntmps10
            go_wp2_with (first | (go_at_call 22; refine (G.out _).mono ?_; rintro e w' ⟨rfl, rfl⟩) | (go_at_call 20; refine Q.out.mono ?_; rintro e w1 ⟨rfl, hb1⟩))
            go_ret
            rw [HC.out, HL.out]
            exact Did.same HT.out hb1
      · have HC : Hid (swC l br s f t = 7) := by show swC l br s f t = _; unfold swC; rw [hg, if_pos rfl, if_neg hf, if_neg ht, hc, if_neg hcf]
        have HL : Hid (swL l br s f t = l) := by show swL l br s f t = _; unfold swL; rw [hg, if_pos rfl, if_neg hf, if_neg ht, hc, if_neg hcf]
        have hcf2 : (c == f) = false := by rw [beq_eq_false_iff_ne]; exact hcf
        clear hg hc hb
        go_enter Try.func10, Try.ntmps10
        go_wp2_with (first | (go_at_call 22; refine (G.out _).mono ?_; rintro e w' ⟨rfl, rfl⟩) | (go_at_call 20; refine Q.out.mono ?_; rintro e w1 ⟨rfl, hb1⟩))
        go_ret
        rw [HC.out, HL.out]
        exact Did.same HT.out hb1

theorem move_wide (w : World) (B T : Nat) (v : Value) (l : List Rf) (br : ByteArray) (d c : Int) (h : Tab w B T v l br d) (hs : br.size ≤ 1000000) :
    Calls Try.prog 14 #[.pointer (some ⟨T, 0, none⟩), .int .i64 c] w (Did w B T v (movC l br c) (movL l br c) br (movD br d c)) := by
  have HT := Lib.hid h
  obtain ⟨_, c1, _, _, f1, _⟩ := h.cells
  clear h
  by_cases h0 : br.size = 0
  · have HC : Hid (movC l br c = detC c) := by show movC l br c = _; unfold movC; rw [if_pos h0]
    have HL : Hid (movL l br c = l) := by show movL l br c = _; unfold movL; rw [if_pos h0]
    have HD : Hid (movD br d c = detD d c) := by show movD br d c = _; unfold movD; rw [if_pos h0]
    obtain rfl := size_zero h0
    have HB : Hid (detB ⟨#[]⟩ c = ⟨#[]⟩) := by show detB ⟨#[]⟩ c = _; unfold detB; split <;> rfl
    clear h0
    go_enter Try.func14, Try.ntmps14
    go_wp2_with fail
    refine (det_any w B T v l ⟨#[]⟩ d c HT.out).mono ?_
    intro e w2 hD
    have HE := Lib.hid hD
    obtain ⟨rfl, _⟩ := hD
    go_wp2_with fail
    go_ret
    rw [HC.out, HL.out, HD.out]
    have := HE.out
    rw [HB.out] at this
    exact this
  · have HC : Hid (movC l br c = setC l br c) := by show movC l br c = _; unfold movC; rw [if_neg h0]
    have HL : Hid (movL l br c = setL l br c) := by show movL l br c = _; unfold movL; rw [if_neg h0]
    have HD : Hid (movD br d c = d) := by show movD br d c = _; unfold movD; rw [if_neg h0]
    have q1 := toList_ne h0
    have q2 : br.toList.isEmpty = false := by rw [List.isEmpty_eq_false_iff]; exact q1
    go_enter Try.func14, Try.ntmps14
    go_wp2_with fail
    refine (set_wide w B T v l br br d c HT.out hs).mono ?_
    intro e w2 hD
    have HE := Lib.hid hD
    obtain ⟨rfl, _⟩ := hD
    go_wp2_with fail
    go_ret
    rw [HC.out, HL.out, HD.out]
    exact HE.out
end Go.Proofs.Ytkhdjlakclidoaa
