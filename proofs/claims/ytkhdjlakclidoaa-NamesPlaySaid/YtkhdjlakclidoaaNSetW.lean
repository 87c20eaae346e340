/-
  Set at any number (the walk only compares it).
-/
import Derived.Test.YtkhdjlakclidoaaNSet
namespace Go.Proofs.Ytkhdjlakclidoaa
open Go Go.RowKit

set_option maxHeartbeats 4000000 in
theorem set_wide (w : World) (B T : Nat) (v : Value) (l : List Rf) (br s : ByteArray) (d c : Int) (h : Tab w B T v l br d) (hs : s.size ≤ 1000000) :
    Calls Try.prog 9 #[.pointer (some ⟨T, 0, none⟩), .string s, .int .i64 c] w (Did w B T v (setC l s c) (setL l s c) br d) := by
  have HT := Lib.hid h
  clear h
  have G := Lib.hid fun W => good_any s W hs
  cases hg : goodN s with
  | false =>
    rw [hg] at G
    have HC : Hid (setC l s c = 5) := by show setC l s c = 5; unfold setC; rw [hg]; rfl
    have HL : Hid (setL l s c = l) := by show setL l s c = l; unfold setL; rw [HC.out]; rfl
    clear hg
    go_enter Try.func9, Try.ntmps9
    go_wp2_with (go_at_call 22; refine (G.out _).mono ?_; rintro e w' ⟨rfl, rfl⟩)
    go_ret
    rw [HC.out, HL.out]
    exact Did.same HT.out (Below.refl _ _)
  | true =>
    rw [hg] at G
    have HG := Lib.hid hg
    clear hg
    by_cases h1 : c < 1
    · have HC : Hid (setC l s c = 1) := by show setC l s c = 1; unfold setC; rw [HG.out, if_pos rfl, if_pos h1]
      have HL : Hid (setL l s c = l) := by show setL l s c = l; unfold setL; rw [HC.out]; rfl
      go_enter Try.func9, Try.ntmps9
      go_wp2_with (go_at_call 22; refine (G.out _).mono ?_; rintro e w' ⟨rfl, rfl⟩)
      go_ret
      rw [HC.out, HL.out]
      exact Did.same HT.out (Below.refl _ _)
    · have h1' : (1 : Int) ≤ c := by omega
      have hfew := HT.out.few
      have hup := HT.out.up
      cases hh : hasB l s with
      | true =>
        obtain ⟨c0, hx⟩ := has_at hh
        have HC : Hid (setC l s c = 0) := by show setC l s c = 0; unfold setC; rw [HG.out, if_pos rfl, if_neg h1, hh]; rfl
        have HL : Hid (setL l s c = l.set (pos l s) (s, c)) := by show setL l s c = _; unfold setL; rw [HC.out, if_pos rfl]; unfold setR; rw [hh]; rfl
        have HU := Lib.hid (rising_set c hup hh)
        have hlt := has_lt hh
        have F := Lib.hid (find_is w B T v l br s d HT.out _ hh)
        have HX := Lib.hid hx
        clear hh hx hup
        generalize pos l s = k at *
        go_enter Try.func9, Try.ntmps9
        go_wp2_with (first
          | (go_at_call 22; refine (G.out _).mono ?_; rintro e w' ⟨rfl, rfl⟩)
          | (go_at_call 24; refine F.out.mono ?_; rintro e w1 ⟨rfl, hb1⟩; have T1 := HT.out.below hb1; obtain ⟨g, cap, rfl, x0, x1, g0, g1, hn, hmx, hg⟩ := Own.at_ T1.own HX.out; obtain ⟨c0, _, _, f0, _, _⟩ := T1.cells; have HT1 := Lib.hid T1; clear T1))
        go_ret
        have T1 := HT1.out
        have hne := T1.ne
        have hgT : T ≠ g := fun e => hne (by rw [e]; rfl)
        rw [HC.out, HL.out]
        exact ⟨rfl, _, ⟨T1.blk.far hgT _, Own.setAt T1.own HX.out c, T1.lo, by rw [List.length_set]; exact hfew, HU.out⟩,
          (Two.of_below hb1 T _).trans (Two.of_grown (grown_cell _ g _ _) T) (.inl rfl), .inl rfl⟩
      | false =>
        have F := Lib.hid (find_is w B T v l br s d HT.out _ hh)
        by_cases h64 : 64 ≤ l.length
        · have h64i : (64 : Int) ≤ (l.length : Int) := by omega
          have HC : Hid (setC l s c = 4) := by show setC l s c = 4; unfold setC; rw [HG.out, if_pos rfl, if_neg h1, hh, if_neg (by simp), if_pos h64]
          have HL : Hid (setL l s c = l) := by show setL l s c = _; unfold setL; rw [HC.out]; rfl
          clear hh hup
          generalize pos l s = k at *
          go_enter Try.func9, Try.ntmps9
          go_wp2_with (first
            | (go_at_call 22; refine (G.out _).mono ?_; rintro e w' ⟨rfl, rfl⟩)
            | (go_at_call 24; refine F.out.mono ?_; rintro e w1 ⟨rfl, hb1⟩; have T1 := HT.out.below hb1; obtain ⟨A, cap, rfl⟩ := own_form T1.own; obtain ⟨c0, _, _, f0, _, _⟩ := T1.cells; clear T1))
          go_ret
          rw [HC.out, HL.out]
          exact Did.same HT.out hb1
        · have h64i : ¬ (64 : Int) ≤ (l.length : Int) := by omega
          have HC : Hid (setC l s c = 0) := by show setC l s c = 0; unfold setC; rw [HG.out, if_pos rfl, if_neg h1, hh, if_neg (by simp), if_neg h64]
          have HL : Hid (setL l s c = insR l (pos l s) (s, c)) := by show setL l s c = _; unfold setL; rw [HC.out, if_pos rfl]; unfold setR; rw [hh]; rfl
          have HU := Lib.hid (rising_ins c hup hh)
          have hp := pos_le l s
          clear hh hup
          generalize pos l s = k at *
          go_enter Try.func9, Try.ntmps9
          go_wp2_with (first
            | (go_at_call 22; refine (G.out _).mono ?_; rintro e w' ⟨rfl, rfl⟩)
            | (go_at_call 24; refine F.out.mono ?_; rintro e w1 ⟨rfl, hb1⟩; have T1 := HT.out.below hb1; obtain ⟨A, cap, rfl⟩ := own_form T1.own; obtain ⟨c0, _, _, f0, _, _⟩ := T1.cells; have HT1 := Lib.hid T1; have hBw : B ≤ w1.heap.size := Nat.le_trans T1.lo (Nat.le_of_lt T1.blk.lt); clear T1))
          refine (insert_any _ B _ l (s, c) k w1.heap.size (HT1.out.alloc _).own hp (by omega) (Blk.new _ _ _) (fun e => by have := (World.ownsRow.lt HT1.out.own _ e).2; omega) (by simp; omega)).mono ?_
          rintro e w2 ⟨v', rfl, o2, g2, k2⟩
          obtain ⟨A2, cap2, rfl⟩ := own_form o2
          have b2 := (HT1.out.blk.alloc (.cells #[.string s, .int .i64 c] 43)).grown g2 (fun e => HT1.out.ne e.symm)
          have q2 := b2.cell 0
          have p2 := b2.frozen 0
          have Q2 : w2.cell? ⟨T, 0, none⟩ = some (.slice A l.length cap) := q2
          clear q2
          have B2 := Lib.hid b2
          clear b2
          go_wp2_with fail
          go_ret
          have T1 := HT1.out
          have hne2 : T ≠ w1.heap.size := by have := T1.blk.lt; omega
          rw [HC.out, HL.out]
          refine ⟨rfl, _, ⟨by simpa using B2.out.set_ 0 _, ?_, T1.lo, by rw [insR_length _ _ _ hp]; omega, HU.out⟩, ?_, ?_⟩
          · refine o2.kept (grown_cell w2 T 0 _) ?_
            exact .inr (own_blk_ne o2 B2.out (by decide))
          · have t1 := Two.of_below hb1 T (Value.slice A l.length cap).ownBlock
            have t2 := Two.of_below ((Below.refl w1.heap.size w1).alloc (Nat.le_refl _) (.cells #[.string s, .int .i64 c] 43)) T (Value.slice A l.length cap).ownBlock
            have t3 := Two.of_grown g2 T
            exact ((t1.trans t2 (.inl rfl)).trans t3 (.inl rfl)).trans (Two.set w2 T 0 _ _) (.inl rfl)
          · rcases k2 with e | ⟨g, e, hg⟩
            · exact .inl e
            · exact .inr ⟨g, e, by have := hb1.size; simp at hg; omega⟩
end Go.Proofs.Ytkhdjlakclidoaa
