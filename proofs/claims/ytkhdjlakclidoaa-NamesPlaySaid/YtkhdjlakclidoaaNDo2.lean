/-
  The methods of a table: Swap, Move, Head, Row.
-/
import Derived.Test.YtkhdjlakclidoaaNDo
namespace Go.Proofs.Ytkhdjlakclidoaa
open Go.RowKit

theorem Did.after {w w1 w2 : World} {B T : Nat} {v : Value} {c : Int} {l l' : List Rf} {br br' : ByteArray} {d d' : Int} {e : Ending} (hb : Below w.heap.size w w1) (h : Did w1 B T v c l' br' d' e w2) (_ : Tab w B T v l br d) : Did w B T v c l' br' d' e w2 := by
  obtain ⟨he, v', ht, h2, hc⟩ := h
  refine ⟨he, v', ht, (Two.of_below hb T v.ownBlock).trans h2 (.inl rfl), ?_⟩
  rcases hc with e | ⟨g, e, hg⟩
  · exact .inl e
  · exact .inr ⟨g, e, Nat.le_trans hb.size hg⟩
theorem get_is (w : World) (B T : Nat) (v : Value) (l : List Rf) (br s : ByteArray) (d : Int) (h : Tab w B T v l br d) (c : Int) (b : Bool) (hc : getC l s = c) (hb : hasB l s = b) :
    Calls Try.prog 20 #[.pointer (some ⟨T, 0, none⟩), .string s] w fun e w' => e = .returned (.tuple #[.int .i64 c, .bool b]) ∧ Below w.heap.size w w' := by
  rw [← hc, ← hb]; exact get_any w B T v l br s d h

def swC (l : List Rf) (br s : ByteArray) (f t : Int) : Int :=
  if goodN s then (if f < 0 then 1 else if t < 0 then 1 else if getC l s = f then (if 0 < t then setC l s t else if 0 < f then delC l s br else 0) else 7) else 5
def swL (l : List Rf) (br s : ByteArray) (f t : Int) : List Rf :=
  if goodN s then (if f < 0 then l else if t < 0 then l else if getC l s = f then (if 0 < t then setL l s t else if 0 < f then delL l s br else l) else l) else l

set_option maxHeartbeats 4000000 in
theorem swap_any (w : World) (B T : Nat) (v : Value) (l : List Rf) (br s : ByteArray) (d f t : Int) (h : Tab w B T v l br d) (hs : s.size ≤ 1000000) (hf0 : -1000000000 ≤ f) (hf1 : f ≤ 1000000000) (ht0 : -1000000000 ≤ t) (ht1 : t ≤ 1000000000) :
    Calls Try.prog 10 #[.pointer (some ⟨T, 0, none⟩), .string s, .int .i64 f, .int .i64 t] w (Did w B T v (swC l br s f t) (swL l br s f t) br d) := by
  have HT := Lib.hid h
  clear h
  have G := Lib.hid fun W => good_any s W hs
  cases hg : goodN s with
  | false =>
    rw [hg] at G
    have HC : Hid (swC l br s f t = 5) := by show swC l br s f t = 5; unfold swC; rw [hg]; rfl
    have HL : Hid (swL l br s f t = l) := by show swL l br s f t = l; unfold swL; rw [hg]; rfl
    clear hg
    go_enter Try.func10, Try.ntmps10
    go_wp2_with (go_at_call 22; refine (G.out _).mono ?_; rintro e w' ⟨rfl, rfl⟩)
    go_ret
    rw [HC.out, HL.out]
    exact Did.same HT.out (Below.refl _ _)
  | true =>
    rw [hg] at G
    by_cases hn : f < 0 ∨ t < 0
    · have HC : Hid (swC l br s f t = 1) := by show swC l br s f t = 1; unfold swC; rw [hg, if_pos rfl]; rcases hn with h | h <;> simp [h]
      have HL : Hid (swL l br s f t = l) := by show swL l br s f t = l; unfold swL; rw [hg, if_pos rfl]; rcases hn with h | h <;> simp [h]
      clear hg
      by_cases hf : f < 0
      · clear hn
        go_enter Try.func10, Try.ntmps10
        go_wp2_with (go_at_call 22; refine (G.out _).mono ?_; rintro e w' ⟨rfl, rfl⟩)
        go_ret
        rw [HC.out, HL.out]
        exact Did.same HT.out (Below.refl _ _)
      · have ht : t < 0 := by omega
        clear hn
        go_enter Try.func10, Try.ntmps10
        go_wp2_with (go_at_call 22; refine (G.out _).mono ?_; rintro e w' ⟨rfl, rfl⟩)
        go_ret
        rw [HC.out, HL.out]
        exact Did.same HT.out (Below.refl _ _)
    · have hf : ¬ f < 0 := by omega
      have ht : ¬ t < 0 := by omega
      clear hn
      obtain ⟨c, hc⟩ : ∃ c, getC l s = c := ⟨_, rfl⟩
      obtain ⟨b, hb⟩ : ∃ b, hasB l s = b := ⟨_, rfl⟩
      have Q := Lib.hid (get_is w B T v l br s d HT.out c b hc hb)
      by_cases hcf : c = f
      · by_cases h0 : 0 < t
        · have HC : Hid (swC l br s f t = setC l s t) := by show swC l br s f t = _; unfold swC; rw [hg, if_pos rfl, if_neg hf, if_neg ht, hc, if_pos hcf, if_pos h0]
          have HL : Hid (swL l br s f t = setL l s t) := by show swL l br s f t = _; unfold swL; rw [hg, if_pos rfl, if_neg hf, if_neg ht, hc, if_pos hcf, if_pos h0]
          subst hcf
          clear hg hc hb
          go_enter Try.func10, Try.ntmps10
          go_wp2_with (first | (go_at_call 22; refine (G.out _).mono ?_; rintro e w' ⟨rfl, rfl⟩) | (go_at_call 20; refine Q.out.mono ?_; rintro e w1 ⟨rfl, hb1⟩))
          refine (set_any _ B T v l br s d t (HT.out.below hb1) hs ht0 ht1).mono ?_
          intro e w2 hD
          have HD := Lib.hid (Did.after hb1 hD HT.out)
          obtain ⟨rfl, _⟩ := hD
          go_wp2_with fail
          go_ret
          rw [HC.out, HL.out]
          exact HD.out
        · by_cases h1 : 0 < f
          · have HC : Hid (swC l br s f t = delC l s br) := by show swC l br s f t = _; unfold swC; rw [hg, if_pos rfl, if_neg hf, if_neg ht, hc, if_pos hcf, if_neg h0, if_pos h1]
            have HL : Hid (swL l br s f t = delL l s br) := by show swL l br s f t = _; unfold swL; rw [hg, if_pos rfl, if_neg hf, if_neg ht, hc, if_pos hcf, if_neg h0, if_pos h1]
            subst hcf
            clear hg hc hb
            go_enter Try.func10, Try.ntmps10
            go_wp2_with (first | (go_at_call 22; refine (G.out _).mono ?_; rintro e w' ⟨rfl, rfl⟩) | (go_at_call 20; refine Q.out.mono ?_; rintro e w1 ⟨rfl, hb1⟩))
            refine (del_any _ B T v l br s d (HT.out.below hb1)).mono ?_
            intro e w2 hD
            have HD := Lib.hid (Did.after hb1 hD HT.out)
            obtain ⟨rfl, _⟩ := hD
            go_wp2_with fail
            go_ret
            rw [HC.out, HL.out]
            exact HD.out
          · have HC : Hid (swC l br s f t = 0) := by show swC l br s f t = _; unfold swC; rw [hg, if_pos rfl, if_neg hf, if_neg ht, hc, if_pos hcf, if_neg h0, if_neg h1]
            have HL : Hid (swL l br s f t = l) := by show swL l br s f t = _; unfold swL; rw [hg, if_pos rfl, if_neg hf, if_neg ht, hc, if_pos hcf, if_neg h0, if_neg h1]
            subst hcf
            clear hg hc hb
            go_enter Try.func10, Try.ntmps10
            go_wp2_with (first | (go_at_call 22; refine (G.out _).mono ?_; rintro e w' ⟨rfl, rfl⟩) | (go_at_call 20; refine Q.out.mono ?_; rintro e w1 ⟨rfl, hb1⟩))
            go_ret
            rw [HC.out, HL.out]
            exact Did.same HT.out hb1
      · have HC : Hid (swC l br s f t = 7) := by show swC l br s f t = _; unfold swC; rw [hg, if_pos rfl, if_neg hf, if_neg ht, hc, if_neg hcf]
        have HL : Hid (swL l br s f t = l) := by show swL l br s f t = _; unfold swL; rw [hg, if_pos rfl, if_neg hf, if_neg ht, hc, if_neg hcf]
        have hcf2 : (c == f) = false := by rw [beq_eq_false_iff_ne]; exact hcf
        clear hg hc hb
        go_enter Try.func10, Try.ntmps10
        go_wp2_with (first | (go_at_call 22; refine (G.out _).mono ?_; rintro e w' ⟨rfl, rfl⟩) | (go_at_call 20; refine Q.out.mono ?_; rintro e w1 ⟨rfl, hb1⟩))
        go_ret
        rw [HC.out, HL.out]
        exact Did.same HT.out hb1

def headB (br : ByteArray) : ByteArray := br
def headC (l : List Rf) (br : ByteArray) (d : Int) : Int := if br.size = 0 then d else getC l br
theorem size_zero {b : ByteArray} (h : b.size = 0) : b = ⟨#[]⟩ := by
  obtain ⟨⟨l⟩⟩ := b
  have : l.length = 0 := h
  rw [List.eq_nil_of_length_eq_zero this]
theorem toList_ne {b : ByteArray} (h : ¬ b.size = 0) : ¬ b.toList = [] := by
  rw [ByteArray.toList_eq]
  intro e
  have : b.data.toList.length = b.size := by rw [Array.length_toList]; rfl
  rw [e] at this
  exact h this.symm

def movC (l : List Rf) (br : ByteArray) (c : Int) : Int := if br.size = 0 then detC c else setC l br c
def movL (l : List Rf) (br : ByteArray) (c : Int) : List Rf := if br.size = 0 then l else setL l br c
def movD (br : ByteArray) (d c : Int) : Int := if br.size = 0 then detD d c else d
theorem move_any (w : World) (B T : Nat) (v : Value) (l : List Rf) (br : ByteArray) (d c : Int) (h : Tab w B T v l br d) (hs : br.size ≤ 1000000) (hc0 : -1000000000 ≤ c) (hc1 : c ≤ 1000000000) :
    Calls Try.prog 14 #[.pointer (some ⟨T, 0, none⟩), .int .i64 c] w (Did w B T v (movC l br c) (movL l br c) br (movD br d c)) := by
  have HT := Lib.hid h
  obtain ⟨_, c1, _, _, f1, _⟩ := h.cells
  clear h
  by_cases h0 : br.size = 0
  · have HC : Hid (movC l br c = detC c) := by show movC l br c = _; unfold movC; rw [if_pos h0]
    have HL : Hid (movL l br c = l) := by show movL l br c = _; unfold movL; rw [if_pos h0]
    have HD : Hid (movD br d c = detD d c) := by show movD br d c = _; unfold movD; rw [if_pos h0]
    obtain rfl := size_zero h0
    have HB : Hid (detB ⟨#[]⟩ c = ⟨#[]⟩) := by show detB ⟨#[]⟩ c = _; unfold detB; split <;> rfl
    clear h0
    go_enter Try.func14, Try.ntmps14
    go_wp2_with fail
    refine (det_any w B T v l ⟨#[]⟩ d c HT.out).mono ?_
    intro e w2 hD
    have HE := Lib.hid hD
    obtain ⟨rfl, _⟩ := hD
    go_wp2_with fail
    go_ret
    rw [HC.out, HL.out, HD.out]
    have := HE.out
    rw [HB.out] at this
    exact this
  · have HC : Hid (movC l br c = setC l br c) := by show movC l br c = _; unfold movC; rw [if_neg h0]
    have HL : Hid (movL l br c = setL l br c) := by show movL l br c = _; unfold movL; rw [if_neg h0]
    have HD : Hid (movD br d c = d) := by show movD br d c = _; unfold movD; rw [if_neg h0]
    have q1 := toList_ne h0
    have q2 : br.toList.isEmpty = false := by rw [List.isEmpty_eq_false_iff]; exact q1
    go_enter Try.func14, Try.ntmps14
    go_wp2_with fail
    refine (set_any w B T v l br br d c HT.out hs hc0 hc1).mono ?_
    intro e w2 hD
    have HE := Lib.hid hD
    obtain ⟨rfl, _⟩ := hD
    go_wp2_with fail
    go_ret
    rw [HC.out, HL.out, HD.out]
    exact HE.out

def Headed (l : List Rf) (br : ByteArray) (d : Int) (w : World) (e : Ending) (w' : World) : Prop := e = .returned (.agg #[.string br, .int .i64 (headC l br d)]) ∧ Below w.heap.size w w'
theorem head_any (w : World) (B T : Nat) (v : Value) (l : List Rf) (br : ByteArray) (d : Int) (h : Tab w B T v l br d) :
    Calls Try.prog 17 #[.pointer (some ⟨T, 0, none⟩)] w (Headed l br d w) := by
  have HT := Lib.hid h
  have b1 := (Below.refl w.heap.size w).alloc (Nat.le_refl _) (.cells #[.string ⟨#[]⟩, .int .i64 0] 39)
  obtain ⟨_, c1, c2, _, f1, f2⟩ := (h.alloc (.cells #[.string ⟨#[]⟩, .int .i64 0] 39)).cells
  clear h
  by_cases h0 : br.size = 0
  · have HC : Hid (headC l br d = d) := by show headC l br d = _; unfold headC; rw [if_pos h0]
    obtain rfl := size_zero h0
    clear h0
    go_enter Try.func17, Try.ntmps17
    go_wp2_with fail
    refine bodyPost_ret (v := .agg #[.string ⟨#[]⟩, .int .i64 d]) (by simp [results, Try.results17, go_sem]) rfl ⟨by rw [HC.out], ?_⟩
    exact (Below.refl _ _).alloc (Nat.le_refl _) _
  · have HC : Hid (headC l br d = getC l br) := by show headC l br d = _; unfold headC; rw [if_neg h0]
    have q1 := toList_ne h0
    have q2 : br.toList.isEmpty = false := by rw [List.isEmpty_eq_false_iff]; exact q1
    obtain ⟨c, hc⟩ : ∃ c, getC l br = c := ⟨_, rfl⟩
    obtain ⟨b, hb⟩ : ∃ b, hasB l br = b := ⟨_, rfl⟩
    have HG := Lib.hid hc
    have Q := Lib.hid (get_is _ B T v l br br d (HT.out.alloc (.cells #[.string ⟨#[]⟩, .int .i64 0] 39)) c b hc hb)
    have hn := Blk.new w 39 #[.string ⟨#[]⟩, .int .i64 0]
    have HN := Lib.hid hn
    clear hc hb hn
    go_enter Try.func17, Try.ntmps17
    go_wp2_with (go_at_call 20; refine Q.out.mono ?_; rintro e w1 ⟨rfl, hb1⟩; obtain ⟨_, d1, _, _, g1, _⟩ := ((HT.out.alloc (.cells #[.string ⟨#[]⟩, .int .i64 0] 39)).below hb1).cells; have n1 := HN.out.below hb1 (by simp); have n1c := n1.cell 0; have n1d := n1.cell 1; have n1f := n1.frozen 0; have n1g := n1.frozen 1; have N1 := Lib.hid n1; clear n1)
    have n2 : Blk ((w1.setCell ⟨w.heap.size, 0, none⟩ (.string br)).setCell ⟨w.heap.size, 1, none⟩ (.int .i64 c)) w.heap.size 39 #[.string br, .int .i64 c] := by simpa using (N1.out.set_ 0 (.string br)).set_ 1 (.int .i64 c)
    refine bodyPost_ret (results_cell_row rfl _ _ w.heap.size 39 #[.string br, .int .i64 c] (0, 0) _ rfl n2 Try.underlying39 rfl rfl) rfl ⟨by rw [HC.out, HG.out], ?_⟩
    have hbw : Below w.heap.size w w1 := ((Below.refl w.heap.size w).alloc (Nat.le_refl _) _).trans (hb1.mono (by simp))
    exact (hbw.setCell (p := ⟨w.heap.size, 0, none⟩) (Nat.le_refl _) _).setCell (p := ⟨w.heap.size, 1, none⟩) (Nat.le_refl _) _
theorem row_any (w : World) (B T : Nat) (v : Value) (l : List Rf) (br : ByteArray) (d : Int) (h : Tab w B T v l br d) :
    Calls Try.prog 19 #[.pointer (some ⟨T, 0, none⟩)] w fun e w' => ∃ v', e = .returned v' ∧ Own w' w.heap.size v' l ∧ Below w.heap.size w w' := by
  have HT := Lib.hid h
  obtain ⟨A, cap, rfl⟩ := own_form h.own
  obtain ⟨c0, _, _, f0, _, _⟩ := h.cells
  have hfew := h.few
  clear h
  go_enter Try.func19, Try.ntmps19
  go_wp2_with fail
  refine (clone_any w B _ l HT.out.own (by omega)).mono ?_
  rintro e w1 ⟨v', rfl, o, hb⟩
  have HO := Lib.hid o
  clear o
  go_wp2_with fail
  go_ret
  exact ⟨v', rfl, HO.out, hb⟩
end Go.Proofs.Ytkhdjlakclidoaa
