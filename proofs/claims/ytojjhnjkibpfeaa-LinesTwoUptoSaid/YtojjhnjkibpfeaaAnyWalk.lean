/-
  The walk of LinesAny.
-/
import Derived.Test.YtojjhnjkibpfeaaTextsWalk
namespace Go.Proofs.Ytojjhnjkibpfeaa
open Go.RowKit

theorem len_flat {l : List (List UInt8)} {x : List UInt8} (h : x ∈ l) : x.length ≤ l.flatten.length := by
  induction l with
  | nil => cases h
  | cons y l ih =>
    simp only [List.flatten_cons, List.length_append]
    rcases List.mem_cons.1 h with rfl | h
    · omega
    · have := ih h; omega

theorem own_formn {w : World} {base : Nat} {e : TypeId} {v : Value} {n : Nat} {xs : List Value} (h : w.ownsRow base e 1 v n xs) : ∃ A c, v = .slice A n c := by
  rcases h.2 with ⟨rfl, rfl⟩ | ⟨g, cap, cur, rfl, _⟩
  · exact ⟨_, _, rfl⟩
  · exact ⟨_, _, rfl⟩

theorem mk_size (l : List UInt8) : (mk l).size = l.length := by show l.toArray.size = _; simp
theorem mk_data (l : List UInt8) : (mk l).data.toList = l := by simp [mk]

/-- What the law asks of line i. -/
theorem line_facts (s : ByteArray) (i : Nat) (x : ByteArray) (h : ((cutL s.data.toList).map mk)[i]? = some x) :
    x.size ≤ s.size ∧ ¬ x.toList = [] ∧ (cutL x.data.toList).length = 1 ∧ (i + 1 < (cutL s.data.toList).length → wholeL x.data.toList = true) := by
  rw [List.getElem?_map] at h
  cases hy : (cutL s.data.toList)[i]? with
  | none => rw [hy] at h; cases h
  | some y =>
    rw [hy] at h
    have e : mk y = x := Option.some.inj h
    have hc := cutL_at _ i y hy
    have hl := len_flat (List.mem_of_getElem? hy)
    rw [cutL_flat, size_data] at hl
    subst e
    rw [mk_size, ByteArray.toList_eq, mk_data]
    exact ⟨hl, hc.1, hc.2.1, hc.2.2⟩

/-- Whole, as the law says it. -/
theorem whole_cases (s : ByteArray) : (s.toList = [] ∧ s.size = 0 ∧ wholeL s.data.toList = true) ∨
    ∃ n, ∃ h : s.size = n + 1, ¬ s.toList = [] ∧ (((s[n].toNat : Nat) : Int) == 10) = wholeL s.data.toList := by
  have hsz := size_data s
  rcases Nat.eq_zero_or_pos s.size with h0 | h0
  · have e : s.data.toList = [] := List.eq_nil_of_length_eq_zero (by omega)
    exact .inl ⟨by rw [ByteArray.toList_eq]; exact e, h0, by rw [e]; rfl⟩
  · obtain ⟨n, hs⟩ : ∃ n, s.size = n + 1 := ⟨s.size - 1, by omega⟩
    refine .inr ⟨n, hs, ?_, ?_⟩
    · rw [ByteArray.toList_eq]
      intro e
      rw [e] at hsz
      simp at hsz
      omega
    · have hlast : s.data.toList.getLast? = some s[n] := by
        rw [List.getLast?_eq_getElem?, hsz, show s.size - 1 = n by omega]
        exact List.getElem?_eq_getElem (by omega)
      have hw : wholeL s.data.toList = (s[n] == 10) := by simp [wholeL, hlast]
      rw [hw, Bool.eq_iff_iff, beq_iff_eq, beq_iff_eq, ← UInt8.toNat_inj]
      show ((s[n].toNat : Nat) : Int) = 10 ↔ s[n].toNat = 10
      omega

set_option maxRecDepth 100000 in
set_option maxHeartbeats 4000000 in
theorem any_long (s : ByteArray) (ws : s.size ≤ 9223372036854775807) (h : 1000 < s.size) (w : World) :
    Calls Try.prog 3 #[.string s] w (YesB w) := by
  go_enter Try.func3, Try.ntmps3
  go_wp2_with fail
  refine (known_yes w).mono ?_
  rintro e w1 ⟨rfl, hb1⟩
  go_wp2
  go_ret
  exact ⟨rfl, hb1⟩

set_option maxRecDepth 100000 in
set_option maxHeartbeats 4000000 in
theorem any_few (s : ByteArray) (h : s.size ≤ 1000) (w : World) :
    Calls Try.prog 3 #[.string s] w (YesB w) := by
  have LF := Lib.hid (line_facts s)
  have l1 : (cutL s.data.toList).length ≤ 1001 := by have := cutL_len s.data.toList; rw [size_data] at this; omega
  have J := fun w1 base n v (hn : n = (cutL s.data.toList).length) hown => join_own w1 base n v (cutL s.data.toList) hn hown (by rw [cutL_flat, size_data]; omega) (by omega)
  rw [cutL_flat, mk_toList] at J
  have JJ := Lib.hid J
  clear J
  go_enter Try.func3, Try.ntmps3
  go_wp2_with fail
  refine (known_yes w).mono ?_
  rintro e w1 ⟨rfl, hb1⟩
  go_wp2_with fail
  refine (split_any w1 s (by omega)).mono ?_
  rintro e w2 ⟨v1, rfl, hown1, hb2⟩
  obtain ⟨A1, m1, c1, rfl⟩ := own_form hown1
  replace hb1 := hb1.trans (hb2.mono hb1.size)
  have hS : Strs w2 (.slice A1 m1 c1) ((cutL s.data.toList).map mk) := Strs.of_own hown1 (by simp)
  have hm : m1 = (cutL s.data.toList).length := by have := hS.len.1; simpa using this
  generalize hls : cutL s.data.toList = ls at *
  have HLS := Lib.hid hls
  clear hls hb2
  subst hm
  go_wp2_with fail
  go_loopw [4] (fun i wr => ∃ k : Nat, k ≤ ls.length ∧ i = .int .i64 k ∧ Below w2.heap.size w2 wr) (fun i _ => ls.length - (intOf i).toNat)
  case atStart => exact ⟨0, Nat.zero_le _, rfl, Below.refl _ _⟩
  case round =>
    obtain ⟨k, hk, rfl, hbr⟩ := hrel
    have hi0 : (0 : Int) ≤ (k : Int) := Int.natCast_nonneg _
    have hSr := hS.below hbr
    by_cases hlt : k < ls.length
    · obtain ⟨ad, x, rfl, hx, hc⟩ := hSr.cell hlt
      have hf := LF.out k x hx
      obtain ⟨f1, f2, f3, f4⟩ := hf
      have f2' : x.toList.isEmpty = false := by rw [List.isEmpty_eq_false_iff]; exact f2
      have W := whole_any wr x (by omega)
      have S := split_any wr x (by omega)
      have SF := Lib.hid S
      have F3 := Lib.hid f3
      clear S f3 f2 hx
      cases hwx : wholeL x.data.toList with
      | true =>
        rw [hwx] at W
        have WF := Lib.hid W
        clear W hwx f4
        go_wp2_with fail
        refine WF.out.mono ?_
        rintro e w3 ⟨rfl, rfl⟩
        go_wp2_with fail
        refine SF.out.mono ?_
        rintro e w4 ⟨v4, rfl, hown4, hb4⟩
        obtain ⟨A4, c4, rfl⟩ := own_formn hown4
        rw [F3.out]
        have hbr4 := hbr.trans (hb4.mono hbr.size)
        clear hown4 hb4
        go_wp2
        go_roundw
        case rel => exact ⟨k + 1, by omega, by go_num, hbr4⟩
        case measure => simp [intOf]; omega
      | false =>
        rw [hwx] at W
        have WF := Lib.hid W
        have hlast : ls.length = k + 1 := by
          rcases Nat.lt_or_ge (k + 1) ls.length with h | h
          · have := f4 h; rw [hwx] at this; cases this
          · omega
        clear W hwx f4
        have ht : decide ((k : Int) < (ls.length : Int) - 1) = false := by simp; omega
        clear hlast
        go_wp2_with fail
        refine WF.out.mono ?_
        rintro e w3 ⟨rfl, rfl⟩
        go_wp2_with fail
        refine SF.out.mono ?_
        rintro e w4 ⟨v4, rfl, hown4, hb4⟩
        obtain ⟨A4, c4, rfl⟩ := own_formn hown4
        rw [F3.out]
        have hbr4 := hbr.trans (hb4.mono hbr.size)
        clear hown4 hb4
        go_wp2
        go_roundw
        case rel => exact ⟨k + 1, by omega, by go_num, hbr4⟩
        case measure => simp [intOf]; omega
    · obtain rfl : k = ls.length := by omega
      have hown3 := own_below hown1 hbr
      have hb13 := hb1.trans (hbr.mono hb1.size)
      have R := refSplit_any wr s (by omega)
      rw [HLS.out] at R
      have RF := Lib.hid R
      clear R hown1
      go_wp2_with fail
      refine RF.out.mono ?_
      rintro e w4 ⟨v4, rfl, hown4, hb4⟩
      obtain ⟨A4, c4, rfl⟩ := own_formn hown4
      have hS4 := Strs.of_own hown4 (by simp)
      have hb14 := hb13.trans (hb4.mono hb13.size)
      have hS14 := hSr.below hb4
      have hown5 := own_below hown3 hb4
      clear hown4 hown3 hb4
      go_wp2_with fail
      refine (Texts_yes w4 _ _ (ls.map mk) hS14 hS4).mono ?_
      rintro e w5 ⟨q, rfl, rfl⟩
      go_wp2_with fail
      refine (JJ.out (w4.drewN q) w1.heap.size ls.length _ rfl hown5).mono ?_
      rintro e w6 ⟨rfl, hb6⟩
      have hb16 := (below_drewN hb14 q).trans (hb6.mono (below_drewN hb14 q).size)
      clear hown5 hS4 hS14 hSr
      go_wp2_with fail
      refine (whole_any w6 s (by omega)).mono ?_
      rintro e w7 ⟨rfl, rfl⟩
      rcases whole_cases s with ⟨he, _, hw⟩ | ⟨n, hn, hne, hw⟩
      · have he2 : s.toList.isEmpty = true := by rw [List.isEmpty_iff]; exact he
        rw [hw]
        clear he hw HLS
        go_wp2
        go_ret
        exact ⟨rfl, hb16⟩
      · have hne2 : s.toList.isEmpty = false := by rw [List.isEmpty_eq_false_iff]; exact hne
        rw [← hw]
        clear hw HLS
        cases hb : ((s[n].toNat : Int) == 10)
        all_goals
          go_wp2
          go_ret
          exact ⟨rfl, hb16⟩

theorem any_walk (s : ByteArray) (ws : s.size ≤ maxLen) (w : World) : Calls Try.prog 3 #[.string s] w (YesB w) := by
  unfold maxLen at ws
  by_cases h : 1000 < s.size
  · exact any_long s (by omega) h w
  · exact any_few s (by omega) w

end Go.Proofs.Ytojjhnjkibpfeaa
