/-
  The walk of LinesTexts.
-/
import Derived.Test.YtojjhnjkibpfeaaKnown
import Derived.Laws.AppendOwnNone
namespace Go.Proofs.Ytojjhnjkibpfeaa
open Go.RowKit

theorem own_below {w w' : World} {base : Nat} {e : TypeId} {v : Value} {n : Nat} {xs : List Value} (h : w.ownsRow base e 1 v n xs) (hb : Below w.heap.size w w') : w'.ownsRow base e 1 v n xs := by
  refine ⟨h.1, ?_⟩
  rcases h.2 with h2 | ⟨g, cap, cur, hv, hg, hh, r⟩
  · exact Or.inl h2
  · exact Or.inr ⟨g, cap, cur, hv, hg, (hb.block g (Array.getElem?_eq_some_iff.1 hh).1).trans hh, r⟩

theorem own_form {w : World} {base : Nat} {e : TypeId} {v : Value} {n : Nat} {xs : List Value} (h : w.ownsRow base e 1 v n xs) : ∃ A m c, v = .slice A m c := by
  rcases h.2 with ⟨rfl, _⟩ | ⟨g, cap, cur, rfl, _⟩
  · exact ⟨_, _, _, rfl⟩
  · exact ⟨_, _, _, rfl⟩

theorem size_data (s : ByteArray) : s.data.toList.length = s.size := by rw [Array.length_toList]; rfl

theorem cutL_len (l : List UInt8) : (cutL l).length ≤ l.length + 1 := by
  unfold cutL close
  have := st_len l l.length
  rw [List.take_length] at this
  split
  · omega
  · simp; omega

set_option maxRecDepth 100000 in
set_option maxHeartbeats 4000000 in
theorem texts_long (a b : ByteArray) (wa : a.size ≤ 9223372036854775807) (wb : b.size ≤ 9223372036854775807) (h : 300 < a.size ∨ 300 < b.size ∨ wholeL a.data.toList = false) (w : World) :
    Calls Try.prog 5 #[.string a, .string b] w (YesB w) := by
  by_cases h1 : 300 < a.size
  · clear h
    go_enter Try.func5, Try.ntmps5
    go_wp2_with fail
    refine (known_yes w).mono ?_
    rintro e w1 ⟨rfl, hb1⟩
    go_wp2
    go_ret
    exact ⟨rfl, hb1⟩
  · by_cases h2 : 300 < b.size
    · clear h
      go_enter Try.func5, Try.ntmps5
      go_wp2_with fail
      refine (known_yes w).mono ?_
      rintro e w1 ⟨rfl, hb1⟩
      go_wp2
      go_ret
      exact ⟨rfl, hb1⟩
    · have hw : wholeL a.data.toList = false := by
        rcases h with h | h | h
        · omega
        · omega
        · exact h
      clear h
      have W := fun w1 => whole_any w1 a (by omega)
      rw [hw] at W
      have WW := Lib.hid W
      clear W hw
      go_enter Try.func5, Try.ntmps5
      go_wp2_with fail
      refine (known_yes w).mono ?_
      rintro e w1 ⟨rfl, hb1⟩
      go_wp2_with fail
      refine (WW.out w1).mono ?_
      rintro e w2 ⟨rfl, rfl⟩
      go_wp2
      go_ret
      exact ⟨rfl, hb1⟩

set_option maxRecDepth 100000 in
set_option maxHeartbeats 4000000 in
theorem texts_few (a b : ByteArray) (ha : a.size ≤ 300) (hb : b.size ≤ 300) (hw : wholeL a.data.toList = true) (w : World) :
    Calls Try.prog 5 #[.string a, .string b] w (YesB w) := by
  obtain ⟨i0, hi, hz0, hz1, hz2⟩ := info_parts strInfo
  have W := fun w1 => whole_any w1 a (by omega)
  rw [hw] at W
  have WW := Lib.hid W
  have hab : (a ++ b).data.toList = a.data.toList ++ b.data.toList := by simp
  have hcut : cutL (a ++ b).data.toList = cutL a.data.toList ++ cutL b.data.toList := by rw [hab]; exact cutL_append _ _ hw
  have S1 := fun w1 => split_any w1 (a ++ b) (by rw [ByteArray.size_append]; omega)
  rw [hcut] at S1
  have SS1 := Lib.hid S1
  have l1 : (cutL a.data.toList).length ≤ 301 := by have := cutL_len a.data.toList; rw [size_data] at this; omega
  have l2 : (cutL b.data.toList).length ≤ 301 := by have := cutL_len b.data.toList; rw [size_data] at this; omega
  clear W S1 hab hcut hw
  go_enter Try.func5, Try.ntmps5
  go_wp2_with fail
  refine (known_yes w).mono ?_
  rintro e w1 ⟨rfl, hb1⟩
  go_wp2_with fail
  refine (WW.out w1).mono ?_
  rintro e w2 ⟨rfl, rfl⟩
  go_wp2_with fail
  refine (SS1.out w1).mono ?_
  rintro e w2 ⟨v1, rfl, hown1, hb2⟩
  obtain ⟨A1, m1, c1, rfl⟩ := own_form hown1
  replace hb1 := hb1.trans (hb2.mono hb1.size)
  have hbase := hb1.size
  go_wp2_with fail
  refine (split_any w2 a (by omega)).mono ?_
  rintro e w3 ⟨v2, rfl, hown2, hb3⟩
  obtain ⟨A2, m2, c2, rfl⟩ := own_form hown2
  replace hb1 := hb1.trans (hb3.mono hb1.size)
  go_wp2_with fail
  refine (split_any w3 b (by omega)).mono ?_
  rintro e w4 ⟨v3, rfl, hown3, hb4⟩
  replace hb1 := hb1.trans (hb4.mono hb1.size)
  replace hown2 := own_below hown2 hb4
  have hS1 : Strs w2 (.slice A1 m1 c1) ((cutL a.data.toList ++ cutL b.data.toList).map mk) := Strs.of_own hown1 (by simp)
  have hb24 := hb3.trans (hb4.mono hb3.size)
  have hsz := hb24.size
  have hS2 : Strs w4 (.slice A1 m1 c1) ((cutL a.data.toList ++ cutL b.data.toList).map mk) := (Strs.of_own hown1 (by simp)).below hb24
  generalize hla : cutL a.data.toList = la at *
  generalize hlb : cutL b.data.toList = lb at *
  clear hla hlb hb2 hb3 hb4 hown1
  rcases id hown3.2 with ⟨rfl, h0⟩ | ⟨g, cap, cur, rfl, hgb, hgg, hnc, hmc, hcs, htk⟩
  · have h00 : lb = [] := List.eq_nil_of_length_eq_zero h0
    subst h00
    go_wp2_with (at_builtin; refine wpList_append_own_none rfl _ _ 23 rfl w2.heap.size 9 i0 1 Try.underlying23 hi _ _ _ rfl hown2 rfl ?_)
    refine (refEqual_yes _ _ _ (la.map mk) (by simpa using hS2) (Strs.of_own hown2 (by simp))).mono ?_
    rintro e w5 ⟨q, rfl, rfl⟩
    go_wp2
    go_ret
    exact ⟨rfl, below_drewN hb1 q⟩
  · have hcells : ∀ j u, ((lb.map mk).map Value.string)[j]? = some u → w4.cell? ((⟨g, 0, none⟩ : Addr).add j) = some u := hown3.cells (g := g) rfl
    have HC := Lib.hid hcells
    clear hcells hown3 hgg hnc hmc hcs htk
    go_wp2_with (at_builtin; refine wpList_append_own _ rfl _ _ 23 rfl w2.heap.size 9 i0 (.string { data := #[] }) 1 16 Try.underlying23 hi hz0 hz1 hz2 rfl (by decide) _ _ _ rfl hown2 ⟨g, 0, none⟩ lb.length cap ((lb.map mk).map Value.string) rfl ?c1 ?c2 ?c3 ?c4 ?c5 ?c6 ?_)
    case c1 => simp
    case c2 => exact HC.out
    case c3 => intro u hu; obtain ⟨x, _, rfl⟩ := List.mem_map.1 hu; rfl
    case c4 => unfold maxLen; omega
    case c5 => omega
    case c6 => exact hsz
    intro v5 w5 hown5 hg5 _
    have hb5 : Below w2.heap.size w4 w5 := (Below.refl _ w4).grown hg5 hsz fun z hz => (hown2.lt z hz).1
    have hbw : Below w.heap.size w w5 := hb1.grown hg5 hb1.size fun z hz => Nat.le_trans hbase (hown2.lt z hz).1
    have hS5 : Strs w5 (.slice A1 m1 c1) ((la ++ lb).map mk) := hS1.below (hb24.trans hb5)
    clear hS2 hg5 hown2 hS1 hb24 hb5
    go_wp2_with fail
    refine (refEqual_yes _ _ _ ((la ++ lb).map mk) hS5 (Strs.of_own (by simpa using hown5) (by simp))).mono ?_
    rintro e w6 ⟨q, rfl, rfl⟩
    go_wp2
    go_ret
    exact ⟨rfl, below_drewN hbw q⟩

theorem texts_walk (a b : ByteArray) (wa : a.size ≤ maxLen) (wb : b.size ≤ maxLen) (w : World) : Calls Try.prog 5 #[.string a, .string b] w (YesB w) := by
  unfold maxLen at wa wb
  by_cases h1 : 300 < a.size
  · exact texts_long a b (by omega) (by omega) (.inl h1) w
  · by_cases h2 : 300 < b.size
    · exact texts_long a b (by omega) (by omega) (.inr (.inl h2)) w
    · cases h3 : wholeL a.data.toList with
      | false => exact texts_long a b (by omega) (by omega) (.inr (.inr h3)) w
      | true => exact texts_few a b (by omega) (by omega) h3 w

end Go.Proofs.Ytojjhnjkibpfeaa
