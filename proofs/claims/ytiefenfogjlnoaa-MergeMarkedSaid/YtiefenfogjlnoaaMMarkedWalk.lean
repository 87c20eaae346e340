/-
  The walk of MergeMarked.
-/
import Derived.Test.YtiefenfogjlnoaaMPlain
import Derived.Test.YtiefenfogjlnoaaSplitRef
namespace Go.Proofs.Ytiefenfogjlnoaa
open Go.RowKit

theorem extract8 (x p : ByteArray) (hp : p.size = 8) (_hx : 8 ≤ x.size) : decide (x.extract 0 8 = p) = Lib.hasPrefix x.data.toList p.data.toList := by
  have hpl : p.data.toList.length = 8 := by rw [size_data]; exact hp
  have he : (x.extract 0 8) = mk (x.data.toList.take 8) := by rw [extract_mk]; simp
  rw [he]
  unfold Lib.hasPrefix
  rw [Bool.eq_iff_iff, decide_eq_true_iff, List.isPrefixOf_iff_prefix]
  constructor
  · intro h
    have : p.data.toList = x.data.toList.take 8 := by rw [← h]; simp [mk]
    rw [this]
    exact List.take_prefix _ _
  · intro h
    have := List.prefix_iff_eq_take.1 h
    rw [hpl] at this
    rw [← this]
    exact mk_toList p

theorem short8 (x p : ByteArray) (hp : p.size = 8) (hx : x.size < 8) : Lib.hasPrefix x.data.toList p.data.toList = false := by
  rw [Bool.eq_false_iff]
  intro h
  have := (List.isPrefixOf_iff_prefix.1 h).length_le
  rw [size_data, size_data] at this
  omega

theorem beq_bytes (y : ByteArray) (l : List UInt8) : (y.toList == l) = decide (y = mk l) := by
  rw [Bool.eq_iff_iff, beq_iff_eq, decide_eq_true_iff, ByteArray.toList_eq]
  constructor
  · intro h
    rw [← h, mk_toList]
  · intro h
    rw [h]
    simp [mk]

theorem eight (x : ByteArray) (h8 : 8 ≤ x.size) : ((x.extract 0 8).toList == [62, 62, 62, 62, 62, 62, 62, 32]) = Lib.hasPrefix x.data.toList theirs8.data.toList ∧ ((x.extract 0 8).toList == [60, 60, 60, 60, 60, 60, 60, 32]) = Lib.hasPrefix x.data.toList ours8.data.toList := by
  rw [beq_bytes, beq_bytes, ← extract8 x theirs8 rfl h8, ← extract8 x ours8 rfl h8]
  exact ⟨rfl, rfl⟩

set_option maxRecDepth 100000 in
set_option maxHeartbeats 4000000 in
theorem mmarked_walk (w : World) (s : ByteArray) : Calls Try.prog 5 #[.string s] w (YesB w) := by
  by_cases hs : s.size ≤ 500
  · have is : (s.size : Int) ≤ 500 := by omega
    have S1 := Lib.hid fun W => refSplit_any W s (by omega)
    have M1 := Lib.hid fun W => marked_any W s (by omega)
    have Q1 := Lib.hid (show (cutL s.data.toList).length = (lns s).length by simp)
    go_enter Try.func5, Try.ntmps5
    go_wp2_with fail
    refine (known_yes w).mono ?_
    rintro e w0 ⟨rfl, b0⟩
    go_wp2_with fail
    refine (S1.out w0).mono ?_
    rintro e w1 ⟨v1, rfl, o1, d1⟩
    have b1 := below_trans b0 d1
    have t1 := Strs.of_own o1 Q1.out
    obtain ⟨A, n, c, rfl⟩ := t1.form
    have hn : n = (cutL s.data.toList).length := by obtain ⟨A', c', hv, _⟩ := t1; injection hv with _ e2 _; rw [e2]; simp
    have hn6 : n ≤ 1000000 := by rw [hn]; have := cutL_le s.data.toList; rw [size_data] at this; omega
    have HT := Lib.hid t1
    have HN := Lib.hid hn
    have HB := Lib.hid b1
    clear S1 o1 t1 hn b1 b0 d1
    go_wp2_with fail
    go_loopw [4, 5, 6] (fun s4 s5 s6 wr => ∃ (k : Nat) (b i : Bool), k ≤ n ∧ s6 = .int .i64 k ∧ s4 = .bool b ∧ s5 = .bool i ∧ (i || mkd b ((cutL s.data.toList).drop k)) = mkd false (cutL s.data.toList) ∧ Below w1.heap.size w1 wr) (fun _ _ s6 _ => n - (intOf s6).toNat)
    case atStart => exact ⟨0, false, false, Nat.zero_le _, rfl, rfl, rfl, rfl, Below.refl _ _⟩
    case round =>
      obtain ⟨k, b, i, hk, rfl, rfl, rfl, hm, hb⟩ := hrel
      have k0 : (0 : Int) ≤ (k : Int) := Int.natCast_nonneg _
      by_cases hlt : k < n
      · have k1 : (k : Int) < (n : Int) := by omega
        obtain ⟨ad, x, rfl, hx, c0⟩ := (HT.out.below hb).cell hlt
        have hx2 : (cutL s.data.toList)[k]? = some x.data.toList := by
          rw [List.getElem?_map] at hx
          cases hc : (cutL s.data.toList)[k]? with
          | none => rw [hc] at hx; cases hx
          | some y => rw [hc] at hx; simp only [Option.map_some, Option.some.injEq] at hx; rw [← hx]; simp [mk]
        rw [mkd_at hx2] at hm
        clear hx hx2
        by_cases h8 : 8 ≤ x.size
        · have i8 : (8 : Int) ≤ (x.size : Int) := by omega
          obtain ⟨e1, e2⟩ := eight x h8
          generalize Lib.hasPrefix x.data.toList theirs8.data.toList = a1 at *
          generalize Lib.hasPrefix x.data.toList ours8.data.toList = a2 at *
          have HM := Lib.hid hm
          clear hm
          cases a1 <;> cases a2 <;> cases b <;>
            (go_wp2_with fail; go_roundw) <;> first | exact ⟨k + 1, _, _, by omega, by go_num, rfl, rfl, by rw [← HM.out]; simp, hb⟩ | (simp [intOf]; omega)
        · have i8 : ¬ (8 : Int) ≤ (x.size : Int) := by omega
          rw [short8 x theirs8 rfl (by omega), short8 x ours8 rfl (by omega)] at hm
          have HM := Lib.hid hm
          clear hm
          cases b <;> (go_wp2_with fail; go_roundw) <;> first | exact ⟨k + 1, _, _, by omega, by go_num, rfl, rfl, by rw [← HM.out]; simp, hb⟩ | (simp [intOf]; omega)
      · obtain rfl : k = n := by omega
        have HM := Lib.hid hm
        clear hm
        go_wp2_with fail
        refine (M1.out _).mono ?_
        rintro e w5 ⟨rfl, d5⟩
        have HD := Lib.hid (below_trans (below_trans HB.out hb) d5)
        have hi : i = mkd false (cutL s.data.toList) := by have := HM.out; rw [HN.out, List.drop_length] at this; simpa [mkd] using this
        rw [← hi]
        clear hi d5 hb
        go_wp2_with fail
        go_ret
        exact ⟨by simp, HD.out⟩
  · have is : ¬ (s.size : Int) ≤ 500 := by omega
    go_enter Try.func5, Try.ntmps5
    go_wp2_with fail
    refine (known_yes w).mono ?_
    rintro e w1 ⟨rfl, b1⟩
    go_wp2_with fail
    go_ret
    exact ⟨rfl, b1⟩

end Go.Proofs.Ytiefenfogjlnoaa
