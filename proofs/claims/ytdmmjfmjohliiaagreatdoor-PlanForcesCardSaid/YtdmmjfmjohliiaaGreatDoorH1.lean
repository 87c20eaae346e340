/-
  rectolaw15.Few.
  rectolaw1.Texts: whether two rows of texts are the same.
-/
import Derived.Test.YtdmmjfmjohliiaaGreatDoorG1
import Derived.Test.YtdmmjfmjohliiaaGreatDoorG2
import Derived.Test.YtdmmjfmjohliiaaGreatDoorG3
import Derived.BigQuiet
import Derived.Deep.QuietTactic
namespace Go.Proofs.YtdmmjfmjohliiaaGreatDoor
open Go Go.RowKit

def FewToE (l : List En) (w : World) (e : Ending) (w' : World) : Prop := ∃ b : Bool, e = .returned (.bool b) ∧ (b = true → l.length ≤ 80 ∧ ∀ x ∈ l, x.1.size ≤ 100 ∧ x.2.2.2.1.size ≤ 5000) ∧ ∃ q, w' = w.drewN q
set_option maxHeartbeats 4000000 in
theorem fewE_any (w : World) (v : Value) (l : List En) (h : Reads 6 cE w v l) : Calls Tryz.prog 30 #[v] w (FewToE l w) := by
  obtain ⟨A, c, rfl⟩ := h.form
  have hn := h.len
  have hnm : l.length ≤ 9223372036854775807 := by have := hn.2; unfold maxLen at this; omega
  have HO := Lib.hid h
  clear h hn
  by_cases hbig : 80 < l.length
  · have hb : (80 : Int) < (l.length : Int) := by omega
    go_enter Tryz.func30, Tryz.ntmps30
    go_wp2
    go_ret
    exact ⟨false, rfl, (fun h => by cases h), 0, rfl⟩
  · have hb : ¬ (80 : Int) < (l.length : Int) := by omega
    have HB := Lib.hid hbig
    go_enter Tryz.func30, Tryz.ntmps30
    go_wp2
    go_loopw [3] (fun s3 wr => ∃ k : Nat, k ≤ l.length ∧ s3 = .int .i64 k ∧ Hid (∀ x ∈ l.take k, x.1.size ≤ 100 ∧ x.2.2.2.1.size ≤ 5000) ∧ SameW wr w) (fun s3 _ => l.length - (intOf s3).toNat)
    case atStart => exact ⟨0, Nat.zero_le _, rfl, Lib.hid (fun x hx => by simp at hx), rfl⟩
    case round =>
      obtain ⟨k, hk, rfl, hp, hw⟩ := hrel
      unfold SameW at hw
      subst hw
      by_cases hlt : k < l.length
      · obtain ⟨x, hx⟩ : ∃ x, l[k]? = some x := ⟨_, List.getElem?_eq_getElem hlt⟩
        obtain ⟨ad, rfl, c0, c1, c2, c3, c4, c5⟩ := Ents.at_ HO.out hx
        have HT := Lib.hid (take_snoc hx)
        obtain ⟨p, st, m, d, tm, sz⟩ := x
        have k0 : (0 : Int) ≤ (k : Int) := Int.natCast_nonneg _
        have k1 : (k : Int) < (l.length : Int) := by omega
        clear hx
        by_cases h1 : 100 < p.size
        · have h1' : (100 : Int) < (p.size : Int) := by omega
          go_wp2
          go_ret
          exact ⟨false, rfl, (fun h => by cases h), 0, rfl⟩
        · have h1' : ¬ (100 : Int) < (p.size : Int) := by omega
          by_cases h2 : 5000 < d.size
          · have h2' : (5000 : Int) < (d.size : Int) := by omega
            go_wp2
            go_ret
            exact ⟨false, rfl, (fun h => by cases h), 0, rfl⟩
          · have h2' : ¬ (5000 : Int) < (d.size : Int) := by omega
            have HP : Hid (∀ x ∈ l.take (k + 1), x.1.size ≤ 100 ∧ x.2.2.2.1.size ≤ 5000) := Lib.hid (by
              rw [HT.out]
              intro x hx
              rcases List.mem_append.1 hx with hx | hx
              · exact hp.out x hx
              · rw [List.mem_singleton.1 hx]; exact ⟨Nat.not_lt.1 h1, Nat.not_lt.1 h2⟩)
            go_wp2
            go_roundw
            case rel => exact ⟨k + 1, by omega, by go_num, HP, rfl⟩
            case measure => simp [intOf]; omega
      · obtain rfl : k = l.length := by omega
        have HP := Lib.hid (show ∀ x ∈ l, x.1.size ≤ 100 ∧ x.2.2.2.1.size ≤ 5000 by have := hp.out; rw [List.take_length] at this; exact this)
        go_wp2
        go_ret
        exact ⟨true, rfl, fun _ => ⟨Nat.not_lt.1 HB.out, HP.out⟩, 0, rfl⟩
end Go.Proofs.YtdmmjfmjohliiaaGreatDoor
namespace Go.Proofs.YtdmmjfmjohliiaaGreatDoor
open Go Go.RowKit

set_option maxRecDepth 100000 in
set_option maxHeartbeats 2000000 in
theorem rtexts_any (w : World) (v u : Value) (xs ys : List ByteArray) (h : Strs w v xs) (g : Strs w u ys) :
    Calls Tryz.prog 49 #[v, u] w (BoolTo (decide (xs = ys)) w) := by
  obtain ⟨A, c, rfl⟩ := strs_form h
  obtain ⟨B, d, rfl⟩ := strs_form g
  have hb1 : xs.length ≤ 9223372036854775807 := by have := (strs_len h).2; unfold maxLen at this; omega
  have hb2 : ys.length ≤ 9223372036854775807 := by have := (strs_len g).2; unfold maxLen at this; omega
  have HH := Lib.hid h
  have GG := Lib.hid g
  obtain ⟨n, hn⟩ : ∃ n, n = xs.length := ⟨_, rfl⟩
  obtain ⟨m, hm⟩ : ∃ n, n = ys.length := ⟨_, rfl⟩
  rw [← hn] at HH hb1 ⊢
  rw [← hm] at GG hb2 ⊢
  have HN := Lib.hid hn
  have GN := Lib.hid hm
  clear h g hn hm
  by_cases hnm : n = m
  · subst hnm
    go_enter Tryz.func49, Tryz.ntmps49
    go_wp2
    go_loopw [5] (fun i wr => ∃ k q : Nat, k ≤ n ∧ i = .int .i64 k ∧ Hid (∀ i, i < k → xs[i]? = ys[i]?) ∧ wr = w.drewN q) (fun i _ => n - (intOf i).toNat)
    case atStart => exact ⟨0, 0, Nat.zero_le _, rfl, Lib.hid (fun i hi => absurd hi (by omega)), rfl⟩
    case round =>
      obtain ⟨k, q, hk, rfl, HP, rfl⟩ := hrel
      by_cases hlt : k < n
      · obtain ⟨a, x, rfl, hx, hc1⟩ := strs_at HH.out hlt
        obtain ⟨b, y, rfl, hy, hc2⟩ := strs_at GG.out hlt
        have hi0 : (0 : Int) ≤ (k : Int) := Int.natCast_nonneg _
        have hi1 : (k : Int) < (n : Int) := by omega
        have HX := Lib.hid hx
        have HY := Lib.hid hy
        clear hx hy
        by_cases hxy : x = y
        · subst hxy
          go_wp2_with fail
          go_quiet (fail)
          go_wp2
          go_roundw
          case rel =>
            refine ⟨k + 1, _, by omega, by go_num, Lib.hid (fun i hi => ?_), rfl⟩
            by_cases hik : i < k
            · exact HP.out i hik
            · obtain rfl : i = k := by omega
              rw [HX.out, HY.out]
          case measure => simp [intOf]; omega
        · have e1 : ¬ x.toList = y.toList := fun e => hxy (tl_eq e)
          have e1' : (x.toList == y.toList) = false := by simpa using e1
          have HD : Hid (decide (xs = ys) = false) := Lib.hid (decide_eq_false fun e => by
            have := HX.out
            rw [e, HY.out] at this
            exact hxy (Option.some.inj this).symm)
          clear hxy
          go_wp2_with fail
          go_quiet (fail)
          go_wp2
          go_ret
          exact ⟨by rw [HD.out]; rfl, _, World.drewN_drewN _ _ _⟩
      · obtain rfl : k = n := by omega
        go_wp2
        go_ret
        exact ⟨by rw [decide_eq_true (prefix_all HP.out HN.out.symm GN.out.symm)]; rfl, q, rfl⟩
  · have hne : ((n : Int) == (m : Int)) = false := by rw [beq_eq_false_iff_ne]; omega
    have HD : Hid (decide (xs = ys) = false) := Lib.hid (decide_eq_false fun e => hnm (by rw [HN.out, GN.out, e]))
    go_enter Tryz.func49, Tryz.ntmps49
    go_wp2
    go_ret
    exact ⟨by rw [HD.out]; rfl, 0, rfl⟩
theorem rTexts_any (w : World) (v u : Value) (xs ys : List ByteArray) (h : Strs w v xs) (g : Strs w u ys) :
    Calls Tryz.prog 14 #[v, u] w (BoolTo (decide (xs = ys)) w) := by
  have T := Lib.hid (rtexts_any w v u xs ys h g)
  clear h g
  go_enter Tryz.func14, Tryz.ntmps14
  go_wp2_with fail
  refine T.out.mono ?_
  rintro e w1 ⟨rfl, q, rfl⟩
  go_wp2_with fail
  go_ret
  exact ⟨rfl, q, rfl⟩
end Go.Proofs.YtdmmjfmjohliiaaGreatDoor
