/-
  rectolaw14.Few, rectolaw15.Few: whether trees and entries are few, and short.
-/
import Derived.Test.YtplleaimmmanhaaDoorSRow
import Derived.Test.YtplleaimmmanhaaDoorRP
namespace Go.Proofs.YtplleaimmmanhaaDoor
open Go.RowKit

def FewToF (l : List Fl) (w : World) (e : Ending) (w' : World) : Prop := ∃ b : Bool, e = .returned (.bool b) ∧ (b = true → l.length ≤ 80 ∧ ∀ x ∈ l, x.1.size ≤ 100 ∧ x.2.2.size ≤ 5000) ∧ ∃ q, w' = w.drewN q
set_option maxHeartbeats 4000000 in
theorem fewF_any (w : World) (v : Value) (l : List Fl) (h : Reads 3 cF w v l) : Calls Tryd.prog 8 #[v] w (FewToF l w) := by
  obtain ⟨A, c, rfl⟩ := h.form
  have hn := h.len
  have hnm : l.length ≤ 9223372036854775807 := by have := hn.2; unfold maxLen at this; omega
  have HO := Lib.hid h
  clear h hn
  by_cases hbig : 80 < l.length
  · have hb : (80 : Int) < (l.length : Int) := by omega
    go_enter Tryd.func8, Tryd.ntmps8
    go_wp2
    go_ret
    exact ⟨false, rfl, (fun h => by cases h), 0, rfl⟩
  · have hb : ¬ (80 : Int) < (l.length : Int) := by omega
    have HB := Lib.hid hbig
    go_enter Tryd.func8, Tryd.ntmps8
    go_wp2
    go_loopw [3] (fun s3 wr => ∃ k : Nat, k ≤ l.length ∧ s3 = .int .i64 k ∧ Hid (∀ x ∈ l.take k, x.1.size ≤ 100 ∧ x.2.2.size ≤ 5000) ∧ SameW wr w) (fun s3 _ => l.length - (intOf s3).toNat)
    case atStart => exact ⟨0, Nat.zero_le _, rfl, Lib.hid (fun x hx => by simp at hx), rfl⟩
    case round =>
      obtain ⟨k, hk, rfl, hp, hw⟩ := hrel
      unfold SameW at hw
      subst hw
      by_cases hlt : k < l.length
      · obtain ⟨x, hx⟩ : ∃ x, l[k]? = some x := ⟨_, List.getElem?_eq_getElem hlt⟩
        obtain ⟨ad, rfl, c0, c1, c2⟩ := Fils.at_ HO.out hx
        have HT := Lib.hid (take_snoc hx)
        obtain ⟨p, m, d⟩ := x
        have k0 : (0 : Int) ≤ (k : Int) := Int.natCast_nonneg _
        have k1 : (k : Int) < (l.length : Int) := by omega
        clear hx
        by_cases h1 : 100 < p.size
        · have h1' : (100 : Int) < (p.size : Int) := by omega
          go_wp2
          go_ret
          exact ⟨false, rfl, (fun h => by cases h), 0, rfl⟩
        · have h1' : ¬ (100 : Int) < (p.size : Int) := by omega
          by_cases h2 : 5000 < d.size
          · have h2' : (5000 : Int) < (d.size : Int) := by omega
            go_wp2
            go_ret
            exact ⟨false, rfl, (fun h => by cases h), 0, rfl⟩
          · have h2' : ¬ (5000 : Int) < (d.size : Int) := by omega
            have HP : Hid (∀ x ∈ l.take (k + 1), x.1.size ≤ 100 ∧ x.2.2.size ≤ 5000) := Lib.hid (by
              rw [HT.out]
              intro x hx
              rcases List.mem_append.1 hx with hx | hx
              · exact hp.out x hx
              · rw [List.mem_singleton.1 hx]; exact ⟨Nat.not_lt.1 h1, Nat.not_lt.1 h2⟩)
            go_wp2
            go_roundw
            case rel => exact ⟨k + 1, by omega, by go_num, HP, rfl⟩
            case measure => simp [intOf]; omega
      · obtain rfl : k = l.length := by omega
        have HP := Lib.hid (show ∀ x ∈ l, x.1.size ≤ 100 ∧ x.2.2.size ≤ 5000 by have := hp.out; rw [List.take_length] at this; exact this)
        go_wp2
        go_ret
        exact ⟨true, rfl, fun _ => ⟨Nat.not_lt.1 HB.out, HP.out⟩, 0, rfl⟩

end Go.Proofs.YtplleaimmmanhaaDoor
