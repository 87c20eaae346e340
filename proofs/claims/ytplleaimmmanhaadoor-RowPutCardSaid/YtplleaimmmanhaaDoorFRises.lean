/-
  rectolaw14.Rises: whether a tree rises.
-/
import Derived.Test.YtplleaimmmanhaaDoorFGen
import Derived.Laws.Cover1
namespace Go.Proofs.YtplleaimmmanhaaDoor
open Go.RowKit

def RiseTo (l : List Fl) (w : World) (e : Ending) (w' : World) : Prop := ∃ b : Bool, e = .returned (.bool b) ∧ (b = true ↔ RiseF l) ∧ ∃ q, w' = w.drewN q
set_option maxHeartbeats 4000000 in
theorem rises_any (w : World) (v : Value) (l : List Fl) (h : Reads 3 cF w v l) (hl : l.length ≤ 100000) :
    Calls Tryd.prog 9 #[v] w (RiseTo l w) := by
  obtain ⟨A, c, rfl⟩ := h.form
  have HO := Lib.hid h
  clear h
  go_enter Tryd.func9, Tryd.ntmps9
  go_wp2
  go_loopw [3] (fun s3 wr => ∃ k q : Nat, k ≤ l.length ∧ s3 = .int .i64 ((k + 1 : Nat) : Int) ∧ Hid (∀ (t : Nat) (x y : Fl), t < k → l[t]? = some x → l[t + 1]? = some y → cb x.1 y.1 < 0) ∧ wr = w.drewN q) (fun s3 _ => l.length + 1 - (intOf s3).toNat)
  case atStart => exact ⟨0, 0, Nat.zero_le _, rfl, Lib.hid (fun t x y ht => absurd ht (Nat.not_lt_zero _)), rfl⟩
  case round =>
    obtain ⟨k, q, hk, rfl, hp, rfl⟩ := hrel
    obtain ⟨m, hm⟩ : ∃ m, m = k + 1 := ⟨_, rfl⟩
    rw [← hm]
    have HM := Lib.hid hm
    by_cases hlt : k + 1 < l.length
    · obtain ⟨x, hx⟩ : ∃ x, l[k]? = some x := ⟨_, List.getElem?_eq_getElem (by omega)⟩
      obtain ⟨y, hy⟩ : ∃ y, l[k + 1]? = some y := ⟨_, List.getElem?_eq_getElem hlt⟩
      obtain ⟨ad, rfl, c0, c1, c2⟩ := Fils.at_ HO.out hx
      obtain ⟨ad', had, d0, d1, d2⟩ := Fils.at_ HO.out hy
      obtain rfl := Option.some.inj had
      have HX := Lib.hid hx
      have HY := Lib.hid hy
      obtain ⟨px, mx, sx⟩ := x
      obtain ⟨py, my, sy⟩ := y
      have hw : IntKind.i64.wrap ((m : Int) - 1) = (k : Int) := by rw [IntKind.wrap_i64] <;> omega
      rw [← hm] at d0 d1 d2
      have k0 : (0 : Int) ≤ (k : Int) := Int.natCast_nonneg _
      have k1 : (m : Int) < (l.length : Int) := by omega
      have k3 : (0 : Int) ≤ (m : Int) := Int.natCast_nonneg _
      have k2 : (k : Int) < (l.length : Int) := by omega
      have hlc := less_cb px py
      clear hx hy hm
      by_cases hc : cb px py < 0
      · have hls : Op.bytesLess px.toList py.toList = true := by rw [hlc]; exact decide_eq_true hc
        have HC := Lib.hid hc
        clear hlc
        go_wp2_with fail
        go_quiet (fail)
        go_wp2
        go_roundw
        case rel => exact ⟨k + 1, _, by omega, by rw [← HM.out]; go_num, Lib.hid (fun t a b ht ha hb => by
          rcases Nat.lt_or_ge t k with h1 | h1
          · exact hp.out t a b h1 ha hb
          · obtain rfl : t = k := by omega
            rw [HX.out] at ha
            rw [HY.out] at hb
            rw [← Option.some.inj ha, ← Option.some.inj hb]
            exact HC.out), rfl⟩
        case measure => have := HM.out; simp [intOf]; omega
      · have hls : Op.bytesLess px.toList py.toList = false := by rw [hlc]; exact decide_eq_false hc
        have HC := Lib.hid hc
        clear hlc
        go_wp2_with fail
        go_quiet (fail)
        go_wp2
        go_ret
        exact ⟨_, rfl, ⟨(fun h => by cases h), fun hr => absurd (rise_at hr HX.out HY.out) (Int.not_lt.2 HC.out)⟩, q + nq, drewN_two w q nq⟩
    · have hlt' : ¬ (m : Int) < (l.length : Int) := by omega
      clear hm
      go_wp2
      go_ret
      exact ⟨_, rfl, ⟨fun _ => rise_adj l fun t x y hx hy => hp.out t x y (by have := (List.getElem?_eq_some_iff.1 hy).1; omega) hx hy, fun _ => rfl⟩, _, rfl⟩
end Go.Proofs.YtplleaimmmanhaaDoor
