/-
  slices.BinarySearchFunc at the names, and (*Table).find: where a name stands, and whether it is there.
-/
import Derived.Test.YtkhdjlakclidoaaNMem
import Derived.LoopTactic
import Derived.Deep.LoopGhost
import Derived.Deep.DeepCutAuto
import Derived.Deep.CutBlock
namespace Go.Proofs.Ytkhdjlakclidoaa
open Go.RowKit

/-- The comparer's own contract. -/
theorem cmp_any (r : Rf) (s : ByteArray) (w : World) :
    Calls Try.prog 31 #[.agg #[.string r.1, .int .i64 r.2], .string s] w fun e w' => e = .returned (.int .i64 (cb r.1 s)) ∧ Below w.heap.size w w' := by
  go_enter Try.func31, Try.ntmps31
  go_wp2_with (go_at_call 32; refine (Try.strings_Compare _ _ _).mono ?_; rintro e w' ⟨rfl, rfl⟩)
  go_ret
  exact ⟨rfl, (Below.refl _ _).alloc (Nat.le_refl _) _⟩

theorem ret_fb {a b : Int} {p q : Bool} (h : a = b) (g : p = q) : Ending.returned (.tuple #[.int .i64 a, .bool p]) = .returned (.tuple #[.int .i64 b, .bool q]) := by rw [h, g]
def Found (l : List Rf) (s : ByteArray) (w : World) (e : Ending) (w' : World) : Prop := e = .returned (.tuple #[.int .i64 (pos l s : Nat), .bool (hasB l s)]) ∧ Below w.heap.size w w'

set_option maxHeartbeats 2000000 in
theorem search_any (w : World) (B : Nat) (v : Value) (l : List Rf) (s : ByteArray) (h : Own w B v l) (hr : Rising l) (hl : l.length ≤ 1000) :
    Calls Try.prog 30 #[v, .string s, .func (.func 31) #[] #[]] w (Found l s w) := by
  obtain ⟨A, c, rfl⟩ := own_form h
  have HO := Lib.hid h
  have HR := Lib.hid hr
  clear h hr
  go_enter Try.func30, Try.ntmps30
  go_wp2
  go_loopw [9, 10] (fun s9 s10 wr => ∃ lo hi : Nat, s9 = .int .i64 lo ∧ s10 = .int .i64 hi ∧ lo ≤ hi ∧ hi ≤ l.length ∧ Below w.heap.size w wr ∧
    Hid ((∀ (t : Nat) (x : Rf), t < lo → l[t]? = some x → cb x.1 s < 0) ∧ (∀ (t : Nat) (x : Rf), hi ≤ t → l[t]? = some x → 0 ≤ cb x.1 s))) (fun s9 s10 _ => (intOf s10).toNat - (intOf s9).toNat)
  case atStart => exact ⟨0, l.length, rfl, rfl, Nat.zero_le _, Nat.le_refl _, Below.refl _ _, ⟨fun t x ht => absurd ht (Nat.not_lt_zero _), fun t x ht hx => by have := (List.getElem?_eq_some_iff.1 hx).1; omega⟩⟩
  case round =>
    obtain ⟨lo, hi, rfl, rfl, hlh, hin, hb, I⟩ := hrel
    by_cases hlt : lo < hi
    · have hm1 : lo ≤ (lo + hi) / 2 := by omega
      have hm2 : (lo + hi) / 2 < hi := by omega
      obtain ⟨x, hx⟩ : ∃ x, l[(lo + hi) / 2]? = some x := ⟨_, List.getElem?_eq_getElem (by omega)⟩
      obtain ⟨g, cap, hv, c0, c1, f0, f1, hn, hmx, hg⟩ := Own.at_ (own_keep HO.out hb) hx
      injection hv with e1 e2 e3
      subst e1; subst e3
      have HX := Lib.hid hx
      clear hx
      by_cases hyx : cb x.1 s < 0
      · go_wp2_with (go_at_call 31; refine (cmp_any x s _).mono ?_; rintro e w' ⟨rfl, hb'⟩)
        go_roundw
        case rel => exact ⟨(lo + hi) / 2 + 1, hi, by go_num, rfl, by omega, hin, hb.trans (hb'.mono hb.size), ⟨fun t y ht hy => by
          rcases Nat.lt_or_ge t ((lo + hi) / 2) with h1 | h1
          · have := HR.out t ((lo + hi) / 2) y x h1 hy HX.out
            exact cb_trans this hyx
          · obtain rfl : t = (lo + hi) / 2 := by omega
            rw [HX.out] at hy
            obtain rfl := Option.some.inj hy
            exact hyx, I.out.2⟩⟩
        case measure => simp [intOf]; omega
      · go_wp2_with (go_at_call 31; refine (cmp_any x s _).mono ?_; rintro e w' ⟨rfl, hb'⟩)
        go_roundw
        case rel => exact ⟨lo, (lo + hi) / 2, rfl, by go_num, by omega, by omega, hb.trans (hb'.mono hb.size), ⟨I.out.1, fun t y ht hy => by
          rcases Nat.eq_or_lt_of_le ht with h1 | h1
          · rw [← h1, HX.out] at hy
            obtain rfl := Option.some.inj hy
            omega
          · have := HR.out ((lo + hi) / 2) t x y h1 HX.out hy
            rcases Int.lt_or_le (cb y.1 s) 0 with h2 | h2
            · exact absurd (cb_trans this h2) (by omega)
            · exact h2⟩⟩
        case measure => simp [intOf]; omega
    · obtain rfl : hi = lo := by omega
      have HP := Lib.hid (pos_of hin I.out.1 I.out.2)
      by_cases hlen : hi < l.length
      · obtain ⟨x, hx⟩ : ∃ x, l[hi]? = some x := ⟨_, List.getElem?_eq_getElem hlen⟩
        obtain ⟨g, cap, hv, c0, c1, f0, f1, hn, hmx, hg⟩ := Own.at_ (own_keep HO.out hb) hx
        injection hv with e1 e2 e3
        subst e1; subst e3
        have HB : Hid (hasB l s = decide (cb x.1 s = 0)) := by show hasB l s = _; unfold hasB; rw [HP.out, hx]; rfl
        clear hx
        go_wp2_with (go_at_call 31; refine (cmp_any x s _).mono ?_; rintro e w' ⟨rfl, hb'⟩)
        go_ret2
        exact ⟨ret_fb (by rw [HP.out]) (by rw [HB.out]; rfl), hb.trans (hb'.mono hb.size)⟩
      · have HB : Hid (hasB l s = false) := by show hasB l s = _; unfold hasB; rw [HP.out, List.getElem?_eq_none (by omega)]; rfl
        go_wp2_with fail
        go_ret2
        exact ⟨ret_fb (by rw [HP.out]) (by rw [HB.out]), hb⟩

end Go.Proofs.Ytkhdjlakclidoaa
