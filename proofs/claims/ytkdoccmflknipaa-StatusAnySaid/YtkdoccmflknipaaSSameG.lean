/-
  slices.EqualFunc at entries, index.Same.
-/
import Derived.Test.YtkdoccmflknipaaSSameE
namespace Go.Proofs.Ytkdoccmflknipaa
open Go.RowKit

def SameTo (b : Bool) (w : World) (e : Ending) (w' : World) : Prop := e = .returned (.bool b) ∧ Below w.heap.size w w'
set_option maxHeartbeats 4000000 in
theorem equalE_any (w : World) (v u : Value) (a b : List En) (h : Reads 6 cE w v a) (g : Reads 6 cE w u b) :
    Calls Try.prog 47 #[v, u, .func (.func 48) #[] #[]] w (SameTo (decide (a.map stillE = b.map stillE)) w) := by
  obtain ⟨A, c, rfl⟩ := h.form
  obtain ⟨B, d, rfl⟩ := g.form
  have hn := h.len
  have gn := g.len
  have hm1 : a.length ≤ 9223372036854775807 := by have := hn.2; unfold maxLen at this; omega
  have hm2 : b.length ≤ 9223372036854775807 := by have := gn.2; unfold maxLen at this; omega
  have HA := Lib.hid h
  have HB := Lib.hid g
  clear h g hn gn
  by_cases hnm : a.length = b.length
  · have hi0 : (a.length : Int) = (b.length : Int) := by omega
    have HN := Lib.hid hnm
    clear hnm
    go_enter Try.func47, Try.ntmps47
    go_wp2
    go_loopw [17] (fun s17 wr => ∃ k : Nat, k ≤ b.length ∧ s17 = .int .i64 k ∧ Hid (∀ i, i < k → (a.map stillE)[i]? = (b.map stillE)[i]?) ∧ Below w.heap.size w wr) (fun s17 _ => b.length - (intOf s17).toNat)
    case atStart => exact ⟨0, Nat.zero_le _, rfl, Lib.hid (fun i hi => absurd hi (Nat.not_lt_zero _)), Below.refl _ _⟩
    case round =>
      obtain ⟨k, hk, rfl, hp, hb⟩ := hrel
      by_cases hlt : k < b.length
      · obtain ⟨x, hx⟩ : ∃ x, a[k]? = some x := ⟨_, List.getElem?_eq_getElem (by rw [HN.out]; exact hlt)⟩
        obtain ⟨y, hy⟩ : ∃ y, b[k]? = some y := ⟨_, List.getElem?_eq_getElem hlt⟩
        obtain ⟨ad, rfl, c0, c1, c2, c3, c4, c5⟩ := Ents.at_ (HA.out.below hb) hx
        obtain ⟨ad2, rfl, d0, d1, d2, d3, d4, d5⟩ := Ents.at_ (HB.out.below hb) hy
        have HX := Lib.hid hx
        have HY := Lib.hid hy
        have k0 : (0 : Int) ≤ (k : Int) := Int.natCast_nonneg _
        have k1 : (k : Int) < (b.length : Int) := by omega
        have hcl := World.block_lt_of_cell? _ _ c0
        have hdl := World.block_lt_of_cell? _ _ d0
        have hsz := hb.size
        have AL := Lib.hid fun W => alike_any x y W
        have HNE := Lib.hid (show stillE x ≠ stillE y → decide (a.map stillE = b.map stillE) = false from fun hne => decide_eq_false fun e => by
          have e2 : (a.map stillE)[k]? = (b.map stillE)[k]? := by rw [e]
          rw [List.getElem?_map, List.getElem?_map, hx, hy] at e2
          exact hne (Option.some.inj e2))
        clear hx hy
        by_cases hxy : stillE x = stillE y
        · have AL : Hid (∀ W, Calls Try.prog 48 #[vE x, vE y] W (SameTo true W)) := Lib.hid fun W => (AL.out W).mono fun e w' ⟨he, hb⟩ => ⟨by rw [he, decide_eq_true hxy], hb⟩
          have HXY := Lib.hid hxy
          obtain ⟨p, st, m, s, tm, sz⟩ := x
          obtain ⟨p', st', m', s', tm', sz'⟩ := y
          have b4 := (hb.alloc hsz (.cells #[.string p, .int .i64 st, .int .i64 m, .string s, .int .i64 tm, .int .i64 sz] 61)).alloc (by simp; omega) (.cells #[.string p', .int .i64 st', .int .i64 m', .string s', .int .i64 tm', .int .i64 sz'] 61)
          have s4 := b4.size
          clear hxy
          go_wp2_with fail
          refine (AL.out _).mono ?_
          rintro e w5 ⟨rfl, b5⟩
          have b6 := b4.trans (b5.mono s4)
          go_wp2
          go_roundw
          case rel => exact ⟨k + 1, by omega, by go_num, Lib.hid (fun i hi => by
            rcases Nat.lt_or_ge i k with h1 | h1
            · exact hp.out i h1
            · obtain rfl : i = k := by omega
              rw [List.getElem?_map, List.getElem?_map, HX.out, HY.out]
              exact congrArg some HXY.out), b6⟩
          case measure => simp [intOf]; omega
        · have HC := Lib.hid (HNE.out hxy)
          have AL : Hid (∀ W, Calls Try.prog 48 #[vE x, vE y] W (SameTo false W)) := Lib.hid fun W => (AL.out W).mono fun e w' ⟨he, hb⟩ => ⟨by rw [he, decide_eq_false hxy], hb⟩
          obtain ⟨p, st, m, s, tm, sz⟩ := x
          obtain ⟨p', st', m', s', tm', sz'⟩ := y
          have b4 := (hb.alloc hsz (.cells #[.string p, .int .i64 st, .int .i64 m, .string s, .int .i64 tm, .int .i64 sz] 61)).alloc (by simp; omega) (.cells #[.string p', .int .i64 st', .int .i64 m', .string s', .int .i64 tm', .int .i64 sz'] 61)
          have s4 := b4.size
          clear hxy
          go_wp2_with fail
          refine (AL.out _).mono ?_
          rintro e w5 ⟨rfl, b5⟩
          have b6 := b4.trans (b5.mono s4)
          go_wp2
          go_ret
          exact ⟨by rw [HC.out]; rfl, b6⟩
      · obtain rfl : k = b.length := by omega
        have HC : Hid (decide (a.map stillE = b.map stillE) = true) := Lib.hid (decide_eq_true (prefix_all hp.out (by rw [List.length_map]; exact HN.out) (by rw [List.length_map])))
        go_wp2
        go_ret
        exact ⟨by rw [HC.out]; rfl, hb⟩
  · have hi0 : ¬ (a.length : Int) = (b.length : Int) := by omega
    have HC : Hid (decide (a.map stillE = b.map stillE) = false) := Lib.hid (decide_eq_false fun e => hnm (by have := congrArg List.length e; rw [List.length_map, List.length_map] at this; exact this))
    clear hnm
    go_enter Try.func47, Try.ntmps47
    go_wp2
    go_ret
    exact ⟨by rw [HC.out]; rfl, Below.refl _ _⟩

theorem sameE_any (w : World) (v u : Value) (a b : List En) (h : Reads 6 cE w v a) (g : Reads 6 cE w u b) :
    Calls Try.prog 22 #[v, u] w (SameTo (decide (a.map stillE = b.map stillE)) w) := by
  have E := Lib.hid (equalE_any w v u a b h g)
  clear h g
  go_enter Try.func22, Try.ntmps22
  go_wp2_with fail
  refine E.out.mono ?_
  rintro e w' ⟨rfl, b1⟩
  go_wp2
  go_ret
  exact ⟨rfl, b1⟩
end Go.Proofs.Ytkdoccmflknipaa
