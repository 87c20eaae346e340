/-
  The walk of MergeSides.
-/
import Derived.Test.YtiefenfogjlnoaaMPlain
namespace Go.Proofs.Ytiefenfogjlnoaa
open Go.RowKit

theorem lns_len (s : ByteArray) : (lns s).length ≤ s.size := by
  have := cutL_le s.data.toList
  rw [size_data] at this
  simpa using this

theorem mk_lns (s : ByteArray) : mk (cat (lns s)) = s := by rw [lns_cat, mk_toList]

/-- A text comes back, without a clash. -/
def One (w : World) (s : ByteArray) (e : Ending) (w' : World) : Prop := e = .returned (.tuple #[.string s, .int .i64 0, .nilIface]) ∧ Below w.heap.size w w'

theorem text_one (w : World) (b o t r a n : ByteArray) (hb : b.size ≤ 256) (ho : o.size ≤ 256) (ht : t.size ≤ 256) (ha : a.size ≤ 1000) (hn : n.size ≤ 1000)
    (h : txtAll a.data.toList n.data.toList (allC (lns b) (lns o) (lns t)) = r.data.toList ∧ clashes (allC (lns b) (lns o) (lns t)) = 0) : Calls Try.prog 9 #[.string b, .string o, .string t, .string a, .string n] w (One w r) := by
  have := text_any w b o t a n (by omega) (by omega) (by omega) ha hn (Nat.le_trans (lns_len b) hb) (Nat.le_trans (lns_len o) ho) (Nat.le_trans (lns_len t) ht)
  rw [h.1, h.2] at this
  exact this.mono fun e w' ⟨x, y⟩ => ⟨by rw [x, mk_toList]; rfl, y⟩

set_option maxRecDepth 100000 in
set_option maxHeartbeats 4000000 in
theorem sides_walk (w : World) (b o : ByteArray) : Calls Try.prog 3 #[.string b, .string o] w (YesB w) := by
  by_cases hb : b.size ≤ 60
  · by_cases ho : o.size ≤ 60
    · have ib : (b.size : Int) ≤ 60 := by omega
      have io : (o.size : Int) ≤ 60 := by omega
      have T1 := Lib.hid fun W => text_one W b o b o ⟨#[120]⟩ ⟨#[121]⟩ (by omega) (by omega) (by omega) (by decide) (by decide) (by rw [← lns_cat o]; exact sides_one _ _ (lns b) (lns o))
      have T2 := Lib.hid fun W => text_one W b b o o ⟨#[120]⟩ ⟨#[121]⟩ (by omega) (by omega) (by omega) (by decide) (by decide) (by rw [← lns_cat o]; exact sides_two _ _ (lns b) (lns o))
      have T3 := Lib.hid fun W => text_one W b o o o ⟨#[120]⟩ ⟨#[121]⟩ (by omega) (by omega) (by omega) (by decide) (by decide) (by rw [← lns_cat o]; exact sides_alike _ _ (lns b) (lns o))
      go_enter Try.func3, Try.ntmps3
      go_wp2_with fail
      refine (known_yes w).mono ?_
      rintro e w1 ⟨rfl, b1⟩
      go_wp2_with fail
      refine (T1.out w1).mono ?_
      rintro e w2 ⟨rfl, b2⟩
      go_wp2_with fail
      refine (T2.out w2).mono ?_
      rintro e w3 ⟨rfl, b3⟩
      go_wp2_with fail
      refine (T3.out w3).mono ?_
      rintro e w4 ⟨rfl, b4⟩
      go_wp2_with fail
      go_ret
      exact ⟨rfl, below_trans (below_trans (below_trans b1 b2) b3) b4⟩
    · have ib : (b.size : Int) ≤ 60 := by omega
      have io : ¬ (o.size : Int) ≤ 60 := by omega
      go_enter Try.func3, Try.ntmps3
      go_wp2_with fail
      refine (known_yes w).mono ?_
      rintro e w1 ⟨rfl, b1⟩
      go_wp2_with fail
      go_ret
      exact ⟨rfl, b1⟩
  · have ib : ¬ (b.size : Int) ≤ 60 := by omega
    go_enter Try.func3, Try.ntmps3
    go_wp2_with fail
    refine (known_yes w).mono ?_
    rintro e w1 ⟨rfl, b1⟩
    go_wp2_with fail
    go_ret
    exact ⟨rfl, b1⟩

end Go.Proofs.Ytiefenfogjlnoaa
