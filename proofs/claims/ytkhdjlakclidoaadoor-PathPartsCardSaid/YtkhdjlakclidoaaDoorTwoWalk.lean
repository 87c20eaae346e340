/-
  The walk of PathTwo.
-/
import Derived.Test.YtkhdjlakclidoaaDoorKnown
namespace Go.Proofs.YtkhdjlakclidoaaDoor
open Go Go.RowKit Go.Shelf

theorem cls_turn (a b : List UInt8) : cls a b = cls b a := by
  unfold cls
  cases a == [] <;> cases b == [] <;> cases und a b <;> cases und b a <;> rfl

set_option maxHeartbeats 2000000 in
theorem two_walk (a b : ByteArray) (ha : a.size ≤ 9223372036854775807) (hb : b.size ≤ 9223372036854775807) (w : World) (m : Int) (hm : w.cell? ⟨0, 0, none⟩ = some (.int .i64 m)) : Calls Tryd.prog 4 #[.string a, .string b] w (YesB w) := by
  have K := Lib.hid (known_yes w m hm)
  clear hm
  by_cases h1 : a.size ≤ 200
  · by_cases h2 : b.size ≤ 200
    · have i1 : (a.size : Int) ≤ 200 := by omega
      have i2 : (b.size : Int) ≤ 200 := by omega
      have U1 := Lib.hid fun W => under_any a b W (by omega) (by omega)
      have U2 := Lib.hid fun W => refUnder_any a b W (by omega) (by omega)
      have U3 := Lib.hid fun W => under_any b a W (by omega) (by omega)
      have U4 := Lib.hid fun W => refUnder_any b a W (by omega) (by omega)
      have C1 := Lib.hid fun W => clash_any a b W (by omega) (by omega)
      have C2 := Lib.hid fun W => refClash_any a b W (by omega) (by omega)
      have C3 : Hid (∀ W, Calls Tryd.prog 16 #[.string b, .string a] W fun e w' => e = .returned (.bool (cls a.data.toList b.data.toList)) ∧ W = w') := Lib.hid fun W => by rw [cls_turn]; exact clash_any b a W (by omega) (by omega)
      have P1 := Lib.hid fun W => compare_any a b W
      have P2 := Lib.hid fun W => refCompare_any a b W
      generalize und a.data.toList b.data.toList = x at *
      generalize und b.data.toList a.data.toList = y at *
      generalize cls a.data.toList b.data.toList = z at *
      generalize Lib.compareBytes a.data.toList b.data.toList = c at *
      go_enter Tryd.func4, Tryd.ntmps4
      go_wp2_with fail
      refine K.out.mono ?_
      rintro e w1 ⟨rfl, d⟩
      have D := Lib.hid d
      clear d
      go_wp2_with fail
      refine (C1.out _).mono ?_
      rintro e w' ⟨rfl, rfl⟩
      go_wp2_with fail
      refine (U1.out _).mono ?_
      rintro e w' ⟨rfl, rfl⟩
      go_wp2_with fail
      refine (U2.out _).mono ?_
      rintro e w' ⟨rfl, rfl⟩
      go_wp2_with fail
      refine (U3.out _).mono ?_
      rintro e w' ⟨rfl, rfl⟩
      go_wp2_with fail
      refine (U4.out _).mono ?_
      rintro e w' ⟨rfl, rfl⟩
      go_wp2_with fail
      refine (C2.out _).mono ?_
      rintro e w' ⟨rfl, rfl⟩
      go_wp2_with fail
      refine (C3.out _).mono ?_
      rintro e w' ⟨rfl, rfl⟩
      go_wp2_with fail
      refine (P1.out _).mono ?_
      rintro e w' ⟨rfl, rfl⟩
      go_wp2_with fail
      refine (P2.out _).mono ?_
      rintro e w' ⟨rfl, rfl⟩
      go_wp2_with fail
      go_ret
      exact ⟨rfl, D.out⟩
    · have i1 : (a.size : Int) ≤ 200 := by omega
      have i2 : (200 : Int) < (b.size : Int) := by omega
      go_enter Tryd.func4, Tryd.ntmps4
      go_wp2_with fail
      refine K.out.mono ?_
      rintro e w1 ⟨rfl, d⟩
      go_wp2_with fail
      go_ret
      exact ⟨rfl, d⟩
  · have i1 : (200 : Int) < (a.size : Int) := by omega
    go_enter Tryd.func4, Tryd.ntmps4
    go_wp2_with fail
    refine K.out.mono ?_
    rintro e w1 ⟨rfl, d⟩
    go_wp2_with fail
    go_ret
    exact ⟨rfl, d⟩
end Go.Proofs.YtkhdjlakclidoaaDoor
