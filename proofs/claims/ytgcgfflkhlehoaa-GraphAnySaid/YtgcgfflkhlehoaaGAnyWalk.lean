/-
  The walk of GraphAny.
-/
import Derived.Test.YtgcgfflkhlehoaaGRefs2
import Derived.Test.YtgcgfflkhlehoaaGBasesWalk
namespace Go.Proofs.Ytgcgfflkhlehoaa
open Go.RowKit

set_option maxRecDepth 100000 in
set_option maxHeartbeats 8000000 in
theorem any_walk (w : World) (v : Value) (gs : List (List Int)) (a b : Int) (hG : Rows w v gs) : Calls Try.prog 3 #[v, .int .i64 a, .int .i64 b] w (YesB w) := by
  obtain ⟨A, c, rfl⟩ := hG.form
  have HG := Lib.hid hG
  clear hG
  go_enter Try.func3, Try.ntmps3
  go_wp2_with fail
  refine (known_yes w).mono ?_
  rintro e w1 ⟨rfl, b1⟩
  have F := Lib.hid (few_any w1 _ gs (HG.out.below b1))
  go_wp2_with fail
  refine F.out.mono ?_
  rintro e w1' ⟨bf, rfl, hbf, rfl⟩
  clear F
  cases bf with
  | false =>
    clear hbf
    go_wp2
    go_ret
    exact ⟨rfl, b1⟩
  | true =>
    have hN := hbf rfl
    clear hbf
    have F := Lib.hid (check_any w1 _ gs (HG.out.below b1))
    go_wp2_with fail
    refine F.out.mono ?_
    rintro e w2 ⟨rfl, d2⟩
    have b2 := below_trans b1 d2
    clear F d2 b1
    have F := Lib.hid (refCheck_any w2 _ gs (HG.out.below b2))
    go_wp2_with fail
    refine F.out.mono ?_
    rintro e w3 ⟨rfl, d2⟩
    have b3 := below_trans b2 d2
    clear F d2 b2
    have F := Lib.hid (refCheck_any w3 _ gs (HG.out.below b3))
    have q0 : (chk gs != chk gs) = false := by simp
    go_wp2_with fail
    refine F.out.mono ?_
    rintro e w4 ⟨rfl, d2⟩
    have c0 := below_trans b3 d2
    clear F d2 b3 q0
    by_cases hc : chk gs = 0
    · obtain ⟨hn1, ok, two⟩ := chk_ok hc
      rw [hc]
      clear hc
      have A1 := Lib.hid fun w' u l h hu => ancestors_any w' (.slice A gs.length c) u gs l h hu (by omega)
      have A2 := Lib.hid fun w' u l h hu => refAncestors_any w' (.slice A gs.length c) u gs l h hu (by omega) ok
      have I1 := Lib.hid fun w' h => is_any w' (.slice A gs.length c) gs a b h (by omega)
      have I2 := Lib.hid fun w' h => refIs_any w' (.slice A gs.length c) gs a b h (by omega) ok
      have B1 := Lib.hid fun w' h => bases_any w' (.slice A gs.length c) gs a b h (by omega) two
      have B2 := Lib.hid fun w' h => refBases_any w' (.slice A gs.length c) gs a b h (by omega) ok two
      have C1 := Lib.hid fun w' h => base_any w' (.slice A gs.length c) gs a b h (by omega) two
      have C2 := Lib.hid fun w' h => refBase_any w' (.slice A gs.length c) gs a b h (by omega) ok two
      have O1 := Lib.hid fun w' h => only_any w' (.slice A gs.length c) gs a b h (by omega)
      have O2 := Lib.hid fun w' h => refOnly_any w' (.slice A gs.length c) gs a b h (by omega) ok
      clear ok two hn1
      generalize isB gs a b = ib at *
      generalize basL gs a b = bl at *
      generalize base1 gs a b = bb at *
      generalize onlL gs a b = ol at *
      have e5 := c0.alloc c0.size (.cells #[.int .i64 a, .int .i64 b] 3)
      have P := Lib.hid (A1.out (w4.alloc (.cells #[.int .i64 a, .int .i64 b] 3)) _ [a, b] (HG.out.below e5) (Ints.lit w4 #[.int .i64 a, .int .i64 b] 3 [a, b] rfl (by simp [maxLen])))
      go_wp2_with fail
      refine P.out.mono ?_
      rintro e w5 ⟨x5, rfl, o5, d5⟩
      have c1 := below_trans e5 d5
      obtain ⟨X5, y5, rfl⟩ := own_form o5
      have J5 := Lib.hid (Ints.of_own o5 rfl)
      have D5 := Lib.hid (((Below.refl w4.heap.size w4).alloc (Nat.le_refl _) (.cells #[.int .i64 a, .int .i64 b] 3)).trans (d5.mono (by simp)))
      clear P e5 c0 o5 d5
      have e6 := c1.alloc c1.size (.cells #[.int .i64 a, .int .i64 b] 3)
      have P := Lib.hid (A2.out (w5.alloc (.cells #[.int .i64 a, .int .i64 b] 3)) _ [a, b] (HG.out.below e6) (Ints.lit w5 #[.int .i64 a, .int .i64 b] 3 [a, b] rfl (by simp [maxLen])))
      go_wp2_with fail
      refine P.out.mono ?_
      rintro e w6 ⟨x6, rfl, o6, d6⟩
      have c2 := below_trans e6 d6
      obtain ⟨X6, y6, rfl⟩ := own_form o6
      have J6 := Lib.hid (Ints.of_own o6 rfl)
      have D6 := Lib.hid (((Below.refl w5.heap.size w5).alloc (Nat.le_refl _) (.cells #[.int .i64 a, .int .i64 b] 3)).trans (d6.mono (by simp)))
      clear P e6 c1 o6 d6
      have P := Lib.hid (ints_any w6 _ _ (ancR gs [a, b]) (ancR gs [a, b]) (J5.out.below D6.out) J6.out)
      rw [decide_eq_true (rfl : (ancR gs [a, b]) = (ancR gs [a, b]))] at P
      go_wp2_with fail
      refine P.out.mono ?_
      rintro e w7 ⟨rfl, d7⟩
      have c3 := below_trans c2 d7
      clear P c2 d7 J5 J6 D5 D6
      have e8 := c3.alloc c3.size (.cells #[.int .i64 a] 3)
      have P := Lib.hid (A1.out (w7.alloc (.cells #[.int .i64 a] 3)) _ [a] (HG.out.below e8) (Ints.lit w7 #[.int .i64 a] 3 [a] rfl (by simp [maxLen])))
      go_wp2_with fail
      refine P.out.mono ?_
      rintro e w8 ⟨x8, rfl, o8, d8⟩
      have c4 := below_trans e8 d8
      obtain ⟨X8, y8, rfl⟩ := own_form o8
      have J8 := Lib.hid (Ints.of_own o8 rfl)
      have D8 := Lib.hid (((Below.refl w7.heap.size w7).alloc (Nat.le_refl _) (.cells #[.int .i64 a] 3)).trans (d8.mono (by simp)))
      clear P e8 c3 o8 d8
      have e9 := c4.alloc c4.size (.cells #[.int .i64 a] 3)
      have P := Lib.hid (A2.out (w8.alloc (.cells #[.int .i64 a] 3)) _ [a] (HG.out.below e9) (Ints.lit w8 #[.int .i64 a] 3 [a] rfl (by simp [maxLen])))
      go_wp2_with fail
      refine P.out.mono ?_
      rintro e w9 ⟨x9, rfl, o9, d9⟩
      have c5 := below_trans e9 d9
      obtain ⟨X9, y9, rfl⟩ := own_form o9
      have J9 := Lib.hid (Ints.of_own o9 rfl)
      have D9 := Lib.hid (((Below.refl w8.heap.size w8).alloc (Nat.le_refl _) (.cells #[.int .i64 a] 3)).trans (d9.mono (by simp)))
      clear P e9 c4 o9 d9
      have P := Lib.hid (ints_any w9 _ _ (ancR gs [a]) (ancR gs [a]) (J8.out.below D9.out) J9.out)
      rw [decide_eq_true (rfl : (ancR gs [a]) = (ancR gs [a]))] at P
      go_wp2_with fail
      refine P.out.mono ?_
      rintro e w10 ⟨rfl, d10⟩
      have c6 := below_trans c5 d10
      clear P c5 d10 J8 J9 D8 D9
      have P := Lib.hid (I1.out w10 (HG.out.below c6))
      go_wp2_with fail
      refine P.out.mono ?_
      rintro e w11 ⟨rfl, d11⟩
      have c7 := below_trans c6 d11
      clear P c6 d11
      have P := Lib.hid (I2.out w11 (HG.out.below c7))
      go_wp2_with fail
      refine P.out.mono ?_
      rintro e w12 ⟨rfl, d12⟩
      have c8 := below_trans c7 d12
      clear P c7 d12
      have q1 : (ib == ib) = true := by simp
      have P := Lib.hid (C1.out w12 (HG.out.below c8))
      go_wp2_with fail
      refine P.out.mono ?_
      rintro e w13 ⟨rfl, d13⟩
      have c9 := below_trans c8 d13
      clear P c8 d13
      clear q1
      have P := Lib.hid (C2.out w13 (HG.out.below c9))
      go_wp2_with fail
      refine P.out.mono ?_
      rintro e w14 ⟨rfl, d14⟩
      have c10 := below_trans c9 d14
      clear P c9 d14
      have q2 : (bb == bb) = true := by simp
      have P := Lib.hid (B1.out w14 (HG.out.below c10))
      go_wp2_with fail
      refine P.out.mono ?_
      rintro e w15 ⟨x15, rfl, o15, d15⟩
      have c11 := below_trans c10 d15
      obtain ⟨X15, y15, rfl⟩ := own_form o15
      have J15 := Lib.hid (Ints.of_own o15 rfl)
      have D15 := Lib.hid d15
      clear P c10 o15 d15
      clear q2
      have P := Lib.hid (B2.out w15 (HG.out.below c11))
      go_wp2_with fail
      refine P.out.mono ?_
      rintro e w16 ⟨x16, rfl, o16, d16⟩
      have c12 := below_trans c11 d16
      obtain ⟨X16, y16, rfl⟩ := own_form o16
      have J16 := Lib.hid (Ints.of_own o16 rfl)
      have D16 := Lib.hid d16
      clear P c11 o16 d16
      have P := Lib.hid (ints_any w16 _ _ bl bl (J15.out.below D16.out) J16.out)
      rw [decide_eq_true (rfl : bl = bl)] at P
      go_wp2_with fail
      refine P.out.mono ?_
      rintro e w17 ⟨rfl, d17⟩
      have c13 := below_trans c12 d17
      clear P c12 d17 J15 J16 D15 D16
      have P := Lib.hid (O1.out w17 (HG.out.below c13))
      go_wp2_with fail
      refine P.out.mono ?_
      rintro e w18 ⟨x18, rfl, o18, d18⟩
      have c14 := below_trans c13 d18
      obtain ⟨X18, y18, rfl⟩ := own_form o18
      have J18 := Lib.hid (Ints.of_own o18 rfl)
      have D18 := Lib.hid d18
      clear P c13 o18 d18
      have P := Lib.hid (O2.out w18 (HG.out.below c14))
      go_wp2_with fail
      refine P.out.mono ?_
      rintro e w19 ⟨x19, rfl, o19, d19⟩
      have c15 := below_trans c14 d19
      obtain ⟨X19, y19, rfl⟩ := own_form o19
      have J19 := Lib.hid (Ints.of_own o19 rfl)
      have D19 := Lib.hid d19
      clear P c14 o19 d19
      have P := Lib.hid (ints_any w19 _ _ ol ol (J18.out.below D19.out) J19.out)
      rw [decide_eq_true (rfl : ol = ol)] at P
      go_wp2_with fail
      refine P.out.mono ?_
      rintro e w20 ⟨rfl, d20⟩
      have c16 := below_trans c15 d20
      clear P c15 d20 J18 J19 D18 D19
      go_wp2_with fail
      go_ret
      exact ⟨rfl, c16⟩
    · have hc' : (chk gs != 0) = true := by simpa using hc
      clear hc
      go_wp2
      go_ret
      exact ⟨rfl, c0⟩

end Go.Proofs.Ytgcgfflkhlehoaa
