/-
  The walk of LinesTwo.
-/
import Derived.Test.YtojjhnjkibpfeaaEqualAny
import Derived.Deep.DeepCutAuto
import Derived.Deep.CutBlock
namespace Go.Proofs.Ytojjhnjkibpfeaa
open Go.RowKit

theorem IsPre.one {xs ys : List ByteArray} {k l : Nat} (h : IsPre xs ys k) (g : IsPre xs ys l) : k = l := by
  obtain ⟨h1, h2, h3, h4⟩ := h
  obtain ⟨g1, g2, g3, g4⟩ := g
  rcases Nat.lt_trichotomy k l with h | h | h
  · exact absurd (g3 k h) (h4 (by omega) (by omega))
  · exact h
  · exact absurd (h3 l h) (g4 (by omega) (by omega))
theorem IsSuf.one {xs ys : List ByteArray} {k l : Nat} (h : IsSuf xs ys k) (g : IsSuf xs ys l) : k = l := by
  obtain ⟨h1, h2, h3, h4⟩ := h
  obtain ⟨g1, g2, g3, g4⟩ := g
  rcases Nat.lt_trichotomy k l with h | h | h
  · exact absurd (g3 k h) (h4 (by omega) (by omega))
  · exact h
  · exact absurd (h3 l h) (g4 (by omega) (by omega))

theorem eq_decide (x y : ByteArray) : (x.toList == y.toList) = decide (x = y) := by
  rw [ByteArray.toList_eq, ByteArray.toList_eq]
  by_cases e : x = y
  · simp [e]
  · simp [e]
    intro h
    exact e (ByteArray.ext h)

set_option maxRecDepth 100000 in
set_option maxHeartbeats 4000000 in
theorem two_long (w : World) (A B : Option Addr) (n c m d : Nat) (hn : n ≤ 9223372036854775807) (hm : m ≤ 9223372036854775807) (h : 100 < n ∨ 100 < m) :
    Calls Try.prog 4 #[.slice A n c, .slice B m d] w (YesB w) := by
  by_cases h1 : 100 < n
  · clear h
    go_enter Try.func4, Try.ntmps4
    go_wp2_with fail
    refine (known_yes w).mono ?_
    rintro e w1 ⟨rfl, hb1⟩
    go_wp2
    go_ret
    exact ⟨rfl, hb1⟩
  · have h2 : 100 < m := by omega
    clear h
    go_enter Try.func4, Try.ntmps4
    go_wp2_with fail
    refine (known_yes w).mono ?_
    rintro e w1 ⟨rfl, hb1⟩
    go_wp2
    go_ret
    exact ⟨rfl, hb1⟩

set_option maxRecDepth 100000 in
set_option maxHeartbeats 4000000 in
theorem two_few (w : World) (A B : Option Addr) (n c m d : Nat) (xs ys : List ByteArray) (h : Strs w (.slice A n c) xs) (g : Strs w (.slice B m d) ys) (hn : n ≤ 100) (hm : m ≤ 100) (hl : (cat xs).length ≤ 2000000) :
    Calls Try.prog 4 #[.slice A n c, .slice B m d] w (YesB w) := by
  have HN := Lib.hid h.len.1
  have GN := Lib.hid g.len.1
  go_enter Try.func4, Try.ntmps4
  go_wp2_with fail
  refine (known_yes w).mono ?_
  rintro e w1 ⟨rfl, hb1⟩
  replace h := h.below hb1
  replace g := g.below hb1
  have HH := Lib.hid (fun k (hk : k < n) => h.cell hk)
  have GG := Lib.hid (fun k (hk : k < m) => g.cell hk)
  have HS := Lib.hid h
  have GS := Lib.hid g
  clear h g
  go_upto_block 0 with fail
  go_cut [5] (fun s5 wx => ∃ k q : Nat, s5 = .int .i64 k ∧ IsPre xs ys k ∧ wx = w1.drewN q)
  case first =>
    go_wp2_with fail
    go_loopw [5] (fun i wr => ∃ k q : Nat, k ≤ n ∧ k ≤ m ∧ i = .int .i64 k ∧ Hid (∀ i, i < k → xs[i]? = ys[i]?) ∧ wr = w1.drewN q) (fun i _ => n - (intOf i).toNat)
    case atStart => exact ⟨0, 0, Nat.zero_le _, Nat.zero_le _, rfl, fun i hi => absurd hi (by omega), rfl⟩
    case round =>
      obtain ⟨k, q, hk1, hk2, rfl, hp, rfl⟩ := hrel
      have hi0 : (0 : Int) ≤ (k : Int) := Int.natCast_nonneg _
      have HP := Lib.hid hp
      clear hp
      by_cases h1 : k < n
      · have hd1 : decide ((k : Int) < (n : Int)) = true := by simp; omega
        by_cases h2 : k < m
        · have hd2 : decide ((k : Int) < (m : Int)) = true := by simp; omega
          obtain ⟨a, x, rfl, hx, hc1⟩ := HH.out k h1
          obtain ⟨b, y, rfl, hy, hc2⟩ := GG.out k h2
          have hi1 : (k : Int) < (n : Int) := by omega
          have hi2 : (k : Int) < (m : Int) := by omega
          have HX := Lib.hid hx
          have HY := Lib.hid hy
          have hs := eq_decide x y
          clear hx hy
          by_cases hxy : x = y
          · subst hxy
            clear hs
            go_wp2_with fail
            go_quiet (fail)
            go_wp2
            go_roundw
            case rel =>
              refine ⟨k + 1, _, by omega, by omega, by go_num, fun i hi => ?_, rfl⟩
              by_cases hik : i < k
              · exact HP.out.out i hik
              · obtain rfl : i = k := by omega
                rw [HX.out, HY.out]
            case measure => simp [intOf]; omega
          · rw [decide_eq_false hxy] at hs
            go_wp2_with fail
            go_quiet (fail)
            go_wp2
            go_meet
            refine ⟨k, _, rfl, ⟨by rw [← HN.out]; omega, by rw [← GN.out]; omega, HP.out.out, fun _ _ => ?_⟩, World.drewN_drewN _ _ _⟩
            rw [HX.out, HY.out]
            simpa using hxy
        · have hd2 : decide ((k : Int) < (m : Int)) = false := by simp; omega
          go_wp2_with fail
          go_quiet (fail)
          go_wp2
          go_meet
          exact ⟨k, _, rfl, ⟨by rw [← HN.out]; omega, by rw [← GN.out]; omega, HP.out.out, fun _ h => by rw [← GN.out] at h; omega⟩, World.drewN_drewN _ _ _⟩
      · have hd1 : decide ((k : Int) < (n : Int)) = false := by simp; omega
        go_wp2_with fail
        go_quiet (fail)
        go_wp2
        go_meet
        exact ⟨k, _, rfl, ⟨by rw [← HN.out]; omega, by rw [← GN.out]; omega, HP.out.out, fun h => by rw [← HN.out] at h; omega⟩, World.drewN_drewN _ _ _⟩
  obtain ⟨k1, q0, rfl, hP1, rfl⟩ := hcut
  have HP1 := Lib.hid hP1
  clear hP1
  go_upto_block 2 with fail
  go_cut [6] (fun s6 wx => ∃ k q : Nat, s6 = .int .i64 k ∧ IsSuf xs ys k ∧ wx = w1.drewN q)
  case first =>
    go_wp2_with fail
    go_loopw [6] (fun i wr => ∃ k q : Nat, k ≤ n ∧ k ≤ m ∧ i = .int .i64 k ∧ Hid (∀ i, i < k → xs[xs.length - 1 - i]? = ys[ys.length - 1 - i]?) ∧ wr = w1.drewN q) (fun i _ => n - (intOf i).toNat)
    case atStart => exact ⟨0, q0, Nat.zero_le _, Nat.zero_le _, rfl, fun i hi => absurd hi (by omega), rfl⟩
    case round =>
      obtain ⟨k, q, hk1, hk2, rfl, hp, rfl⟩ := hrel
      have hi0 : (0 : Int) ≤ (k : Int) := Int.natCast_nonneg _
      have HP := Lib.hid hp
      clear hp
      by_cases h1 : k < n
      · have hd1 : decide ((k : Int) < (n : Int)) = true := by simp; omega
        by_cases h2 : k < m
        · have hd2 : decide ((k : Int) < (m : Int)) = true := by simp; omega
          obtain ⟨p1, hp1⟩ : ∃ p1, n = p1 + 1 + k := ⟨n - 1 - k, by omega⟩
          obtain ⟨p2, hp2⟩ : ∃ p2, m = p2 + 1 + k := ⟨m - 1 - k, by omega⟩
          obtain ⟨a, x, rfl, hx, hc1⟩ := HH.out p1 (by omega)
          obtain ⟨b, y, rfl, hy, hc2⟩ := GG.out p2 (by omega)
          have hi1 : (n : Int) - 1 - (k : Int) = (p1 : Int) := by omega
          have hi2 : (m : Int) - 1 - (k : Int) = (p2 : Int) := by omega
          have hj1 : (p1 : Int) < (n : Int) := by omega
          have hj2 : (p2 : Int) < (m : Int) := by omega
          have hj3 : (0 : Int) ≤ (p1 : Int) := by omega
          have hj4 : (0 : Int) ≤ (p2 : Int) := by omega
          have HP1 := Lib.hid hp1
          have HP2 := Lib.hid hp2
          clear hp1 hp2
          have HX := Lib.hid hx
          have HY := Lib.hid hy
          have hs := eq_decide x y
          clear hx hy
          by_cases hxy : x = y
          · subst hxy
            clear hs
            go_wp2_with fail
            go_quiet (fail)
            go_wp2
            go_roundw
            case rel =>
              refine ⟨k + 1, _, by omega, by omega, by go_num, fun i hi => ?_, rfl⟩
              by_cases hik : i < k
              · exact HP.out.out i hik
              · obtain rfl : i = k := by omega
                rw [← HN.out, ← GN.out, show n - 1 - i = p1 by have := HP1.out; omega, show m - 1 - i = p2 by have := HP2.out; omega, HX.out, HY.out]
            case measure => simp [intOf]; omega
          · rw [decide_eq_false hxy] at hs
            go_wp2_with fail
            go_quiet (fail)
            go_wp2
            go_meet
            refine ⟨k, _, rfl, ⟨by rw [← HN.out]; omega, by rw [← GN.out]; omega, HP.out.out, fun _ _ => ?_⟩, World.drewN_drewN _ _ _⟩
            rw [← HN.out, ← GN.out, show n - 1 - k = p1 by have := HP1.out; omega, show m - 1 - k = p2 by have := HP2.out; omega, HX.out, HY.out]
            simpa using hxy
        · have hd2 : decide ((k : Int) < (m : Int)) = false := by simp; omega
          go_wp2_with fail
          go_quiet (fail)
          go_wp2
          go_meet
          exact ⟨k, _, rfl, ⟨by rw [← HN.out]; omega, by rw [← GN.out]; omega, HP.out.out, fun _ h => by rw [← GN.out] at h; omega⟩, World.drewN_drewN _ _ _⟩
      · have hd1 : decide ((k : Int) < (n : Int)) = false := by simp; omega
        go_wp2_with fail
        go_quiet (fail)
        go_wp2
        go_meet
        exact ⟨k, _, rfl, ⟨by rw [← HN.out]; omega, by rw [← GN.out]; omega, HP.out.out, fun h => by rw [← HN.out] at h; omega⟩, World.drewN_drewN _ _ _⟩
  obtain ⟨k2, q1, rfl, hP2, rfl⟩ := hcut
  have HP2 := Lib.hid hP2
  clear hP2
  go_wp2_with fail
  refine (prefix_any _ _ _ xs ys (HS.out.drewN q1) (GS.out.drewN q1)).mono ?_
  rintro e w2 ⟨n1, r1, hR, rfl, rfl⟩
  obtain rfl := hR.one HP1.out
  clear hR
  rw [World.drewN_drewN]
  go_wp2_with fail
  refine (suffix_any _ _ _ xs ys (HS.out.drewN _) (GS.out.drewN _)).mono ?_
  rintro e w2 ⟨n2, r2, hR, rfl, rfl⟩
  obtain rfl := hR.one HP2.out
  clear hR
  rw [World.drewN_drewN]
  go_wp2_with fail
  refine (linesEqual_any _ _ _ xs ys (HS.out.drewN _) (GS.out.drewN _)).mono ?_
  rintro e w2 ⟨r3, rfl, rfl⟩
  rw [World.drewN_drewN]
  generalize hB : decide (xs = ys) = bb
  go_wp2_with fail
  refine (refEqual_any _ _ _ xs ys (HS.out.drewN _) (GS.out.drewN _)).mono ?_
  rintro e w2 ⟨r4, rfl, rfl⟩
  rw [World.drewN_drewN, hB]
  clear hB
  have hj1 : xs.length ≤ 2000000 := by rw [← HN.out]; omega
  cases bb
  all_goals
    go_wp2_with fail
    refine (join_any _ _ xs (HS.out.drewN _) hl hj1).mono ?_
    rintro e w3 ⟨rfl, hb3⟩
    have hS3 := (HS.out.drewN _).below hb3
    have hb4 := (below_drewN hb1 _).trans (hb3.mono (below_drewN hb1 _).size)
    clear hb3
    go_wp2_with fail
    refine (refJoin_any _ _ xs hS3 hl).mono ?_
    rintro e w4 ⟨rfl, rfl⟩
    go_wp2
    go_ret
    exact ⟨rfl, hb4⟩

end Go.Proofs.Ytojjhnjkibpfeaa
