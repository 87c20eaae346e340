/-
  The walk of DiffTurned.
-/
import Derived.Test.YtojjhnjkibpfeaaFewLines
namespace Go.Proofs.Ytojjhnjkibpfeaa
open Go.RowKit

theorem Strs.length_le {w : World} {A : Option Addr} {n c : Nat} {ss : List ByteArray} (h : Strs w (.slice A n c) ss) : n ≤ 9223372036854775807 := by
  have := h.len.2; unfold maxLen at this; omega

set_option maxRecDepth 100000 in
set_option maxHeartbeats 4000000 in
theorem turned_walk (w : World) (A B : Option Addr) (n c m d : Nat) (xs ys : List ByteArray) (h : Strs w (.slice A n c) xs) (g : Strs w (.slice B m d) ys) :
    Calls Try.prog 8 #[.slice A n c, .slice B m d] w (YesB w) := by
  have hn := h.length_le
  have hm := g.length_le
  have HA := Lib.hid h
  have HB := Lib.hid g
  have HN := Lib.hid h.len.1
  have HM := Lib.hid g.len.1
  clear h g
  go_enter Try.func8, Try.ntmps8
  go_wp2_with fail
  refine (diffKnown_yes w).mono ?_
  rintro e w1 ⟨rfl, hb1⟩
  go_wp2_with fail
  refine (few_any w1 _ _ xs ys (HA.out.below hb1) (HB.out.below hb1)).mono ?_
  rintro e w' ⟨b, rfl, hb, rfl⟩
  cases b with
  | false =>
    clear hb
    go_wp2
    go_ret
    exact ⟨rfl, hb1⟩
  | true =>
    obtain ⟨f1, f2, f3, f4⟩ := hb rfl
    have HX := Lib.hid fun s hs => Nat.le_trans (f3 s hs) (show 300 ≤ maxLen by decide)
    have HY := Lib.hid fun s hs => Nat.le_trans (f4 s hs) (show 300 ≤ maxLen by decide)
    rw [← HN.out] at f1
    rw [← HM.out] at f2
    clear f3 f4 hb
    by_cases h1 : 256 < n
    · go_wp2
      go_ret
      exact ⟨rfl, hb1⟩
    by_cases h2 : 256 < m
    · go_wp2
      go_ret
      exact ⟨rfl, hb1⟩
    have l1 : xs.length ≤ 256 := by have := HN.out; omega
    have l2 : ys.length ≤ 256 := by have := HM.out; omega
    obtain ⟨_, _, ca⟩ := ed_all xs ys
    obtain ⟨_, _, cb⟩ := ed_all ys xs
    have el1 := ed_len xs ys
    have el2 := ed_len ys xs
    have cz := ed_cost_zero xs ys
    have hle := lc_le_left xs ys
    have hcc : edCost (ed ys xs) = edCost (ed xs ys) := by rw [lc_symm ys xs] at cb; omega
    have hcm : edCost (ed xs ys) + 2 * lc xs ys = n + m := by rw [HN.out, HM.out]; exact ca
    have HCC := Lib.hid hcc
    have HCZ := Lib.hid cz
    clear ca cb hcc cz
    go_wp2_with fail
    refine (lines_good w1 _ _ xs ys (HA.out.below hb1) (HB.out.below hb1) HX.out HY.out l1 l2).mono ?_
    rintro e w2 ⟨v1, rfl, own1, hb2⟩
    replace hb1 := hb1.trans (hb2.mono hb1.size)
    go_wp2_with fail
    refine (lines_good w2 _ _ ys xs (HB.out.below hb1) (HA.out.below hb1) HY.out HX.out l2 l1).mono ?_
    rintro e w3 ⟨v2, rfl, own2, hb3⟩
    replace hb1 := hb1.trans (hb3.mono hb1.size)
    replace own1 := own2_keep own1 hb3
    go_wp2_with fail
    refine (common_good w3 _ _ xs ys (HA.out.below hb1) (HB.out.below hb1) HX.out HY.out l1 l2).mono ?_
    rintro e w4 ⟨rfl, hb4⟩
    replace hb1 := hb1.trans (hb4.mono hb1.size)
    replace own1 := own2_keep own1 hb4
    replace own2 := own2_keep own2 hb4
    have C1 := Lib.hid (fun (W : World) (o : W.ownsRow w1.heap.size 36 2 v1 (ed xs ys).length (edCells (ed xs ys))) => cost_any W w1.heap.size v1 (ed xs ys) o (by omega))
    have C2 := fun (W : World) (o : W.ownsRow w2.heap.size 36 2 v2 (ed ys xs).length (edCells (ed ys xs))) => cost_any W w2.heap.size v2 (ed ys xs) o (by omega)
    rw [HCC.out] at C2
    have HC2 := Lib.hid C2
    clear C2
    have HO1 := Lib.hid own1
    have HO2 := Lib.hid own2
    clear own1 own2 hb2 hb3 hb4
    generalize hq : edCost (ed xs ys) = q at *
    generalize hk : lc xs ys = k at *
    clear hq hk
    have ht1 : ((q : Int) == (n : Int) + (m : Int) - 2 * (k : Int)) = true := by rw [beq_iff_eq]; omega
    go_wp2_with fail
    refine (C1.out _ HO1.out).mono ?_
    rintro e w5 ⟨rfl, hb5⟩
    replace hb1 := hb1.trans (hb5.mono hb1.size)
    have HO15 := Lib.hid (own2_keep HO1.out hb5)
    have HO25 := Lib.hid (own2_keep HO2.out hb5)
    go_wp2_with fail
    refine (HC2.out _ HO25.out).mono ?_
    rintro e w6 ⟨rfl, hb6⟩
    replace hb1 := hb1.trans (hb6.mono hb1.size)
    have HO16 := Lib.hid (own2_keep HO15.out hb6)
    clear HO1 HO2 HO15 HO25 hb5
    go_wp2_with fail
    refine (C1.out _ HO16.out).mono ?_
    rintro e w7 ⟨rfl, hb7⟩
    replace hb1 := hb1.trans (hb7.mono hb1.size)
    have HO17 := Lib.hid (own2_keep HO16.out hb7)
    clear hb6 HO16
    go_wp2_with fail
    refine (C1.out _ HO17.out).mono ?_
    rintro e w8 ⟨rfl, hb8⟩
    replace hb1 := hb1.trans (hb8.mono hb1.size)
    clear hb7 hb8 HO17
    go_wp2_with fail
    refine (refEqual_any w8 _ _ xs ys (HA.out.below hb1) (HB.out.below hb1)).mono ?_
    rintro e w9 ⟨z, rfl, rfl⟩
    by_cases hxy : xs = ys
    · have hq0 : q = 0 := HCZ.out.2 hxy
      subst hq0
      rw [decide_eq_true hxy]
      go_wp2
      go_ret
      exact ⟨rfl, below_drewN hb1 z⟩
    · have hq0 : ¬ q = 0 := fun e => hxy (HCZ.out.1 e)
      have hq1 : ((q : Int) == 0) = false := by rw [beq_eq_false_iff_ne]; omega
      rw [decide_eq_false hxy]
      go_wp2
      go_ret
      exact ⟨rfl, below_drewN hb1 z⟩

end Go.Proofs.Ytojjhnjkibpfeaa
