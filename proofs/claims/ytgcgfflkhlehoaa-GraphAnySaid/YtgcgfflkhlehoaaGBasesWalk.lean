/-
  The walk of GraphBases.
-/
import Derived.Test.YtgcgfflkhlehoaaGEq
import Derived.Deep.RegionHeld3
import Derived.Outline
namespace Go.Proofs.Ytgcgfflkhlehoaa
open Go.RowKit

theorem rowF_inj {n : Nat} {f : Nat → Bool} {i j : Nat} {x : Int} (hi : (rowF n f)[i]? = some x) (hj : (rowF n f)[j]? = some x) : i = j := by
  have hd : (rowF n f).Nodup := by
    unfold rowF
    exact List.Pairwise.map _ (fun a b h e => h (by omega)) (List.Pairwise.filter _ List.nodup_range)
  rw [List.Nodup, List.pairwise_iff_getElem] at hd
  obtain ⟨h1, e1⟩ := List.getElem?_eq_some_iff.1 hi
  obtain ⟨h2, e2⟩ := List.getElem?_eq_some_iff.1 hj
  rcases Nat.lt_trichotomy i j with h | h | h
  · exact absurd (e1.trans e2.symm) (hd i j h1 h2 h)
  · exact h
  · exact absurd (e2.trans e1.symm) (hd j i h2 h1 h)

theorem any_take {α : Type} {L : List α} {f : α → Bool} {j : Nat} {x : α} (h : L[j]? = some x) : (L.take (j + 1)).any f = ((L.take j).any f || f x) := by
  rw [List.take_add_one, h, List.any_append]
  simp

theorem below_trans {a b c : World} (h : Below a.heap.size a b) (g : Below b.heap.size b c) : Below a.heap.size a c := h.trans (g.mono h.size)

set_option maxRecDepth 100000 in
set_option maxHeartbeats 8000000 in
theorem bases_walk (w : World) (v : Value) (gs : List (List Int)) (a b : Int) (hG : Rows w v gs) : Calls Try.prog 4 #[v, .int .i64 a, .int .i64 b] w (YesB w) := by
  obtain ⟨A, c, rfl⟩ := hG.form
  have hlen := hG.len
  have hl63 : gs.length ≤ 9223372036854775807 := by have h1 := hlen.2.1; have h2 := hlen.2.2; unfold maxLen at h2; omega
  have HG := Lib.hid hG
  clear hG hlen
  go_enter Try.func4, Try.ntmps4
  go_wp2_with fail
  refine (known_yes w).mono ?_
  rintro e w1 ⟨rfl, b1⟩
  have F := Lib.hid (few_any w1 _ gs (HG.out.below b1))
  go_wp2_with fail
  refine F.out.mono ?_
  rintro e w1' ⟨bf, rfl, hbf, rfl⟩
  clear F
  cases bf with
  | false =>
    clear hbf
    go_wp2
    go_ret
    exact ⟨rfl, b1⟩
  | true =>
    have hN := hbf rfl
    clear hbf
    have F := Lib.hid (refCheck_any w1 _ gs (HG.out.below b1))
    go_wp2_with fail
    refine F.out.mono ?_
    rintro e w2 ⟨rfl, d2⟩
    have b2 := below_trans b1 d2
    clear F d2 b1
    by_cases hc : chk gs = 0
    · have hok := chk_ok hc
      rw [hc]
      clear hc
      by_cases h1 : a < 1
      · go_wp2
        go_ret
        exact ⟨rfl, b2⟩
      · have h1' : 1 ≤ a := by omega
        by_cases h2 : (gs.length : Int) < a
        · go_wp2
          go_ret
          exact ⟨rfl, b2⟩
        · have h2' : a ≤ (gs.length : Int) := by omega
          by_cases h3 : b < 1
          · go_wp2
            go_ret
            exact ⟨rfl, b2⟩
          · have h3' : 1 ≤ b := by omega
            by_cases h4 : (gs.length : Int) < b
            · go_wp2
              go_ret
              exact ⟨rfl, b2⟩
            · have h4' : b ≤ (gs.length : Int) := by omega
              obtain ⟨hn1, ok, two⟩ := hok
              have HL1 : Hid (∀ x ∈ basL gs a b, isB gs x a = true ∧ isB gs x b = true) := Lib.hid fun x hx => by
                obtain ⟨p1, p2, _⟩ := mem_basL.1 hx
                exact ⟨isB_iff.2 p1, isB_iff.2 p2⟩
              have HL2 : Hid (∀ (i j : Nat) (x y : Int), (basL gs a b)[i]? = some x → (basL gs a b)[j]? = some y → i ≠ j → isB gs x y = false) := Lib.hid fun i j x y hx hy hne => by
                cases h : isB gs x y with
                | false => rfl
                | true =>
                  refine absurd (isB_iff.1 h) (bas_apart (List.mem_of_getElem? hx) (List.mem_of_getElem? hy) fun e => ?_)
                  subst e
                  exact hne (rowF_inj hx hy)
              have HL3 : Hid (∀ x ∈ ancR gs [a], isB gs x b = true → (basL gs a b).any (fun m => isB gs x m) = true) := Lib.hid fun x hx hb => by
                obtain ⟨i, _, hf, rfl⟩ := mem_rowF.1 hx
                obtain ⟨m, hm, g⟩ := bas_under ok (anc_iff.1 hf) (isB_iff.1 hb)
                exact List.any_eq_true.2 ⟨m, hm, isB_iff.2 g⟩
              have HL4 : Hid (isB gs a b = true → basL gs a b = [a] ∧ base1 gs a b = a) := Lib.hid fun hb => by
                have := bas_self ok (isB_iff.1 hb)
                exact ⟨this, by unfold base1; rw [this]; rfl⟩
              have B1 := Lib.hid fun w' h => bases_any w' (.slice A gs.length c) gs a b h (by omega) two
              have B2 := Lib.hid fun w' h => bases_any w' (.slice A gs.length c) gs b a h (by omega) two
              have B3 := Lib.hid fun w' h => base_any w' (.slice A gs.length c) gs a b h (by omega) two
              have B4 := Lib.hid fun w' h => base_any w' (.slice A gs.length c) gs b a h (by omega) two
              have IS := Lib.hid fun w' x y h => is_any w' (.slice A gs.length c) gs x y h (by omega)
              have AN := Lib.hid fun w' u h hu => ancestors_any w' (.slice A gs.length c) u gs [a] h hu (by omega)
              rw [bas_turn] at B2
              have ht : base1 gs b a = base1 gs a b := by unfold base1; rw [bas_turn]
              rw [ht] at B4
              have hLl : (basL gs a b).length ≤ 2001 := Nat.le_trans (rowF_len _ _) (by omega)
              have hRl : (ancR gs [a]).length ≤ 2001 := Nat.le_trans (rowF_len _ _) (by omega)
              clear ok two hn1 ht
              generalize basL gs a b = L at *
              generalize base1 gs a b = bb at *
              generalize ancR gs [a] = R at *
              go_wp2_with fail
              refine (B1.out w2 (HG.out.below b2)).mono ?_
              rintro e w3 ⟨x3, rfl, o3, d3⟩
              have b3 := below_trans b2 d3
              obtain ⟨X3, y3, rfl⟩ := own_form o3
              have J3 := Lib.hid (Ints.of_own o3 rfl)
              clear o3 d3 b2
              go_wp2_with fail
              refine (B2.out w3 (HG.out.below b3)).mono ?_
              rintro e w4 ⟨x4, rfl, o4, d4⟩
              have b4 := below_trans b3 d4
              obtain ⟨X4, y4, rfl⟩ := own_form o4
              have J4 := Lib.hid (J3.out.below d4)
              have K4 := Lib.hid (Ints.of_own o4 rfl)
              clear o4 d4 b3
              have E5 := Lib.hid (ints_any w4 _ _ L L J4.out K4.out)
              rw [decide_eq_true (rfl : L = L)] at E5
              go_wp2_with fail
              refine E5.out.mono ?_
              rintro e w5 ⟨rfl, d5⟩
              have b5 := below_trans b4 d5
              have J5 := Lib.hid (J4.out.below d5)
              clear E5 d5 b4 J3 J4 K4
              go_wp2_with fail
              refine (B3.out w5 (HG.out.below b5)).mono ?_
              rintro e w6 ⟨rfl, d6⟩
              have b6 := below_trans b5 d6
              have J6 := Lib.hid (J5.out.below d6)
              clear d6 b5 J5
              go_wp2_with fail
              refine (B4.out w6 (HG.out.below b6)).mono ?_
              rintro e w7 ⟨rfl, d7⟩
              have b7 := below_trans b6 d7
              have J7 := Lib.hid (J6.out.below d7)
              clear d7 b6 J6
              have nb : (bb != bb) = false := by simp
              go_wp2_with fail
              clear nb
              go_loopw [8] (fun s8 wr => ∃ k : Nat, k ≤ L.length ∧ s8 = .int .i64 k ∧ Below w7.heap.size w7 wr) (fun s8 _ => L.length - (intOf s8).toNat)
              case atStart => exact ⟨0, Nat.zero_le _, rfl, Below.refl _ _⟩
              case round =>
                obtain ⟨k, hk, rfl, hb⟩ := hrel
                have k0 : (0 : Int) ≤ (k : Int) := Int.natCast_nonneg _
                by_cases hlt : k < L.length
                · have k1 : (k : Int) < (L.length : Int) := by omega
                  obtain ⟨x, hx⟩ : ∃ x, L[k]? = some x := ⟨_, List.getElem?_eq_getElem hlt⟩
                  obtain ⟨q1, q2⟩ := HL1.out x (List.mem_of_getElem? hx)
                  obtain ⟨ad, rfl, c1⟩ := (J7.out.below hb).cell hx
                  have Hx := Lib.hid hx
                  have I1 := Lib.hid (IS.out wr x a (HG.out.below (below_trans b7 hb)))
                  rw [q1] at I1
                  clear hx q1
                  go_wp2_with fail
                  refine I1.out.mono ?_
                  rintro e w8 ⟨rfl, d8⟩
                  have hb8 := below_trans hb d8
                  obtain ⟨ad', had, c2⟩ := (J7.out.below hb8).cell Hx.out
                  obtain rfl := Option.some.inj had
                  have I2 := Lib.hid (IS.out w8 x b (HG.out.below (below_trans b7 hb8)))
                  rw [q2] at I2
                  clear d8 I1 q2 had c1
                  go_wp2_with fail
                  refine I2.out.mono ?_
                  rintro e w9 ⟨rfl, d9⟩
                  have hb9 := below_trans hb8 d9
                  clear d9 I2 hb8 c2 hb
                  go_wp2_with fail
                  go_loopw [9] (fun s9 wr => ∃ j : Nat, j ≤ L.length ∧ s9 = .int .i64 j ∧ Below w7.heap.size w7 wr) (fun s9 _ => L.length - (intOf s9).toNat)
                  case atStart => exact ⟨0, Nat.zero_le _, rfl, hb9⟩
                  case round =>
                    clear hb9
                    obtain ⟨j, hj, rfl, hb⟩ := hrel
                    have j0 : (0 : Int) ≤ (j : Int) := Int.natCast_nonneg _
                    by_cases hlj : j < L.length
                    · have j1 : (j : Int) < (L.length : Int) := by omega
                      by_cases hkj : k = j
                      · have e1 : ((k : Int) != (j : Int)) = false := by simp; omega
                        clear hkj
                        go_wp2_with fail
                        go_quiet (fail)
                        go_wp2_with fail
                        go_roundw
                        case rel => exact ⟨j + 1, by omega, by go_num, below_drewN hb _⟩
                        case measure => simp [intOf]; omega
                      · have e1 : ((k : Int) != (j : Int)) = true := by simp; omega
                        obtain ⟨y, hy⟩ : ∃ y, L[j]? = some y := ⟨_, List.getElem?_eq_getElem hlj⟩
                        have q3 := HL2.out k j x y Hx.out hy hkj
                        obtain ⟨ad1, had1, c1⟩ := (J7.out.below hb).cell Hx.out
                        obtain rfl := Option.some.inj had1
                        obtain ⟨ad2, had2, c2⟩ := (J7.out.below hb).cell hy
                        obtain rfl := Option.some.inj had2
                        have hbd := below_trans hb (Below.refl _ wr).drew
                        have I3 := Lib.hid (IS.out wr.drew x y (HG.out.below (below_trans b7 hbd)))
                        rw [q3] at I3
                        clear hkj hy q3 had1 had2
                        go_wp2_with fail
                        go_region_held3 (fun w' => w'.cell? (ad.add k) = some (.int .i64 x) ∧ w'.cell? (ad.add j) = some (.int .i64 y)) (first | exact ⟨g1, g2⟩ | exact ⟨c1, c2⟩) ((go_at_call 13; (with_reducible refine I3.out.mono ?_); rintro e w10 ⟨rfl, d10⟩; have g1 := (d10.cell (World.block_lt_of_cell? wr.drew _ c1)).trans c1; have g2 := (d10.cell (World.block_lt_of_cell? wr.drew _ c2)).trans c2))
                        have hb10 := below_trans hbd d10
                        clear I3 d10 hbd hb g1 g2 c1 c2
                        go_wp2_with fail
                        go_roundw
                        case rel => exact ⟨j + 1, by omega, by go_num, hb10⟩
                        case measure => simp [intOf]; omega
                    · obtain rfl : j = L.length := by omega
                      go_wp2_with fail
                      go_roundw
                      case rel => exact ⟨k + 1, by omega, by go_num, hb⟩
                      case measure => simp [intOf]; omega
                · obtain rfl : k = L.length := by omega
                  clear HL1 HL2
                  have hba := hb.alloc hb.size (.cells #[.int .i64 a] 3)
                  have P := Lib.hid (AN.out _ _ (HG.out.below (below_trans b7 hba)) (Ints.lit wr #[.int .i64 a] 3 [a] rfl (by simp [maxLen])))
                  obtain ⟨wz, hwz⟩ : ∃ wz : World, wz = wr := ⟨_, rfl⟩
                  rw [← hwz] at hb hba P ⊢
                  clear hwz
                  go_wp2_with fail
                  refine P.out.mono ?_
                  rintro e w8 ⟨x8, rfl, o8, d8⟩
                  have hb8 := below_trans hba d8
                  obtain ⟨X8, y8, rfl⟩ := own_form o8
                  have R8 := Lib.hid (Ints.of_own o8 rfl)
                  have L8 := Lib.hid (J7.out.below hb8)
                  have b8 := below_trans b7 hb8
                  clear P o8 d8 hba hb hb8 J7 b7 AN
                  go_wp2_with fail
                  go_loopw [11] (fun s11 wr => ∃ i : Nat, i ≤ R.length ∧ s11 = .int .i64 i ∧ Below w8.heap.size w8 wr) (fun s11 _ => R.length - (intOf s11).toNat)
                  case atStart => exact ⟨0, Nat.zero_le _, rfl, Below.refl _ _⟩
                  case round =>
                    obtain ⟨i, hi, rfl, hb⟩ := hrel
                    have i0 : (0 : Int) ≤ (i : Int) := Int.natCast_nonneg _
                    by_cases hli : i < R.length
                    · have i1 : (i : Int) < (R.length : Int) := by omega
                      obtain ⟨x, hx⟩ : ∃ x, R[i]? = some x := ⟨_, List.getElem?_eq_getElem hli⟩
                      have q1 := Lib.hid (HL3.out x (List.mem_of_getElem? hx))
                      obtain ⟨ad, rfl, c1⟩ := (R8.out.below hb).cell hx
                      have Hx := Lib.hid hx
                      have I1 := Lib.hid (IS.out wr x b (HG.out.below (below_trans b8 hb)))
                      clear hx
                      go_wp2_with fail
                      refine I1.out.mono ?_
                      rintro e w9 ⟨rfl, d9⟩
                      have hb9 := below_trans hb d9
                      clear I1 d9 c1 hb
                      cases hxb : isB gs x b with
                      | false =>
                        clear q1 hxb
                        go_wp2_with fail
                        go_roundw
                        case rel => exact ⟨i + 1, by omega, by go_num, hb9⟩
                        case measure => simp [intOf]; omega
                      | true =>
                        have q2 := Lib.hid (q1.out hxb)
                        clear q1 hxb
                        go_wp2_with fail
                        go_loopw [12, 13] (fun s12 s13 wr => ∃ j : Nat, j ≤ L.length ∧ s13 = .int .i64 j ∧ s12 = .bool ((L.take j).any fun m => isB gs x m) ∧ Below w8.heap.size w8 wr) (fun _ s13 _ => L.length - (intOf s13).toNat)
                        case atStart => exact ⟨0, Nat.zero_le _, rfl, by simp, hb9⟩
                        case round =>
                          clear hb9
                          obtain ⟨j, hj, rfl, rfl, hb⟩ := hrel
                          have j0 : (0 : Int) ≤ (j : Int) := Int.natCast_nonneg _
                          by_cases hlj : j < L.length
                          · have j1 : (j : Int) < (L.length : Int) := by omega
                            obtain ⟨y, hy⟩ : ∃ y, L[j]? = some y := ⟨_, List.getElem?_eq_getElem hlj⟩
                            have HT := Lib.hid (any_take (f := fun m => isB gs x m) hy)
                            cases hund : (L.take j).any fun m => isB gs x m with
                            | true =>
                              have HE : Hid (((L.take (j + 1)).any fun m => isB gs x m) = true) := Lib.hid (by rw [HT.out, hund]; rfl)
                              clear hy hund HT
                              go_wp2_with fail
                              go_quiet (fail)
                              go_wp2_with fail
                              go_roundw
                              case rel => exact ⟨j + 1, by omega, by go_num, by rw [HE.out], below_drewN hb _⟩
                              case measure => simp [intOf]; omega
                            | false =>
                              have HE : Hid (((L.take (j + 1)).any fun m => isB gs x m) = isB gs x y) := Lib.hid (by rw [HT.out, hund]; rfl)
                              obtain ⟨ad1, had1, c1⟩ := (R8.out.below hb).cell Hx.out
                              obtain rfl := Option.some.inj had1
                              obtain ⟨ad2, rfl, c2⟩ := (L8.out.below hb).cell hy
                              have hbd := below_trans hb (Below.refl _ wr).drew
                              have I3 := Lib.hid (IS.out wr.drew x y (HG.out.below (below_trans b8 hbd)))
                              clear hy hund HT had1
                              generalize isB gs x y = bxy at *
                              go_wp2_with fail
                              go_region_held3 (fun w' => w'.cell? (ad.add i) = some (.int .i64 x) ∧ w'.cell? (ad2.add j) = some (.int .i64 y)) (first | exact ⟨g1, g2⟩ | exact ⟨c1, c2⟩) ((go_at_call 13; (with_reducible refine I3.out.mono ?_); rintro e w10 ⟨rfl, d10⟩; have g1 := (d10.cell (World.block_lt_of_cell? wr.drew _ c1)).trans c1; have g2 := (d10.cell (World.block_lt_of_cell? wr.drew _ c2)).trans c2))
                              have hb10 := below_trans hbd d10
                              clear I3 d10 hbd hb g1 g2 c1 c2
                              go_wp2_with fail
                              go_roundw
                              case rel => exact ⟨j + 1, by omega, by go_num, by rw [HE.out], hb10⟩
                              case measure => simp [intOf]; omega
                          · obtain rfl : j = L.length := by omega
                            rw [List.take_length, q2.out]
                            go_wp2_with fail
                            go_roundw
                            case rel => exact ⟨i + 1, by omega, by go_num, hb⟩
                            case measure => simp [intOf]; omega
                    · obtain rfl : i = R.length := by omega
                      obtain ⟨wy, hwy⟩ : ∃ wy : World, wy = wr := ⟨_, rfl⟩
                      rw [← hwy] at hb ⊢
                      clear hwy HL3
                      have I1 := Lib.hid (IS.out wy a b (HG.out.below (below_trans b8 hb)))
                      go_wp2_with fail
                      refine I1.out.mono ?_
                      rintro e w9 ⟨rfl, d9⟩
                      have b9 := below_trans (below_trans b8 hb) d9
                      clear I1 d9 hb
                      cases hab : isB gs a b with
                      | false =>
                        go_wp2_with fail
                        go_ret
                        exact ⟨rfl, b9⟩
                      | true =>
                        obtain ⟨hL, hbb⟩ := HL4.out hab
                        have hLl1 : L.length = 1 := by rw [hL]; rfl
                        subst hbb
                        rw [hLl1]
                        clear hL hLl1 HL4 hab
                        go_wp2_with fail
                        refine (B3.out w9 (HG.out.below b9)).mono ?_
                        rintro e w10 ⟨rfl, d10⟩
                        have b10 := below_trans b9 d10
                        go_wp2_with fail
                        go_ret
                        exact ⟨rfl, b10⟩
    · have hc' : (chk gs != 0) = true := by simpa using hc
      clear hc
      go_wp2
      go_ret
      exact ⟨rfl, b2⟩

end Go.Proofs.Ytgcgfflkhlehoaa
