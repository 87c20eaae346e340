/-
  PatchHunks: hunks done as the document's are, whatever they are.
-/
import Derived.Test.YtdpoeagmeiedcaaDoorP15
import Derived.Test.YtdpoeagmeiedcaaDoorP6
namespace Go.Proofs.YtdpoeagmeiedcaaDoor
open Go Go.RowKit

theorem dec_le {a b : Int} (h : a ≤ b) : decide (b < a) = false := decide_eq_false (by omega)
theorem dec_lt {a b : Int} (h : a < b) : decide (a < b) = true := decide_eq_true h
set_option maxRecDepth 100000 in
set_option maxHeartbeats 8000000 in
theorem patchHunks_walk (w : World) (v u : Value) (xs : List ByteArray) (hs : List Hk) (ha : Strs w v xs) (hh : HksIn w u hs) (hE : ErrType w) : Calls Tryd.prog 5 #[v, u] w (YesB w) := by
  obtain ⟨B, n, d, rfl⟩ := ha.form
  obtain ⟨A, c, rfl⟩ := hh.form
  obtain rfl := ha.len.1
  have hhc := hh.len.2.1
  have hhm : c ≤ 9223372036854775807 := by have := hh.len.2.2; unfold maxLen at this; omega
  have HA := Lib.hid ha
  have HH := Lib.hid hh
  have E0 := Lib.hid hE
  have KN := Lib.hid (known12_yes w)
  clear ha hh hE
  go_enter Tryd.func5, Tryd.ntmps5
  go_wp2_with fail
  refine KN.out.mono ?_
  rintro e w1 ⟨rfl, b1⟩
  have B1 := Lib.hid b1
  have FW := Lib.hid (few12_any w1 _ _ xs [] (HA.out.below b1) (Strs.nil w1))
  clear b1 KN
  go_wp2_with fail
  refine FW.out.mono ?_
  rintro e w2 ⟨b, rfl, hb, d2⟩
  have B2 := Lib.hid (B1.out.trans (d2.mono B1.out.size))
  have HB := Lib.hid hb
  clear hb d2 B1 FW
  cases b with
  | false =>
    go_wp2
    go_ret
    exact ⟨rfl, B2.out⟩
  | true =>
    have lx := (HB.out rfl).1
    clear HB
    by_cases h10 : 10 < hs.length
    · have i10 : (10 : Int) < (hs.length : Int) := by omega
      go_wp2
      go_ret
      exact ⟨rfl, B2.out⟩
    · have i10 : ¬ (10 : Int) < (hs.length : Int) := by omega
      go_wp2_with fail
      go_loopw [5] (fun s5 wr => ∃ i : Nat, i ≤ hs.length ∧ s5 = .int .i64 i ∧ Hid (∀ x ∈ hs.take i, HkOk x) ∧ Below w2.heap.size w2 wr) (fun s5 _ => hs.length - (intOf s5).toNat)
      case atStart => exact ⟨0, Nat.zero_le _, rfl, Lib.hid (fun x hx => by simp at hx), Below.refl _ _⟩
      case round =>
        obtain ⟨i, hil, rfl, hok, hb⟩ := hrel
        have i0 : (0 : Int) ≤ (i : Int) := Int.natCast_nonneg _
        by_cases hlt : i < hs.length
        · have i1 : (i : Int) < (hs.length : Int) := by omega
          obtain ⟨x, hx⟩ : ∃ x, hs[i]? = some x := ⟨_, List.getElem?_eq_getElem hlt⟩
          have hbw := B2.out.trans (hb.mono B2.out.size)
          obtain ⟨ad, vl, rfl, c0, c1, c2, c3, c4, hrd⟩ := HH.out.at2 hbw hx
          have HX := Lib.hid hx
          obtain ⟨at_, del, to_, add, ls⟩ := x
          simp only at c0 c1 c2 c3 hrd
          obtain ⟨Al, cl, rfl⟩ := hrd.form
          have hb1 := hb.alloc hb.size (.cells #[.int .i64 at_, .int .i64 del, .int .i64 to_, .int .i64 add, .slice Al ls.length cl] 64)
          have KX := Lib.hid (Blk.new wr 64 #[.int .i64 at_, .int .i64 del, .int .i64 to_, .int .i64 add, .slice Al ls.length cl])
          have HL4 := Lib.hid (hrd.below (B2.out.trans (hb1.mono B2.out.size)))
          have hlc := hrd.len.2.1
          have hlm : cl ≤ 9223372036854775807 := by have := hrd.len.2.2; unfold maxLen at this; omega
          have HB4 := Lib.hid hb1
          clear hx hrd hb1 hb hbw
          go_upto_region 9 with fail
          generalize hX : wr.heap.size = X at *
          generalize hW : wr.alloc (.cells #[.int .i64 at_, .int .i64 del, .int .i64 to_, .int .i64 add, .slice Al ls.length cl] 64) = W at *
          clear hX hW c0 c1 c2 c3 c4
          have e0 := KX.out.cell 0
          have e2 := KX.out.cell 2
          have e4 := KX.out.cell 4
          by_cases h1 : 50 < ls.length
          · have j1 : (50 : Int) < (ls.length : Int) := by omega
            go_wp2
            go_ret
            exact ⟨rfl, B2.out.trans (HB4.out.mono B2.out.size)⟩
          have j1 : ¬ (50 : Int) < (ls.length : Int) := by omega
          have k1 : decide ((50 : Int) < (ls.length : Int)) = false := decide_eq_false j1
          by_cases h2 : at_ < -1099511627776
          · have k2 := dec_lt h2
            go_wp2
            go_ret
            exact ⟨rfl, B2.out.trans (HB4.out.mono B2.out.size)⟩
          have k2 : decide (at_ < -1099511627776) = false := decide_eq_false h2
          by_cases h3 : 1099511627776 < at_
          · have k3 := dec_lt h3
            go_wp2
            go_ret
            exact ⟨rfl, B2.out.trans (HB4.out.mono B2.out.size)⟩
          have k3 : decide (1099511627776 < at_) = false := decide_eq_false h3
          by_cases h4 : to_ < -1099511627776
          · have k4 := dec_lt h4
            go_wp2
            go_ret
            exact ⟨rfl, B2.out.trans (HB4.out.mono B2.out.size)⟩
          have k4 : decide (to_ < -1099511627776) = false := decide_eq_false h4
          by_cases h5 : 1099511627776 < to_
          · have k5 := dec_lt h5
            go_wp2
            go_ret
            exact ⟨rfl, B2.out.trans (HB4.out.mono B2.out.size)⟩
          have k5 : decide (1099511627776 < to_) = false := decide_eq_false h5
          have HOKX : Hid (HkOk ⟨at_, del, to_, add, ls⟩) := Lib.hid ⟨by show ls.length ≤ 200; omega, by show _ ≤ at_; omega, by show at_ ≤ _; omega, by show _ ≤ to_; omega, by show to_ ≤ _; omega⟩
          clear h1 h2 h3 h4 h5
          go_wp2_with fail
          go_loopw [7] (fun s7 wr => ∃ k : Nat, k ≤ ls.length ∧ s7 = .int .i64 k ∧ wr = W) (fun s7 _ => ls.length - (intOf s7).toNat)
          case atStart => exact ⟨0, Nat.zero_le _, rfl, rfl⟩
          case round =>
            obtain ⟨k, hkl, rfl, rfl⟩ := hrel
            have z0 : (0 : Int) ≤ (k : Int) := Int.natCast_nonneg _
            clear j1 k1 k2 k3 k4 k5 e0 e2
            by_cases hlt2 : k < ls.length
            · have z1 : (k : Int) < (ls.length : Int) := by omega
              obtain ⟨y, hy⟩ : ∃ y, ls[k]? = some y := ⟨_, List.getElem?_eq_getElem hlt2⟩
              obtain ⟨ad2, rfl, x0, x1⟩ := Eds.at_ HL4.out hy
              obtain ⟨o, t⟩ := y
              simp only at x0 x1
              clear hy
              by_cases h6 : 300 < t.size
              · have z2 : (300 : Int) < (t.size : Int) := by omega
                go_wp2
                go_ret
                exact ⟨rfl, B2.out.trans (HB4.out.mono B2.out.size)⟩
              · have z2 : ¬ (300 : Int) < (t.size : Int) := by omega
                go_wp2
                go_roundw
                case rel => exact ⟨k + 1, by omega, by go_num, by trivial⟩
                case measure => simp [intOf]; omega
            · obtain rfl : k = ls.length := by omega
              go_wp2
              go_roundw
              case rel => exact ⟨i + 1, by omega, by go_num, Lib.hid (by rw [take_snocP HX.out]; intro x hx; rcases List.mem_append.1 hx with h | h; exact hok.out x h; rw [List.mem_singleton] at h; subst h; exact HOKX.out), HB4.out⟩
              case measure => simp [intOf]; omega
        · obtain rfl : i = hs.length := by omega
          have hok2 : ∀ x ∈ hs, HkOk x := by have := hok.out; rwa [List.take_length] at this
          have HOK := Lib.hid hok2
          have B3 := Lib.hid (B2.out.trans (hb.mono B2.out.size))
          have hm : wr.heap.size ≤ (wr.alloc (.cells #[] 9)).heap.size := by simp
          have O0 := Lib.hid (show (wr.alloc (.cells #[] 9)).ownsRow wr.heap.size 9 1 (.slice (some ⟨wr.heap.size, 0, none⟩) 0 0) ([] : List ByteArray).length (([] : List ByteArray).map Value.string) from World.ownsRow_made wr #[] 0 (Nat.le_refl _) (Nat.zero_le _) rfl)
          have b4 := (Below.refl wr.heap.size wr).alloc (Nat.le_refl _) (.cells #[] 9)
          have sK := HA.out.below (B3.out.trans (b4.mono B3.out.size))
          have hll : ([] : List ByteArray).length + xs.length ≤ 1000000 := by simp; omega
          clear hok hok2
          go_wp2_with (at_builtin; refine wpList_append_strs rfl (.tmp 72) (.tmp 73) rfl wr.heap.size _ [] rfl O0.out _ xs sK rfl hll hm ?_; intro v5 w5 own5 hg5 _)
          rw [List.nil_append] at own5
          have B5' := b4.grown hg5 hm (fun z hz => (O0.out.lt z hz).1)
          have B5 := Lib.hid (B3.out.trans (B5'.mono B3.out.size))
          have O5 := Lib.hid own5
          obtain ⟨A5, c5, rfl⟩ := own_formP own5
          clear own5 hg5 B5' sK b4 O0
          rcases hR : applyH xs hs 0 [] 0 with ⟨j, k⟩ | l
          · have HJ := applyH_bad xs hs 0 [] 0 j k hR
            have hj9 : j ≤ 9 := by omega
            have hk4 := Lib.hid HJ.2
            have AP := apply_any w5 _ _ xs hs (HA.out.below B5.out) (HH.out.below B5.out) (by omega) (by omega) HOK.out
            have RA := fun W (u : Value) h1 h2 => refApply_any W (.slice B xs.length d) u xs hs h1 h2 (by omega) (by omega) HOK.out
            rw [hR] at AP
            simp only [hR] at RA
            have AP := Lib.hid AP
            have RA := Lib.hid RA
            clear hR HJ
            go_wp2_with fail
            refine AP.out.mono ?_
            rintro e w6 h6
            obtain ⟨F, rfl, f6, d6⟩ := applied_bad h6
            have B6 := Lib.hid (B5.out.trans (d6.mono B5.out.size))
            have F6 := Lib.hid f6
            have O6 := Lib.hid (own2_keep O5.out d6)
            clear h6 f6 d6 AP O5
            go_wp2_with fail
            refine (ofHk_any w6 _ hs (HH.out.below B6.out) (by omega) (fun x hx => by have := (HOK.out x hx).l; omega)).mono ?_
            rintro e w7 ⟨v7, vals7, rfl, o7, h7, d7⟩
            have B7 := Lib.hid (B6.out.trans (d7.mono B6.out.size))
            have F7 := Lib.hid (F6.out.below d7 F6.out.lt)
            have O7 := Lib.hid (own2_keep O6.out d7)
            have RX := Lib.hid (RA.out w7 v7 (HA.out.below B7.out) (HksIn.of_own o7 h7))
            clear o7 h7 d7 O6 F6 RA
            go_wp2_with fail
            refine RX.out.mono ?_
            rintro e w8 (⟨_, _, h, _⟩ | ⟨j', k', g, hjk, rfl, hg, d8⟩)
            · cases h
            cases hjk
            have B8 := Lib.hid (B7.out.trans (d8.mono B7.out.size))
            have F8 := Lib.hid (F7.out.below d8 F7.out.lt)
            have O8 := Lib.hid (own2_keep O7.out d8)
            have b9 := (Below.refl w8.heap.size w8).alloc (Nat.le_refl _) (.cells #[.slice (some ⟨g, 0, none⟩) 1 1, .int .i64 k] 33)
            have B9 := Lib.hid (B8.out.trans (b9.mono B8.out.size))
            have TL := Lib.hid (tells_hunk _ F g j k hj9 hk4.out (F8.out.below b9 F8.out.lt) (hg.below b9 hg.lt) (E0.out.below B9.out))
            have O9 := Lib.hid (own2_keep O8.out b9)
            clear hg d8 b9 RX F7 O7 F8 O8
            go_wp2_with fail
            refine TL.out.mono ?_
            rintro e w10 ⟨rfl, d10⟩
            have B10 := Lib.hid (B9.out.trans (d10.mono B9.out.size))
            have O10 := Lib.hid (own2_keep O9.out d10)
            clear d10 TL O9 B9
            go_wp2_with fail
            refine (refEqual_any w10 _ _ ([] : List ByteArray) ([] : List ByteArray) (Strs.nil _) (Strs.nil _)).mono ?_
            rintro e w11 ⟨n1, rfl, rfl⟩
            go_wp2_with fail
            refine (refEqual_any (w10.drewN n1) _ _ xs xs ((HA.out.below B10.out).drewN _) ((Strs.of_own O10.out rfl).drewN _)).mono ?_
            rintro e w12 ⟨n2, rfl, rfl⟩
            rw [decide_eq_true (rfl : xs = xs)]
            go_wp2
            go_ret
            exact ⟨rfl, below_drewN B10.out _⟩
          · have AP := apply_any w5 _ _ xs hs (HA.out.below B5.out) (HH.out.below B5.out) (by omega) (by omega) HOK.out
            have RA := fun W (u : Value) h1 h2 => refApply_any W (.slice B xs.length d) u xs hs h1 h2 (by omega) (by omega) HOK.out
            rw [hR] at AP
            simp only [hR] at RA
            have AP := Lib.hid AP
            have RA := Lib.hid RA
            clear hR
            go_wp2_with fail
            refine AP.out.mono ?_
            rintro e w6 h6
            obtain ⟨v6, rfl, own6, d6⟩ := applied_ok h6
            have B6 := Lib.hid (B5.out.trans (d6.mono B5.out.size))
            have P6 := Lib.hid own6
            obtain ⟨A6, c6, rfl⟩ := own_formP own6
            have O6 := Lib.hid (own2_keep O5.out d6)
            clear h6 own6 d6 AP O5
            go_wp2_with fail
            refine (ofHk_any w6 _ hs (HH.out.below B6.out) (by omega) (fun x hx => by have := (HOK.out x hx).l; omega)).mono ?_
            rintro e w7 ⟨v7, vals7, rfl, o7, h7, d7⟩
            have B7 := Lib.hid (B6.out.trans (d7.mono B6.out.size))
            have P7 := Lib.hid (own2_keep P6.out d7)
            have O7 := Lib.hid (own2_keep O6.out d7)
            have RX := Lib.hid (RA.out w7 v7 (HA.out.below B7.out) (HksIn.of_own o7 h7))
            clear o7 h7 d7 O6 P6 RA
            go_wp2_with fail
            refine RX.out.mono ?_
            rintro e w8 (⟨l', v8, hl8, rfl, own8, d8⟩ | ⟨_, _, _, h, _⟩)
            case inr => cases h
            cases hl8
            obtain ⟨A8, c8, rfl⟩ := own_formP own8
            have B8 := Lib.hid (B7.out.trans (d8.mono B7.out.size))
            have P8 := Lib.hid (own2_keep P7.out d8)
            have O8 := Lib.hid (own2_keep O7.out d8)
            have b9 := (Below.refl w8.heap.size w8).alloc (Nat.le_refl _) (.cells #[.slice none 0 0, .int .i64 0] 33)
            have B9 := Lib.hid (B8.out.trans (b9.mono B8.out.size))
            have TL := Lib.hid (tells_none (w8.alloc (.cells #[.slice none 0 0, .int .i64 0] 33)))
            have O9 := Lib.hid (own2_keep O8.out b9)
            have P9 := Lib.hid (own2_keep P8.out b9)
            have Q9 := Lib.hid (own2_keep own8 b9)
            clear own8 d8 b9 RX P7 O7 P8 O8
            go_wp2_with fail
            refine TL.out.mono ?_
            rintro e w10 ⟨rfl, d10⟩
            have B10 := Lib.hid (B9.out.trans (d10.mono B9.out.size))
            have O10 := Lib.hid (own2_keep O9.out d10)
            have P10 := Lib.hid (own2_keep P9.out d10)
            have Q10 := Lib.hid (own2_keep Q9.out d10)
            clear d10 TL O9 P9 Q9 B9
            go_wp2_with fail
            refine (refEqual_any w10 _ _ l l (Strs.of_own P10.out rfl) (Strs.of_own Q10.out rfl)).mono ?_
            rintro e w11 ⟨n1, rfl, rfl⟩
            go_wp2_with fail
            refine (refEqual_any (w10.drewN n1) _ _ xs xs ((HA.out.below B10.out).drewN _) ((Strs.of_own O10.out rfl).drewN _)).mono ?_
            rintro e w12 ⟨n2, rfl, rfl⟩
            rw [decide_eq_true (rfl : xs = xs)]
            go_wp2
            go_ret
            exact ⟨rfl, below_drewN B10.out _⟩
end Go.Proofs.YtdpoeagmeiedcaaDoor
