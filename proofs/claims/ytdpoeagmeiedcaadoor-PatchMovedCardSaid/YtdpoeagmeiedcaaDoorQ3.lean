/-
  PatchMoved: a difference's hunks in another text.
-/
import Derived.Test.YtdpoeagmeiedcaaDoorP16
import Derived.Test.YtdpoeagmeiedcaaDoorQ1
import Derived.Test.YtdpoeagmeiedcaaDoorQ2
namespace Go.Proofs.YtdpoeagmeiedcaaDoor
open Go Go.RowKit

abbrev bZz : ByteArray := ⟨#[122, 122, 10]⟩
theorem zz_row (w : World) : (w.alloc (.cells #[.string bZz] 9)).ownsRow w.heap.size 9 1 (.slice (some ⟨w.heap.size, 0, none⟩) 1 1) [bZz].length ([bZz].map Value.string) :=
  ⟨rfl, .inr ⟨w.heap.size, 1, _, rfl, Nat.le_refl _, heap_alloc_new w _, Nat.le_refl _, by unfold maxLen; omega, rfl, rfl⟩⟩
theorem flag_quietM {b : Bool} {f : FuncId} {args : Array Value} {w : World} {n : Nat} (h : Calls Tryd.prog f args (w.drewN n) (Flag b (w.drewN n))) : Calls Tryd.prog f args (w.drewN n) fun e w'' => e = .returned (.bool b) ∧ ∃ m, w'' = w.drewN m :=
  Calls.quiet_of (h.mono fun _ _ ⟨q, he, hw⟩ => ⟨he, q, hw⟩)

set_option maxRecDepth 100000 in
set_option maxHeartbeats 8000000 in
theorem patchMoved_walk (w : World) (v u : Value) (xs ys : List ByteArray) (ha : Strs w v xs) (hb : Strs w u ys) : Calls Tryd.prog 6 #[v, u] w (YesB w) := by
  obtain ⟨A, n, c, rfl⟩ := ha.form
  obtain ⟨B, m, d, rfl⟩ := hb.form
  obtain rfl := ha.len.1
  obtain rfl := hb.len.1
  have HA := Lib.hid ha
  have HB := Lib.hid hb
  have KN := Lib.hid (known12_yes w)
  clear ha hb
  go_enter Tryd.func6, Tryd.ntmps6
  go_wp2_with fail
  refine KN.out.mono ?_
  rintro e w1 ⟨rfl, b1⟩
  have B1 := Lib.hid b1
  have FW := Lib.hid (few12_any w1 _ _ xs ys (HA.out.below b1) (HB.out.below b1))
  clear b1 KN
  go_wp2_with fail
  refine FW.out.mono ?_
  rintro e w2 ⟨b, rfl, hfw, d2⟩
  have B2 := Lib.hid (B1.out.trans (d2.mono B1.out.size))
  have HFW := Lib.hid hfw
  clear hfw d2 B1 FW
  cases b with
  | false =>
    go_wp2
    go_ret
    exact ⟨rfl, B2.out⟩
  | true =>
    obtain ⟨lx, ly⟩ := HFW.out rfl
    clear HFW
    have EQ := Lib.hid (refEqual_any w2 _ _ xs ys (HA.out.below B2.out) (HB.out.below B2.out))
    go_wp2_with fail
    refine EQ.out.mono ?_
    rintro e w3 ⟨q3, rfl, rfl⟩
    have B3 := Lib.hid (below_drewN B2.out q3)
    clear EQ
    by_cases hxy : xs = ys
    · rw [decide_eq_true hxy]
      go_wp2
      go_ret
      exact ⟨rfl, B3.out⟩
    rw [decide_eq_false hxy]
    have RL := Lib.hid (refLines_any (w2.drewN q3) _ _ xs ys (HA.out.below B3.out) (HB.out.below B3.out))
    generalize hW3 : w2.drewN q3 = w3 at *
    clear hW3 hxy B2
    go_wp2_with fail
    refine RL.out.mono ?_
    rintro e w4 (⟨_, _, v4, rfl, own4, d4⟩ | ⟨k, g, hk, _⟩)
    case inr => unfold Over at hk; omega
    have b5 := (Below.refl w4.heap.size w4).alloc (Nat.le_refl _) (.cells #[.slice none 0 0, .int .i64 0] 33)
    have B5 := Lib.hid (B3.out.trans ((d4.mono B3.out.size).trans (b5.mono (Nat.le_trans B3.out.size d4.size))))
    have hle := ed_len xs ys
    have hl1 := edI_len (ed xs ys)
    have R4 := Reads.of_own (l := edI (ed xs ys)) cEd_len (by rw [edI_len, edI_cells]; exact own4)
    obtain ⟨l, hl⟩ : ∃ l, l = edI (ed xs ys) := ⟨_, rfl⟩
    rw [← hl] at R4 hl1
    have hl100 : l.length ≤ 100 := by omega
    have TO := Lib.hid (toEd_any _ v4 l (R4.below b5) (by omega))
    obtain ⟨A4, c4, rfl⟩ := own_formP own4
    obtain ⟨hs, hhs⟩ : ∃ hs, hs = hunksP l (min (0 : Int).toNat 16) := ⟨_, rfl⟩
    have hok := hunksP_ok l (min (0 : Int).toNat 16) hl100
    rw [← hhs] at hok
    have HOK := Lib.hid hok.2
    have hhl := hok.1
    have HU := Lib.hid (fun W v h => hunks_any W v l 0 h (by omega))
    rw [← hhs] at HU
    clear hok own4 d4 b5 R4 RL hl1 hle hl hhs
    go_wp2_with fail
    refine TO.out.mono ?_
    rintro e w6 ⟨v6, rfl, own6, d6⟩
    have B6 := Lib.hid (B5.out.trans (d6.mono B5.out.size))
    have HU := Lib.hid (HU.out w6 v6 (Reads.of_own cEd_len own6))
    obtain ⟨A6, c6, rfl⟩ := own_formP own6
    clear own6 d6 TO B5
    go_wp2_with fail
    refine HU.out.mono ?_
    rintro e w7 ⟨v7, vals7, rfl, own7, hv7, d7⟩
    have B7 := Lib.hid (B6.out.trans (d7.mono B6.out.size))
    have HH := Lib.hid (HksIn.of_own own7 hv7)
    obtain ⟨A7, c7, rfl⟩ := own_formP own7
    clear own7 hv7 d7 HU B6
    have hm : w7.heap.size ≤ (w7.alloc (.cells #[.string bZz] 9)).heap.size := by simp
    have O7 := Lib.hid (zz_row w7)
    have b8 := (Below.refl w7.heap.size w7).alloc (Nat.le_refl _) (.cells #[.string bZz] 9)
    have sK := HA.out.below (B7.out.trans (b8.mono B7.out.size))
    have hll : [bZz].length + xs.length ≤ 1000000 := by simp; omega
    go_wp2_with (at_builtin; refine wpList_append_strs rfl (.tmp 33) (.tmp 34) rfl w7.heap.size _ [bZz] rfl O7.out _ xs sK rfl hll hm ?_; intro v8 w8 own8 hg8 _)
    have B8' := b8.grown hg8 hm (fun z hz => (O7.out.lt z hz).1)
    have B8 := Lib.hid (B7.out.trans (B8'.mono B7.out.size))
    have H8 := Lib.hid (HH.out.below B8')
    obtain ⟨zs, hzs⟩ : ∃ zs, zs = [bZz] ++ xs := ⟨_, rfl⟩
    have hzl : zs.length ≤ 1000 := by rw [hzs, List.length_append]; simp; omega
    have HZ := Lib.hid hzs
    rw [← hzs] at own8
    have S8 := Lib.hid (Strs.of_own own8 rfl)
    obtain ⟨A8, c8, rfl⟩ := own_formP own8
    clear own8 hg8 B8' b8 sK hll hm O7 hzs HH B7
    have AP := apply_any w8 _ _ zs hs S8.out H8.out hzl (by omega) HOK.out
    have RA := fun W (z u : Value) h1 h2 => refApply_any W z u zs hs h1 h2 hzl (by omega) HOK.out
    rcases hR : applyH zs hs 0 [] 0 with ⟨j, k⟩ | l2
    · rw [hR] at AP
      simp only [hR] at RA
      have AP := Lib.hid AP
      have RA := Lib.hid RA
      have HJ := applyH_bad zs hs 0 [] 0 j k hR
      have hk4 := HJ.2
      have hk0 : (k == 0) = false := by have : k ≠ 0 := by omega
                                        simpa using this
      have hk1 : ¬ k = 0 := by omega
      clear hR HJ hk4
      go_wp2_with fail
      refine AP.out.mono ?_
      rintro e w9 h9
      obtain ⟨F, rfl, f9, d9⟩ := applied_bad h9
      have B9 := Lib.hid (B8.out.trans (d9.mono B8.out.size))
      have H9 := Lib.hid (H8.out.below d9)
      clear h9 d9 AP H8 S8 f9 B8
      have hm : w9.heap.size ≤ (w9.alloc (.cells #[.string bZz] 9)).heap.size := by simp
      have O9 := Lib.hid (zz_row w9)
      have b10 := (Below.refl w9.heap.size w9).alloc (Nat.le_refl _) (.cells #[.string bZz] 9)
      have sK := HA.out.below (B9.out.trans (b10.mono B9.out.size))
      have hll : [bZz].length + xs.length ≤ 1000000 := by simp; omega
      go_wp2_with (at_builtin; refine wpList_append_strs rfl (.tmp 41) (.tmp 42) rfl w9.heap.size _ [bZz] rfl O9.out _ xs sK rfl hll hm ?_; intro v10 w10 own10 hg10 _)
      have B10' := b10.grown hg10 hm (fun z hz => (O9.out.lt z hz).1)
      have B10 := Lib.hid (B9.out.trans (B10'.mono B9.out.size))
      have H10 := Lib.hid (H9.out.below B10')
      rw [← HZ.out] at own10
      have S10 := Lib.hid (Strs.of_own own10 rfl)
      obtain ⟨A10, c10, rfl⟩ := own_formP own10
      clear own10 hg10 B10' b10 sK hll hm O9 H9 B9
      go_wp2_with fail
      refine (ofHk_any w10 _ hs H10.out (by omega) (fun x hx => by have := (HOK.out x hx).l; omega)).mono ?_
      rintro e w11 ⟨v11, vals11, rfl, o11, h11, d11⟩
      have B11 := Lib.hid (B10.out.trans (d11.mono B10.out.size))
      have RX := Lib.hid (RA.out w11 _ v11 (S10.out.below d11) (HksIn.of_own o11 h11))
      clear o11 h11 d11 RA H10 S10 B10
      go_wp2_with fail
      refine RX.out.mono ?_
      rintro e w12 (⟨_, _, h, _⟩ | ⟨j', k', g, hjk, rfl, hg, d12⟩)
      · cases h
      cases hjk
      have WV := Lib.hid (show Blk (w12.alloc (.cells #[.slice (some ⟨g, 0, none⟩) 1 1, .int .i64 k] 33)) w12.heap.size 33 #[.slice (some ⟨g, 0, none⟩) 1 1, .int .i64 k] from Blk.new w12 33 _)
      have B13 := Lib.hid (B11.out.trans ((d12.mono B11.out.size).trans (((Below.refl w12.heap.size w12).alloc (Nat.le_refl _) (.cells #[.slice (some ⟨g, 0, none⟩) 1 1, .int .i64 k] 33)).mono (Nat.le_trans B11.out.size d12.size))))
      clear hg d12 RX B11
      go_upto_region 9 with fail
      generalize hW13 : w12.alloc (.cells #[.slice (some ⟨g, 0, none⟩) 1 1, .int .i64 k] 33) = W at *
      generalize w12.heap.size = X at *
      clear hW13
      have x1 := WV.out.cell 1
      have EQ := Lib.hid (fun m => refEqual_any (W.drewN m) (.slice none 0 0) (.slice none 0 0) [] [] (Strs.nil _) (Strs.nil _))
      rw [decide_eq_true (rfl : ([] : List ByteArray) = [])] at EQ
      go_wp2_with fail
      go_quiet ((go_at_call 30; exact flag_quietM (EQ.out _)))
      go_wp2
      go_ret
      exact ⟨rfl, below_drewN B13.out _⟩
    · rw [hR] at AP
      simp only [hR] at RA
      have AP := Lib.hid AP
      have RA := Lib.hid RA
      clear hR
      go_wp2_with fail
      refine AP.out.mono ?_
      rintro e w9 h9
      obtain ⟨v9, rfl, own9, d9⟩ := applied_ok h9
      have P9 := Lib.hid own9
      obtain ⟨A9, c9, rfl⟩ := own_formP own9
      clear own9
      have B9 := Lib.hid (B8.out.trans (d9.mono B8.out.size))
      have H9 := Lib.hid (H8.out.below d9)
      clear h9 d9 AP H8 S8 B8
      have hm : w9.heap.size ≤ (w9.alloc (.cells #[.string bZz] 9)).heap.size := by simp
      have O9 := Lib.hid (zz_row w9)
      have b10 := (Below.refl w9.heap.size w9).alloc (Nat.le_refl _) (.cells #[.string bZz] 9)
      have sK := HA.out.below (B9.out.trans (b10.mono B9.out.size))
      have hll : [bZz].length + xs.length ≤ 1000000 := by simp; omega
      go_wp2_with (at_builtin; refine wpList_append_strs rfl (.tmp 41) (.tmp 42) rfl w9.heap.size _ [bZz] rfl O9.out _ xs sK rfl hll hm ?_; intro v10 w10 own10 hg10 _)
      have B10' := b10.grown hg10 hm (fun z hz => (O9.out.lt z hz).1)
      have B10 := Lib.hid (B9.out.trans (B10'.mono B9.out.size))
      have H10 := Lib.hid (H9.out.below B10')
      rw [← HZ.out] at own10
      have S10 := Lib.hid (Strs.of_own own10 rfl)
      obtain ⟨A10, c10, rfl⟩ := own_formP own10
      have P10 := Lib.hid (own2_keep P9.out B10')
      clear own10 hg10 B10' b10 sK hll hm O9 H9 B9 P9
      go_wp2_with fail
      refine (ofHk_any w10 _ hs H10.out (by omega) (fun x hx => by have := (HOK.out x hx).l; omega)).mono ?_
      rintro e w11 ⟨v11, vals11, rfl, o11, h11, d11⟩
      have B11 := Lib.hid (B10.out.trans (d11.mono B10.out.size))
      have RX := Lib.hid (RA.out w11 _ v11 (S10.out.below d11) (HksIn.of_own o11 h11))
      have P11 := Lib.hid (own2_keep P10.out d11)
      clear P10
      clear o11 h11 d11 RA H10 S10 B10
      go_wp2_with fail
      refine RX.out.mono ?_
      rintro e w12 (⟨l', v12, hl12, rfl, own12, d12⟩ | ⟨_, _, _, h, _⟩)
      case inr => cases h
      cases hl12
      obtain ⟨A12, c12, rfl⟩ := own_formP own12
      have WV := Lib.hid (show Blk (w12.alloc (.cells #[.slice none 0 0, .int .i64 0] 33)) w12.heap.size 33 #[.slice none 0 0, .int .i64 0] from Blk.new w12 33 _)
      have b13 := (Below.refl w12.heap.size w12).alloc (Nat.le_refl _) (.cells #[.slice none 0 0, .int .i64 0] 33)
      have B13 := Lib.hid (B11.out.trans ((d12.mono B11.out.size).trans (b13.mono (Nat.le_trans B11.out.size d12.size))))
      have P13 := Lib.hid (Strs.of_own (own2_keep (own2_keep P11.out d12) b13) rfl)
      have Q13 := Lib.hid (Strs.of_own (own2_keep own12 b13) rfl)
      clear own12 d12 b13 RX B11 P11
      go_upto_region 9 with fail
      generalize hW13 : w12.alloc (.cells #[.slice none 0 0, .int .i64 0] 33) = W at *
      generalize w12.heap.size = X at *
      clear hW13
      have x1 := WV.out.cell 1
      have EQ := Lib.hid (fun m => refEqual_any (W.drewN m) _ _ l2 l2 (P13.out.drewN m) (Q13.out.drewN m))
      rw [decide_eq_true (rfl : l2 = l2)] at EQ
      go_wp2_with fail
      go_quiet ((go_at_call 30; exact flag_quietM (EQ.out _)))
      go_wp2
      go_ret
      exact ⟨rfl, below_drewN B13.out _⟩
end Go.Proofs.YtdpoeagmeiedcaaDoor
