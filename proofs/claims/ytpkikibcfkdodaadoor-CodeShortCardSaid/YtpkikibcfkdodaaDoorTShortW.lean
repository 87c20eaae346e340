/-
  CodeShort: the walk.
-/
import Derived.Test.YtpkikibcfkdodaaDoorTTells
import Derived.Test.YtpkikibcfkdodaaDoorKKnown
namespace Go.Proofs.YtpkikibcfkdodaaDoor
open Go Go.RowKit

theorem bc_len (l : List UInt8) : (bc l).length = l.length := Lib.byteCells_length l
theorem BOwn.front {w : World} {B : Nat} {A : Option Addr} {n c k : Nat} {l : List UInt8} (h : BOwn w B (.slice A n c) l) (hk : k ≤ l.length) (h0 : 0 < l.length) :
    ∃ g, A = some ⟨g, 0, none⟩ ∧ l.length ≤ c ∧ BOwn w B (.slice (some ⟨g, 0, none⟩) k c) (l.take k) := by
  rcases h.2 with ⟨_, e0⟩ | ⟨g, cap, cur, hv, hg, hh, hnc, hm, hs, ht⟩
  · omega
  injection hv with e1 e2 e3
  subst e1; subst e3
  refine ⟨g, rfl, hnc, by rw [bc_len, List.length_take, Nat.mul_one], .inr ⟨g, c, cur, by rw [List.length_take, Nat.min_eq_left hk], hg, hh, by rw [List.length_take]; omega, hm, hs, ?_⟩⟩
  rw [List.length_take, Nat.min_eq_left hk, Nat.mul_one]
  rw [Nat.mul_one] at ht
  have e : bc (l.take k) = (bc l).take k := by
    show Lib.byteCells _ = (Lib.byteCells _).take k
    simp [Lib.byteCells, List.map_take]
  rw [e, ← ht, List.take_take, Nat.min_eq_left hk]
theorem encI_pos (n : Int) : 0 < (encI n).length := by
  unfold encI
  by_cases h1 : zz n < 128
  · rw [enc_small h1]; simp
  · rw [enc_big h1]; simp

set_option maxRecDepth 100000 in
set_option maxHeartbeats 4000000 in
theorem short_walk (a v cut : Int) (ha : -9223372036854775808 ≤ a ∧ a ≤ 9223372036854775807) (hv : -9223372036854775808 ≤ v ∧ v ≤ 9223372036854775807) (hc : -9223372036854775808 ≤ cut ∧ cut ≤ 9223372036854775807) (w : World) (hE : ErrType w) :
    Calls Tryd.prog 5 #[.int .i64 a, .int .i64 v, .int .i64 cut] w fun e w' => e = .returned (.bool true) ∧ Below w.heap.size w w' := by
  have KN := Lib.hid (known_any w)
  have HA := Lib.hid ha
  have HV := Lib.hid hv
  have HE := Lib.hid hE
  clear ha hv hE
  have hla := encI_len HA.out
  have hln := encI_len HV.out
  have hpa := encI_pos a
  have hpn := encI_pos v
  go_enter Tryd.func5, Tryd.ntmps5
  go_wp2_with fail
  refine KN.out.mono ?_
  rintro e w0 ⟨rfl, hb0⟩
  have HB0 := Lib.hid hb0
  clear hb0 KN
  by_cases hcut : cut < 0
  · go_wp2_with fail
    go_ret
    exact ⟨rfl, HB0.out⟩
  have E0 := encAt_new w0 w0.heap.size (Nat.le_refl _)
  have D1 := (Below.refl (w0.alloc (.cells #[.slice none 0 0] 51)).heap.size (w0.alloc (.cells #[.slice none 0 0] 51))).alloc (Nat.le_refl _) (.cells (ints [a]) 3)
  have IN := Lib.hid (encInt_any _ w0.heap.size w0.heap.size (w0.alloc (.cells #[.slice none 0 0] 51)).heap.size _ _ [a] (E0.below D1) (Blk.new _ _ _) (fun n hn => by rw [List.mem_singleton.1 hn]; exact HA.out) (by simp) (by simp) (by simp; omega))
  have HB1 := Lib.hid (((Below.refl w0.heap.size w0).alloc (Nat.le_refl _) (.cells #[.slice none 0 0] 51)).alloc (by simp) (.cells (ints [a]) 3))
  clear E0 D1
  rw [show (w0.alloc (.cells #[.slice none 0 0] 51)).heap.size = w0.heap.size + 1 by simp] at IN
  go_wp2_with fail
  refine IN.out.mono ?_
  rintro e w1 ⟨rfl, v1, E1, T1, S1⟩
  have B1 := Lib.hid (HB1.out.trans (T1.below (by simp; omega) (Nat.le_refl _) (by simp [Value.ownBlock])))
  have E1 : Hid (EncAt w1 w0.heap.size w0.heap.size v1 (encI a)) := Lib.hid (by
    have e : ([] : List UInt8) ++ encIs [a] = encI a := by simp [encIs]
    rw [← e]; exact E1)
  clear T1 S1 IN HB1
  have R1 := Lib.hid (refInt_any w1 a HA.out)
  go_wp2_with fail
  refine R1.out.mono ?_
  rintro e w2 ⟨x2, rfl, o2, b2⟩
  obtain ⟨A2, c2, rfl⟩ := own_form o2
  have E2 := Lib.hid (E1.out.below b2)
  have B2 := Lib.hid (B1.out.trans (b2.mono B1.out.size))
  clear o2 b2 R1 E1 B1
  have R2 := Lib.hid (refInt_any w2 v HV.out)
  go_wp2_with fail
  refine R2.out.mono ?_
  rintro e w3 ⟨x3, rfl, o3, b3⟩
  obtain ⟨A3, c3, rfl⟩ := own_form o3
  have E3 := Lib.hid (E2.out.below b3)
  have B3 := Lib.hid (B2.out.trans (b3.mono B2.out.size))
  clear o3 b3 R2 E2 B2
  have D3 := (Below.refl w3.heap.size w3).alloc (Nat.le_refl _) (.cells (ints [v]) 3)
  have IN := Lib.hid (encInt_any _ w0.heap.size w0.heap.size w3.heap.size _ _ [v] (E3.out.below D3) (Blk.new _ _ _) (fun n hn => by rw [List.mem_singleton.1 hn]; exact HV.out) (by omega) (by simp) (by have := B3.out.size; simp; omega))
  have HB3 := Lib.hid (B3.out.alloc B3.out.size (.cells (ints [v]) 3))
  have hr1 := E3.out.row
  clear D3
  go_wp2_with fail
  refine IN.out.mono ?_
  rintro e w4 ⟨rfl, v4, E4, T4, S4⟩
  have B4 := Lib.hid (HB3.out.trans (T4.below (by have := B3.out.size; simp; omega) (Nat.le_refl _) hr1))
  obtain ⟨L0, hL0⟩ : ∃ L0, L0 = encI a ++ encI v := ⟨_, rfl⟩
  have hl0 : L0.length = (encI a).length + (encI v).length := by rw [hL0, List.length_append]
  have E4 : Hid (EncAt w4 w0.heap.size w0.heap.size v4 L0) := Lib.hid (by
    have e : encI a ++ encIs [v] = L0 := by rw [hL0]; simp [encIs]
    rw [← e]; exact E4)
  clear T4 S4 IN HB3 hr1 E3 B3
  have BY := Lib.hid (bytes_any w4 _ _ _ _ E4.out (by omega))
  go_wp2_with fail
  refine BY.out.mono ?_
  rintro e w5 ⟨x5, rfl, o5, b5⟩
  obtain ⟨A5, c5, rfl⟩ := own_form o5
  have B5 := Lib.hid (B4.out.trans (b5.mono B4.out.size))
  obtain ⟨m, hm⟩ : ∃ m : Nat, cut = (m : Int) := ⟨cut.toNat, by omega⟩
  obtain ⟨r, hr⟩ : ∃ r, r = m % (encI v).length := ⟨_, rfl⟩
  have hrl : r < (encI v).length := by rw [hr]; exact Nat.mod_lt _ hpn
  obtain ⟨g5, rfl, hlc, O5⟩ := BOwn.front (k := (encI a).length + r) o5 (by omega) (by omega)
  have hl1 : (L0.take ((encI a).length + r)).length = (encI a).length + r := by rw [List.length_take]; omega
  have OF := Lib.hid (of_any w5 _ _ _ O5 (by omega))
  have HL0 := Lib.hid hL0
  clear o5 b5 O5 E4 B4 BY hL0
  subst hm
  have hw0 : IntKind.i64.wrap (((encI a).length : Int) + ((encI v).length : Int)) = ((L0.length : Nat) : Int) := by rw [IntKind.wrap_i64, hl0]; omega
  have hrm : Int.tmod (m : Int) ((encI v).length : Int) = (r : Int) := by rw [hr]; rfl
  have hw1 : IntKind.i64.wrap (((encI a).length : Int) + (r : Int)) = (((encI a).length + r : Nat) : Int) := by rw [IntKind.wrap_i64]; omega
  rw [hr] at OF
  go_wp2_with fail
  refine OF.out.mono ?_
  rintro e w6 ⟨D, v6, rfl, d6, b6⟩
  rw [← hr] at d6
  obtain ⟨L, hL⟩ : ∃ L, L = L0.take ((encI a).length + r) := ⟨_, rfl⟩
  rw [← hL] at d6 hl1
  have hLe : L = encI a ++ (encI v).take r := by
    rw [hL, HL0.out, List.take_append, List.take_of_length_le (by omega), Nat.add_sub_cancel_left]
  have hdr : L.drop (encI a).length = (encI v).take r := by rw [hLe, List.drop_left]
  have hH : High (L.drop (encI a).length) := by rw [hdr]; exact enc_high (zz_lt HV.out.1 HV.out.2) hrl
  have HH := Lib.hid hH
  have I1 := Lib.hid (decInt_any w6 w5.heap.size D 0 v6 L ((encI v).take r) a d6 (by rw [List.drop_zero]; exact hLe) (by omega) HA.out)
  have B6 := Lib.hid (B5.out.trans (b6.mono B5.out.size))
  have hDlo : w0.heap.size ≤ D := Nat.le_trans B5.out.size d6.lo
  have hl2 : L.length = (encI a).length + r := hl1
  clear d6 b6 OF hl1 hL hLe hdr hH hw0 hw1 hrm hl0 hlc HL0 hr B5
  go_wp2_with fail
  refine I1.out.mono ?_
  rintro e w7 ⟨rfl, d7, t7⟩
  rw [Nat.zero_add] at d7
  have B7 := Lib.hid (B6.out.trans (t7.below B6.out.size hDlo (fun _ h => by cases h)))
  have I2 := Lib.hid (decInt_short w7 _ D _ v6 L d7 HH.out (by omega) (by omega) (by omega))
  clear d7 t7 I1 B6
  go_wp2_with fail
  refine I2.out.mono ?_
  rintro e w8 ⟨rfl, bd, t8⟩
  have B8 := Lib.hid (B7.out.trans (t8.below B7.out.size hDlo (fun _ h => by cases h)))
  have BD := Lib.hid bd
  have ER := Lib.hid (decErr_short w8 D _ v6 bd)
  clear bd t8 I2 B7
  go_wp2_with fail
  refine ER.out.mono ?_
  rintro e w9 ⟨F, rfl, hF, hFl, b9⟩
  have B9 := Lib.hid (B8.out.trans (b9.mono B8.out.size))
  have BD9 : Hid (Bad w9 D v6 (encI a).length) := Lib.hid (Blk.below BD.out b9 (Blk.lt BD.out))
  have HF := Lib.hid hF
  have AT := Lib.hid (refAt_any (encI a).length w9)
  clear hF b9 ER BD B8 hFl
  go_wp2_with fail
  refine AT.out.mono ?_
  rintro e w10 ⟨g, rfl, hg, hgl, b10⟩
  have B10 := Lib.hid (B9.out.trans (b10.mono B9.out.size))
  have BD10 : Hid (Bad w10 D v6 (encI a).length) := Lib.hid (Blk.below BD9.out b10 (Blk.lt BD9.out))
  have TL := Lib.hid (tells_short w10 F g (encI a).length (HF.out.below b10 HF.out.lt) hg (to10 hpa hla) (HE.out.below (HB0.out.trans (B10.out.mono HB0.out.size))))
  clear hg hgl b10 AT BD9 B9 HF
  go_wp2_with fail
  refine TL.out.mono ?_
  rintro e w11 ⟨rfl, b11⟩
  have B11 := Lib.hid (B10.out.trans (b11.mono B10.out.size))
  have BD11 : Hid (Bad w11 D v6 (encI a).length) := Lib.hid (Blk.below BD10.out b11 (Blk.lt BD10.out))
  have LF := Lib.hid (decLeft_short w11 D _ v6 BD11.out)
  clear b11 TL BD10 B10
  go_wp2_with fail
  refine LF.out.mono ?_
  rintro e w12 ⟨rfl, rfl⟩
  go_wp2_with fail
  go_ret
  exact ⟨rfl, HB0.out.trans (B11.out.mono HB0.out.size)⟩
#print axioms short_walk
end Go.Proofs.YtpkikibcfkdodaaDoor
