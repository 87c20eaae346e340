/-
  known of codes.
-/
import Derived.Test.YtpkikibcfkdodaaDoorKDecT
namespace Go.Proofs.YtpkikibcfkdodaaDoor
open Go Go.RowKit

theorem EncAt.touch {w w' : World} {B E D : Nat} {v : Value} {l : List UInt8} {cs : Array Value} (h : EncAt w B E v l) (hT : Touch w w' D none) (hD : Blk w D 89 cs) : EncAt w' B E v l :=
  ⟨hT.blk h.blk (h.blk.ne_ hD (by decide)) (by simp), hT.own h.own (own_blk_ne h.own hD (by decide)) (by cases e : v.ownBlock <;> simp), h.lo⟩
theorem EncAt.row {w : World} {B E : Nat} {v : Value} {l : List UInt8} (h : EncAt w B E v l) : ∀ g, v.ownBlock = some g → B ≤ g := fun g hg => (World.ownsRow.lt h.own g hg).1
theorem encAt_new (w : World) (B : Nat) (hB : B ≤ w.heap.size) : EncAt (w.alloc (.cells #[.slice none 0 0] 51)) B w.heap.size (.slice none 0 0) [] := ⟨heap_alloc_new _ _, World.ownsRow_nil _ _ _ _, hB⟩

abbrev kL : List UInt8 := encI 150 ++ (encI (-1) ++ (encT ⟨#[97, 98]⟩ ++ []))
theorem kL_is : kL = [172, 2, 1, 4, 97, 98] := by
  have e1 : zz 150 = 300 := by decide
  have e2 : zz (-1) = 1 := by decide
  have e3 : zz ((ByteArray.mk #[97, 98]).size : Int) = 4 := by decide
  unfold kL encT encI
  rw [e1, e2, e3, enc_big (by decide : ¬ 300 < 128), enc_small (by decide : 300 / 128 < 128), enc_small (by decide : 1 < 128), enc_small (by decide : 4 < 128)]
  rfl

set_option maxRecDepth 100000 in
set_option maxHeartbeats 4000000 in
theorem known_any (w : World) : Calls Tryd.prog 14 #[] w fun e w' => e = .returned (.bool true) ∧ Below w.heap.size w w' := by
  have E0 := encAt_new w w.heap.size (Nat.le_refl _)
  have D1 := (Below.refl (w.alloc (.cells #[.slice none 0 0] 51)).heap.size (w.alloc (.cells #[.slice none 0 0] 51))).alloc (Nat.le_refl _) (.cells (ints [150, -1]) 3)
  have IN := Lib.hid (encInt_any _ w.heap.size w.heap.size (w.alloc (.cells #[.slice none 0 0] 51)).heap.size _ _ [150, -1] (E0.below D1) (Blk.new _ _ _) (fun n hn => by simp at hn; omega) (by simp) (by simp) (by simp; omega))
  have HB1 := Lib.hid (((Below.refl w.heap.size w).alloc (Nat.le_refl _) (.cells #[.slice none 0 0] 51)).alloc (by simp) (.cells (ints [150, -1]) 3))
  clear E0 D1
  rw [show (w.alloc (.cells #[.slice none 0 0] 51)).heap.size = w.heap.size + 1 by simp] at IN
  go_enter Tryd.func14, Tryd.ntmps14
  go_wp2_with fail
  refine IN.out.mono ?_
  rintro e w1 ⟨rfl, v1, E1, T1, S1⟩
  have E1 : EncAt w1 w.heap.size w.heap.size v1 (encIs [150, -1]) := E1
  have B1 := HB1.out.trans (T1.below (by simp; omega) (Nat.le_refl _) (by simp [Value.ownBlock]))
  have D2 := (Below.refl w1.heap.size w1).alloc (Nat.le_refl _) (.cells (strV [⟨#[97, 98]⟩]) 9)
  have TX := Lib.hid (encText_any _ w.heap.size w.heap.size w1.heap.size _ _ [⟨#[97, 98]⟩] (E1.below D2) (Blk.new _ _ _) (fun n hn => by rw [List.mem_singleton.1 hn]; decide) (by have := encIs_len (ns := [150, -1]) (fun n hn => by simp at hn; omega) 2; simp at this; omega) (by simp) (by have := B1.size; simp; omega))
  have HB2 := Lib.hid (B1.alloc B1.size (.cells (strV [⟨#[97, 98]⟩]) 9))
  have hBw1 := B1.size
  have hr1 := E1.row
  clear E1 T1 S1 D2 HB1 IN B1
  go_wp2_with fail
  refine TX.out.mono ?_
  rintro e w2 ⟨rfl, v2, E2, T2, S2⟩
  have B2 := HB2.out.trans (T2.below (by simp; omega) (Nat.le_refl _) hr1)
  have E2 : EncAt w2 w.heap.size w.heap.size v2 kL := by
    have e : encIs [150, -1] ++ encTs [⟨#[97, 98]⟩] = kL := by simp [encIs, encTs, kL]
    rw [← e]; exact E2
  have hkl : kL.length = 6 := by rw [kL_is]; rfl
  have BY := Lib.hid (bytes_any w2 _ _ _ _ E2 (by omega))
  have HE2 := Lib.hid E2
  have HB2' := Lib.hid B2
  have HKL := Lib.hid hkl
  clear E2 T2 S2 HB2 TX B2 hkl hr1 hBw1
  go_wp2_with fail
  refine BY.out.mono ?_
  rintro e w3 ⟨v3, rfl, O3, B3⟩
  have OF := Lib.hid (of_any w3 _ v3 _ O3 (by have := HKL.out; omega))
  have HE3 := Lib.hid (HE2.out.below B3)
  have HB3 := Lib.hid (HB2'.out.trans (B3.mono HB2'.out.size))
  obtain ⟨A3, n3, c3, rfl⟩ : ∃ A n c, v3 = .slice A n c := by obtain ⟨A, c, h⟩ := own_form O3; exact ⟨A, _, c, h⟩
  clear O3 B3 HE2 HB2' BY
  go_wp2_with fail
  refine OF.out.mono ?_
  rintro e w4 ⟨D, v4, rfl, D4, B4⟩
  have I1 := Lib.hid (decInt_any w4 _ D 0 v4 kL _ 150 D4 rfl (by have := HKL.out; omega) (by decide))
  have HE4 := Lib.hid (HE3.out.below B4)
  have HB4 := Lib.hid (HB3.out.trans (B4.mono HB3.out.size))
  have HD4 := Lib.hid D4
  have hlo : Hid (w.heap.size ≤ D) := Lib.hid (Nat.le_trans HB3.out.size D4.lo)
  clear D4 B4 HE3 HB3 OF
  go_wp2_with fail
  refine I1.out.mono ?_
  rintro e w5 ⟨rfl, D5, T5⟩
  have hd5 : kL.drop (0 + (encI 150).length) = encI (-1) ++ (encT ⟨#[97, 98]⟩ ++ []) := by rw [Nat.zero_add]; exact List.drop_left
  have I2 := Lib.hid (decInt_any w5 _ D _ v4 kL _ (-1) D5 hd5 (by have := HKL.out; omega) (by decide))
  have HE5 := Lib.hid (HE4.out.touch T5 HD4.out.blk)
  have HB5 := Lib.hid (HB4.out.trans (T5.below HB4.out.size hlo.out (by simp)))
  have HD5 := Lib.hid D5
  clear D5 T5 I1 HE4 HB4
  go_wp2_with fail
  refine I2.out.mono ?_
  rintro e w6 ⟨rfl, D6, T6⟩
  have hd6 : kL.drop (0 + (encI 150).length + (encI (-1)).length) = encT ⟨#[97, 98]⟩ ++ [] := by rw [← List.drop_drop, hd5]; exact List.drop_left
  have I3 := Lib.hid (decText_any w6 _ D _ v4 kL _ ⟨#[97, 98]⟩ D6 hd6 (by have := HKL.out; omega) (by decide))
  have HE6 := Lib.hid (HE5.out.touch T6 HD5.out.blk)
  have HB6 := Lib.hid (HB5.out.trans (T6.below HB5.out.size hlo.out (by simp)))
  have HD6 := Lib.hid D6
  have H6 := Lib.hid hd6
  clear D6 T6 I2 HE5 HB5 hd5 HD4 HD5 hd6
  go_wp2_with fail
  refine I3.out.mono ?_
  rintro e w7 ⟨rfl, D7, T7⟩
  have hat : 0 + (encI 150).length + (encI (-1)).length + (encT ⟨#[97, 98]⟩).length = kL.length := by
    unfold kL; rw [List.length_append, List.length_append, List.length_append]; simp; omega
  rw [hat] at D7
  have HE7 := Lib.hid (HE6.out.touch T7 HD6.out.blk)
  have HB7 := Lib.hid (HB6.out.trans (T7.below HB6.out.size hlo.out (by simp)))
  have HD7 := Lib.hid D7
  have BY7 := Lib.hid (bytes_any w7 _ _ _ _ HE7.out (by have := HKL.out; omega))
  clear D7 T7 I3 HE6 HB6 HD6 H6 hat
  go_wp2_with fail
  refine BY7.out.mono ?_
  rintro e w8 ⟨v8, rfl, O8, B8⟩
  have HB8 := Lib.hid (HB7.out.trans (B8.mono HB7.out.size))
  have HD8 := Lib.hid (HD7.out.below B8)
  obtain ⟨A8, c8, rfl⟩ := own_form O8
  rcases O8.2 with ⟨_, h0⟩ | ⟨g8, cap8, cur8, hv8, _⟩
  · have := HKL.out; omega
  injection hv8 with e1 _ e3
  subst e1; subst e3
  have hc8 : (convert 39 9 (.slice (some ⟨g8, 0, none⟩) 6 c8)).run Tryd.prog w8 = .ok (.string ⟨#[172, 2, 1, 4, 97, 98]⟩) w8 := by
    have hcs := BOwn.cells O8
    have := run_convert_bytes_back (P := Tryd.prog) w8 39 9 5 ⟨g8, 0, none⟩ c8 kL Tryd.underlying39 Tryd.underlying5 Tryd.underlying9 (fun j hj => by
      rw [Addr.add_lit, Nat.zero_add]; exact hcs j _ (bc_at (List.getElem?_eq_getElem hj)))
    rw [HKL.out, show (⟨kL.toArray⟩ : ByteArray) = ⟨#[172, 2, 1, 4, 97, 98]⟩ by rw [kL_is]] at this
    exact this
  have hk6 := HKL.out
  rw [hk6]
  have LF := Lib.hid (decLeft_any w8 _ D _ v4 kL HD8.out (by omega) (Nat.le_refl _))
  rw [Nat.sub_self] at LF
  clear O8 B8 HE7 HB7 HD7 BY7
  go_wp2_with fail
  refine LF.out.mono ?_
  rintro e w9 ⟨rfl, k9, rfl⟩
  have ER := Lib.hid (decErr_any (w8.drewN k9) _ D _ v4 kL ⟨HD8.out.blk, HD8.out.own, HD8.out.lo⟩)
  have HB9 := Lib.hid (below_drewN HB8.out k9)
  clear hk6 LF
  go_wp2_with fail
  refine ER.out.mono ?_
  rintro e w10 ⟨rfl, rfl⟩
  go_wp2_with fail
  go_ret
  exact ⟨rfl, HB9.out⟩
#print axioms known_any
end Go.Proofs.YtpkikibcfkdodaaDoor
