/-
  StatNever's walk.
-/
import Derived.Test.YtcnmlgmlijgmhaaDoorSfL
namespace Go.Proofs.YtcnmlgmlijgmhaaDoor
open Go Go.RowKit Go.Maps

theorem never_fresh (x y ss sz : Int) : freshB 0 1 x sz ss (x + y) 1 (x + y) = false := by
  unfold freshB
  by_cases h : y = 0
  · subst h; simp
  · rw [show (x == x + y) = false by simp; omega, Bool.false_and]
theorem aSelf (f : FV) : ([(⟨#[97]⟩, f)] : Tr).any (badX ⟨#[]⟩ ⟨#[97]⟩) = false := by
  simp [badX]
  rfl

set_option maxRecDepth 100000 in
set_option maxHeartbeats 8000000 in
theorem statNever_any (w : World) (A0 : Option Addr) (c0 : Nat) (sa : ByteArray) (A1 : Option Addr) (c1 : Nat) (sb : ByteArray) (da db : Int)
    (ha : ∀ W', Below w.heap.size w W' → (convert 32 9 (.slice A0 sa.size c0)).run Tryd.prog W' = .ok (.string sa) W')
    (hb : ∀ W', Below w.heap.size w W' → (convert 32 9 (.slice A1 sb.size c1)).run Tryd.prog W' = .ok (.string sb) W')
    (d0 : 0 ≤ da) (d1 : da ≤ 255) (e0 : 0 ≤ db) (e1 : db ≤ 255) :
    Calls Tryd.prog 8 #[.slice A0 sa.size c0, .slice A1 sb.size c1, .int .u8 da, .int .u8 db] w fun e w' => e = .returned (.bool true) ∧ Below w.heap.size w w' := by
  have KN := Lib.hid (known18_any w)
  have HA := Lib.hid ha
  have HB := Lib.hid hb
  clear ha hb
  go_enter Tryd.func8, Tryd.ntmps8
  go_wp2_with fail
  refine KN.out.mono ?_
  rintro e w1 ⟨rfl, b1⟩
  have B1 := Lib.hid b1
  have NW := Lib.hid (new_own w1 0)
  clear KN b1
  by_cases hl : (sa.size : Int) = (sb.size : Int)
  · have hle : ((sa.size : Int) != (sb.size : Int)) = false := by simpa using hl
    by_cases h100 : (100 : Int) < (sa.size : Int)
    · have hd : decide ((100 : Int) < (sa.size : Int)) = true := decide_eq_true h100
      go_wp2
      go_ret
      exact ⟨rfl, B1.out⟩
    · have hd : decide ((100 : Int) < (sa.size : Int)) = false := decide_eq_false h100
      have HL := Lib.hid (And.intro hl h100)
      clear hl h100
      go_wp2_with fail
      refine NW.out.mono ?_
      rintro e w2 ⟨F, bf, bs, rfl, FS2, b2, hF, hbf, hbs⟩
      have HFB := Lib.hid (And.intro (Nat.le_trans B1.out.size hF) (Nat.le_trans B1.out.size hbf))
      have F2 := Lib.hid FS2
      have B2 := Lib.hid (B1.out.trans (b2.mono B1.out.size))
      clear NW FS2 b2 hF hbf hbs B1 hle hd
      have X0 : 0 ≤ da % 5 := by omega
      have X1 : da % 5 < 5 := by omega
      have Y0 : 0 ≤ db % 3 := by omega
      have Y1 : db % 3 < 3 := by omega
      go_wp2_with fail
      go_loopw [10] (fun s10 wr => ∃ i : Nat, (i : Int) ≤ da % 5 ∧ s10 = .int .i64 i ∧ Hid (FsIs wr F bf bs 0 [] [] (.slice none 0 0) 0 (i : Int) 0 0 false 0 (.slice none 0 0)) ∧ Below w.heap.size w wr) (fun s10 _ => (da % 5).toNat - (intOf s10).toNat)
      case atStart => exact ⟨0, by omega, rfl, F2, B2.out⟩
      case round =>
        obtain ⟨i, hi, rfl, FI, bi⟩ := hrel
        by_cases hlt : (i : Int) < da % 5
        · have hd : decide ((i : Int) < da % 5) = true := decide_eq_true hlt
          have TK := Lib.hid (tick_any FI.out (by omega) (by omega))
          have BI := Lib.hid bi
          clear bi
          go_wp2_with (go_at_call 21; refine TK.out.mono ?_; rintro e w4 ⟨rfl, rfl⟩)
          go_roundw
          case rel => exact ⟨i + 1, by omega, by go_num, Lib.hid (by have := FI.out.setNow ((i : Int) + 1); push_cast; exact this), BI.out.setCell (p := ⟨F, 4, none⟩) HFB.out.1 _⟩
          case measure => simp [intOf]; omega
        · have hd : decide ((i : Int) < da % 5) = false := decide_eq_false hlt
          have BI := Lib.hid bi
          have hi4 : i ≤ 4 := by omega
          have ED := Lib.hid (edit_any FI.out ⟨#[97]⟩ 1 (.slice A0 sa.size c0) sa (by decide) (by simp) (fun w' hw => ⟨⟨_, _, rfl⟩, fun w'' hg => HA.out w'' ((bi.trans (hw.mono bi.size)).grown hg (Nat.le_trans bi.size hw.size) (fun k hk => by obtain rfl := Option.some.inj hk; exact HFB.out.1))⟩)
            (by have := HL.out.2; omega) (Or.inl rfl) (by decide) rfl (by omega) (by omega) (by omega))
          clear bi hi hlt F2 B2
          go_wp2_with fail
          refine ED.out.mono ?_
          rintro e w5 ⟨bs5, rfl, F5, k5⟩
          have B5 := Lib.hid (BI.out.trans (k5.below HFB.out.1 HFB.out.2 BI.out.size))
          have H5 : Hid (FsIs w5 F bf bs5 1 [(⟨#[97]⟩, ⟨1, (i : Int), 1, sa⟩)] [(⟨#[97]⟩, ⟨1, (i : Int), 1, sa⟩)] (.slice none 0 0) 0 (i : Int) 1 0 false 0 (.slice none 0 0)) := Lib.hid F5
          clear ED k5 F5 BI FI hd
          go_wp2_with fail
          go_loopw [11] (fun s11 wr => ∃ j : Nat, (j : Int) ≤ db % 3 ∧ s11 = .int .i64 j ∧ Hid (FsIs wr F bf bs5 1 [(⟨#[97]⟩, ⟨1, (i : Int), 1, sa⟩)] [(⟨#[97]⟩, ⟨1, (i : Int), 1, sa⟩)] (.slice none 0 0) 0 ((i : Int) + (j : Int)) 1 0 false 0 (.slice none 0 0)) ∧ Below w.heap.size w wr) (fun s11 _ => (db % 3).toNat - (intOf s11).toNat)
          case atStart => exact ⟨0, by omega, rfl, Lib.hid (by simpa using H5.out), B5.out⟩
          case round =>
            obtain ⟨j, hj, rfl, FJ, bj⟩ := hrel
            by_cases hlt : (j : Int) < db % 3
            · have hd : decide ((j : Int) < db % 3) = true := decide_eq_true hlt
              have TK := Lib.hid (tick_any FJ.out (by omega) (by omega))
              have BJ := Lib.hid bj
              clear bj
              go_wp2_with (go_at_call 21; refine TK.out.mono ?_; rintro e w6 ⟨rfl, rfl⟩)
              go_roundw
              case rel => exact ⟨j + 1, by omega, by go_num, Lib.hid (by have := FJ.out.setNow ((i : Int) + (j : Int) + 1); rw [show (i : Int) + ((j + 1 : Nat) : Int) = (i : Int) + (j : Int) + 1 by push_cast; omega]; exact this), BJ.out.setCell (p := ⟨F, 4, none⟩) HFB.out.1 _⟩
              case measure => simp [intOf]; omega
            · have hd : decide ((j : Int) < db % 3) = false := decide_eq_false hlt
              have BJ := Lib.hid bj
              have hj4 : j ≤ 2 := by omega
              have ST := Lib.hid (stat_yes FJ.out ⟨#[97]⟩ (by decide) (f := ⟨1, (i : Int), 1, sa⟩) (by rfl))
              clear bj hj hlt H5 B5
              go_wp2_with fail
              refine ST.out.mono ?_
              rintro e w7 ⟨rfl, b7⟩
              have H7 := Lib.hid (FJ.out.below b7)
              have B7 := Lib.hid (BJ.out.trans (b7.mono BJ.out.size))
              unfold stV
              have D8 := B7.out.alloc B7.out.size (.cells #[.int .i64 (sa.size : Int), .int .i64 (i : Int), .int .i64 1, .int .i64 1] 51)
              have ca := HA.out _ D8
              have nt := note_any (w7.alloc (.cells #[.int .i64 (sa.size : Int), .int .i64 (i : Int), .int .i64 1, .int .i64 1] 51)) ⟨#[97]⟩ sa 0 1 0 0 (sa.size : Int) (i : Int) 1 1
              unfold enV stV at nt
              have NT := Lib.hid nt
              have B8 := Lib.hid D8
              have H8 := Lib.hid (H7.out.below ((Below.refl w7.heap.size w7).alloc (Nat.le_refl _) (.cells #[.int .i64 (sa.size : Int), .int .i64 (i : Int), .int .i64 1, .int .i64 1] 51)))
              clear ST b7 FJ BJ H7 B7 D8 nt hd
              go_wp2_with fail
              refine NT.out.mono ?_
              rintro e w9 ⟨rfl, b9⟩
              have H9 := Lib.hid (H8.out.below b9)
              have B9 := Lib.hid (B8.out.trans (b9.mono B8.out.size))
              have K9 := Lib.hid (Blk.new w9 60 (enC ⟨#[97]⟩ 0 1 sa (i : Int) (sa.size : Int)))
              have dk := (Below.refl w9.heap.size w9).alloc (Nat.le_refl _) (.cells (enC ⟨#[97]⟩ 0 1 sa (i : Int) (sa.size : Int)) 60)
              have H10 := Lib.hid (H9.out.below dk)
              have B10 := Lib.hid (B9.out.trans (dk.mono B9.out.size))
              have NO := Lib.hid (now_any H10.out)
              have ED := Lib.hid (edit_any H10.out ⟨#[97]⟩ 1 (.slice A1 sb.size c1) sb (by decide) (by simp; decide) (fun w' hw => ⟨⟨_, _, rfl⟩, fun w'' hg => HB.out w'' ((B10.out.trans (hw.mono B10.out.size)).grown hg (Nat.le_trans B10.out.size hw.size) (fun k hk => by obtain rfl := Option.some.inj hk; exact HFB.out.1))⟩)
                (by have := HL.out; omega) (Or.inl rfl) (by decide) (aSelf _) (by omega) (by omega) (by omega))
              clear NT b9 H8 B8 H9 B9 dk ca
              go_wp2_with fail
              refine NO.out.mono ?_
              rintro e w' ⟨rfl, rfl⟩
              clear NO
              go_wp2_with fail
              refine ED.out.mono ?_
              rintro e w11 ⟨bs6, rfl, F11, k11⟩
              have K11 := Lib.hid (show Blk w11 w9.heap.size 60 _ from (k11.block _ K9.out.lt (K9.out.ne_ H10.out.x (by decide)) (blk_tree_ne K9.out H10.out.f)).trans K9.out)
              obtain ⟨Kb, hKb⟩ : ∃ Kb, Kb = w9.heap.size := ⟨_, rfl⟩
              rw [← hKb] at K11 ⊢
              have C11 := B10.out.trans (k11.below HFB.out.1 HFB.out.2 B10.out.size)
              have dk := (Below.refl w11.heap.size w11).alloc (Nat.le_refl _) (.cells (enC ⟨#[97]⟩ 0 1 sa (i : Int) (sa.size : Int)) 60)
              have B11 := Lib.hid (C11.trans (dk.mono C11.size))
              have H13 := F11.below dk
              have k0 := K11.out.cell 0
              have k1 := K11.out.cell 1
              have k2 := K11.out.cell 2
              have k3 := K11.out.cell 3
              have k4 := K11.out.cell 4
              have k5 := K11.out.cell 5
              clear ED k11 F11 K9 H10 B10 hKb dk C11 K11
              have hs : (sa.toList == sb.toList) = (sb.toList == sa.toList) := BEq.comm
              cases hq : (sb.toList == sa.toList) with
              | false =>
                rw [hq] at hs
                have CH := Lib.hid (changed_one H13 w11.heap.size 1 ⟨#[97]⟩ sa 1 (i : Int) (sa.size : Int) ((i : Int) + (j : Int)) (Blk.new w11 60 (enC ⟨#[97]⟩ 0 1 sa (i : Int) (sa.size : Int))) (by decide) (ft := (i : Int) + (j : Int)) (fi := inoOf [(⟨#[97]⟩, ⟨1, (i : Int), 1, sa⟩)] ⟨#[97]⟩ 1) (fd := sb) (by rfl) (never_fresh _ _ _ _) hq)
                clear H13
                go_wp2_with fail
                refine CH.out.mono ?_
                rintro e w12 ⟨A, m, cc, rfl, rfl, b12⟩
                have B12 := Lib.hid (B11.out.trans (b12.mono B11.out.size))
                have ca := HA.out w12 B12.out
                have cb := HB.out w12 B12.out
                clear CH b12 B11
                go_wp2
                go_ret
                exact ⟨rfl, B12.out⟩
              | true =>
                rw [hq] at hs
                have CH := Lib.hid (changed_same H13 w11.heap.size 1 ⟨#[97]⟩ sa 1 (i : Int) (sa.size : Int) ((i : Int) + (j : Int)) (Blk.new w11 60 (enC ⟨#[97]⟩ 0 1 sa (i : Int) (sa.size : Int))) (by decide) (ft := (i : Int) + (j : Int)) (fi := inoOf [(⟨#[97]⟩, ⟨1, (i : Int), 1, sa⟩)] ⟨#[97]⟩ 1) (fd := sb) (by rfl) (never_fresh _ _ _ _) hq)
                clear H13
                go_wp2_with fail
                refine CH.out.mono ?_
                rintro e w12 ⟨A, m, cc, rfl, rfl, b12⟩
                have B12 := Lib.hid (B11.out.trans (b12.mono B11.out.size))
                have ca := HA.out w12 B12.out
                have cb := HB.out w12 B12.out
                clear CH b12 B11
                go_wp2
                go_ret
                exact ⟨rfl, B12.out⟩
  · have hle : ((sa.size : Int) != (sb.size : Int)) = true := by simpa using hl
    go_wp2
    go_ret
    exact ⟨rfl, B1.out⟩
end Go.Proofs.YtcnmlgmlijgmhaaDoor
