/-
  The document's CheckCmd: a name, the steps; whole.
  The document's CheckCmd: a name; a verb's place; whole.
  The document's CheckCmd at a verb that is one.
-/
import Derived.Test.YtanjcjnkppnhcaaGreatDoorQAT
import Derived.Test.YtanjcjnkppnhcaaGreatDoorQAS
import Derived.Deep.RegionHeld3
import Derived.Deep.DeepCutAuto

namespace Go.Proofs.YtanjcjnkppnhcaaGreatDoor
open Go Go.RowKit

theorem wSV_size {v tx : ByteArray} {cc : Int} (hk : knownV v = true) (h1 : ¬ (cc < 1 ∨ 1000000 < cc)) (hr : isRw v = true) : wSV (v, cc, tx) = if tx = ⟨#[]⟩ then 1 else wlV tx := by
  unfold wSV
  rw [if_neg (by rw [hk]; simp), if_neg h1, if_neg (by rw [hr]; simp)]
set_option maxRecDepth 100000 in
set_option maxHeartbeats 16000000 in
theorem refSteps_any (k : Nat) (hk : k < 20) (nm : ByteArray) (n : Int) (tx : ByteArray) (f : Bool) (A : Option Addr) (l : List Fl) (c : Nat) (w : World) (hl : Reads 3 cF w (.slice A l.length c) l) :
    Calls Tryz.prog 53 #[cmdV k nm n tx f A l.length c] w fun e w' => e = .returned (.int .i64 (wDK k l)) ∧ Below w.heap.size w w' := by
  have hb := (Below.refl w.heap.size w).alloc (Nat.le_refl _) (.cells (cmdC k nm n tx f A l.length c) 56)
  have l0 : (0 : Int) ≤ (l.length : Int) := Int.natCast_nonneg _
  have HL := Lib.hid fun W (hW : Below w.heap.size w W) => hl.below hW
  have hz := hl.len.2
  unfold maxLen at hz
  unfold cmdV
  unfold cmdC at hb
  clear hl
  by_cases h14 : k = 14
  · subst h14
    simp only [vB] at hb ⊢
    have HB := Lib.hid hb
    have HZ := Lib.hid (Blk.new w 56 #[.string ⟨#[114, 101, 98, 97, 115, 101]⟩, .string nm, .int .i64 n, .string tx, .bool f, .slice A l.length c])
    obtain ⟨g, hg⟩ : ∃ g, g = w.heap.size := ⟨_, rfl⟩
    clear hb
    by_cases h32 : 32 < l.length
    · have HV := Lib.hid (show (4 : Int) = wDK 14 l by unfold wDK; rw [if_pos rfl, if_pos h32])
      have h32i : (32 : Int) < (l.length : Int) := by omega
      clear h32
      go_enter Tryz.func53, Tryz.ntmps53
      go_wp2
      go_ret
      exact ⟨ret_e HV.out, HB.out⟩
    have h32i : ¬ (32 : Int) < (l.length : Int) := by omega
    obtain ⟨R, hR⟩ : ∃ R, R = wDK 14 l := ⟨_, rfl⟩
    have HR := Lib.hid (show wSs (l.drop 0) = R by rw [hR]; unfold wDK; rw [if_pos rfl, if_neg h32]; rfl)
    rw [← hR]
    have hl9 : (l.length : Int) ≤ 32 := by omega
    clear hR h32 hz
    rw [← hg] at HZ
    go_enter Tryz.func53, Tryz.ntmps53
    go_wp2_with fail
    rw [← hg]
    go_loopw [3] (fun s3 wr => ∃ k : Nat, k ≤ l.length ∧ s3 = .int .i64 k ∧ Hid (wSs (l.drop k) = R) ∧ Hid (Blk wr g 56 #[.string ⟨#[114, 101, 98, 97, 115, 101]⟩, .string nm, .int .i64 n, .string tx, .bool f, .slice A l.length c]) ∧ Hid (Below w.heap.size w wr)) (fun s3 _ => l.length - (intOf s3).toNat)
    case atStart => exact ⟨0, Nat.zero_le _, rfl, HR, HZ, HB⟩
    case round =>
      clear HR HZ HB hg
      obtain ⟨k, hk, rfl, HR, HZ, HB⟩ := hrel
      have k0 : (0 : Int) ≤ (k : Int) := Int.natCast_nonneg _
      have x5 := HZ.out.cell 5
      by_cases hlt : k < l.length
      · have hli : (k : Int) < (l.length : Int) := by omega
        obtain ⟨x, hx⟩ : ∃ x, l[k]? = some x := ⟨_, List.getElem?_eq_getElem hlt⟩
        obtain ⟨ad, rfl, c0, c1, c2⟩ := Fils.at_ (HL.out wr HB.out) hx
        have HP := HR.out
        rw [drop_consB hx, wSs] at HP
        replace HP := Lib.hid HP
        have HLT := Lib.hid hlt
        obtain ⟨o, ho⟩ : ∃ o, o = wSV x := ⟨_, rfl⟩
        rw [← ho] at HP
        have HO := Lib.hid ho
        obtain ⟨v, cc, t⟩ := x
        dsimp only at c0 c1 c2
        have VB := Lib.hid fun W => refVerb_any v W
        have B2 := Lib.hid (HB.out.alloc HB.out.size (.cells #[.string v, .int .i64 cc, .string t] 81))
        have Z2 := Lib.hid (HZ.out.alloc (.cells #[.string v, .int .i64 cc, .string t] 81))
        have Y2 := Lib.hid (Blk.new wr 81 #[.string v, .int .i64 cc, .string t])
        obtain ⟨y, hy⟩ : ∃ y, y = wr.heap.size := ⟨_, rfl⟩
        clear hx hlt hk ho HR HZ HB
        go_upto_region 9 with fail
        rw [← hy] at Y2 ⊢
        clear hy c0 c1 c2 x5
        generalize wr.alloc (.cells #[.string v, .int .i64 cc, .string t] 81) = w2 at *
        have y0 := Y2.out.cell 0
        go_wp2_with fail
        refine (VB.out _).mono ?_
        rintro e w3 ⟨nn, rfl, hn, hn1, d3⟩
        have B3 := Lib.hid (B2.out.trans (d3.mono B2.out.size))
        have Z3 := Lib.hid (Z2.out.below d3 Z2.out.lt)
        have Y3 := Lib.hid (Y2.out.below d3 Y2.out.lt)
        clear d3 B2 Z2 Y2 VB y0
        have y0 := Y3.out.cell 0
        have y1 := Y3.out.cell 1
        have y2 := Y3.out.cell 2
        cases hv : knownV v with
        | false =>
          have z1 : nn < 0 := by rw [hv] at hn; exact of_decide_eq_true hn
          have HV := Lib.hid (show (5 : Int) = R by have := HP.out; rw [HO.out, show wSV (v, cc, t) = 5 by unfold wSV; rw [if_pos hv], if_pos (by decide)] at this; exact this)
          clear hn hv HP HO
          go_wp2
          go_ret
          exact ⟨ret_e HV.out, B3.out⟩
        | true =>
          have z1 : ¬ nn < 0 := by rw [hv] at hn; exact of_decide_eq_false hn
          have HK := Lib.hid (show ¬ knownV v = false by rw [hv]; simp)
          have HKV := Lib.hid hv
          clear hn hv
          by_cases g1 : cc < 1
          · have HV := Lib.hid (show (1 : Int) = R by have := HP.out; rw [HO.out, show wSV (v, cc, t) = 1 by unfold wSV; rw [if_neg HK.out, if_pos (.inl g1)], if_pos (by decide)] at this; exact this)
            clear HP HO HK
            go_wp2
            go_ret
            exact ⟨ret_e HV.out, B3.out⟩
          by_cases g2 : 1000000 < cc
          · have HV := Lib.hid (show (1 : Int) = R by have := HP.out; rw [HO.out, show wSV (v, cc, t) = 1 by unfold wSV; rw [if_neg HK.out, if_pos (.inr g2)], if_pos (by decide)] at this; exact this)
            clear HP HO HK
            go_wp2
            go_ret
            exact ⟨ret_e HV.out, B3.out⟩
          have HQ := Lib.hid (show ¬ (cc < 1 ∨ 1000000 < cc) by omega)
          cases hr : (v.toList == [114, 101, 119, 111, 114, 100]) with
          | false =>
            have HP2 := Lib.hid (show wSs (l.drop (k + 1)) = R by have := HP.out; rw [HO.out, show wSV (v, cc, t) = 0 by unfold wSV; rw [if_neg HK.out, if_neg HQ.out, if_pos hr], if_neg (by decide)] at this; exact this)
            clear HP HO HK HQ
            go_wp2
            go_roundw
            case rel => exact ⟨k + 1, by have := HLT.out; omega, by go_num, HP2, Z3, B3⟩
            case measure => have := HLT.out; simp [intOf]; omega
          | true =>
            have HO2 := Lib.hid (show o = if t = ⟨#[]⟩ then 1 else wlV t by rw [HO.out]; exact wSV_size HKV.out HQ.out hr)
            clear HO HK HQ HKV
            by_cases hz : 256 < t.size
            · have hzi : (256 : Int) < (t.size : Int) := by omega
              have HV := Lib.hid (show (4 : Int) = R by
                have := HP.out
                rw [HO2.out, if_neg (show ¬ t = ⟨#[]⟩ from fun e => by subst e; cases hz), show wlV t = 4 from if_pos hz, if_pos (by decide)] at this
                exact this)
              clear HP HO2 hz
              go_wp2
              go_ret
              exact ⟨ret_e HV.out, B3.out⟩
            have hzi : ¬ (256 : Int) < (t.size : Int) := by omega
            rcases emptyB t with ⟨rfl, -⟩ | ⟨e1, e2, e3⟩
            · have HV := Lib.hid (show (1 : Int) = R by have := HP.out; rw [HO2.out, if_pos rfl, if_pos (by decide)] at this; exact this)
              clear HP HO2 hz hzi
              go_wp2
              go_ret
              exact ⟨ret_e HV.out, B3.out⟩
            have LN := Lib.hid fun W => refLine_any t W (by omega)
            by_cases h1 : (nls t.data.toList).length = 1
            · have HP2 := Lib.hid (show wSs (l.drop (k + 1)) = R by have := HP.out; rw [HO2.out, if_neg e1, show wlV t = 0 by unfold wlV; rw [if_neg hz, if_pos h1], if_neg (by decide)] at this; exact this)
              rw [decide_eq_false (by simpa using h1)] at LN
              clear HP HO2 hz h1 e1
              go_wp2_with fail
              refine (LN.out _).mono ?_
              rintro e w4 ⟨rfl, d4⟩
              have B4 := Lib.hid (B3.out.trans (d4.mono B3.out.size))
              have Z4 := Lib.hid (Z3.out.below d4 Z3.out.lt)
              clear d4 B3 Z3 Y3 y0 y1 y2
              go_wp2
              go_roundw
              case rel => exact ⟨k + 1, by have := HLT.out; omega, by go_num, HP2, Z4, B4⟩
              case measure => have := HLT.out; simp [intOf]; omega
            · have HV := Lib.hid (show (2 : Int) = R by have := HP.out; rw [HO2.out, if_neg e1, show wlV t = 2 by unfold wlV; rw [if_neg hz, if_neg h1], if_pos (by decide)] at this; exact this)
              rw [decide_eq_true (by simpa using h1)] at LN
              clear HP HO2 hz h1 e1
              go_wp2_with fail
              refine (LN.out _).mono ?_
              rintro e w4 ⟨rfl, d4⟩
              have B4 := Lib.hid (B3.out.trans (d4.mono B3.out.size))
              clear d4 B3
              go_wp2
              go_ret
              exact ⟨ret_e HV.out, B4.out⟩
      · obtain rfl : k = l.length := by omega
        have HP := HR.out
        rw [List.drop_length, wSs] at HP
        replace HP := Lib.hid HP
        clear hlt hk
        go_wp2
        go_ret
        exact ⟨ret_e HP.out, HB.out⟩
  · have HV := Lib.hid (show (0 : Int) = wDK k l by unfold wDK; rw [if_neg h14])
    have hv := verb_not hk h14
    have HB := Lib.hid hb
    clear hb h14 hk
    obtain ⟨v, hv2⟩ : ∃ v, v = vB k := ⟨_, rfl⟩
    rw [← hv2] at HB hv ⊢
    clear hv2
    go_enter Tryz.func53, Tryz.ntmps53
    go_wp2
    go_ret
    exact ⟨ret_e HV.out, HB.out⟩
end Go.Proofs.YtanjcjnkppnhcaaGreatDoor

namespace Go.Proofs.YtanjcjnkppnhcaaGreatDoor
open Go Go.RowKit

set_option maxRecDepth 100000 in
set_option maxHeartbeats 16000000 in
theorem refNm_any (k : Nat) (hk : k < 20) (nm : ByteArray) (n : Int) (tx : ByteArray) (f : Bool) (A : Option Addr) (m c : Nat) (w : World) (hs : nm.size ≤ 1000000) :
    Calls Tryz.prog 50 #[cmdV k nm n tx f A m c] w fun e w' => e = .returned (.int .i64 (wMK k nm)) ∧ Below w.heap.size w w' := by
  have hb := (Below.refl w.heap.size w).alloc (Nat.le_refl _) (.cells (cmdC k nm n tx f A m c) 56)
  have PC := Lib.hid fun W => refCheck_any nm W (by omega)
  have GD := Lib.hid fun W => Nm.refGood_any nm W (by omega)
  unfold cmdV
  unfold cmdC at hb
  unfold Checked at PC
  by_cases h6 : k = 6
  · subst h6
    simp only [vB] at hb ⊢
    have HB := Lib.hid hb
    clear hb PC GD
    cases hs1 : (nm.toList == [115, 111, 102, 116]) with
    | true =>
      have HV := Lib.hid (show (0 : Int) = wMK 6 nm by unfold wMK; rw [hs1]; rfl)
      go_enter Tryz.func50, Tryz.ntmps50
      go_wp2
      go_ret
      exact ⟨ret_e HV.out, HB.out⟩
    | false =>
      cases hs2 : (nm.toList == [109, 105, 120, 101, 100]) with
      | true =>
        have HV := Lib.hid (show (0 : Int) = wMK 6 nm by unfold wMK; rw [hs1, hs2]; rfl)
        go_enter Tryz.func50, Tryz.ntmps50
        go_wp2
        go_ret
        exact ⟨ret_e HV.out, HB.out⟩
      | false =>
        cases hs3 : (nm.toList == [104, 97, 114, 100]) with
        | true =>
          have HV := Lib.hid (show (0 : Int) = wMK 6 nm by unfold wMK; rw [hs1, hs2, hs3]; rfl)
          go_enter Tryz.func50, Tryz.ntmps50
          go_wp2
          go_ret
          exact ⟨ret_e HV.out, HB.out⟩
        | false =>
          have HV := Lib.hid (show (5 : Int) = wMK 6 nm by unfold wMK; rw [hs1, hs2, hs3]; rfl)
          go_enter Tryz.func50, Tryz.ntmps50
          go_wp2
          go_ret
          exact ⟨ret_e HV.out, HB.out⟩
  rcases emptyB nm with ⟨rfl, -⟩ | ⟨h1, h2, h3⟩
  · have GE := Lib.hid (show Nm.goodN ⟨#[]⟩ = false from Nm.goodN_short rfl)
    rw [GE.out] at GD
    rcases k20 hk with rfl | rfl | rfl | rfl | rfl | rfl | rfl | rfl | rfl | rfl | rfl | rfl | rfl | rfl | rfl | rfl | rfl | rfl | rfl | rfl
    case inr.inr.inr.inr.inr.inr.inl => exact absurd rfl h6
    all_goals
      simp only [vB] at hb ⊢
      have HB := Lib.hid hb
      clear hb h6
      go_enter Tryz.func50, Tryz.ntmps50
      go_wp2_with (first | (go_at_call 88; refine (PC.out _).mono ?_; rintro e w1 ⟨rfl, d1⟩; have D1 := Lib.hid d1; clear d1) | (go_at_call 89; refine (GD.out _).mono ?_; rintro e w1 ⟨rfl, rfl⟩))
      go_ret
      first
        | exact ⟨rfl, HB.out⟩
        | exact ⟨rfl, HB.out.trans (D1.out.mono HB.out.size)⟩
        | exact ⟨ret_e (by unfold wMK; rw [GE.out]; rfl), HB.out⟩
  · have HV0 := Lib.hid (wMK_0 h1)
    obtain ⟨gd, hgd⟩ : ∃ gd, gd = Nm.goodN nm := ⟨_, rfl⟩
    rw [← hgd] at GD
    have HG := Lib.hid hgd
    have HN := Lib.hid h1
    clear h1 hgd
    cases gd with
    | true =>
      have HV5 := Lib.hid (show wMK 5 nm = 0 by unfold wMK; rw [← HG.out]; simp)
      have HV3 := Lib.hid (show wMK 3 nm = 0 by unfold wMK; rw [← HG.out]; simp)
      rcases k20 hk with rfl | rfl | rfl | rfl | rfl | rfl | rfl | rfl | rfl | rfl | rfl | rfl | rfl | rfl | rfl | rfl | rfl | rfl | rfl | rfl
      case inr.inr.inr.inr.inr.inr.inl => exact absurd rfl h6
      all_goals
        simp only [vB] at hb ⊢
        have HB := Lib.hid hb
        clear hb h6
        go_enter Tryz.func50, Tryz.ntmps50
        go_wp2_with (first | (go_at_call 88; refine (PC.out _).mono ?_; rintro e w1 ⟨rfl, d1⟩; have D1 := Lib.hid d1; clear d1) | (go_at_call 89; refine (GD.out _).mono ?_; rintro e w1 ⟨rfl, rfl⟩))
        go_ret
        first
          | exact ⟨rfl, HB.out⟩
          | exact ⟨ret_e HV0.out.symm, HB.out.trans (D1.out.mono HB.out.size)⟩
          | exact ⟨rfl, HB.out.trans (D1.out.mono HB.out.size)⟩
          | exact ⟨ret_e HV5.out.symm, HB.out⟩
          | exact ⟨ret_e HV3.out.symm, HB.out⟩
    | false =>
      have HV5 := Lib.hid (show wMK 5 nm = 5 by unfold wMK; rw [← HG.out, if_neg (by decide), if_neg (by decide), if_pos rfl, if_neg HN.out]; simp)
      have HV3 := Lib.hid (show wMK 3 nm = 5 by unfold wMK; rw [← HG.out]; simp)
      rcases k20 hk with rfl | rfl | rfl | rfl | rfl | rfl | rfl | rfl | rfl | rfl | rfl | rfl | rfl | rfl | rfl | rfl | rfl | rfl | rfl | rfl
      case inr.inr.inr.inr.inr.inr.inl => exact absurd rfl h6
      all_goals
        simp only [vB] at hb ⊢
        have HB := Lib.hid hb
        clear hb h6
        go_enter Tryz.func50, Tryz.ntmps50
        go_wp2_with (first | (go_at_call 88; refine (PC.out _).mono ?_; rintro e w1 ⟨rfl, d1⟩; have D1 := Lib.hid d1; clear d1) | (go_at_call 89; refine (GD.out _).mono ?_; rintro e w1 ⟨rfl, rfl⟩))
        go_ret
        first
          | exact ⟨rfl, HB.out⟩
          | exact ⟨ret_e HV0.out.symm, HB.out.trans (D1.out.mono HB.out.size)⟩
          | exact ⟨rfl, HB.out.trans (D1.out.mono HB.out.size)⟩
          | exact ⟨ret_e HV5.out.symm, HB.out⟩
          | exact ⟨ret_e HV3.out.symm, HB.out⟩

set_option maxRecDepth 100000 in
set_option maxHeartbeats 4000000 in
theorem refPlace_any (v : ByteArray) (w : World) : Calls Tryz.prog 49 #[.string v] w fun e w' => e = .returned (.int .i64 (placeV v)) ∧ Below w.heap.size w w' := by
  have VS := Lib.hid (refVerbs_any w)
  have HC := Lib.hid (verbs_cells w)
  have HB := Lib.hid ((Below.refl w.heap.size w).alloc (Nat.le_refl _) (.cells #[.string ⟨#[97, 100, 100]⟩, .string ⟨#[114, 109]⟩, .string ⟨#[99, 111, 109, 109, 105, 116]⟩, .string ⟨#[98, 114, 97, 110, 99, 104]⟩, .string ⟨#[100, 101, 108, 101, 116, 101]⟩, .string ⟨#[115, 119, 105, 116, 99, 104]⟩, .string ⟨#[114, 101, 115, 101, 116]⟩, .string ⟨#[109, 101, 114, 103, 101]⟩, .string ⟨#[112, 105, 99, 107]⟩, .string ⟨#[114, 101, 118, 101, 114, 116]⟩, .string ⟨#[115, 116, 97, 115, 104]⟩, .string ⟨#[112, 111, 112]⟩, .string ⟨#[97, 112, 112, 108, 121]⟩, .string ⟨#[115, 104, 101, 108, 118, 101]⟩, .string ⟨#[114, 101, 98, 97, 115, 101]⟩, .string ⟨#[99, 111, 110, 116, 105, 110, 117, 101]⟩, .string ⟨#[115, 107, 105, 112]⟩, .string ⟨#[97, 98, 111, 114, 116]⟩, .string ⟨#[117, 110, 100, 111]⟩, .string ⟨#[114, 101, 100, 111]⟩] 9))
  obtain ⟨R, hR⟩ : ∃ R, R = placeV v := ⟨_, rfl⟩
  have HR := Lib.hid (show goP (verbsB.drop 0) v 0 = R by rw [hR]; rfl)
  rw [← hR]
  clear hR
  go_enter Tryz.func49, Tryz.ntmps49
  go_wp2_with fail
  refine VS.out.mono ?_
  rintro e w1 ⟨rfl, hw⟩
  rw [← hw] at HC HB
  obtain ⟨g, hg⟩ : ∃ g, g = w.heap.size := ⟨_, rfl⟩
  rw [← hg] at HC ⊢
  clear hw VS hg
  go_wp2_with fail
  go_loopw [4] (fun s4 wr => ∃ k : Nat, k ≤ 20 ∧ s4 = .int .i64 k ∧ Hid (goP (verbsB.drop k) v k = R) ∧ Hid (wr = w1)) (fun s4 _ => 20 - (intOf s4).toNat)
  case atStart => exact ⟨0, Nat.zero_le _, rfl, HR, Lib.hid rfl⟩
  case round =>
    clear HR
    obtain ⟨k, hk, rfl, HR, HW⟩ := hrel
    have k0 : (0 : Int) ≤ (k : Int) := Int.natCast_nonneg _
    by_cases hlt : k < 20
    · have hli : (k : Int) < 20 := by omega
      have hx := verbsB_at hlt
      have c0 : wr.cell? ⟨g, k, none⟩ = some (.string (vB k)) := by rw [HW.out]; exact HC.out k _ hx
      have HP := HR.out
      rw [drop_consB hx, goP] at HP
      have e1 := eq_bytes (a := vB k) (b := v)
      have HLT := Lib.hid hlt
      generalize vB k = x at *
      by_cases hv : x = v
      · rw [if_pos hv] at HP
        replace HP := Lib.hid HP
        clear hx hlt hk e1
        subst hv
        go_wp2
        go_ret
        exact ⟨by rw [← HP.out]; rfl, by rw [HW.out]; exact HB.out⟩
      · rw [if_neg hv] at HP
        rw [decide_eq_false hv] at e1
        replace HP := Lib.hid HP
        clear hx hv hlt hk
        go_wp2
        go_roundw
        case rel => exact ⟨k + 1, by have := HLT.out; omega, by go_num, HP, HW⟩
        case measure => have := HLT.out; simp [intOf]; omega
    · obtain rfl : k = 20 := by omega
      have HP := HR.out
      rw [show verbsB.drop 20 = [] from rfl, goP] at HP
      replace HP := Lib.hid HP
      clear hlt hk
      go_wp2
      go_ret
      exact ⟨by rw [← HP.out]; rfl, by rw [HW.out]; exact HB.out⟩
/-- What the document's CheckCmd tells. -/
def RfTo (p : Int) (o : Int) (w : World) (e : Ending) (w' : World) : Prop :=
  ((o = 0 ∧ e = .returned (.agg #[.slice none 0 0, .int .i64 0])) ∨ ∃ g, o ≠ 0 ∧ e = .returned (.agg #[.slice (some ⟨g, 0, none⟩) 1 1, .int .i64 o]) ∧ w.heap.size ≤ g ∧ Blk w' g 91 #[.string bCmd, .int .i64 p]) ∧ Below w.heap.size w w'
theorem refCheck_nov (v : ByteArray) (hv : placeV v = -1) (nm : ByteArray) (n : Int) (tx : ByteArray) (f : Bool) (A : Option Addr) (m c : Nat) (w : World) :
    Calls Tryz.prog 23 #[.agg #[.string v, .string nm, .int .i64 n, .string tx, .bool f, .slice A m c]] w (RfTo (-1) 5 w) := by
  have PL := Lib.hid fun W => refPlace_any v W
  have AT := Lib.hid fun W => refAt_any bCmd (-1) 5 W
  rw [hv] at PL
  have HZ := Lib.hid (Blk.new w 56 #[.string v, .string nm, .int .i64 n, .string tx, .bool f, .slice A m c])
  have hb1 := (Below.refl w.heap.size w).alloc (Nat.le_refl _) (.cells #[.string v, .string nm, .int .i64 n, .string tx, .bool f, .slice A m c] 56)
  have HB := Lib.hid (hb1.alloc hb1.size (.cells #[.slice none 0 0, .int .i64 0] 31))
  have HY := Lib.hid (Blk.new (w.alloc (.cells #[.string v, .string nm, .int .i64 n, .string tx, .bool f, .slice A m c] 56)) 31 #[.slice none 0 0, .int .i64 0])
  rw [show (w.alloc (.cells #[.string v, .string nm, .int .i64 n, .string tx, .bool f, .slice A m c] 56)).heap.size = w.heap.size + 1 by simp] at HY
  obtain ⟨g, hg⟩ : ∃ g, g = w.heap.size := ⟨_, rfl⟩
  have HG := Lib.hid hg
  have HZ2 := Lib.hid (HZ.out.alloc (.cells #[.slice none 0 0, .int .i64 0] 31))
  rw [← hg] at HZ2 HY
  clear hb1 hv HZ
  go_enter Tryz.func23, Tryz.ntmps23
  go_wp2_with fail
  refine (PL.out _).mono ?_
  rintro e w1 ⟨rfl, d1⟩
  rw [← hg]
  have B1 := Lib.hid (HB.out.trans (d1.mono HB.out.size))
  have Z1 := Lib.hid (HZ2.out.below d1 HZ2.out.lt)
  have Y1 := Lib.hid (HY.out.below d1 HY.out.lt)
  clear d1 HB HZ2 HY hg PL
  go_wp2_with fail
  refine (AT.out _).mono ?_
  rintro e w2 ⟨g2, rfl, hg2, hgl, d2⟩
  have B2 := Lib.hid (B1.out.trans (d2.mono B1.out.size))
  have Y2 := Lib.hid (Y1.out.below d2 Y1.out.lt)
  have G2 := Lib.hid hg2
  have hgl2 := Lib.hid (Nat.le_trans B1.out.size hgl)
  have hne : g2 ≠ g + 1 := fun e => absurd Y1.out.lt (by rw [← e]; omega)
  clear d2 hg2 hgl B1 Z1
  have c0 := Y2.out.cell 0
  have f0 := Y2.out.frozen 0
  have c1 := Y2.out.cell 1
  have f1 := Y2.out.frozen 1
  go_wp2
  exact bodyPost_ret (results_cell_row (fn := Tryz.f23) rfl _ _ (g + 1) 31 _ (0, 0) _ rfl (row2w Y2.out rfl (.slice (some ⟨g2, 0, none⟩) 1 1) (.int .i64 5)) Tryz.underlying31 rfl (by kernel_rfl)) rfl ⟨.inr ⟨g2, by decide, rfl, hgl2.out, (G2.out.far hne _).far hne _⟩, (B2.out.setCell (p := ⟨g + 1, 0, none⟩) (by rw [HG.out]; exact Nat.le_succ _) _).setCell (p := ⟨g + 1, 1, none⟩) (by rw [HG.out]; exact Nat.le_succ _) _⟩
end Go.Proofs.YtanjcjnkppnhcaaGreatDoor

namespace Go.Proofs.YtanjcjnkppnhcaaGreatDoor
open Go Go.RowKit

/-- What stands while CheckCmd runs: the command's box, the result's. -/
structure RC (w : World) (g : Nat) (cs : Array Value) (v : World) : Prop where
  box : Blk v g 56 cs
  res : Blk v (g + 1) 31 #[.slice none 0 0, .int .i64 0]
  bel : Below w.heap.size w v
theorem RC.below {w : World} {g : Nat} {cs : Array Value} {v v' : World} (h : RC w g cs v) (hb : Below v.heap.size v v') : RC w g cs v' :=
  ⟨h.box.below hb h.box.lt, h.res.below hb h.res.lt, h.bel.trans (hb.mono h.bel.size)⟩
theorem RC.drew {w : World} {g : Nat} {cs : Array Value} {v : World} (h : RC w g cs v) : RC w g cs v.drew := h.below (below_drewN (Below.refl _ v) 1)
set_option maxRecDepth 100000 in
set_option maxHeartbeats 16000000 in
theorem refCheck_cmd (k : Nat) (hk : k < 20) (nm : ByteArray) (n : Int) (tx : ByteArray) (f : Bool) (A : Option Addr) (l : List Fl) (c : Nat) (w : World) (hs : nm.size ≤ 1000000) (hn : -9223372036854775808 ≤ n) (hl : Reads 3 cF w (.slice A l.length c) l) :
    Calls Tryz.prog 23 #[cmdV k nm n tx f A l.length c] w (RfTo k (checkK k nm n tx l) w) := by
  have PL := Lib.hid fun W => refPlace_any (vB k) W
  have AT := Lib.hid fun o W => refAt_any bCmd k o W
  rw [place_vB hk] at PL
  have W1 := Lib.hid fun W => refNm_any k hk nm n tx f A l.length c W hs
  have W2 := Lib.hid fun W => refNum_any k hk nm n tx f A l.length c W hn
  have W3 := Lib.hid fun W => refWords_any k hk nm n tx f A l.length c W
  have W4 := Lib.hid fun W (hW : Below w.heap.size w W) => refSteps_any k hk nm n tx f A l c W (hl.below hW)
  have HQ := Lib.hid (show checkK k nm n tx l = if wMK k nm ≠ 0 then wMK k nm else if wNK k nm n ≠ 0 then wNK k nm n else if wTK k tx ≠ 0 then wTK k tx else wDK k l from rfl)
  generalize checkK k nm n tx l = R at *
  generalize wMK k nm = o1 at *
  generalize wNK k nm n = o2 at *
  generalize wTK k tx = o3 at *
  generalize wDK k l = o4 at *
  have HK := Lib.hid hk
  obtain ⟨v, hv⟩ : ∃ v, v = vB k := ⟨_, rfl⟩
  have hkl : ¬ ((k : Int) < 0) := by omega
  unfold cmdV at W1 W2 W3 W4 ⊢
  rw [← hv] at PL W1 W2 W3 W4 ⊢
  have HZ := Lib.hid (Blk.new w 56 #[.string v, .string nm, .int .i64 n, .string tx, .bool f, .slice A l.length c])
  have hb1 := (Below.refl w.heap.size w).alloc (Nat.le_refl _) (.cells #[.string v, .string nm, .int .i64 n, .string tx, .bool f, .slice A l.length c] 56)
  have HB := Lib.hid (hb1.alloc hb1.size (.cells #[.slice none 0 0, .int .i64 0] 31))
  have HY := Lib.hid (Blk.new (w.alloc (.cells #[.string v, .string nm, .int .i64 n, .string tx, .bool f, .slice A l.length c] 56)) 31 #[.slice none 0 0, .int .i64 0])
  rw [show (w.alloc (.cells #[.string v, .string nm, .int .i64 n, .string tx, .bool f, .slice A l.length c] 56)).heap.size = w.heap.size + 1 by simp] at HY
  obtain ⟨g, hg⟩ : ∃ g, g = w.heap.size := ⟨_, rfl⟩
  have HG := Lib.hid hg
  have HZ2 := Lib.hid (HZ.out.alloc (.cells #[.slice none 0 0, .int .i64 0] 31))
  rw [← hg] at HZ2 HY
  clear hb1 HZ hl hk hv
  go_enter Tryz.func23, Tryz.ntmps23
  go_wp2_with fail
  refine (PL.out _).mono ?_
  rintro e w1 ⟨rfl, d1⟩
  rw [← hg]
  have T1 : Hid (RC w g #[.string v, .string nm, .int .i64 n, .string tx, .bool f, .slice A l.length c] w1) := Lib.hid ⟨HZ2.out.below d1 HZ2.out.lt, HY.out.below d1 HY.out.lt, HB.out.trans (d1.mono HB.out.size)⟩
  clear d1 HB HZ2 HY hg PL
  go_wp2_with fail
  have T1d : Hid (RC w g #[.string v, .string nm, .int .i64 n, .string tx, .bool f, .slice A l.length c] w1.drew) := Lib.hid T1.out.drew
  have CC := Lib.hid fun V (h : RC w g #[.string v, .string nm, .int .i64 n, .string tx, .bool f, .slice A l.length c] V) => (⟨h.box.cell 0, h.box.cell 1, h.box.cell 2, h.box.cell 3, h.box.cell 4, h.box.cell 5⟩ : V.cell? ⟨g, 0, none⟩ = some (.string v) ∧ V.cell? ⟨g, 1, none⟩ = some (.string nm) ∧ V.cell? ⟨g, 2, none⟩ = some (.int .i64 n) ∧ V.cell? ⟨g, 3, none⟩ = some (.string tx) ∧ V.cell? ⟨g, 4, none⟩ = some (.bool f) ∧ V.cell? ⟨g, 5, none⟩ = some (.slice A l.length c))
  go_cut [4] (fun s4 wx => ∃ y : Nat, s4 = .slice (some ⟨y, 0, none⟩) 4 4 ∧ Hid (Blk wx y 3 #[.int .i64 o1, .int .i64 o2, .int .i64 o3, .int .i64 o4]) ∧ Hid (RC w g #[.string v, .string nm, .int .i64 n, .string tx, .bool f, .slice A l.length c] wx))
  case first =>
    go_region_held3 (fun V => V.cell? ⟨g, 0, none⟩ = some (.string v) ∧ V.cell? ⟨g, 1, none⟩ = some (.string nm) ∧ V.cell? ⟨g, 2, none⟩ = some (.int .i64 n) ∧ V.cell? ⟨g, 3, none⟩ = some (.string tx) ∧ V.cell? ⟨g, 4, none⟩ = some (.bool f) ∧ V.cell? ⟨g, 5, none⟩ = some (.slice A l.length c)) (first | exact CC.out _ T1d.out | exact CC.out _ T2.out | exact CC.out _ T3.out | exact CC.out _ T4.out | exact CC.out _ T5.out | exact CC.out _ (T5.out.below ((Below.refl _ _).alloc (Nat.le_refl _) (.cells #[.int .i64 o1, .int .i64 o2, .int .i64 o3, .int .i64 o4] 3))))
      (first
        | (go_at_call 50; refine (W1.out _).mono ?_; rintro e v1 ⟨rfl, d1⟩; have T2 := Lib.hid (T1d.out.below d1))
        | (go_at_call 51; refine (W2.out _).mono ?_; rintro e v2 ⟨rfl, d2⟩; have T3 := Lib.hid (T2.out.below d2))
        | (go_at_call 52; refine (W3.out _).mono ?_; rintro e v3 ⟨rfl, d3⟩; have T4 := Lib.hid (T3.out.below d3))
        | (go_at_call 53; refine (W4.out _ T4.out.bel).mono ?_; rintro e v4 ⟨rfl, d4⟩; have T5 := Lib.hid (T4.out.below d4)))
    all_goals (go_wp2_with fail; go_meet)
    all_goals exact ⟨v4.heap.size, rfl, Lib.hid (Blk.new v4 _ _), Lib.hid (T5.out.below ((Below.refl _ _).alloc (Nat.le_refl _) _))⟩
  case rest =>
    obtain ⟨y, rfl, HY, T2⟩ := hcut
    clear T1 T1d CC W1 W2 W3 W4
    go_wp2_with fail
    refine wp_loop_rounds 5 ?_
    rw [rounds_succ]
    have y0 := HY.out.cell 0
    by_cases h0 : o1 = 0
    case neg =>
      have HR := Lib.hid (show R = o1 by rw [HQ.out, if_pos h0])
      have hb0 : (o1 == 0) = false := by simpa using h0
      have HN := Lib.hid h0
      clear h0 HQ
      go_wp2_with fail
      refine (AT.out _ _).mono ?_
      rintro e w5 ⟨g5, rfl, hg5, hgl, d5⟩
      have T5 := Lib.hid (T2.out.below d5)
      have G5 := Lib.hid hg5
      have hgl5 := Lib.hid (Nat.le_trans T2.out.bel.size hgl)
      have hne5 : g5 ≠ g + 1 := fun e => absurd T2.out.res.lt (by rw [← e]; omega)
      clear hg5 hgl d5 T2 HY y0
      have c0 := T5.out.res.cell 0
      have f0 := T5.out.res.frozen 0
      have c1 := T5.out.res.cell 1
      have f1 := T5.out.res.frozen 1
      go_wp2
      exact bodyPost_ret (results_cell_row (fn := Tryz.f23) rfl _ _ (g + 1) 31 _ (0, 0) _ rfl (row2w T5.out.res rfl (.slice (some ⟨g5, 0, none⟩) 1 1) (.int .i64 o1)) Tryz.underlying31 rfl (by kernel_rfl)) rfl ⟨.inr ⟨g5, by rw [HR.out]; exact HN.out, by rw [HR.out], hgl5.out, (G5.out.far hne5 _).far hne5 _⟩, (T5.out.bel.setCell (p := ⟨g + 1, 0, none⟩) (by rw [HG.out]; exact Nat.le_succ _) _).setCell (p := ⟨g + 1, 1, none⟩) (by rw [HG.out]; exact Nat.le_succ _) _⟩
    subst h0
    go_wp2_with fail
    clear y0
    rw [rounds_succ]
    have y1 := HY.out.cell 1
    by_cases h1 : o2 = 0
    case neg =>
      have HR := Lib.hid (show R = o2 by rw [HQ.out, if_neg (show ¬ (0 : Int) ≠ 0 by simp), if_pos h1])
      have hb1 : (o2 == 0) = false := by simpa using h1
      have HN := Lib.hid h1
      clear h1 HQ
      go_wp2_with fail
      refine (AT.out _ _).mono ?_
      rintro e w5 ⟨g5, rfl, hg5, hgl, d5⟩
      have T5 := Lib.hid (T2.out.below d5)
      have G5 := Lib.hid hg5
      have hgl5 := Lib.hid (Nat.le_trans T2.out.bel.size hgl)
      have hne5 : g5 ≠ g + 1 := fun e => absurd T2.out.res.lt (by rw [← e]; omega)
      clear hg5 hgl d5 T2 HY y1
      have c0 := T5.out.res.cell 0
      have f0 := T5.out.res.frozen 0
      have c1 := T5.out.res.cell 1
      have f1 := T5.out.res.frozen 1
      go_wp2
      exact bodyPost_ret (results_cell_row (fn := Tryz.f23) rfl _ _ (g + 1) 31 _ (0, 0) _ rfl (row2w T5.out.res rfl (.slice (some ⟨g5, 0, none⟩) 1 1) (.int .i64 o2)) Tryz.underlying31 rfl (by kernel_rfl)) rfl ⟨.inr ⟨g5, by rw [HR.out]; exact HN.out, by rw [HR.out], hgl5.out, (G5.out.far hne5 _).far hne5 _⟩, (T5.out.bel.setCell (p := ⟨g + 1, 0, none⟩) (by rw [HG.out]; exact Nat.le_succ _) _).setCell (p := ⟨g + 1, 1, none⟩) (by rw [HG.out]; exact Nat.le_succ _) _⟩
    subst h1
    go_wp2_with fail
    clear y1
    rw [rounds_succ]
    have y2 := HY.out.cell 2
    by_cases h2 : o3 = 0
    case neg =>
      have HR := Lib.hid (show R = o3 by rw [HQ.out, if_neg (show ¬ (0 : Int) ≠ 0 by simp), if_neg (show ¬ (0 : Int) ≠ 0 by simp), if_pos h2])
      have hb2 : (o3 == 0) = false := by simpa using h2
      have HN := Lib.hid h2
      clear h2 HQ
      go_wp2_with fail
      refine (AT.out _ _).mono ?_
      rintro e w5 ⟨g5, rfl, hg5, hgl, d5⟩
      have T5 := Lib.hid (T2.out.below d5)
      have G5 := Lib.hid hg5
      have hgl5 := Lib.hid (Nat.le_trans T2.out.bel.size hgl)
      have hne5 : g5 ≠ g + 1 := fun e => absurd T2.out.res.lt (by rw [← e]; omega)
      clear hg5 hgl d5 T2 HY y2
      have c0 := T5.out.res.cell 0
      have f0 := T5.out.res.frozen 0
      have c1 := T5.out.res.cell 1
      have f1 := T5.out.res.frozen 1
      go_wp2
      exact bodyPost_ret (results_cell_row (fn := Tryz.f23) rfl _ _ (g + 1) 31 _ (0, 0) _ rfl (row2w T5.out.res rfl (.slice (some ⟨g5, 0, none⟩) 1 1) (.int .i64 o3)) Tryz.underlying31 rfl (by kernel_rfl)) rfl ⟨.inr ⟨g5, by rw [HR.out]; exact HN.out, by rw [HR.out], hgl5.out, (G5.out.far hne5 _).far hne5 _⟩, (T5.out.bel.setCell (p := ⟨g + 1, 0, none⟩) (by rw [HG.out]; exact Nat.le_succ _) _).setCell (p := ⟨g + 1, 1, none⟩) (by rw [HG.out]; exact Nat.le_succ _) _⟩
    subst h2
    go_wp2_with fail
    clear y2
    rw [rounds_succ]
    have y3 := HY.out.cell 3
    by_cases h3 : o4 = 0
    case neg =>
      have HR := Lib.hid (show R = o4 by rw [HQ.out, if_neg (show ¬ (0 : Int) ≠ 0 by simp), if_neg (show ¬ (0 : Int) ≠ 0 by simp), if_neg (show ¬ (0 : Int) ≠ 0 by simp)])
      have hb3 : (o4 == 0) = false := by simpa using h3
      have HN := Lib.hid h3
      clear h3 HQ
      go_wp2_with fail
      refine (AT.out _ _).mono ?_
      rintro e w5 ⟨g5, rfl, hg5, hgl, d5⟩
      have T5 := Lib.hid (T2.out.below d5)
      have G5 := Lib.hid hg5
      have hgl5 := Lib.hid (Nat.le_trans T2.out.bel.size hgl)
      have hne5 : g5 ≠ g + 1 := fun e => absurd T2.out.res.lt (by rw [← e]; omega)
      clear hg5 hgl d5 T2 HY y3
      have c0 := T5.out.res.cell 0
      have f0 := T5.out.res.frozen 0
      have c1 := T5.out.res.cell 1
      have f1 := T5.out.res.frozen 1
      go_wp2
      exact bodyPost_ret (results_cell_row (fn := Tryz.f23) rfl _ _ (g + 1) 31 _ (0, 0) _ rfl (row2w T5.out.res rfl (.slice (some ⟨g5, 0, none⟩) 1 1) (.int .i64 o4)) Tryz.underlying31 rfl (by kernel_rfl)) rfl ⟨.inr ⟨g5, by rw [HR.out]; exact HN.out, by rw [HR.out], hgl5.out, (G5.out.far hne5 _).far hne5 _⟩, (T5.out.bel.setCell (p := ⟨g + 1, 0, none⟩) (by rw [HG.out]; exact Nat.le_succ _) _).setCell (p := ⟨g + 1, 1, none⟩) (by rw [HG.out]; exact Nat.le_succ _) _⟩
    subst h3
    go_wp2_with fail
    clear y3
    rw [rounds_succ]
    have c0 := T2.out.res.cell 0
    have f0 := T2.out.res.frozen 0
    have c1 := T2.out.res.cell 1
    have f1 := T2.out.res.frozen 1
    have HR := Lib.hid (show R = 0 by rw [HQ.out]; simp)
    clear HQ
    go_wp2
    exact bodyPost_ret (results_cell_row (fn := Tryz.f23) rfl _ _ (g + 1) 31 _ (0, 0) _ rfl (row2w T2.out.res rfl (.slice none 0 0) (.int .i64 0)) Tryz.underlying31 rfl (by kernel_rfl)) rfl ⟨.inl ⟨HR.out, rfl⟩, (T2.out.bel.setCell (p := ⟨g + 1, 0, none⟩) (by rw [HG.out]; exact Nat.le_succ _) _).setCell (p := ⟨g + 1, 1, none⟩) (by rw [HG.out]; exact Nat.le_succ _) _⟩
end Go.Proofs.YtanjcjnkppnhcaaGreatDoor
