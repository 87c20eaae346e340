/-
  The document's CheckCmd: a name, the steps; whole.
  The document's CheckCmd: a name; a verb's place; whole.
  The document's CheckCmd at a verb that is one.
  cmd.Same, the document's Same: whether all of two commands is alike.
  rectolaw22: a command as the document's; whether it is short.
  rectolaw22.Few: whether a command is short.
-/
import Derived.Test.YtanjcjnkppnhcaaGreatDoorAF
import Derived.Test.YtanjcjnkppnhcaaGreatDoorAB
import Derived.Deep.RegionHeld3
import Derived.Deep.DeepCutAuto
import Derived.Deep.QuietTactic
import Derived.BigQuiet

namespace Go.Proofs.YtanjcjnkppnhcaaGreatDoor
open Go Go.RowKit

theorem wSV_size {v tx : ByteArray} {cc : Int} (hk : knownV v = true) (h1 : ¬ (cc < 1 ∨ 1000000 < cc)) (hr : isRw v = true) : wSV (v, cc, tx) = if tx = ⟨#[]⟩ then 1 else wlV tx := by
  unfold wSV
  rw [if_neg (by rw [hk]; simp), if_neg h1, if_neg (by rw [hr]; simp)]
set_option maxRecDepth 100000 in
set_option maxHeartbeats 16000000 in
theorem refSteps_any (k : Nat) (hk : k < 20) (nm : ByteArray) (n : Int) (tx : ByteArray) (f : Bool) (A : Option Addr) (l : List Fl) (c : Nat) (w : World) (hl : Reads 3 cF w (.slice A l.length c) l) :
    Calls Tryz.prog 53 #[cmdV k nm n tx f A l.length c] w fun e w' => e = .returned (.int .i64 (wDK k l)) ∧ Below w.heap.size w w' := by
  have hb := (Below.refl w.heap.size w).alloc (Nat.le_refl _) (.cells (cmdC k nm n tx f A l.length c) 56)
  have l0 : (0 : Int) ≤ (l.length : Int) := Int.natCast_nonneg _
  have HL := Lib.hid fun W (hW : Below w.heap.size w W) => hl.below hW
  have hz := hl.len.2
  unfold maxLen at hz
  unfold cmdV
  unfold cmdC at hb
  clear hl
  by_cases h14 : k = 14
  · subst h14
    simp only [vB] at hb ⊢
    have HB := Lib.hid hb
    have HZ := Lib.hid (Blk.new w 56 #[.string ⟨#[114, 101, 98, 97, 115, 101]⟩, .string nm, .int .i64 n, .string tx, .bool f, .slice A l.length c])
    obtain ⟨g, hg⟩ : ∃ g, g = w.heap.size := ⟨_, rfl⟩
    clear hb
    by_cases h32 : 32 < l.length
    · have HV := Lib.hid (show (4 : Int) = wDK 14 l by unfold wDK; rw [if_pos rfl, if_pos h32])
      have h32i : (32 : Int) < (l.length : Int) := by omega
      clear h32
      go_enter Tryz.func53, Tryz.ntmps53
      go_wp2
      go_ret
      exact ⟨ret_e HV.out, HB.out⟩
    have h32i : ¬ (32 : Int) < (l.length : Int) := by omega
    obtain ⟨R, hR⟩ : ∃ R, R = wDK 14 l := ⟨_, rfl⟩
    have HR := Lib.hid (show wSs (l.drop 0) = R by rw [hR]; unfold wDK; rw [if_pos rfl, if_neg h32]; rfl)
    rw [← hR]
    have hl9 : (l.length : Int) ≤ 32 := by omega
    clear hR h32 hz
    rw [← hg] at HZ
    go_enter Tryz.func53, Tryz.ntmps53
    go_wp2_with fail
    rw [← hg]
    go_loopw [3] (fun s3 wr => ∃ k : Nat, k ≤ l.length ∧ s3 = .int .i64 k ∧ Hid (wSs (l.drop k) = R) ∧ Hid (Blk wr g 56 #[.string ⟨#[114, 101, 98, 97, 115, 101]⟩, .string nm, .int .i64 n, .string tx, .bool f, .slice A l.length c]) ∧ Hid (Below w.heap.size w wr)) (fun s3 _ => l.length - (intOf s3).toNat)
    case atStart => exact ⟨0, Nat.zero_le _, rfl, HR, HZ, HB⟩
    case round =>
      clear HR HZ HB hg
      obtain ⟨k, hk, rfl, HR, HZ, HB⟩ := hrel
      have k0 : (0 : Int) ≤ (k : Int) := Int.natCast_nonneg _
      have x5 := HZ.out.cell 5
      by_cases hlt : k < l.length
      · have hli : (k : Int) < (l.length : Int) := by omega
        obtain ⟨x, hx⟩ : ∃ x, l[k]? = some x := ⟨_, List.getElem?_eq_getElem hlt⟩
        obtain ⟨ad, rfl, c0, c1, c2⟩ := Fils.at_ (HL.out wr HB.out) hx
        have HP := HR.out
        rw [drop_consB hx, wSs] at HP
        replace HP := Lib.hid HP
        have HLT := Lib.hid hlt
        obtain ⟨o, ho⟩ : ∃ o, o = wSV x := ⟨_, rfl⟩
        rw [← ho] at HP
        have HO := Lib.hid ho
        obtain ⟨v, cc, t⟩ := x
        dsimp only at c0 c1 c2
        have VB := Lib.hid fun W => refVerb_any v W
        have B2 := Lib.hid (HB.out.alloc HB.out.size (.cells #[.string v, .int .i64 cc, .string t] 81))
        have Z2 := Lib.hid (HZ.out.alloc (.cells #[.string v, .int .i64 cc, .string t] 81))
        have Y2 := Lib.hid (Blk.new wr 81 #[.string v, .int .i64 cc, .string t])
        obtain ⟨y, hy⟩ : ∃ y, y = wr.heap.size := ⟨_, rfl⟩
        clear hx hlt hk ho HR HZ HB
        go_upto_region 9 with fail
        rw [← hy] at Y2 ⊢
        clear hy c0 c1 c2 x5
        generalize wr.alloc (.cells #[.string v, .int .i64 cc, .string t] 81) = w2 at *
        have y0 := Y2.out.cell 0
        go_wp2_with fail
        refine (VB.out _).mono ?_
        rintro e w3 ⟨nn, rfl, hn, hn1, d3⟩
        have B3 := Lib.hid (B2.out.trans (d3.mono B2.out.size))
        have Z3 := Lib.hid (Z2.out.below d3 Z2.out.lt)
        have Y3 := Lib.hid (Y2.out.below d3 Y2.out.lt)
        clear d3 B2 Z2 Y2 VB y0
        have y0 := Y3.out.cell 0
        have y1 := Y3.out.cell 1
        have y2 := Y3.out.cell 2
        cases hv : knownV v with
        | false =>
          have z1 : nn < 0 := by rw [hv] at hn; exact of_decide_eq_true hn
          have HV := Lib.hid (show (5 : Int) = R by have := HP.out; rw [HO.out, show wSV (v, cc, t) = 5 by unfold wSV; rw [if_pos hv], if_pos (by decide)] at this; exact this)
          clear hn hv HP HO
          go_wp2
          go_ret
          exact ⟨ret_e HV.out, B3.out⟩
        | true =>
          have z1 : ¬ nn < 0 := by rw [hv] at hn; exact of_decide_eq_false hn
          have HK := Lib.hid (show ¬ knownV v = false by rw [hv]; simp)
          have HKV := Lib.hid hv
          clear hn hv
          by_cases g1 : cc < 1
          · have HV := Lib.hid (show (1 : Int) = R by have := HP.out; rw [HO.out, show wSV (v, cc, t) = 1 by unfold wSV; rw [if_neg HK.out, if_pos (.inl g1)], if_pos (by decide)] at this; exact this)
            clear HP HO HK
            go_wp2
            go_ret
            exact ⟨ret_e HV.out, B3.out⟩
          by_cases g2 : 1000000 < cc
          · have HV := Lib.hid (show (1 : Int) = R by have := HP.out; rw [HO.out, show wSV (v, cc, t) = 1 by unfold wSV; rw [if_neg HK.out, if_pos (.inr g2)], if_pos (by decide)] at this; exact this)
            clear HP HO HK
            go_wp2
            go_ret
            exact ⟨ret_e HV.out, B3.out⟩
          have HQ := Lib.hid (show ¬ (cc < 1 ∨ 1000000 < cc) by omega)
          cases hr : (v.toList == [114, 101, 119, 111, 114, 100]) with
          | false =>
            have HP2 := Lib.hid (show wSs (l.drop (k + 1)) = R by have := HP.out; rw [HO.out, show wSV (v, cc, t) = 0 by unfold wSV; rw [if_neg HK.out, if_neg HQ.out, if_pos hr], if_neg (by decide)] at this; exact this)
            clear HP HO HK HQ
            go_wp2
            go_roundw
            case rel => exact ⟨k + 1, by have := HLT.out; omega, by go_num, HP2, Z3, B3⟩
            case measure => have := HLT.out; simp [intOf]; omega
          | true =>
            have HO2 := Lib.hid (show o = if t = ⟨#[]⟩ then 1 else wlV t by rw [HO.out]; exact wSV_size HKV.out HQ.out hr)
            clear HO HK HQ HKV
            by_cases hz : 256 < t.size
            · have hzi : (256 : Int) < (t.size : Int) := by omega
              have HV := Lib.hid (show (4 : Int) = R by
                have := HP.out
                rw [HO2.out, if_neg (show ¬ t = ⟨#[]⟩ from fun e => by subst e; cases hz), show wlV t = 4 from if_pos hz, if_pos (by decide)] at this
                exact this)
              clear HP HO2 hz
              go_wp2
              go_ret
              exact ⟨ret_e HV.out, B3.out⟩
            have hzi : ¬ (256 : Int) < (t.size : Int) := by omega
            rcases emptyB t with ⟨rfl, -⟩ | ⟨e1, e2, e3⟩
            · have HV := Lib.hid (show (1 : Int) = R by have := HP.out; rw [HO2.out, if_pos rfl, if_pos (by decide)] at this; exact this)
              clear HP HO2 hz hzi
              go_wp2
              go_ret
              exact ⟨ret_e HV.out, B3.out⟩
            have LN := Lib.hid fun W => refLine_any t W (by omega)
            by_cases h1 : (nls t.data.toList).length = 1
            · have HP2 := Lib.hid (show wSs (l.drop (k + 1)) = R by have := HP.out; rw [HO2.out, if_neg e1, show wlV t = 0 by unfold wlV; rw [if_neg hz, if_pos h1], if_neg (by decide)] at this; exact this)
              rw [decide_eq_false (by simpa using h1)] at LN
              clear HP HO2 hz h1 e1
              go_wp2_with fail
              refine (LN.out _).mono ?_
              rintro e w4 ⟨rfl, d4⟩
              have B4 := Lib.hid (B3.out.trans (d4.mono B3.out.size))
              have Z4 := Lib.hid (Z3.out.below d4 Z3.out.lt)
              clear d4 B3 Z3 Y3 y0 y1 y2
              go_wp2
              go_roundw
              case rel => exact ⟨k + 1, by have := HLT.out; omega, by go_num, HP2, Z4, B4⟩
              case measure => have := HLT.out; simp [intOf]; omega
            · have HV := Lib.hid (show (2 : Int) = R by have := HP.out; rw [HO2.out, if_neg e1, show wlV t = 2 by unfold wlV; rw [if_neg hz, if_neg h1], if_pos (by decide)] at this; exact this)
              rw [decide_eq_true (by simpa using h1)] at LN
              clear HP HO2 hz h1 e1
              go_wp2_with fail
              refine (LN.out _).mono ?_
              rintro e w4 ⟨rfl, d4⟩
              have B4 := Lib.hid (B3.out.trans (d4.mono B3.out.size))
              clear d4 B3
              go_wp2
              go_ret
              exact ⟨ret_e HV.out, B4.out⟩
      · obtain rfl : k = l.length := by omega
        have HP := HR.out
        rw [List.drop_length, wSs] at HP
        replace HP := Lib.hid HP
        clear hlt hk
        go_wp2
        go_ret
        exact ⟨ret_e HP.out, HB.out⟩
  · have HV := Lib.hid (show (0 : Int) = wDK k l by unfold wDK; rw [if_neg h14])
    have hv := verb_not hk h14
    have HB := Lib.hid hb
    clear hb h14 hk
    obtain ⟨v, hv2⟩ : ∃ v, v = vB k := ⟨_, rfl⟩
    rw [← hv2] at HB hv ⊢
    clear hv2
    go_enter Tryz.func53, Tryz.ntmps53
    go_wp2
    go_ret
    exact ⟨ret_e HV.out, HB.out⟩
#print axioms refSteps_any
end Go.Proofs.YtanjcjnkppnhcaaGreatDoor

namespace Go.Proofs.YtanjcjnkppnhcaaGreatDoor
open Go Go.RowKit

set_option maxRecDepth 100000 in
set_option maxHeartbeats 16000000 in
theorem refNm_any (k : Nat) (hk : k < 20) (nm : ByteArray) (n : Int) (tx : ByteArray) (f : Bool) (A : Option Addr) (m c : Nat) (w : World) (hs : nm.size ≤ 1000000) :
    Calls Tryz.prog 50 #[cmdV k nm n tx f A m c] w fun e w' => e = .returned (.int .i64 (wMK k nm)) ∧ Below w.heap.size w w' := by
  have hb := (Below.refl w.heap.size w).alloc (Nat.le_refl _) (.cells (cmdC k nm n tx f A m c) 56)
  have PC := Lib.hid fun W => refCheck_any nm W (by omega)
  have GD := Lib.hid fun W => Nm.refGood_any nm W (by omega)
  unfold cmdV
  unfold cmdC at hb
  unfold Checked at PC
  by_cases h6 : k = 6
  · subst h6
    simp only [vB] at hb ⊢
    have HB := Lib.hid hb
    clear hb PC GD
    cases hs1 : (nm.toList == [115, 111, 102, 116]) with
    | true =>
      have HV := Lib.hid (show (0 : Int) = wMK 6 nm by unfold wMK; rw [hs1]; rfl)
      go_enter Tryz.func50, Tryz.ntmps50
      go_wp2
      go_ret
      exact ⟨ret_e HV.out, HB.out⟩
    | false =>
      cases hs2 : (nm.toList == [109, 105, 120, 101, 100]) with
      | true =>
        have HV := Lib.hid (show (0 : Int) = wMK 6 nm by unfold wMK; rw [hs1, hs2]; rfl)
        go_enter Tryz.func50, Tryz.ntmps50
        go_wp2
        go_ret
        exact ⟨ret_e HV.out, HB.out⟩
      | false =>
        cases hs3 : (nm.toList == [104, 97, 114, 100]) with
        | true =>
          have HV := Lib.hid (show (0 : Int) = wMK 6 nm by unfold wMK; rw [hs1, hs2, hs3]; rfl)
          go_enter Tryz.func50, Tryz.ntmps50
          go_wp2
          go_ret
          exact ⟨ret_e HV.out, HB.out⟩
        | false =>
          have HV := Lib.hid (show (5 : Int) = wMK 6 nm by unfold wMK; rw [hs1, hs2, hs3]; rfl)
          go_enter Tryz.func50, Tryz.ntmps50
          go_wp2
          go_ret
          exact ⟨ret_e HV.out, HB.out⟩
  rcases emptyB nm with ⟨rfl, -⟩ | ⟨h1, h2, h3⟩
  · have GE := Lib.hid (show Nm.goodN ⟨#[]⟩ = false from Nm.goodN_short rfl)
    rw [GE.out] at GD
    rcases k20 hk with rfl | rfl | rfl | rfl | rfl | rfl | rfl | rfl | rfl | rfl | rfl | rfl | rfl | rfl | rfl | rfl | rfl | rfl | rfl | rfl
    case inr.inr.inr.inr.inr.inr.inl => exact absurd rfl h6
    all_goals
      simp only [vB] at hb ⊢
      have HB := Lib.hid hb
      clear hb h6
      go_enter Tryz.func50, Tryz.ntmps50
      go_wp2_with (first | (go_at_call 88; refine (PC.out _).mono ?_; rintro e w1 ⟨rfl, d1⟩; have D1 := Lib.hid d1; clear d1) | (go_at_call 89; refine (GD.out _).mono ?_; rintro e w1 ⟨rfl, rfl⟩))
      go_ret
      first
        | exact ⟨rfl, HB.out⟩
        | exact ⟨rfl, HB.out.trans (D1.out.mono HB.out.size)⟩
        | exact ⟨ret_e (by unfold wMK; rw [GE.out]; rfl), HB.out⟩
  · have HV0 := Lib.hid (wMK_0 h1)
    obtain ⟨gd, hgd⟩ : ∃ gd, gd = Nm.goodN nm := ⟨_, rfl⟩
    rw [← hgd] at GD
    have HG := Lib.hid hgd
    have HN := Lib.hid h1
    clear h1 hgd
    cases gd with
    | true =>
      have HV5 := Lib.hid (show wMK 5 nm = 0 by unfold wMK; rw [← HG.out]; simp)
      have HV3 := Lib.hid (show wMK 3 nm = 0 by unfold wMK; rw [← HG.out]; simp)
      rcases k20 hk with rfl | rfl | rfl | rfl | rfl | rfl | rfl | rfl | rfl | rfl | rfl | rfl | rfl | rfl | rfl | rfl | rfl | rfl | rfl | rfl
      case inr.inr.inr.inr.inr.inr.inl => exact absurd rfl h6
      all_goals
        simp only [vB] at hb ⊢
        have HB := Lib.hid hb
        clear hb h6
        go_enter Tryz.func50, Tryz.ntmps50
        go_wp2_with (first | (go_at_call 88; refine (PC.out _).mono ?_; rintro e w1 ⟨rfl, d1⟩; have D1 := Lib.hid d1; clear d1) | (go_at_call 89; refine (GD.out _).mono ?_; rintro e w1 ⟨rfl, rfl⟩))
        go_ret
        first
          | exact ⟨rfl, HB.out⟩
          | exact ⟨ret_e HV0.out.symm, HB.out.trans (D1.out.mono HB.out.size)⟩
          | exact ⟨rfl, HB.out.trans (D1.out.mono HB.out.size)⟩
          | exact ⟨ret_e HV5.out.symm, HB.out⟩
          | exact ⟨ret_e HV3.out.symm, HB.out⟩
    | false =>
      have HV5 := Lib.hid (show wMK 5 nm = 5 by unfold wMK; rw [← HG.out, if_neg (by decide), if_neg (by decide), if_pos rfl, if_neg HN.out]; simp)
      have HV3 := Lib.hid (show wMK 3 nm = 5 by unfold wMK; rw [← HG.out]; simp)
      rcases k20 hk with rfl | rfl | rfl | rfl | rfl | rfl | rfl | rfl | rfl | rfl | rfl | rfl | rfl | rfl | rfl | rfl | rfl | rfl | rfl | rfl
      case inr.inr.inr.inr.inr.inr.inl => exact absurd rfl h6
      all_goals
        simp only [vB] at hb ⊢
        have HB := Lib.hid hb
        clear hb h6
        go_enter Tryz.func50, Tryz.ntmps50
        go_wp2_with (first | (go_at_call 88; refine (PC.out _).mono ?_; rintro e w1 ⟨rfl, d1⟩; have D1 := Lib.hid d1; clear d1) | (go_at_call 89; refine (GD.out _).mono ?_; rintro e w1 ⟨rfl, rfl⟩))
        go_ret
        first
          | exact ⟨rfl, HB.out⟩
          | exact ⟨ret_e HV0.out.symm, HB.out.trans (D1.out.mono HB.out.size)⟩
          | exact ⟨rfl, HB.out.trans (D1.out.mono HB.out.size)⟩
          | exact ⟨ret_e HV5.out.symm, HB.out⟩
          | exact ⟨ret_e HV3.out.symm, HB.out⟩

set_option maxRecDepth 100000 in
set_option maxHeartbeats 4000000 in
theorem refPlace_any (v : ByteArray) (w : World) : Calls Tryz.prog 49 #[.string v] w fun e w' => e = .returned (.int .i64 (placeV v)) ∧ Below w.heap.size w w' := by
  have VS := Lib.hid (refVerbs_any w)
  have HC := Lib.hid (verbs_cells w)
  have HB := Lib.hid ((Below.refl w.heap.size w).alloc (Nat.le_refl _) (.cells #[.string ⟨#[97, 100, 100]⟩, .string ⟨#[114, 109]⟩, .string ⟨#[99, 111, 109, 109, 105, 116]⟩, .string ⟨#[98, 114, 97, 110, 99, 104]⟩, .string ⟨#[100, 101, 108, 101, 116, 101]⟩, .string ⟨#[115, 119, 105, 116, 99, 104]⟩, .string ⟨#[114, 101, 115, 101, 116]⟩, .string ⟨#[109, 101, 114, 103, 101]⟩, .string ⟨#[112, 105, 99, 107]⟩, .string ⟨#[114, 101, 118, 101, 114, 116]⟩, .string ⟨#[115, 116, 97, 115, 104]⟩, .string ⟨#[112, 111, 112]⟩, .string ⟨#[97, 112, 112, 108, 121]⟩, .string ⟨#[115, 104, 101, 108, 118, 101]⟩, .string ⟨#[114, 101, 98, 97, 115, 101]⟩, .string ⟨#[99, 111, 110, 116, 105, 110, 117, 101]⟩, .string ⟨#[115, 107, 105, 112]⟩, .string ⟨#[97, 98, 111, 114, 116]⟩, .string ⟨#[117, 110, 100, 111]⟩, .string ⟨#[114, 101, 100, 111]⟩] 9))
  obtain ⟨R, hR⟩ : ∃ R, R = placeV v := ⟨_, rfl⟩
  have HR := Lib.hid (show goP (verbsB.drop 0) v 0 = R by rw [hR]; rfl)
  rw [← hR]
  clear hR
  go_enter Tryz.func49, Tryz.ntmps49
  go_wp2_with fail
  refine VS.out.mono ?_
  rintro e w1 ⟨rfl, hw⟩
  rw [← hw] at HC HB
  obtain ⟨g, hg⟩ : ∃ g, g = w.heap.size := ⟨_, rfl⟩
  rw [← hg] at HC ⊢
  clear hw VS hg
  go_wp2_with fail
  go_loopw [4] (fun s4 wr => ∃ k : Nat, k ≤ 20 ∧ s4 = .int .i64 k ∧ Hid (goP (verbsB.drop k) v k = R) ∧ Hid (wr = w1)) (fun s4 _ => 20 - (intOf s4).toNat)
  case atStart => exact ⟨0, Nat.zero_le _, rfl, HR, Lib.hid rfl⟩
  case round =>
    clear HR
    obtain ⟨k, hk, rfl, HR, HW⟩ := hrel
    have k0 : (0 : Int) ≤ (k : Int) := Int.natCast_nonneg _
    by_cases hlt : k < 20
    · have hli : (k : Int) < 20 := by omega
      have hx := verbsB_at hlt
      have c0 : wr.cell? ⟨g, k, none⟩ = some (.string (vB k)) := by rw [HW.out]; exact HC.out k _ hx
      have HP := HR.out
      rw [drop_consB hx, goP] at HP
      have e1 := eq_bytes (a := vB k) (b := v)
      have HLT := Lib.hid hlt
      generalize vB k = x at *
      by_cases hv : x = v
      · rw [if_pos hv] at HP
        replace HP := Lib.hid HP
        clear hx hlt hk e1
        subst hv
        go_wp2
        go_ret
        exact ⟨by rw [← HP.out]; rfl, by rw [HW.out]; exact HB.out⟩
      · rw [if_neg hv] at HP
        rw [decide_eq_false hv] at e1
        replace HP := Lib.hid HP
        clear hx hv hlt hk
        go_wp2
        go_roundw
        case rel => exact ⟨k + 1, by have := HLT.out; omega, by go_num, HP, HW⟩
        case measure => have := HLT.out; simp [intOf]; omega
    · obtain rfl : k = 20 := by omega
      have HP := HR.out
      rw [show verbsB.drop 20 = [] from rfl, goP] at HP
      replace HP := Lib.hid HP
      clear hlt hk
      go_wp2
      go_ret
      exact ⟨by rw [← HP.out]; rfl, by rw [HW.out]; exact HB.out⟩
/-- What the document's CheckCmd tells. -/
def RfTo (p : Int) (o : Int) (w : World) (e : Ending) (w' : World) : Prop :=
  ((o = 0 ∧ e = .returned (.agg #[.slice none 0 0, .int .i64 0])) ∨ ∃ g, o ≠ 0 ∧ e = .returned (.agg #[.slice (some ⟨g, 0, none⟩) 1 1, .int .i64 o]) ∧ w.heap.size ≤ g ∧ Blk w' g 91 #[.string bCmd, .int .i64 p]) ∧ Below w.heap.size w w'
theorem refCheck_nov (v : ByteArray) (hv : placeV v = -1) (nm : ByteArray) (n : Int) (tx : ByteArray) (f : Bool) (A : Option Addr) (m c : Nat) (w : World) :
    Calls Tryz.prog 23 #[.agg #[.string v, .string nm, .int .i64 n, .string tx, .bool f, .slice A m c]] w (RfTo (-1) 5 w) := by
  have PL := Lib.hid fun W => refPlace_any v W
  have AT := Lib.hid fun W => refAt_any bCmd (-1) 5 W
  rw [hv] at PL
  have HZ := Lib.hid (Blk.new w 56 #[.string v, .string nm, .int .i64 n, .string tx, .bool f, .slice A m c])
  have hb1 := (Below.refl w.heap.size w).alloc (Nat.le_refl _) (.cells #[.string v, .string nm, .int .i64 n, .string tx, .bool f, .slice A m c] 56)
  have HB := Lib.hid (hb1.alloc hb1.size (.cells #[.slice none 0 0, .int .i64 0] 31))
  have HY := Lib.hid (Blk.new (w.alloc (.cells #[.string v, .string nm, .int .i64 n, .string tx, .bool f, .slice A m c] 56)) 31 #[.slice none 0 0, .int .i64 0])
  rw [show (w.alloc (.cells #[.string v, .string nm, .int .i64 n, .string tx, .bool f, .slice A m c] 56)).heap.size = w.heap.size + 1 by simp] at HY
  obtain ⟨g, hg⟩ : ∃ g, g = w.heap.size := ⟨_, rfl⟩
  have HG := Lib.hid hg
  have HZ2 := Lib.hid (HZ.out.alloc (.cells #[.slice none 0 0, .int .i64 0] 31))
  rw [← hg] at HZ2 HY
  clear hb1 hv HZ
  go_enter Tryz.func23, Tryz.ntmps23
  go_wp2_with fail
  refine (PL.out _).mono ?_
  rintro e w1 ⟨rfl, d1⟩
  rw [← hg]
  have B1 := Lib.hid (HB.out.trans (d1.mono HB.out.size))
  have Z1 := Lib.hid (HZ2.out.below d1 HZ2.out.lt)
  have Y1 := Lib.hid (HY.out.below d1 HY.out.lt)
  clear d1 HB HZ2 HY hg PL
  go_wp2_with fail
  refine (AT.out _).mono ?_
  rintro e w2 ⟨g2, rfl, hg2, hgl, d2⟩
  have B2 := Lib.hid (B1.out.trans (d2.mono B1.out.size))
  have Y2 := Lib.hid (Y1.out.below d2 Y1.out.lt)
  have G2 := Lib.hid hg2
  have hgl2 := Lib.hid (Nat.le_trans B1.out.size hgl)
  have hne : g2 ≠ g + 1 := fun e => absurd Y1.out.lt (by rw [← e]; omega)
  clear d2 hg2 hgl B1 Z1
  have c0 := Y2.out.cell 0
  have f0 := Y2.out.frozen 0
  have c1 := Y2.out.cell 1
  have f1 := Y2.out.frozen 1
  go_wp2
  exact bodyPost_ret (results_cell_row (fn := Tryz.f23) rfl _ _ (g + 1) 31 _ (0, 0) _ rfl (row2w Y2.out rfl (.slice (some ⟨g2, 0, none⟩) 1 1) (.int .i64 5)) Tryz.underlying31 rfl (by kernel_rfl)) rfl ⟨.inr ⟨g2, by decide, rfl, hgl2.out, (G2.out.far hne _).far hne _⟩, (B2.out.setCell (p := ⟨g + 1, 0, none⟩) (by rw [HG.out]; exact Nat.le_succ _) _).setCell (p := ⟨g + 1, 1, none⟩) (by rw [HG.out]; exact Nat.le_succ _) _⟩
#print axioms refCheck_nov
end Go.Proofs.YtanjcjnkppnhcaaGreatDoor

namespace Go.Proofs.YtanjcjnkppnhcaaGreatDoor
open Go Go.RowKit

/-- What stands while CheckCmd runs: the command's box, the result's. -/
structure RC (w : World) (g : Nat) (cs : Array Value) (v : World) : Prop where
  box : Blk v g 56 cs
  res : Blk v (g + 1) 31 #[.slice none 0 0, .int .i64 0]
  bel : Below w.heap.size w v
theorem RC.below {w : World} {g : Nat} {cs : Array Value} {v v' : World} (h : RC w g cs v) (hb : Below v.heap.size v v') : RC w g cs v' :=
  ⟨h.box.below hb h.box.lt, h.res.below hb h.res.lt, h.bel.trans (hb.mono h.bel.size)⟩
theorem RC.drew {w : World} {g : Nat} {cs : Array Value} {v : World} (h : RC w g cs v) : RC w g cs v.drew := h.below (below_drewN (Below.refl _ v) 1)
set_option maxRecDepth 100000 in
set_option maxHeartbeats 16000000 in
theorem refCheck_cmd (k : Nat) (hk : k < 20) (nm : ByteArray) (n : Int) (tx : ByteArray) (f : Bool) (A : Option Addr) (l : List Fl) (c : Nat) (w : World) (hs : nm.size ≤ 1000000) (hn : -9223372036854775808 ≤ n) (hl : Reads 3 cF w (.slice A l.length c) l) :
    Calls Tryz.prog 23 #[cmdV k nm n tx f A l.length c] w (RfTo k (checkK k nm n tx l) w) := by
  have PL := Lib.hid fun W => refPlace_any (vB k) W
  have AT := Lib.hid fun o W => refAt_any bCmd k o W
  rw [place_vB hk] at PL
  have W1 := Lib.hid fun W => refNm_any k hk nm n tx f A l.length c W hs
  have W2 := Lib.hid fun W => refNum_any k hk nm n tx f A l.length c W hn
  have W3 := Lib.hid fun W => refWords_any k hk nm n tx f A l.length c W
  have W4 := Lib.hid fun W (hW : Below w.heap.size w W) => refSteps_any k hk nm n tx f A l c W (hl.below hW)
  have HQ := Lib.hid (show checkK k nm n tx l = if wMK k nm ≠ 0 then wMK k nm else if wNK k nm n ≠ 0 then wNK k nm n else if wTK k tx ≠ 0 then wTK k tx else wDK k l from rfl)
  generalize checkK k nm n tx l = R at *
  generalize wMK k nm = o1 at *
  generalize wNK k nm n = o2 at *
  generalize wTK k tx = o3 at *
  generalize wDK k l = o4 at *
  have HK := Lib.hid hk
  obtain ⟨v, hv⟩ : ∃ v, v = vB k := ⟨_, rfl⟩
  have hkl : ¬ ((k : Int) < 0) := by omega
  unfold cmdV at W1 W2 W3 W4 ⊢
  rw [← hv] at PL W1 W2 W3 W4 ⊢
  have HZ := Lib.hid (Blk.new w 56 #[.string v, .string nm, .int .i64 n, .string tx, .bool f, .slice A l.length c])
  have hb1 := (Below.refl w.heap.size w).alloc (Nat.le_refl _) (.cells #[.string v, .string nm, .int .i64 n, .string tx, .bool f, .slice A l.length c] 56)
  have HB := Lib.hid (hb1.alloc hb1.size (.cells #[.slice none 0 0, .int .i64 0] 31))
  have HY := Lib.hid (Blk.new (w.alloc (.cells #[.string v, .string nm, .int .i64 n, .string tx, .bool f, .slice A l.length c] 56)) 31 #[.slice none 0 0, .int .i64 0])
  rw [show (w.alloc (.cells #[.string v, .string nm, .int .i64 n, .string tx, .bool f, .slice A l.length c] 56)).heap.size = w.heap.size + 1 by simp] at HY
  obtain ⟨g, hg⟩ : ∃ g, g = w.heap.size := ⟨_, rfl⟩
  have HG := Lib.hid hg
  have HZ2 := Lib.hid (HZ.out.alloc (.cells #[.slice none 0 0, .int .i64 0] 31))
  rw [← hg] at HZ2 HY
  clear hb1 HZ hl hk hv
  go_enter Tryz.func23, Tryz.ntmps23
  go_wp2_with fail
  refine (PL.out _).mono ?_
  rintro e w1 ⟨rfl, d1⟩
  rw [← hg]
  have T1 : Hid (RC w g #[.string v, .string nm, .int .i64 n, .string tx, .bool f, .slice A l.length c] w1) := Lib.hid ⟨HZ2.out.below d1 HZ2.out.lt, HY.out.below d1 HY.out.lt, HB.out.trans (d1.mono HB.out.size)⟩
  clear d1 HB HZ2 HY hg PL
  go_wp2_with fail
  have T1d : Hid (RC w g #[.string v, .string nm, .int .i64 n, .string tx, .bool f, .slice A l.length c] w1.drew) := Lib.hid T1.out.drew
  have CC := Lib.hid fun V (h : RC w g #[.string v, .string nm, .int .i64 n, .string tx, .bool f, .slice A l.length c] V) => (⟨h.box.cell 0, h.box.cell 1, h.box.cell 2, h.box.cell 3, h.box.cell 4, h.box.cell 5⟩ : V.cell? ⟨g, 0, none⟩ = some (.string v) ∧ V.cell? ⟨g, 1, none⟩ = some (.string nm) ∧ V.cell? ⟨g, 2, none⟩ = some (.int .i64 n) ∧ V.cell? ⟨g, 3, none⟩ = some (.string tx) ∧ V.cell? ⟨g, 4, none⟩ = some (.bool f) ∧ V.cell? ⟨g, 5, none⟩ = some (.slice A l.length c))
  go_cut [4] (fun s4 wx => ∃ y : Nat, s4 = .slice (some ⟨y, 0, none⟩) 4 4 ∧ Hid (Blk wx y 3 #[.int .i64 o1, .int .i64 o2, .int .i64 o3, .int .i64 o4]) ∧ Hid (RC w g #[.string v, .string nm, .int .i64 n, .string tx, .bool f, .slice A l.length c] wx))
  case first =>
    go_region_held3 (fun V => V.cell? ⟨g, 0, none⟩ = some (.string v) ∧ V.cell? ⟨g, 1, none⟩ = some (.string nm) ∧ V.cell? ⟨g, 2, none⟩ = some (.int .i64 n) ∧ V.cell? ⟨g, 3, none⟩ = some (.string tx) ∧ V.cell? ⟨g, 4, none⟩ = some (.bool f) ∧ V.cell? ⟨g, 5, none⟩ = some (.slice A l.length c)) (first | exact CC.out _ T1d.out | exact CC.out _ T2.out | exact CC.out _ T3.out | exact CC.out _ T4.out | exact CC.out _ T5.out | exact CC.out _ (T5.out.below ((Below.refl _ _).alloc (Nat.le_refl _) (.cells #[.int .i64 o1, .int .i64 o2, .int .i64 o3, .int .i64 o4] 3))))
      (first
        | (go_at_call 50; refine (W1.out _).mono ?_; rintro e v1 ⟨rfl, d1⟩; have T2 := Lib.hid (T1d.out.below d1))
        | (go_at_call 51; refine (W2.out _).mono ?_; rintro e v2 ⟨rfl, d2⟩; have T3 := Lib.hid (T2.out.below d2))
        | (go_at_call 52; refine (W3.out _).mono ?_; rintro e v3 ⟨rfl, d3⟩; have T4 := Lib.hid (T3.out.below d3))
        | (go_at_call 53; refine (W4.out _ T4.out.bel).mono ?_; rintro e v4 ⟨rfl, d4⟩; have T5 := Lib.hid (T4.out.below d4)))
    all_goals (go_wp2_with fail; go_meet)
    all_goals exact ⟨v4.heap.size, rfl, Lib.hid (Blk.new v4 _ _), Lib.hid (T5.out.below ((Below.refl _ _).alloc (Nat.le_refl _) _))⟩
  case rest =>
    obtain ⟨y, rfl, HY, T2⟩ := hcut
    clear T1 T1d CC W1 W2 W3 W4
    go_wp2_with fail
    refine wp_loop_rounds 5 ?_
    rw [rounds_succ]
    have y0 := HY.out.cell 0
    by_cases h0 : o1 = 0
    case neg =>
      have HR := Lib.hid (show R = o1 by rw [HQ.out, if_pos h0])
      have hb0 : (o1 == 0) = false := by simpa using h0
      have HN := Lib.hid h0
      clear h0 HQ
      go_wp2_with fail
      refine (AT.out _ _).mono ?_
      rintro e w5 ⟨g5, rfl, hg5, hgl, d5⟩
      have T5 := Lib.hid (T2.out.below d5)
      have G5 := Lib.hid hg5
      have hgl5 := Lib.hid (Nat.le_trans T2.out.bel.size hgl)
      have hne5 : g5 ≠ g + 1 := fun e => absurd T2.out.res.lt (by rw [← e]; omega)
      clear hg5 hgl d5 T2 HY y0
      have c0 := T5.out.res.cell 0
      have f0 := T5.out.res.frozen 0
      have c1 := T5.out.res.cell 1
      have f1 := T5.out.res.frozen 1
      go_wp2
      exact bodyPost_ret (results_cell_row (fn := Tryz.f23) rfl _ _ (g + 1) 31 _ (0, 0) _ rfl (row2w T5.out.res rfl (.slice (some ⟨g5, 0, none⟩) 1 1) (.int .i64 o1)) Tryz.underlying31 rfl (by kernel_rfl)) rfl ⟨.inr ⟨g5, by rw [HR.out]; exact HN.out, by rw [HR.out], hgl5.out, (G5.out.far hne5 _).far hne5 _⟩, (T5.out.bel.setCell (p := ⟨g + 1, 0, none⟩) (by rw [HG.out]; exact Nat.le_succ _) _).setCell (p := ⟨g + 1, 1, none⟩) (by rw [HG.out]; exact Nat.le_succ _) _⟩
    subst h0
    go_wp2_with fail
    clear y0
    rw [rounds_succ]
    have y1 := HY.out.cell 1
    by_cases h1 : o2 = 0
    case neg =>
      have HR := Lib.hid (show R = o2 by rw [HQ.out, if_neg (show ¬ (0 : Int) ≠ 0 by simp), if_pos h1])
      have hb1 : (o2 == 0) = false := by simpa using h1
      have HN := Lib.hid h1
      clear h1 HQ
      go_wp2_with fail
      refine (AT.out _ _).mono ?_
      rintro e w5 ⟨g5, rfl, hg5, hgl, d5⟩
      have T5 := Lib.hid (T2.out.below d5)
      have G5 := Lib.hid hg5
      have hgl5 := Lib.hid (Nat.le_trans T2.out.bel.size hgl)
      have hne5 : g5 ≠ g + 1 := fun e => absurd T2.out.res.lt (by rw [← e]; omega)
      clear hg5 hgl d5 T2 HY y1
      have c0 := T5.out.res.cell 0
      have f0 := T5.out.res.frozen 0
      have c1 := T5.out.res.cell 1
      have f1 := T5.out.res.frozen 1
      go_wp2
      exact bodyPost_ret (results_cell_row (fn := Tryz.f23) rfl _ _ (g + 1) 31 _ (0, 0) _ rfl (row2w T5.out.res rfl (.slice (some ⟨g5, 0, none⟩) 1 1) (.int .i64 o2)) Tryz.underlying31 rfl (by kernel_rfl)) rfl ⟨.inr ⟨g5, by rw [HR.out]; exact HN.out, by rw [HR.out], hgl5.out, (G5.out.far hne5 _).far hne5 _⟩, (T5.out.bel.setCell (p := ⟨g + 1, 0, none⟩) (by rw [HG.out]; exact Nat.le_succ _) _).setCell (p := ⟨g + 1, 1, none⟩) (by rw [HG.out]; exact Nat.le_succ _) _⟩
    subst h1
    go_wp2_with fail
    clear y1
    rw [rounds_succ]
    have y2 := HY.out.cell 2
    by_cases h2 : o3 = 0
    case neg =>
      have HR := Lib.hid (show R = o3 by rw [HQ.out, if_neg (show ¬ (0 : Int) ≠ 0 by simp), if_neg (show ¬ (0 : Int) ≠ 0 by simp), if_pos h2])
      have hb2 : (o3 == 0) = false := by simpa using h2
      have HN := Lib.hid h2
      clear h2 HQ
      go_wp2_with fail
      refine (AT.out _ _).mono ?_
      rintro e w5 ⟨g5, rfl, hg5, hgl, d5⟩
      have T5 := Lib.hid (T2.out.below d5)
      have G5 := Lib.hid hg5
      have hgl5 := Lib.hid (Nat.le_trans T2.out.bel.size hgl)
      have hne5 : g5 ≠ g + 1 := fun e => absurd T2.out.res.lt (by rw [← e]; omega)
      clear hg5 hgl d5 T2 HY y2
      have c0 := T5.out.res.cell 0
      have f0 := T5.out.res.frozen 0
      have c1 := T5.out.res.cell 1
      have f1 := T5.out.res.frozen 1
      go_wp2
      exact bodyPost_ret (results_cell_row (fn := Tryz.f23) rfl _ _ (g + 1) 31 _ (0, 0) _ rfl (row2w T5.out.res rfl (.slice (some ⟨g5, 0, none⟩) 1 1) (.int .i64 o3)) Tryz.underlying31 rfl (by kernel_rfl)) rfl ⟨.inr ⟨g5, by rw [HR.out]; exact HN.out, by rw [HR.out], hgl5.out, (G5.out.far hne5 _).far hne5 _⟩, (T5.out.bel.setCell (p := ⟨g + 1, 0, none⟩) (by rw [HG.out]; exact Nat.le_succ _) _).setCell (p := ⟨g + 1, 1, none⟩) (by rw [HG.out]; exact Nat.le_succ _) _⟩
    subst h2
    go_wp2_with fail
    clear y2
    rw [rounds_succ]
    have y3 := HY.out.cell 3
    by_cases h3 : o4 = 0
    case neg =>
      have HR := Lib.hid (show R = o4 by rw [HQ.out, if_neg (show ¬ (0 : Int) ≠ 0 by simp), if_neg (show ¬ (0 : Int) ≠ 0 by simp), if_neg (show ¬ (0 : Int) ≠ 0 by simp)])
      have hb3 : (o4 == 0) = false := by simpa using h3
      have HN := Lib.hid h3
      clear h3 HQ
      go_wp2_with fail
      refine (AT.out _ _).mono ?_
      rintro e w5 ⟨g5, rfl, hg5, hgl, d5⟩
      have T5 := Lib.hid (T2.out.below d5)
      have G5 := Lib.hid hg5
      have hgl5 := Lib.hid (Nat.le_trans T2.out.bel.size hgl)
      have hne5 : g5 ≠ g + 1 := fun e => absurd T2.out.res.lt (by rw [← e]; omega)
      clear hg5 hgl d5 T2 HY y3
      have c0 := T5.out.res.cell 0
      have f0 := T5.out.res.frozen 0
      have c1 := T5.out.res.cell 1
      have f1 := T5.out.res.frozen 1
      go_wp2
      exact bodyPost_ret (results_cell_row (fn := Tryz.f23) rfl _ _ (g + 1) 31 _ (0, 0) _ rfl (row2w T5.out.res rfl (.slice (some ⟨g5, 0, none⟩) 1 1) (.int .i64 o4)) Tryz.underlying31 rfl (by kernel_rfl)) rfl ⟨.inr ⟨g5, by rw [HR.out]; exact HN.out, by rw [HR.out], hgl5.out, (G5.out.far hne5 _).far hne5 _⟩, (T5.out.bel.setCell (p := ⟨g + 1, 0, none⟩) (by rw [HG.out]; exact Nat.le_succ _) _).setCell (p := ⟨g + 1, 1, none⟩) (by rw [HG.out]; exact Nat.le_succ _) _⟩
    subst h3
    go_wp2_with fail
    clear y3
    rw [rounds_succ]
    have c0 := T2.out.res.cell 0
    have f0 := T2.out.res.frozen 0
    have c1 := T2.out.res.cell 1
    have f1 := T2.out.res.frozen 1
    have HR := Lib.hid (show R = 0 by rw [HQ.out]; simp)
    clear HQ
    go_wp2
    exact bodyPost_ret (results_cell_row (fn := Tryz.f23) rfl _ _ (g + 1) 31 _ (0, 0) _ rfl (row2w T2.out.res rfl (.slice none 0 0) (.int .i64 0)) Tryz.underlying31 rfl (by kernel_rfl)) rfl ⟨.inl ⟨HR.out, rfl⟩, (T2.out.bel.setCell (p := ⟨g + 1, 0, none⟩) (by rw [HG.out]; exact Nat.le_succ _) _).setCell (p := ⟨g + 1, 1, none⟩) (by rw [HG.out]; exact Nat.le_succ _) _⟩
#print axioms refCheck_cmd
end Go.Proofs.YtanjcjnkppnhcaaGreatDoor

namespace Go.Proofs.YtanjcjnkppnhcaaGreatDoor
open Go Go.RowKit

theorem tl_eq {x y : ByteArray} (h : x.toList = y.toList) : x = y := bytesB_eq (by rw [← ByteArray.toList_eq, h, ByteArray.toList_eq])
theorem drewN_two (w : World) (a b : Nat) : (w.drewN a).drewN b = w.drewN (a + b) := by simp [World.drewN, Nat.add_assoc]
def BoolTo (b : Bool) (w : World) (e : Ending) (w' : World) : Prop := e = .returned (.bool b) ∧ ∃ q, w' = w.drewN q

theorem prefix_all {α : Type} {a b : List α} {n : Nat} (h : ∀ i, i < n → a[i]? = b[i]?) (ha : a.length = n) (hb : b.length = n) : a = b := by
  apply List.ext_getElem?
  intro i
  by_cases hi : i < n
  · exact h i hi
  · rw [List.getElem?_eq_none (by omega), List.getElem?_eq_none (by omega)]

set_option maxHeartbeats 4000000 in
theorem equalF_any (w : World) (v u : Value) (a b : List Fl) (h : Reads 3 cF w v a) (g : Reads 3 cF w u b) :
    Calls Tryz.prog 71 #[v, u] w (BoolTo (decide (a = b)) w) := by
  obtain ⟨A, c, rfl⟩ := h.form
  obtain ⟨B, d, rfl⟩ := g.form
  have hn := h.len
  have gn := g.len
  have hm1 : a.length ≤ 9223372036854775807 := by have := hn.2; unfold maxLen at this; omega
  have hm2 : b.length ≤ 9223372036854775807 := by have := gn.2; unfold maxLen at this; omega
  have HA := Lib.hid h
  have HB := Lib.hid g
  clear h g hn gn
  by_cases hnm : a.length = b.length
  · have hi0 : (a.length : Int) = (b.length : Int) := by omega
    have HN := Lib.hid hnm
    clear hnm
    go_enter Tryz.func71, Tryz.ntmps71
    go_wp2
    go_loopw [5, 13] (fun _ s13 wr => ∃ k q : Nat, k ≤ b.length ∧ s13 = .int .i64 k ∧ Hid (∀ i, i < k → a[i]? = b[i]?) ∧ wr = w.drewN q) (fun _ s13 _ => b.length - (intOf s13).toNat)
    case atStart => exact ⟨0, 0, Nat.zero_le _, rfl, Lib.hid (fun i hi => absurd hi (Nat.not_lt_zero _)), rfl⟩
    case round =>
      obtain ⟨k, q, hk, rfl, hp, rfl⟩ := hrel
      by_cases hlt : k < b.length
      · obtain ⟨x, hx⟩ : ∃ x, a[k]? = some x := ⟨_, List.getElem?_eq_getElem (by rw [HN.out]; exact hlt)⟩
        obtain ⟨y, hy⟩ : ∃ y, b[k]? = some y := ⟨_, List.getElem?_eq_getElem hlt⟩
        obtain ⟨ad, rfl, c0, c1, c2⟩ := Fils.at_ HA.out hx
        obtain ⟨ad2, rfl, d0, d1, d2⟩ := Fils.at_ HB.out hy
        have HX := Lib.hid hx
        have HY := Lib.hid hy
        have k0 : (0 : Int) ≤ (k : Int) := Int.natCast_nonneg _
        have k1 : (k : Int) < (b.length : Int) := by omega
        have HNE := Lib.hid (show x ≠ y → decide (a = b) = false from fun hne => decide_eq_false fun e => by
          rw [e, hy] at hx
          exact hne (Option.some.inj hx).symm)
        clear hx hy
        by_cases hxy : x = y
        · subst hxy
          obtain ⟨p, m, s⟩ := x
          go_wp2_with fail
          go_quiet (fail)
          go_wp2
          go_roundw
          case rel => exact ⟨k + 1, _, by omega, by go_num, Lib.hid (fun i hi => by
            rcases Nat.lt_or_ge i k with h1 | h1
            · exact hp.out i h1
            · obtain rfl : i = k := by omega
              rw [HX.out, HY.out]), rfl⟩
          case measure => simp [intOf]; omega
        · have HC := Lib.hid (HNE.out hxy)
          obtain ⟨p, m, s⟩ := x
          obtain ⟨p', m', s'⟩ := y
          by_cases h1 : p = p'
          · subst h1
            by_cases h2 : m = m'
            · subst h2
              have h3 : ¬ s = s' := fun e => hxy (by rw [e])
              have e3 : ¬ s.toList = s'.toList := fun e => h3 (tl_eq e)
              have e3' : (s.toList == s'.toList) = false := by simpa using e3
              clear h3 hxy
              go_wp2_with fail
              go_quiet (fail)
              go_wp2
              go_ret
              exact ⟨by rw [HC.out]; rfl, _, drewN_two _ _ _⟩
            · have e2' : (m == m') = false := by simpa using h2
              clear hxy
              go_wp2_with fail
              go_quiet (fail)
              go_wp2
              go_ret
              exact ⟨by rw [HC.out]; rfl, _, drewN_two _ _ _⟩
          · have e1 : ¬ p.toList = p'.toList := fun e => h1 (tl_eq e)
            have e1' : (p.toList == p'.toList) = false := by simpa using e1
            clear hxy h1
            go_wp2_with fail
            go_quiet (fail)
            go_wp2
            go_ret
            exact ⟨by rw [HC.out]; rfl, _, drewN_two _ _ _⟩
      · obtain rfl : k = b.length := by omega
        have HC : Hid (decide (a = b) = true) := Lib.hid (decide_eq_true (prefix_all hp.out HN.out rfl))
        go_wp2
        go_ret
        exact ⟨by rw [HC.out]; rfl, _, rfl⟩
  · have hi0 : ¬ (a.length : Int) = (b.length : Int) := by omega
    have HC : Hid (decide (a = b) = false) := Lib.hid (decide_eq_false fun e => hnm (by rw [e]))
    clear hnm
    go_enter Tryz.func71, Tryz.ntmps71
    go_wp2
    go_ret
    exact ⟨by rw [HC.out]; rfl, 0, rfl⟩


/-- A command by its parts. -/
abbrev CP := ByteArray × ByteArray × Int × ByteArray × Bool × List Fl
abbrev cpV (x : CP) (A : Option Addr) (c : Nat) : Value := .agg #[.string x.1, .string x.2.1, .int .i64 x.2.2.1, .string x.2.2.2.1, .bool x.2.2.2.2.1, .slice A x.2.2.2.2.2.length c]
/-- Is all of two commands alike? -/
def eqCP (x y : CP) : Bool := decide (x.1 = y.1) && (decide (x.2.1 = y.2.1) && (decide (x.2.2.1 = y.2.2.1) && (decide (x.2.2.2.1 = y.2.2.2.1) && (decide (x.2.2.2.2.1 = y.2.2.2.2.1) && decide (x.2.2.2.2.2 = y.2.2.2.2.2)))))
theorem eqCP_refl (x : CP) : eqCP x x = true := by unfold eqCP; simp
theorem eqCP_symm (x y : CP) : eqCP x y = eqCP y x := by unfold eqCP; simp only [eq_comm]
theorem neS {a b : ByteArray} (h : a ≠ b) : ¬ a.toList = b.toList ∧ (a.toList == b.toList) = false := by
  have : ¬ a.toList = b.toList := fun e => h (tl_eq e)
  exact ⟨this, by simpa using this⟩
theorem ret_bb {a b : Bool} (h : a = b) : Ending.returned (.bool a) = .returned (.bool b) := by rw [h]
set_option maxRecDepth 100000 in
set_option maxHeartbeats 16000000 in
theorem cmdSame_any (w : World) (x y : CP) (A B : Option Addr) (c d : Nat) (hx : Reads 3 cF w (.slice A x.2.2.2.2.2.length c) x.2.2.2.2.2) (hy : Reads 3 cF w (.slice B y.2.2.2.2.2.length d) y.2.2.2.2.2) :
    Calls Tryz.prog 34 #[cpV x A c, cpV y B d] w fun e w' => e = .returned (.bool (eqCP x y)) ∧ Below w.heap.size w w' := by
  obtain ⟨v1, m1, n1, t1, f1, l1⟩ := x
  obtain ⟨v2, m2, n2, t2, f2, l2⟩ := y
  have hb1 := (Below.refl w.heap.size w).alloc (Nat.le_refl _) (.cells #[.string v1, .string m1, .int .i64 n1, .string t1, .bool f1, .slice A l1.length c] 52)
  have HB := Lib.hid (hb1.alloc hb1.size (.cells #[.string v2, .string m2, .int .i64 n2, .string t2, .bool f2, .slice B l2.length d] 52))
  have HX := Lib.hid fun W (hW : Below w.heap.size w W) => hx.below hW
  have HY := Lib.hid fun W (hW : Below w.heap.size w W) => hy.below hW
  have a0 : (0 : Int) ≤ (l1.length : Int) := Int.natCast_nonneg _
  have b0 : (0 : Int) ≤ (l2.length : Int) := Int.natCast_nonneg _
  have a9 : (l1.length : Int) ≤ 9223372036854775807 := by have := hx.len.2; unfold maxLen at this; dsimp only at this; omega
  have b9 : (l2.length : Int) ≤ 9223372036854775807 := by have := hy.len.2; unfold maxLen at this; dsimp only at this; omega
  clear hb1 hx hy
  dsimp only at HX HY
  unfold cpV
  dsimp only
  by_cases h1 : v1 = v2
  case neg =>
    have HV := Lib.hid (show false = eqCP (v1, m1, n1, t1, f1, l1) (v2, m2, n2, t2, f2, l2) from (by unfold eqCP; simp [h1]))
    obtain ⟨e1, e2⟩ := neS h1
    clear h1
    go_enter Tryz.func34, Tryz.ntmps34
    go_wp2
    go_ret
    exact ⟨ret_bb HV.out, HB.out⟩
  subst h1
  by_cases h2 : m1 = m2
  case neg =>
    have HV := Lib.hid (show false = eqCP (v1, m1, n1, t1, f1, l1) (v1, m2, n2, t2, f2, l2) from (by unfold eqCP; simp [h2]))
    obtain ⟨e1, e2⟩ := neS h2
    clear h2
    go_enter Tryz.func34, Tryz.ntmps34
    go_wp2
    go_ret
    exact ⟨ret_bb HV.out, HB.out⟩
  subst h2
  by_cases h3 : n1 = n2
  case neg =>
    have HV := Lib.hid (show false = eqCP (v1, m1, n1, t1, f1, l1) (v1, m1, n2, t2, f2, l2) from (by unfold eqCP; simp [h3]))
    have e1 : (n1 == n2) = false := by simpa using h3
    have e2 : (n1 != n2) = true := by simpa using h3
    clear h3
    go_enter Tryz.func34, Tryz.ntmps34
    go_wp2
    go_ret
    exact ⟨ret_bb HV.out, HB.out⟩
  subst h3
  by_cases h4 : t1 = t2
  case neg =>
    have HV := Lib.hid (show false = eqCP (v1, m1, n1, t1, f1, l1) (v1, m1, n1, t2, f2, l2) from (by unfold eqCP; simp [h4]))
    obtain ⟨e1, e2⟩ := neS h4
    clear h4
    go_enter Tryz.func34, Tryz.ntmps34
    go_wp2
    go_ret
    exact ⟨ret_bb HV.out, HB.out⟩
  subst h4
  by_cases h5 : f1 = f2
  case neg =>
    have HV := Lib.hid (show false = eqCP (v1, m1, n1, t1, f1, l1) (v1, m1, n1, t1, f2, l2) from (by unfold eqCP; simp [h5]))
    have e1 : (f1 == f2) = false := by simpa using h5
    clear h5
    go_enter Tryz.func34, Tryz.ntmps34
    go_wp2
    go_ret
    exact ⟨ret_bb HV.out, HB.out⟩
  subst h5
  have EQ := Lib.hid fun W (hW : Below w.heap.size w W) => equalF_any W _ _ l1 l2 (HX.out W hW) (HY.out W hW)
  have HV := Lib.hid (show decide (l1 = l2) = eqCP (v1, m1, n1, t1, f1, l1) (v1, m1, n1, t1, f1, l2) from (by unfold eqCP; simp))
  have e3 : (n1 == n1) = true := by simp
  have e5 : (f1 == f1) = true := by simp
  go_enter Tryz.func34, Tryz.ntmps34
  go_wp2_with fail
  refine (EQ.out _ HB.out).mono ?_
  rintro e w1 ⟨rfl, q, rfl⟩
  have B1 := Lib.hid (below_drewN HB.out q)
  go_wp2
  go_ret
  exact ⟨ret_bb HV.out, B1.out⟩
set_option maxRecDepth 100000 in
set_option maxHeartbeats 16000000 in
theorem refSame_any (w : World) (x y : CP) (A B : Option Addr) (c d : Nat) (hx : Reads 3 cF w (.slice A x.2.2.2.2.2.length c) x.2.2.2.2.2) (hy : Reads 3 cF w (.slice B y.2.2.2.2.2.length d) y.2.2.2.2.2) :
    Calls Tryz.prog 33 #[cpV x A c, cpV y B d] w fun e w' => e = .returned (.bool (eqCP x y)) ∧ Below w.heap.size w w' := by
  obtain ⟨v1, m1, n1, t1, f1, l1⟩ := x
  obtain ⟨v2, m2, n2, t2, f2, l2⟩ := y
  have hb1 := (Below.refl w.heap.size w).alloc (Nat.le_refl _) (.cells #[.string v1, .string m1, .int .i64 n1, .string t1, .bool f1, .slice A l1.length c] 56)
  have HB := Lib.hid (hb1.alloc hb1.size (.cells #[.string v2, .string m2, .int .i64 n2, .string t2, .bool f2, .slice B l2.length d] 56))
  have HX := Lib.hid fun W (hW : Below w.heap.size w W) => hx.below hW
  have HY := Lib.hid fun W (hW : Below w.heap.size w W) => hy.below hW
  have a0 : (0 : Int) ≤ (l1.length : Int) := Int.natCast_nonneg _
  have b0 : (0 : Int) ≤ (l2.length : Int) := Int.natCast_nonneg _
  have a9 : (l1.length : Int) ≤ 9223372036854775807 := by have := hx.len.2; unfold maxLen at this; dsimp only at this; omega
  have b9 : (l2.length : Int) ≤ 9223372036854775807 := by have := hy.len.2; unfold maxLen at this; dsimp only at this; omega
  clear hb1 hx hy
  dsimp only at HX HY
  unfold cpV
  dsimp only
  by_cases h1 : v1 = v2
  case neg =>
    have HV := Lib.hid (show false = eqCP (v1, m1, n1, t1, f1, l1) (v2, m2, n2, t2, f2, l2) from (by unfold eqCP; simp [h1]))
    obtain ⟨e1, e2⟩ := neS h1
    clear h1
    go_enter Tryz.func33, Tryz.ntmps33
    go_wp2
    go_ret
    exact ⟨ret_bb HV.out, HB.out⟩
  subst h1
  by_cases h2 : m1 = m2
  case neg =>
    have HV := Lib.hid (show false = eqCP (v1, m1, n1, t1, f1, l1) (v1, m2, n2, t2, f2, l2) from (by unfold eqCP; simp [h2]))
    obtain ⟨e1, e2⟩ := neS h2
    clear h2
    go_enter Tryz.func33, Tryz.ntmps33
    go_wp2
    go_ret
    exact ⟨ret_bb HV.out, HB.out⟩
  subst h2
  by_cases h3 : n1 = n2
  case neg =>
    have HV := Lib.hid (show false = eqCP (v1, m1, n1, t1, f1, l1) (v1, m1, n2, t2, f2, l2) from (by unfold eqCP; simp [h3]))
    have e1 : (n1 == n2) = false := by simpa using h3
    have e2 : (n1 != n2) = true := by simpa using h3
    clear h3
    go_enter Tryz.func33, Tryz.ntmps33
    go_wp2
    go_ret
    exact ⟨ret_bb HV.out, HB.out⟩
  subst h3
  by_cases h4 : t1 = t2
  case neg =>
    have HV := Lib.hid (show false = eqCP (v1, m1, n1, t1, f1, l1) (v1, m1, n1, t2, f2, l2) from (by unfold eqCP; simp [h4]))
    obtain ⟨e1, e2⟩ := neS h4
    clear h4
    go_enter Tryz.func33, Tryz.ntmps33
    go_wp2
    go_ret
    exact ⟨ret_bb HV.out, HB.out⟩
  subst h4
  by_cases h5 : f1 = f2
  case neg =>
    have HV := Lib.hid (show false = eqCP (v1, m1, n1, t1, f1, l1) (v1, m1, n1, t1, f2, l2) from (by unfold eqCP; simp [h5]))
    have e1 : (f1 == f2) = false := by simpa using h5
    clear h5
    go_enter Tryz.func33, Tryz.ntmps33
    go_wp2
    go_ret
    exact ⟨ret_bb HV.out, HB.out⟩
  subst h5
  have e3 : (n1 != n1) = false := by simp
  have e5 : (f1 != f1) = false := by simp
  by_cases hn : l1.length = l2.length
  case neg =>
    have HV := Lib.hid (show false = eqCP (v1, m1, n1, t1, f1, l1) (v1, m1, n1, t1, f1, l2) from (by unfold eqCP; simp; intro e; exact hn (by rw [e])))
    have en : ((l1.length : Int) != (l2.length : Int)) = true := by simp; omega
    have en2 : ¬ (l1.length : Int) = (l2.length : Int) := by omega
    clear hn
    go_enter Tryz.func33, Tryz.ntmps33
    go_wp2
    go_ret
    exact ⟨ret_bb HV.out, HB.out⟩
  have en : ((l1.length : Int) != (l2.length : Int)) = false := by rw [hn]; simp
  have eni : (l1.length : Int) = (l2.length : Int) := by rw [hn]
  have HN := Lib.hid hn
  have HZ := Lib.hid (Blk.new w 56 #[.string v1, .string m1, .int .i64 n1, .string t1, .bool f1, .slice A l1.length c])
  have HZ1 := Lib.hid (HZ.out.alloc (.cells #[.string v1, .string m1, .int .i64 n1, .string t1, .bool f1, .slice B l2.length d] 56))
  have HY1 := Lib.hid (Blk.new (w.alloc (.cells #[.string v1, .string m1, .int .i64 n1, .string t1, .bool f1, .slice A l1.length c] 56)) 56 #[.string v1, .string m1, .int .i64 n1, .string t1, .bool f1, .slice B l2.length d])
  rw [show (w.alloc (.cells #[.string v1, .string m1, .int .i64 n1, .string t1, .bool f1, .slice A l1.length c] 56)).heap.size = w.heap.size + 1 by simp] at HY1
  obtain ⟨g, hg⟩ : ∃ g, g = w.heap.size := ⟨_, rfl⟩
  rw [← hg] at HZ1 HY1
  clear hn HZ
  go_enter Tryz.func33, Tryz.ntmps33
  go_wp2_with fail
  rw [← hg]
  clear hg eni
  go_loopw [5] (fun s5 wr => ∃ k : Nat, k ≤ l1.length ∧ s5 = .int .i64 k ∧ Hid (∀ i, i < k → l1[i]? = l2[i]?) ∧ Hid (Blk wr g 56 #[.string v1, .string m1, .int .i64 n1, .string t1, .bool f1, .slice A l1.length c]) ∧ Hid (Blk wr (g + 1) 56 #[.string v1, .string m1, .int .i64 n1, .string t1, .bool f1, .slice B l2.length d]) ∧ Hid (Below w.heap.size w wr)) (fun s5 _ => l1.length - (intOf s5).toNat)
  case atStart => exact ⟨0, Nat.zero_le _, rfl, Lib.hid (fun i hi => absurd hi (Nat.not_lt_zero _)), HZ1, HY1, HB⟩
  case round =>
    clear HZ1 HY1 HB
    obtain ⟨k, hk, rfl, HP, HZ, HQ, HB⟩ := hrel
    have k0 : (0 : Int) ≤ (k : Int) := Int.natCast_nonneg _
    have z5 := HZ.out.cell 5
    have q5 := HQ.out.cell 5
    by_cases hlt : k < l1.length
    · obtain ⟨x, hx⟩ : ∃ x, l1[k]? = some x := ⟨_, List.getElem?_eq_getElem hlt⟩
      obtain ⟨y, hy⟩ : ∃ y, l2[k]? = some y := ⟨_, List.getElem?_eq_getElem (by rw [← HN.out]; exact hlt)⟩
      obtain ⟨ad, rfl, c0, c1, c2⟩ := Fils.at_ (HX.out wr HB.out) hx
      obtain ⟨ad2, rfl, d0, d1, d2⟩ := Fils.at_ (HY.out wr HB.out) hy
      have HXX := Lib.hid hx
      have HYY := Lib.hid hy
      have k1 : (k : Int) < (l1.length : Int) := by omega
      have k2 : (k : Int) < (l2.length : Int) := by have := HN.out; omega
      have HLT := Lib.hid hlt
      have HNE := Lib.hid (show x ≠ y → false = eqCP (v1, m1, n1, t1, f1, l1) (v1, m1, n1, t1, f1, l2) from fun hne => by
        unfold eqCP
        simp
        intro e
        rw [e, hy] at hx
        exact hne (Option.some.inj hx).symm)
      clear hx hy hlt hk
      by_cases hxy : x = y
      · subst hxy
        obtain ⟨p, m, s⟩ := x
        go_wp2_with fail
        go_quiet (fail)
        go_wp2
        go_roundw
        case rel => exact ⟨k + 1, by have := HLT.out; omega, by go_num, Lib.hid (fun i hi => by
          rcases Nat.lt_or_ge i k with h1 | h1
          · exact HP.out i h1
          · obtain rfl : i = k := by omega
            rw [HXX.out, HYY.out]), Lib.hid (HZ.out.below (below_drewN (Below.refl _ _) _) HZ.out.lt), Lib.hid (HQ.out.below (below_drewN (Below.refl _ _) _) HQ.out.lt), Lib.hid (below_drewN HB.out _)⟩
        case measure => have := HLT.out; simp [intOf]; omega
      · have HC := Lib.hid (HNE.out hxy)
        obtain ⟨p, m, s⟩ := x
        obtain ⟨p', m', s'⟩ := y
        by_cases h1 : p = p'
        · subst h1
          by_cases h2 : m = m'
          · subst h2
            obtain ⟨e3, e3'⟩ := neS (fun e => hxy (by rw [e]) : s ≠ s')
            clear hxy
            go_wp2_with fail
            go_quiet (fail)
            go_wp2
            go_ret
            exact ⟨ret_bb HC.out, below_drewN HB.out _⟩
          · have e2' : (m == m') = false := by simpa using h2
            clear hxy
            go_wp2_with fail
            go_quiet (fail)
            go_wp2
            go_ret
            exact ⟨ret_bb HC.out, below_drewN HB.out _⟩
        · obtain ⟨e1, e1'⟩ := neS h1
          clear hxy h1
          go_wp2_with fail
          go_quiet (fail)
          go_wp2
          go_ret
          exact ⟨ret_bb HC.out, below_drewN HB.out _⟩
    · obtain rfl : k = l1.length := by omega
      have HC := Lib.hid (show true = eqCP (v1, m1, n1, t1, f1, l1) (v1, m1, n1, t1, f1, l2) from (by rw [prefix_all HP.out rfl HN.out.symm, eqCP_refl]))
      clear hlt
      go_wp2
      go_ret
      exact ⟨ret_bb HC.out, HB.out⟩
#print axioms refSame_any
end Go.Proofs.YtanjcjnkppnhcaaGreatDoor

namespace Go.Proofs.YtanjcjnkppnhcaaGreatDoor
open Go Go.RowKit

theorem row6w {w : World} {g : Nat} {cs : Array Value} (h : Blk w g 56 cs) (hs : cs.size = 6) (a b c d e f : Value) :
    Blk ((((((w.setCell ⟨g, 0, none⟩ a).setCell ⟨g, 1, none⟩ b).setCell ⟨g, 2, none⟩ c).setCell ⟨g, 3, none⟩ d).setCell ⟨g, 4, none⟩ e).setCell ⟨g, 5, none⟩ f) g 56 #[a, b, c, d, e, f] := by
  match cs, hs with
  | ⟨[x0, x1, x2, x3, x4, x5]⟩, _ =>
    have h0 := h.set_ 0 a
    simp only [List.setIfInBounds_toArray, List.set_cons_zero] at h0
    generalize w.setCell ⟨g, 0, none⟩ a = w0 at *
    have h1 := h0.set_ 1 b
    simp only [List.setIfInBounds_toArray, List.set_cons_zero, List.set_cons_succ] at h1
    generalize w0.setCell ⟨g, 1, none⟩ b = w1 at *
    have h2 := h1.set_ 2 c
    simp only [List.setIfInBounds_toArray, List.set_cons_zero, List.set_cons_succ] at h2
    generalize w1.setCell ⟨g, 2, none⟩ c = w2 at *
    have h3 := h2.set_ 3 d
    simp only [List.setIfInBounds_toArray, List.set_cons_zero, List.set_cons_succ] at h3
    generalize w2.setCell ⟨g, 3, none⟩ d = w3 at *
    have h4 := h3.set_ 4 e
    simp only [List.setIfInBounds_toArray, List.set_cons_zero, List.set_cons_succ] at h4
    generalize w3.setCell ⟨g, 4, none⟩ e = w4 at *
    have h5 := h4.set_ 5 f
    simp only [List.setIfInBounds_toArray, List.set_cons_zero, List.set_cons_succ] at h5
    exact h5
theorem below6 {B : Nat} {w v : World} {g : Nat} (h : Below B w v) (hg : B ≤ g) (a b c d e f : Value) :
    Below B w ((((((v.setCell ⟨g, 0, none⟩ a).setCell ⟨g, 1, none⟩ b).setCell ⟨g, 2, none⟩ c).setCell ⟨g, 3, none⟩ d).setCell ⟨g, 4, none⟩ e).setCell ⟨g, 5, none⟩ f) :=
  (((((h.setCell (p := ⟨g, 0, none⟩) hg a).setCell (p := ⟨g, 1, none⟩) hg b).setCell (p := ⟨g, 2, none⟩) hg c).setCell (p := ⟨g, 3, none⟩) hg d).setCell (p := ⟨g, 4, none⟩) hg e).setCell (p := ⟨g, 5, none⟩) hg f
theorem far6 {w : World} {g h : Nat} {t : TypeId} {cs : Array Value} (hb : Blk w g t cs) (hne : g ≠ h) (a b c d e f : Value) :
    Blk ((((((w.setCell ⟨h, 0, none⟩ a).setCell ⟨h, 1, none⟩ b).setCell ⟨h, 2, none⟩ c).setCell ⟨h, 3, none⟩ d).setCell ⟨h, 4, none⟩ e).setCell ⟨h, 5, none⟩ f) g t cs :=
  (((((hb.far (p := ⟨h, 0, none⟩) hne a).far (p := ⟨h, 1, none⟩) hne b).far (p := ⟨h, 2, none⟩) hne c).far (p := ⟨h, 3, none⟩) hne d).far (p := ⟨h, 4, none⟩) hne e).far (p := ⟨h, 5, none⟩) hne f
theorem own6 {w : World} {B g n : Nat} {v : Value} {xs : List Value} (h : w.ownsRow B 81 3 v n xs) {cs : Array Value} (hg : Blk w g 56 cs) (a b c d e f : Value) :
    ((((((w.setCell ⟨g, 0, none⟩ a).setCell ⟨g, 1, none⟩ b).setCell ⟨g, 2, none⟩ c).setCell ⟨g, 3, none⟩ d).setCell ⟨g, 4, none⟩ e).setCell ⟨g, 5, none⟩ f).ownsRow B 81 3 v n xs := by
  have hne := own_blk_ne h hg (by decide)
  exact ownsRow_setCell_other (ownsRow_setCell_other (ownsRow_setCell_other (ownsRow_setCell_other (ownsRow_setCell_other (ownsRow_setCell_other h (a := ⟨g, 0, none⟩) hne a) (a := ⟨g, 1, none⟩) hne b) (a := ⟨g, 2, none⟩) hne c) (a := ⟨g, 3, none⟩) hne d) (a := ⟨g, 4, none⟩) hne e) (a := ⟨g, 5, none⟩) hne f
def OfTo (x : CP) (w : World) (e : Ending) (w' : World) : Prop := ∃ A c, e = .returned (cpV x A c) ∧ Reads 3 cF w' (.slice A x.2.2.2.2.2.length c) x.2.2.2.2.2 ∧ Below w.heap.size w w'
set_option maxRecDepth 100000 in
set_option maxHeartbeats 16000000 in
theorem ofCmd_any (w : World) (x : CP) (A : Option Addr) (c : Nat) (hx : Reads 3 cF w (.slice A x.2.2.2.2.2.length c) x.2.2.2.2.2) (hl : x.2.2.2.2.2.length ≤ 100000) :
    Calls Tryz.prog 24 #[cpV x A c] w (OfTo x w) := by
  obtain ⟨v, m, n, t, f, l⟩ := x
  have hb1 := (Below.refl w.heap.size w).alloc (Nat.le_refl _) (.cells #[.string v, .string m, .int .i64 n, .string t, .bool f, .slice A l.length c] 52)
  have hb2 := hb1.alloc hb1.size (.cells #[.string ⟨#[]⟩, .string ⟨#[]⟩, .int .i64 0, .string ⟨#[]⟩, .bool false, .slice none 0 0] 56)
  have LO := Lib.hid fun W (hW : Below w.heap.size w W) => (show Calls Tryz.prog 18 #[.slice A l.length c] W fun e W' => ∃ A2 c2, e = .returned (.slice A2 l.length c2) ∧ W'.ownsRow W.heap.size 81 3 (.slice A2 l.length c2) l.length (l.flatMap cF) ∧ Below W.heap.size W W' from (lawOf_any W _ l (hx.below hW) hl).mono fun e W' ⟨u, h1, h2, h3⟩ => by
    obtain ⟨A2, c2, rfl⟩ := own_form h2
    exact ⟨A2, c2, h1, h2, h3⟩)
  have HZ := Lib.hid ((Blk.new w 52 #[.string v, .string m, .int .i64 n, .string t, .bool f, .slice A l.length c]).alloc (.cells #[.string ⟨#[]⟩, .string ⟨#[]⟩, .int .i64 0, .string ⟨#[]⟩, .bool false, .slice none 0 0] 56))
  have HY := Lib.hid (Blk.new (w.alloc (.cells #[.string v, .string m, .int .i64 n, .string t, .bool f, .slice A l.length c] 52)) 56 #[.string ⟨#[]⟩, .string ⟨#[]⟩, .int .i64 0, .string ⟨#[]⟩, .bool false, .slice none 0 0])
  rw [show (w.alloc (.cells #[.string v, .string m, .int .i64 n, .string t, .bool f, .slice A l.length c] 52)).heap.size = w.heap.size + 1 by simp] at HY
  obtain ⟨g, hg⟩ : ∃ g, g = w.heap.size := ⟨_, rfl⟩
  have HG := Lib.hid hg
  have HB := Lib.hid hb2
  rw [← hg] at HZ HY
  unfold cpV
  dsimp only at LO ⊢
  clear hb1 hb2 hx
  go_enter Tryz.func24, Tryz.ntmps24
  go_wp2_with fail
  rw [← hg]
  clear hg
  generalize (w.alloc (.cells #[.string v, .string m, .int .i64 n, .string t, .bool f, .slice A l.length c] 52)).alloc (.cells #[.string ⟨#[]⟩, .string ⟨#[]⟩, .int .i64 0, .string ⟨#[]⟩, .bool false, .slice none 0 0] 56) = w1 at *
  have Bd := Lib.hid (HB.out.drew)
  have Yd : Hid (Blk w1.drew (g + 1) 56 #[.string ⟨#[]⟩, .string ⟨#[]⟩, .int .i64 0, .string ⟨#[]⟩, .bool false, .slice none 0 0]) := Lib.hid HY.out
  have Zd : Hid (Blk w1.drew g 52 #[.string v, .string m, .int .i64 n, .string t, .bool f, .slice A l.length c]) := Lib.hid HZ.out
  have CC := Lib.hid fun V (h : Blk V g 52 #[.string v, .string m, .int .i64 n, .string t, .bool f, .slice A l.length c]) => (⟨h.cell 0, h.cell 1, h.cell 2, h.cell 3, h.cell 4, h.cell 5⟩ : V.cell? ⟨g, 0, none⟩ = some (.string v) ∧ V.cell? ⟨g, 1, none⟩ = some (.string m) ∧ V.cell? ⟨g, 2, none⟩ = some (.int .i64 n) ∧ V.cell? ⟨g, 3, none⟩ = some (.string t) ∧ V.cell? ⟨g, 4, none⟩ = some (.bool f) ∧ V.cell? ⟨g, 5, none⟩ = some (.slice A l.length c))
  go_region_held3 (fun V => V.cell? ⟨g, 0, none⟩ = some (.string v) ∧ V.cell? ⟨g, 1, none⟩ = some (.string m) ∧ V.cell? ⟨g, 2, none⟩ = some (.int .i64 n) ∧ V.cell? ⟨g, 3, none⟩ = some (.string t) ∧ V.cell? ⟨g, 4, none⟩ = some (.bool f) ∧ V.cell? ⟨g, 5, none⟩ = some (.slice A l.length c)) (first | with_reducible exact CC.out _ Zd.out | with_reducible exact CC.out _ Z2.out | with_reducible exact CC.out _ Z8.out)
    (first
      | (go_at_call 18; refine (LO.out _ Bd.out).mono ?_; rintro e w2 ⟨A2, c2, rfl, o2, d2⟩; have Z2 := Lib.hid (Zd.out.below d2 Zd.out.lt); have Y2 := Lib.hid (Yd.out.below d2 Yd.out.lt); have B2 := Lib.hid (Bd.out.trans (d2.mono Bd.out.size)); have O2 := Lib.hid o2; have Z8 := Lib.hid (far6 Z2.out (show g ≠ g + 1 by omega) (.string v) (.string m) (.int .i64 n) (.string t) (.bool f) (.slice A2 l.length c2)); have y0 := Y2.out.cell 0; have y1 := Y2.out.cell 1; have y2 := Y2.out.cell 2; have y3 := Y2.out.cell 3; have y4 := Y2.out.cell 4; have y5 := Y2.out.cell 5; have f0 := Y2.out.frozen 0; have f1 := Y2.out.frozen 1; have f2 := Y2.out.frozen 2; have f3 := Y2.out.frozen 3; have f4 := Y2.out.frozen 4; have f5 := Y2.out.frozen 5))
  all_goals go_wp2_with fail
  all_goals exact bodyPost_ret (results_cell_row (fn := Tryz.f24) rfl _ _ (g + 1) 56 _ (0, 0) _ rfl (row6w Y2.out rfl (.string v) (.string m) (.int .i64 n) (.string t) (.bool f) (.slice A2 l.length c2)) Tryz.underlying56 rfl (by kernel_rfl)) rfl ⟨A2, c2, rfl, Reads.of_own (enc := cF) cF_len (own6 O2.out Y2.out _ _ _ _ _ _), below6 B2.out (by rw [HG.out]; exact Nat.le_succ _) _ _ _ _ _ _⟩
#print axioms ofCmd_any
end Go.Proofs.YtanjcjnkppnhcaaGreatDoor

namespace Go.Proofs.YtanjcjnkppnhcaaGreatDoor
open Go Go.RowKit

def fewS (x : Fl) : Bool := decide (x.2.2.size ≤ 400) && decide (x.1.size ≤ 50)
def fewC (x : CP) : Bool := decide (x.1.size ≤ 50) && (decide (x.2.1.size ≤ 100) && (decide (x.2.2.2.1.size ≤ 400) && (decide (x.2.2.2.2.2.length ≤ 40) && x.2.2.2.2.2.all fewS)))
set_option maxRecDepth 100000 in
set_option maxHeartbeats 16000000 in
theorem few_any (w : World) (x : CP) (A : Option Addr) (c : Nat) (hx : Reads 3 cF w (.slice A x.2.2.2.2.2.length c) x.2.2.2.2.2) :
    Calls Tryz.prog 22 #[cpV x A c] w fun e w' => e = .returned (.bool (fewC x)) ∧ Below w.heap.size w w' := by
  obtain ⟨v, m, n, t, f, l⟩ := x
  have hb1 := (Below.refl w.heap.size w).alloc (Nat.le_refl _) (.cells #[.string v, .string m, .int .i64 n, .string t, .bool f, .slice A l.length c] 52)
  have HZ := Lib.hid (Blk.new w 52 #[.string v, .string m, .int .i64 n, .string t, .bool f, .slice A l.length c])
  have HX := Lib.hid fun W (hW : Below w.heap.size w W) => hx.below hW
  have HB := Lib.hid hb1
  have a0 : (0 : Int) ≤ (l.length : Int) := Int.natCast_nonneg _
  have s1 : (0 : Int) ≤ (v.size : Int) := Int.natCast_nonneg _
  have s2 : (0 : Int) ≤ (m.size : Int) := Int.natCast_nonneg _
  have s3 : (0 : Int) ≤ (t.size : Int) := Int.natCast_nonneg _
  obtain ⟨R, hR⟩ : ∃ R, R = fewC (v, m, n, t, f, l) := ⟨_, rfl⟩
  have HR := Lib.hid (show R = (decide (v.size ≤ 50) && (decide (m.size ≤ 100) && (decide (t.size ≤ 400) && (decide (l.length ≤ 40) && l.all fewS)))) from hR)
  rw [← hR]
  unfold cpV
  dsimp only at HX ⊢
  clear hb1 hx hR
  by_cases h1 : v.size ≤ 50
  case neg =>
    have HV := Lib.hid (show false = R by rw [HR.out]; simp [h1])
    have h1i : (50 : Int) < (v.size : Int) := by omega
    clear h1 HR
    go_enter Tryz.func22, Tryz.ntmps22
    go_wp2
    go_ret
    exact ⟨ret_bb HV.out, HB.out⟩
  have h1i : ¬ (50 : Int) < (v.size : Int) := by omega
  by_cases h2 : m.size ≤ 100
  case neg =>
    have HV := Lib.hid (show false = R by rw [HR.out]; simp [h2])
    have h2i : (100 : Int) < (m.size : Int) := by omega
    clear h1 h2 HR
    go_enter Tryz.func22, Tryz.ntmps22
    go_wp2
    go_ret
    exact ⟨ret_bb HV.out, HB.out⟩
  have h2i : ¬ (100 : Int) < (m.size : Int) := by omega
  by_cases h3 : t.size ≤ 400
  case neg =>
    have HV := Lib.hid (show false = R by rw [HR.out]; simp [h3])
    have h3i : (400 : Int) < (t.size : Int) := by omega
    clear h1 h2 h3 HR
    go_enter Tryz.func22, Tryz.ntmps22
    go_wp2
    go_ret
    exact ⟨ret_bb HV.out, HB.out⟩
  have h3i : ¬ (400 : Int) < (t.size : Int) := by omega
  by_cases h4 : l.length ≤ 40
  case neg =>
    have HV := Lib.hid (show false = R by rw [HR.out]; simp [h4])
    have h4i : (40 : Int) < (l.length : Int) := by omega
    clear h1 h2 h3 h4 HR
    go_enter Tryz.func22, Tryz.ntmps22
    go_wp2
    go_ret
    exact ⟨ret_bb HV.out, HB.out⟩
  have h4i : ¬ (40 : Int) < (l.length : Int) := by omega
  have a9 : (l.length : Int) ≤ 40 := by omega
  have HR2 := Lib.hid (show (l.drop 0).all fewS = R by rw [HR.out]; simp [h1, h2, h3, h4])
  obtain ⟨g, hg⟩ : ∃ g, g = w.heap.size := ⟨_, rfl⟩
  rw [← hg] at HZ
  clear h1 h2 h3 h4 HR
  go_enter Tryz.func22, Tryz.ntmps22
  go_wp2_with fail
  rw [← hg]
  clear hg
  go_loopw [3] (fun s3 wr => ∃ k : Nat, k ≤ l.length ∧ s3 = .int .i64 k ∧ Hid ((l.drop k).all fewS = R) ∧ Hid (Blk wr g 52 #[.string v, .string m, .int .i64 n, .string t, .bool f, .slice A l.length c]) ∧ Hid (Below w.heap.size w wr)) (fun s3 _ => l.length - (intOf s3).toNat)
  case atStart => exact ⟨0, Nat.zero_le _, rfl, HR2, HZ, HB⟩
  case round =>
    clear HR2 HZ HB
    obtain ⟨k, hk, rfl, HP, HZ, HB⟩ := hrel
    have k0 : (0 : Int) ≤ (k : Int) := Int.natCast_nonneg _
    have z5 := HZ.out.cell 5
    by_cases hlt : k < l.length
    · obtain ⟨x, hx⟩ : ∃ x, l[k]? = some x := ⟨_, List.getElem?_eq_getElem hlt⟩
      obtain ⟨ad, rfl, c0, c1, c2⟩ := Fils.at_ (HX.out wr HB.out) hx
      have k1 : (k : Int) < (l.length : Int) := by omega
      have HLT := Lib.hid hlt
      have HQ := Lib.hid (show (fewS x && (l.drop (k + 1)).all fewS) = R by have := HP.out; rw [drop_consB hx, List.all_cons] at this; exact this)
      obtain ⟨xv, xc, xt⟩ := x
      dsimp only at c0 c1 c2
      have y1 : (0 : Int) ≤ (xv.size : Int) := Int.natCast_nonneg _
      have y2 : (0 : Int) ≤ (xt.size : Int) := Int.natCast_nonneg _
      clear hx hlt hk
      by_cases q1 : xt.size ≤ 400
      case neg =>
        have HV := Lib.hid (show false = R by rw [← HQ.out]; unfold fewS; simp [q1])
        have q1i : (400 : Int) < (xt.size : Int) := by omega
        clear q1 HQ HP
        go_wp2
        go_ret
        exact ⟨ret_bb HV.out, HB.out⟩
      have q1i : ¬ (400 : Int) < (xt.size : Int) := by omega
      by_cases q2 : xv.size ≤ 50
      case neg =>
        have HV := Lib.hid (show false = R by rw [← HQ.out]; unfold fewS; simp [q2])
        have q2i : (50 : Int) < (xv.size : Int) := by omega
        clear q1 q2 HQ HP
        go_wp2
        go_ret
        exact ⟨ret_bb HV.out, HB.out⟩
      have q2i : ¬ (50 : Int) < (xv.size : Int) := by omega
      have HP2 := Lib.hid (show (l.drop (k + 1)).all fewS = R by rw [← HQ.out]; unfold fewS; simp [q1, q2])
      clear q1 q2 HQ HP
      go_wp2
      go_roundw
      case rel => exact ⟨k + 1, by have := HLT.out; omega, by go_num, HP2, HZ, HB⟩
      case measure => have := HLT.out; simp [intOf]; omega
    · obtain rfl : k = l.length := by omega
      have HV := Lib.hid (show true = R by rw [← HP.out, List.drop_length]; rfl)
      clear hlt
      go_wp2
      go_ret
      exact ⟨ret_bb HV.out, HB.out⟩
#print axioms few_any
end Go.Proofs.YtanjcjnkppnhcaaGreatDoor
