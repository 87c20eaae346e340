/-
  rectoref11.Common; rectolaw11.Edits.
  The law's own look at two rows of edits, wherever they lie.
  rectolaw12.same: the same hunks.
  PatchAny: a difference in pieces, done, turned, and in words.
-/
import Derived.Test.YtdpoeagmeiedcaaDoorRLin
import Derived.Test.YtdpoeagmeiedcaaDoorCommon
import Derived.Test.YtdpoeagmeiedcaaDoorPMem
import Derived.Test.YtdpoeagmeiedcaaDoorUA
import Derived.Test.YtdpoeagmeiedcaaDoorUB
import Derived.Test.YtdpoeagmeiedcaaDoorUC
import Derived.Test.YtdpoeagmeiedcaaDoorUF

namespace Go.Proofs.YtdpoeagmeiedcaaDoor
open Go Go.RowKit

set_option maxHeartbeats 1000000 in
theorem refCommon_any (w : World) (v u : Value) (xs ys : List ByteArray) (h : Strs w v xs) (g : Strs w u ys) (hxl : xs.length ≤ 256) (hyl : ys.length ≤ 256) :
    Calls Tryd.prog 17 #[v, u] w (Costs w (lc xs ys)) := by
  have TB := Lib.hid (refCommon_tab w v u xs ys h g hxl hyl)
  clear h g
  obtain ⟨N, hN⟩ : ∃ N, N = xs.length + 1 := ⟨_, rfl⟩
  obtain ⟨M, hM⟩ : ∃ M, M = ys.length + 1 := ⟨_, rfl⟩
  have HN := Lib.hid hN
  have HM := Lib.hid hM
  have hN0 : (0 : Int) < (N : Int) := by omega
  have hM0 : (0 : Int) < (M : Int) := by omega
  clear hM
  go_enter Tryd.func17, Tryd.ntmps17
  go_wp2_with fail
  refine TB.out.mono ?_
  rintro e w2 ⟨G, rfl, hGl, hO, hb⟩
  rw [← hN]
  clear hN
  have TA := TabAt.of hO
  have r0 := TA.row 0 (by omega)
  have r1 := TA.cell 0 0 (by omega) (by omega)
  rw [← HM.out] at r0
  have e0 : cT xs ys 0 0 = lc xs ys := by unfold cT; simp
  rw [e0] at r1
  rw [Nat.sub_zero] at r0 r1
  clear e0 TA hO
  go_wp2
  go_ret
  exact ⟨rfl, hb⟩

set_option maxHeartbeats 2000000 in
/-- The law's own look: the same edits. -/
theorem edits_same (w : World) (b1 b2 : Nat) (v u : Value) (l : List (Nat × ByteArray)) (h : w.ownsRow b1 66 2 v l.length (edCells l)) (g : w.ownsRow b2 91 2 u l.length (edCells l)) (hl : l.length ≤ 1000) :
    Calls Tryd.prog 15 #[v, u] w (YesB w) := by
  have HO := Lib.hid h
  have HG := Lib.hid g
  obtain ⟨A, m, c, rfl⟩ : ∃ A m c, v = .slice A m c := by
    rcases h.2 with ⟨rfl, _⟩ | ⟨g, cap, cur, rfl, _⟩
    · exact ⟨_, _, _, rfl⟩
    · exact ⟨_, _, _, rfl⟩
  obtain rfl : m = l.length := by
    rcases h.2 with ⟨e, e2⟩ | ⟨g, cap, cur, e, _⟩
    · cases e; exact e2.symm
    · cases e; rfl
  obtain ⟨B, m, d, rfl⟩ : ∃ A m c, u = .slice A m c := by
    rcases g.2 with ⟨rfl, _⟩ | ⟨g, cap, cur, rfl, _⟩
    · exact ⟨_, _, _, rfl⟩
    · exact ⟨_, _, _, rfl⟩
  obtain rfl : m = l.length := by
    rcases g.2 with ⟨e, e2⟩ | ⟨g, cap, cur, e, _⟩
    · cases e; exact e2.symm
    · cases e; rfl
  clear h g
  go_enter Tryd.func15, Tryd.ntmps15
  go_wp2_with fail
  go_loopw [5] (fun s5 wr => ∃ k q : Nat, k ≤ l.length ∧ s5 = .int .i64 k ∧ wr = w.drewN q) (fun s5 _ => l.length - (intOf s5).toNat)
  case atStart => exact ⟨0, 0, Nat.zero_le _, rfl, rfl⟩
  case round =>
    obtain ⟨k, q, hk, rfl, rfl⟩ := hrel
    have k0 : (0 : Int) ≤ (k : Int) := Int.natCast_nonneg _
    by_cases hlt : k < l.length
    · obtain ⟨⟨op, s⟩, hs⟩ : ∃ x, l[k]? = some x := ⟨_, List.getElem?_eq_getElem hlt⟩
      obtain ⟨g1, rfl⟩ : ∃ g, A = some ⟨g, 0, none⟩ := by
        rcases HO.out.2 with ⟨_, e2⟩ | ⟨g, cap, cur, e, _⟩
        · omega
        · cases e; exact ⟨_, rfl⟩
      obtain ⟨g2, rfl⟩ : ∃ g, B = some ⟨g, 0, none⟩ := by
        rcases HG.out.2 with ⟨_, e2⟩ | ⟨g, cap, cur, e, _⟩
        · omega
        · cases e; exact ⟨_, rfl⟩
      have k1 : (k : Int) < (l.length : Int) := by omega
      obtain ⟨x1, x2⟩ := edCells_at hs
      have c1 := own2_at HO.out x1
      have c2 := own2_at HO.out x2
      have c3 := own2_at HG.out x1
      have c4 := own2_at HG.out x2
      clear x1 x2 hs
      go_wp2_with fail
      go_quiet (fail)
      go_wp2
      go_roundw
      case rel => exact ⟨k + 1, _, by omega, by go_num, rfl⟩
      case measure => simp [intOf]; omega
    · obtain rfl : k = l.length := by omega
      go_wp2
      go_ret
      exact ⟨rfl, below_drewN (Below.refl _ _) _⟩
end Go.Proofs.YtdpoeagmeiedcaaDoor

namespace Go.Proofs.YtdpoeagmeiedcaaDoor
open Go Go.RowKit

set_option maxHeartbeats 2000000 in
theorem editsR_same (w : World) (v u : Value) (l : List EdI) (h : Reads 2 cEd w v l) (g : Reads 2 cEd w u l) :
    Calls Tryd.prog 15 #[v, u] w (fun e w' => e = .returned (.bool true) ∧ ∃ q, w' = w.drewN q) := by
  have HO := Lib.hid h
  have HG := Lib.hid g
  obtain ⟨A, c, rfl⟩ := h.form
  obtain ⟨B, d, rfl⟩ := g.form
  have hlc := h.len.2.1
  have hlm : c ≤ 9223372036854775807 := by have := h.len.2.2; unfold maxLen at this; omega
  have glc := g.len.2.1
  have glm : d ≤ 9223372036854775807 := by have := g.len.2.2; unfold maxLen at this; omega
  clear h g
  go_enter Tryd.func15, Tryd.ntmps15
  go_wp2_with fail
  go_loopw [5] (fun s5 wr => ∃ k q : Nat, k ≤ l.length ∧ s5 = .int .i64 k ∧ wr = w.drewN q) (fun s5 _ => l.length - (intOf s5).toNat)
  case atStart => exact ⟨0, 0, Nat.zero_le _, rfl, rfl⟩
  case round =>
    obtain ⟨k, q, hk, rfl, rfl⟩ := hrel
    have k0 : (0 : Int) ≤ (k : Int) := Int.natCast_nonneg _
    by_cases hlt : k < l.length
    · obtain ⟨⟨op, s⟩, hs⟩ : ∃ x, l[k]? = some x := ⟨_, List.getElem?_eq_getElem hlt⟩
      obtain ⟨a1, rfl, c1, c2⟩ := Eds.at_ HO.out hs
      obtain ⟨a2, rfl, c3, c4⟩ := Eds.at_ HG.out hs
      have k1 : (k : Int) < (l.length : Int) := by omega
      simp only at c1 c2 c3 c4
      clear hs
      go_wp2_with fail
      go_quiet (fail)
      go_wp2
      go_roundw
      case rel => exact ⟨k + 1, _, by omega, by go_num, rfl⟩
      case measure => simp [intOf]; omega
    · obtain rfl : k = l.length := by omega
      go_wp2
      go_ret
      exact ⟨rfl, _, rfl⟩
end Go.Proofs.YtdpoeagmeiedcaaDoor

namespace Go.Proofs.YtdpoeagmeiedcaaDoor
open Go Go.RowKit

set_option maxRecDepth 100000 in
set_option maxHeartbeats 8000000 in
theorem same_yes (w : World) (v u : Value) (hs : List Hk) (h : HksIn w v hs) (g : HksIn w u hs) :
    Calls Tryd.prog 24 #[v, u] w (fun e w' => e = .returned (.bool true) ∧ ∃ q, w' = w.drewN q) := by
  have HO := Lib.hid h
  have HG := Lib.hid g
  obtain ⟨A, c, rfl⟩ := h.form
  obtain ⟨B, d, rfl⟩ := g.form
  have hlc := h.len.2.1
  have hlm : c ≤ 9223372036854775807 := by have := h.len.2.2; unfold maxLen at this; omega
  have glc := g.len.2.1
  have glm : d ≤ 9223372036854775807 := by have := g.len.2.2; unfold maxLen at this; omega
  clear h g
  go_enter Tryd.func24, Tryd.ntmps24
  go_wp2_with fail
  go_loopw [5] (fun s5 wr => ∃ k q : Nat, k ≤ hs.length ∧ s5 = .int .i64 k ∧ wr = w.drewN q) (fun s5 _ => hs.length - (intOf s5).toNat)
  case atStart => exact ⟨0, 0, Nat.zero_le _, rfl, rfl⟩
  case round =>
    obtain ⟨k, q, hk, rfl, hwq⟩ := hrel
    have hb : Below w.heap.size w wr := by rw [hwq]; exact below_drewN (Below.refl _ _) _
    have HW := Lib.hid hwq
    clear hwq
    have k0 : (0 : Int) ≤ (k : Int) := Int.natCast_nonneg _
    by_cases hlt : k < hs.length
    · obtain ⟨x, hx⟩ : ∃ x, hs[k]? = some x := ⟨_, List.getElem?_eq_getElem hlt⟩
      obtain ⟨a1, vl, rfl, c0, c1, c2, c3, c4, r1⟩ := HO.out.at2 hb hx
      obtain ⟨a2, ul, rfl, e0, e1, e2, e3, e4, r2⟩ := HG.out.at2 hb hx
      obtain ⟨at_, del, to_, add, ls⟩ := x
      simp only at c0 c1 c2 c3 c4 e0 e1 e2 e3 e4 r1 r2
      have k1 : (k : Int) < (hs.length : Int) := by omega
      have ES := Lib.hid (fun m => editsR_same (wr.drewN m) vl ul ls ((r1.below hb).drewN m) ((r2.below hb).drewN m))
      clear hx r1 r2 hb
      go_wp2_with fail
      try dsimp only [List.append]
      refine wp_region_quiet_lit (by kernel_rfl) (by kernel_rfl) ?_
      iterate 61 (go_big_quiet_step (fail))
      go_big_quiet_step ((go_at_call 15; exact Calls.quiet_of (ES.out _)))
      repeat (go_big_quiet_step (fail))
      refine wpQuiet_nil ?_
      intro _ hw'
      obtain ⟨nq, hw''⟩ := hw'
      subst hw''
      go_wp2_with fail
      go_roundw
      case rel => exact ⟨k + 1, q + nq, by omega, by go_num, by rw [HW.out, World.drewN_drewN]⟩
      case measure => simp [intOf]; omega
    · obtain rfl : k = hs.length := by omega
      go_wp2
      go_ret
      exact ⟨rfl, q, HW.out⟩
end Go.Proofs.YtdpoeagmeiedcaaDoor

namespace Go.Proofs.YtdpoeagmeiedcaaDoor
open Go Go.RowKit

set_option maxRecDepth 100000 in
set_option maxHeartbeats 8000000 in
theorem patchAny_walk (w : World) (v u : Value) (xs ys : List ByteArray) (around : Int) (ha : Strs w v xs) (hb : Strs w u ys) : Calls Tryd.prog 4 #[v, u, .int .i64 around] w (YesB w) := by
  obtain ⟨A, n, c, rfl⟩ := ha.form
  obtain ⟨B, m, d, rfl⟩ := hb.form
  obtain rfl := ha.len.1
  obtain rfl := hb.len.1
  have HA := Lib.hid ha
  have HB := Lib.hid hb
  have KN := Lib.hid (known12_yes w)
  clear ha hb
  go_enter Tryd.func4, Tryd.ntmps4
  go_wp2_with fail
  refine KN.out.mono ?_
  rintro e w1 ⟨rfl, b1⟩
  have B1 := Lib.hid b1
  have FW := Lib.hid (few12S_any w1 _ _ xs ys (HA.out.below b1) (HB.out.below b1))
  clear b1 KN
  go_wp2_with fail
  refine FW.out.mono ?_
  rintro e w2 ⟨b, rfl, hfw, d2⟩
  have B2 := Lib.hid (B1.out.trans (d2.mono B1.out.size))
  have HFW := Lib.hid hfw
  clear hfw d2 B1 FW
  cases b with
  | false =>
    go_wp2
    go_ret
    exact ⟨rfl, B2.out⟩
  | true =>
    obtain ⟨lx, ly, fl⟩ := HFW.out rfl
    have HFL := Lib.hid fl
    clear HFW fl
    have RL := Lib.hid (refLines_any w2 _ _ xs ys (HA.out.below B2.out) (HB.out.below B2.out))
    go_wp2_with fail
    refine RL.out.mono ?_
    rintro e w4 (⟨_, _, v4, rfl, own4, d4⟩ | ⟨k, g, hk, _⟩)
    case inr => unfold Over at hk; omega
    have b5 := (Below.refl w4.heap.size w4).alloc (Nat.le_refl _) (.cells #[.slice none 0 0, .int .i64 0] 33)
    have B5 := Lib.hid (B2.out.trans ((d4.mono B2.out.size).trans (b5.mono (Nat.le_trans B2.out.size d4.size))))
    have hle := ed_len xs ys
    have hl1 := edI_len (ed xs ys)
    have R4 := Reads.of_own (l := edI (ed xs ys)) cEd_len (by rw [edI_len, edI_cells]; exact own4)
    obtain ⟨a, ha⟩ : ∃ a, a = min around.toNat 16 := ⟨_, rfl⟩
    have h2 := hunks_two xs ys a lx ly (fun s hs => Nat.le_trans (HFL.out.s s hs) (by omega)) (fun s hs => Nat.le_trans (HFL.out.t s hs) (by omega))
    have h59 := hunks_59 xs ys a lx ly
    have hop := hunks_ops xs ys a
    have hdn := hunks_done xs ys a
    have hlo : ∀ e ∈ edI (ed xs ys), e.1 = 1 ∨ e.1 = 2 ∨ e.1 = 3 := fun e he => ops_of_ok (by have := edI_ok xs ys; rw [List.all_eq_true] at this; exact this e he)
    obtain ⟨l, hl⟩ : ∃ l, l = edI (ed xs ys) := ⟨_, rfl⟩
    rw [← hl] at R4 hl1 h2 h59 hop hdn hlo
    have hl100 : l.length ≤ 100 := by omega
    have hok := hunksP_ok l a hl100
    obtain ⟨hs, hhs⟩ : ∃ hs, hs = hunksP l a := ⟨_, rfl⟩
    rw [← hhs] at h2 h59 hop hdn hok
    have HOK := Lib.hid hok.2
    have hhl := hok.1
    have HTWO := Lib.hid h2
    have H59 := Lib.hid h59
    have HOP := Lib.hid hop
    have HDN := Lib.hid hdn
    have R5 := Lib.hid (R4.below b5)
    have TO := Lib.hid (toEd_any _ v4 l R5.out (by omega))
    have HU := Lib.hid (fun W v h => hunks_any W v l around h (by omega))
    have HR := Lib.hid (fun W v h => refHunks_any W v l around h (by omega) hlo)
    rw [← ha, ← hhs] at HU HR
    obtain ⟨A4, c4, rfl⟩ := own_formP own4
    clear hok own4 d4 b5 R4 RL hl1 hle hl hhs ha h2 h59 hop hdn hlo
    go_wp2_with fail
    refine TO.out.mono ?_
    rintro e w6 ⟨v6, rfl, own6, d6⟩
    have B6 := Lib.hid (B5.out.trans (d6.mono B5.out.size))
    have R6 := Lib.hid (R5.out.below d6)
    have HU := Lib.hid (HU.out w6 v6 (Reads.of_own cEd_len own6))
    obtain ⟨A6, c6, rfl⟩ := own_formP own6
    clear own6 d6 TO B5 R5
    go_wp2_with fail
    refine HU.out.mono ?_
    rintro e w7 ⟨v7, vals7, rfl, own7, hv7, d7⟩
    have B7 := Lib.hid (B6.out.trans (d7.mono B6.out.size))
    have H7 := Lib.hid (HksIn.of_own own7 hv7)
    have HR7 := Lib.hid (HR.out w7 _ (R6.out.below d7))
    obtain ⟨A7, c7, rfl⟩ := own_formP own7
    clear own7 hv7 d7 HU B6 R6 HR
    go_wp2_with fail
    refine HR7.out.mono ?_
    rintro e w8 ⟨v8, vals8, rfl, own8, hv8, d8⟩
    have B8 := Lib.hid (B7.out.trans (d8.mono B7.out.size))
    have H8 := Lib.hid (H7.out.below d8)
    have K8 := Lib.hid (HksIn.of_own own8 hv8)
    obtain ⟨A8, c8, rfl⟩ := own_formP own8
    have SM := Lib.hid (same_yes w8 _ _ hs H8.out K8.out)
    clear own8 hv8 d8 HR7 B7 H7
    go_wp2_with fail
    refine SM.out.mono ?_
    rintro e w9 ⟨rfl, q9, rfl⟩
    have B9 := Lib.hid (below_drewN B8.out q9)
    have d9 := below_drewN (Below.refl w8.heap.size w8) q9
    have H9 := Lib.hid (H8.out.below d9)
    have K9 := Lib.hid (K8.out.below d9)
    clear d9 SM H8 K8 B8
    generalize w8.drewN q9 = w9 at *
    obtain ⟨T, hT⟩ : ∃ T, T = strL (textL hs) := ⟨_, rfl⟩
    have TX := Lib.hid (ptext_any w9 _ hs H9.out (by omega) HTWO.out)
    rw [show (⟨(textL hs).toArray⟩ : ByteArray) = T from hT.symm] at TX
    have HT := Lib.hid (fun W v h => hunkText_any W v hs h (by omega) HTWO.out H59.out)
    rw [← hT] at HT
    clear hT
    go_wp2_with fail
    refine TX.out.mono ?_
    rintro e w10 ⟨rfl, d10⟩
    have B10 := Lib.hid (B9.out.trans (d10.mono B9.out.size))
    have H10 := Lib.hid (H9.out.below d10)
    have K10 := Lib.hid (K9.out.below d10)
    have HT10 := Lib.hid (HT.out w10 _ K10.out)
    clear d10 TX HT H9 K9 B9
    go_wp2_with fail
    refine HT10.out.mono ?_
    rintro e w11 ⟨rfl, d11⟩
    have B11 := Lib.hid (B10.out.trans (d11.mono B10.out.size))
    have H11 := Lib.hid (H10.out.below d11)
    have K11 := Lib.hid (K10.out.below d11)
    clear d11 HT10 H10 K10 B10
    have TN := Lib.hid (fun W v h => turnedG_any W v hs h (by omega) (fun x hx => ⟨by have := (HOK.out x hx).l; omega, HOP.out x hx⟩))
    have TR := Lib.hid (fun W v h => refTurned_any W v hs h (by omega) (fun x hx => ⟨by have := (HOK.out x hx).l; omega, HOP.out x hx⟩))
    have TN11 := Lib.hid (TN.out w11 _ H11.out)
    obtain ⟨ts, hts⟩ : ∃ ts, ts = hs.map turnG := ⟨_, rfl⟩
    have htl : ts.length ≤ 100 := by rw [hts, List.length_map]; omega
    have HTOK := Lib.hid (show ∀ h ∈ ts, HkOk h from fun h hh => by rw [hts] at hh; obtain ⟨x, hx, rfl⟩ := List.mem_map.1 hh; exact turnG_ok (HOK.out x hx))
    rw [← hts] at TN TR TN11 HDN
    clear hts
    go_wp2_with fail
    refine TN11.out.mono ?_
    rintro e w12 ⟨v12, vals12, rfl, own12, hv12, d12⟩
    have B12 := Lib.hid (B11.out.trans (d12.mono B11.out.size))
    have H12 := Lib.hid (H11.out.below d12)
    have K12 := Lib.hid (K11.out.below d12)
    have T12 := Lib.hid (HksIn.of_own own12 hv12)
    have TR12 := Lib.hid (TR.out w12 _ K12.out)
    obtain ⟨A12, c12, rfl⟩ := own_formP own12
    clear own12 hv12 d12 TN11 TR H11 K11 B11
    go_wp2_with fail
    refine TR12.out.mono ?_
    rintro e w13 ⟨v13, vals13, rfl, own13, hv13, d13⟩
    have B13 := Lib.hid (B12.out.trans (d13.mono B12.out.size))
    have H13 := Lib.hid (H12.out.below d13)
    have T13 := Lib.hid (T12.out.below d13)
    have SM := Lib.hid (same_yes w13 _ _ ts T13.out (HksIn.of_own own13 hv13))
    obtain ⟨A13, c13, rfl⟩ := own_formP own13
    clear own13 hv13 d13 TR12 H12 K12 B12 T12
    go_wp2_with fail
    refine SM.out.mono ?_
    rintro e w14 ⟨rfl, q14, rfl⟩
    have B14 := Lib.hid (below_drewN B13.out q14)
    have d14 := below_drewN (Below.refl w13.heap.size w13) q14
    have H14 := Lib.hid (H13.out.below d14)
    clear d14 SM H13 T13 B13
    generalize w13.drewN q14 = w14 at *
    have AP := apply_any w14 _ _ xs hs (HA.out.below B14.out) H14.out (by omega) (by omega) HOK.out
    rw [HDN.out.1] at AP
    have AP := Lib.hid AP
    go_wp2_with fail
    refine AP.out.mono ?_
    rintro e w15 h15
    obtain ⟨v15, rfl, own15, d15⟩ := applied_ok h15
    have P15 := Lib.hid own15
    obtain ⟨A15, c15, rfl⟩ := own_formP own15
    have B15 := Lib.hid (B14.out.trans (d15.mono B14.out.size))
    have H15 := Lib.hid (H14.out.below d15)
    have TN15 := Lib.hid (TN.out w15 _ H15.out)
    clear own15 d15 h15 AP H14 B14
    go_wp2_with fail
    refine TN15.out.mono ?_
    rintro e w16 ⟨v16, vals16, rfl, own16, hv16, d16⟩
    have B16 := Lib.hid (B15.out.trans (d16.mono B15.out.size))
    have P16 := Lib.hid (own2_keep P15.out d16)
    have AP := apply_any w16 _ _ ys ts (HB.out.below B16.out) (HksIn.of_own own16 hv16) (by omega) (by omega) HTOK.out
    rw [HDN.out.2] at AP
    have AP := Lib.hid AP
    obtain ⟨A16, c16, rfl⟩ := own_formP own16
    clear own16 hv16 d16 TN15 H15 B15 P15
    go_wp2_with fail
    refine AP.out.mono ?_
    rintro e w17 h17
    obtain ⟨v17, rfl, own17, d17⟩ := applied_ok h17
    have P17 := Lib.hid (Strs.of_own (own2_keep P16.out d17) rfl)
    have Q17 := Lib.hid (Strs.of_own own17 rfl)
    obtain ⟨A17, c17, rfl⟩ := own_formP own17
    have B17 := Lib.hid (B16.out.trans (d17.mono B16.out.size))
    have EQ := Lib.hid (refEqual_any w17 _ _ ys ys P17.out (HB.out.below B17.out))
    rw [decide_eq_true (rfl : ys = ys)] at EQ
    clear own17 d17 h17 AP B16 P16
    go_wp2_with fail
    refine EQ.out.mono ?_
    rintro e w18 ⟨q18, rfl, rfl⟩
    have B18 := Lib.hid (below_drewN B17.out q18)
    have EQ := Lib.hid (refEqual_any (w17.drewN q18) _ _ xs xs (Q17.out.drewN q18) (HA.out.below B18.out))
    rw [decide_eq_true (rfl : xs = xs)] at EQ
    clear P17 Q17 B17
    generalize w17.drewN q18 = w18 at *
    go_wp2_with fail
    refine EQ.out.mono ?_
    rintro e w19 ⟨q19, rfl, rfl⟩
    have B19 := Lib.hid (below_drewN B18.out q19)
    clear EQ
    go_wp2
    go_ret
    exact ⟨rfl, B19.out⟩
end Go.Proofs.YtdpoeagmeiedcaaDoor
