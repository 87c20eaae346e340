/-
  The reference's Bases, Base.
-/
import Derived.Test.YtgcgfflkhlehoaaGRefs
namespace Go.Proofs.Ytgcgfflkhlehoaa
open Go.RowKit

theorem par_at {gs : List (List Int)} {k : Nat} {l : List Int} (h : gs[k]? = some l) : par gs ((k + 1 : Nat) : Int) = l := by
  unfold par
  rw [List.getD_eq_getElem?_getD, show ((k + 1 : Nat) : Int).toNat - 1 = k by omega, h]
  rfl

set_option maxHeartbeats 8000000 in
theorem refBases_any (w : World) (v : Value) (gs : List (List Int)) (a b : Int) (hG : Rows w v gs) (hN : gs.length ≤ 2000) (ok : Ok gs) (h2 : ∀ l ∈ gs, l.length ≤ 2) :
    Calls Try.prog 18 #[v, .int .i64 a, .int .i64 b] w (Nums w (basL gs a b)) := by
  obtain ⟨i0, hi, hz0, hz1, hz2⟩ := info_parts intInfo
  obtain ⟨j0', hj, yz0, yz1, yz2⟩ := info_parts boolInfo
  obtain ⟨A, cg, rfl⟩ := hG.form
  have hmk : ∀ W : World, (Instr.makeSlice 41 (.int .i64 (gs.length : Int)) (.int .i64 (gs.length : Int))).run Try.prog W = .ok (sl W.heap.size gs.length) (W.alloc (.cells (madeCells #[Value.bool false] gs.length) 4)) := fun W => by
    have := run_make_rowN (P := Try.prog) 41 4 j0' (.bool false) Try.underlying41 hj yz0 .i64 .i64 gs.length gs.length (Nat.le_refl _) (by rw [yz2]; omega) (by omega) W
    simp only [yz1, Nat.mul_one] at this
    exact this
  have hb0 := (Below.refl w.heap.size w).alloc (Nat.le_refl _) (.cells #[.int .i64 a] 3)
  have HR := Lib.hid (marks_any (w.alloc (.cells #[.int .i64 a] 3)) _ _ gs [a] (hG.below hb0) (Ints.lit w #[.int .i64 a] 3 [a] rfl (by simp [maxLen])) hN ok)
  have HG := Lib.hid hG
  have OK := Lib.hid ok
  have H2 := Lib.hid h2
  clear hG ok h2
  go_enter Try.func18, Try.ntmps18
  go_wp2_with fail
  refine HR.out.mono ?_
  rintro e w1 ⟨g1, rfl, ho1, hb⟩
  have hb1 := hb0.trans (hb.mono hb0.size)
  replace ho1 := own_le ho1 hb0.size
  have hb2 := hb1.alloc hb1.size (.cells #[.int .i64 b] 3)
  have HR2 := Lib.hid (marks_any (w1.alloc (.cells #[.int .i64 b] 3)) _ _ gs [b] (HG.out.below hb2) (Ints.lit w1 #[.int .i64 b] 3 [b] rfl (by simp [maxLen])) hN OK.out)
  clear hb hb0 HR
  go_wp2_with fail
  refine HR2.out.mono ?_
  rintro e w2 ⟨g2, rfl, ho2, hb⟩
  have ho3 := own_keep (own_keep ho1 ((Below.refl _ _).alloc (Nat.le_refl _) (.cells #[.int .i64 b] 3))) hb
  have hb3 := hb2.trans (hb.mono hb2.size)
  replace ho2 := own_le ho2 hb2.size
  have HE : Hid (∀ k, up (com gs a b) k = (anc gs [a] (k + 1) && anc gs [b] (k + 1))) := Lib.hid fun k => rfl
  have Hz : Hid (com gs a b 0 = false) := Lib.hid (by unfold com; rw [anc_zero]; rfl)
  have HP : Hid (pars gs a b = (rowF (gs.length + 1) (com gs a b)).flatMap (par gs)) := Lib.hid rfl
  have HB : Hid (∀ k, up (bas gs a b) k = (com gs a b (k + 1) && !anc gs (pars gs a b) (k + 1))) := Lib.hid fun k => rfl
  have Hz2 : Hid (bas gs a b 0 = false) := Lib.hid (by unfold bas; rw [Hz.out]; rfl)
  have Hres : Hid (basL gs a b = rowF (gs.length + 1) (bas gs a b)) := Lib.hid rfl
  clear ho1 hb2 hb HR2
  generalize bas gs a b = pb at *
  generalize com gs a b = p at *
  generalize anc gs [a] = f at *
  generalize anc gs [b] = f2 at *
  obtain ⟨g3, hg3⟩ : ∃ g, g = w2.heap.size := ⟨_, rfl⟩
  have o3 : (w2.alloc (.cells (madeCells #[Value.bool false] gs.length) 4)).ownsRow w2.heap.size 4 1 (sl w2.heap.size gs.length) gs.length (bv (mkL gs.length (half 0 (up p) (fun _ => false)))) := by
    have h := made_bools w2 w2.heap.size gs.length (Nat.le_refl _) (by unfold maxLen; omega)
    have e : List.replicate gs.length false = mkL gs.length (half 0 (up p) (fun _ => false)) := by
      rw [half_zero]
      exact mkL_of (by simp) fun i hi => by rw [List.getElem?_replicate, if_pos hi]
    rw [e] at h
    exact h
  have p1 := ho3.alloc (.cells (madeCells #[Value.bool false] gs.length) 4)
  have p2 := ho2.alloc (.cells (madeCells #[Value.bool false] gs.length) 4)
  have hb4 := hb3.alloc hb3.size (.cells (madeCells #[Value.bool false] gs.length) 4)
  have n1 : g1 ≠ g3 := by have := (ho3.lt g1 rfl).2; omega
  have n2 : g2 ≠ g3 := by have := (ho2.lt g2 rfl).2; omega
  have hle := hb3.size
  rw [← hg3] at o3
  have Hg3 := Lib.hid hg3
  have O3 := Lib.hid (own_le o3 (by omega : w.heap.size ≤ g3))
  have P1 := Lib.hid p1
  have P2 := Lib.hid p2
  have B4 := Lib.hid hb4
  clear o3 p1 p2 hb4 ho3 ho2 hb3 hle
  go_wp2_with fail
  rw [← hg3]
  clear hg3
  go_loopw [10] (fun s10 wr => ∃ k : Nat, k ≤ gs.length ∧ s10 = .int .i64 k ∧ wr.ownsRow w.heap.size 4 1 (sl g3 gs.length) gs.length (bv (mkL gs.length (half k (up p) (fun _ => false)))) ∧ wr.ownsRow w.heap.size 4 1 (sl g1 gs.length) gs.length (bv (mkL gs.length (fun i => f (i + 1)))) ∧ wr.ownsRow w.heap.size 4 1 (sl g2 gs.length) gs.length (bv (mkL gs.length (fun i => f2 (i + 1)))) ∧ Below w.heap.size w wr) (fun s10 _ => gs.length - (intOf s10).toNat)
  case atStart => exact ⟨0, Nat.zero_le _, rfl, O3.out, P1.out, P2.out, B4.out⟩
  case round =>
    clear O3 P1 P2 B4
    obtain ⟨k, hk, rfl, h3, h1, h2, hb⟩ := hrel
    have k0 : (0 : Int) ≤ (k : Int) := Int.natCast_nonneg _
    by_cases hlt : k < gs.length
    · have k1 : (k : Int) < (gs.length : Int) := by omega
      have c1 := bools_at h1 hlt
      have c2 := bools_at h2 hlt
      have c3 := bools_at h3 hlt
      have z3 := h3.frozenAt k
      obtain ⟨h4, hg⟩ := bools_set (k := k) h3 (up p k)
      rw [half_set] at h4
      rw [HE.out] at h4 hg
      have h5 := h1.kept hg (.inr (by simp [Value.ownBlock]; exact n1))
      have h6 := h2.kept hg (.inr (by simp [Value.ownBlock]; exact n2))
      have hb5 : Below w.heap.size w (wr.setCell ⟨g3, k, none⟩ (.bool (f (k + 1) && f2 (k + 1)))) := hb.setCell (h3.lt g3 rfl).1 _
      have H4 := Lib.hid h4
      have H5 := Lib.hid h5
      have H6 := Lib.hid h6
      have H7 := Lib.hid hb5
      clear h1 h2 h3 hb h4 h5 h6 hb5 hg
      generalize f (k + 1) = x at *
      generalize f2 (k + 1) = y at *
      cases x <;> cases y
      all_goals
        simp only [Bool.and_true, Bool.and_false] at H4 H5 H6 H7
        go_wp2
        go_roundw
        case rel => exact ⟨k + 1, by omega, by go_num, H4.out, H5.out, H6.out, H7.out⟩
        case measure => simp [intOf]; omega
    · obtain rfl : k = gs.length := by omega
      rw [half_all] at h3
      clear h1 h2 HE
      obtain ⟨w3, hw3⟩ : ∃ wa : World, wa = wr := ⟨_, rfl⟩
      rw [← hw3] at h3 hb ⊢
      clear hw3
      have hz : rowF 1 p = [] := by rw [rowF_succ, Hz.out]; rfl
      have HZ := Lib.hid hz
      clear hz
      go_wp2_with fail
      go_loopw [11, 12] (fun s11 s12 wr => ∃ j : Nat, j ≤ gs.length ∧ s12 = .int .i64 j ∧ wr.ownsRow w3.heap.size 3 1 s11 ((rowF (j + 1) p).flatMap (par gs)).length (ivs ((rowF (j + 1) p).flatMap (par gs))) ∧ Below w3.heap.size w3 wr) (fun _ s12 _ => gs.length - (intOf s12).toNat)
      case atStart => exact ⟨0, Nat.zero_le _, rfl, by rw [HZ.out]; exact World.ownsRow_nil _ _ _ _, Below.refl _ _⟩
      case round =>
        obtain ⟨j, hjl, rfl, hown, hb8⟩ := hrel
        have j0 : (0 : Int) ≤ (j : Int) := Int.natCast_nonneg _
        by_cases hlj : j < gs.length
        · have j1 : (j : Int) < (gs.length : Int) := by omega
          have c1 := bools_at (own_keep h3 hb8) hlj
          have HN := Lib.hid (rowF_succ (j + 1) p)
          have hfl := flat_len H2.out (rowF (j + 1) p)
          have hrl := rowF_len (j + 1) p
          cases hf : p (j + 1) with
          | true =>
            have c1' : wr.cell? ⟨g3, j, none⟩ = some (.bool true) := by rw [c1]; show some (Value.bool (p (j + 1))) = _; rw [hf]
            clear c1
            obtain ⟨l, hl⟩ : ∃ l, gs[j]? = some l := ⟨_, List.getElem?_eq_getElem hlj⟩
            obtain ⟨ag, u, rfl, c2, hu⟩ := (HG.out.below (hb.trans (hb8.mono hb.size))).cell hl
            obtain ⟨E, de, rfl⟩ := hu.form
            have HT : Hid ((rowF (j + 1 + 1) p).flatMap (par gs) = (rowF (j + 1) p).flatMap (par gs) ++ l) := Lib.hid (by rw [HN.out, hf, if_pos rfl, List.flatMap_append]; simp only [List.flatMap_cons, List.flatMap_nil, List.append_nil]; rw [par_at hl])
            have hl2 : l.length ≤ 2 := H2.out l (List.mem_of_getElem? hl)
            have hlo := hown.lt
            have hsz := hb8.size
            clear hl hf HN
            generalize (rowF (j + 1) p).flatMap (par gs) = FL at *
            go_wp2_with (at_builtin; refine wpList_append_ints _ rfl _ _ 30 rfl w3.heap.size 3 i0 (.int .i64 0) 8 Try.underlying30 hi hz0 hz1 hz2 rfl _ _ _ rfl hown E de l rfl hu (by unfold maxLen; omega) (by omega) hsz ?_; intro v5 w5 hown5 hg5; have hb5 : Below w3.heap.size w3 w5 := hb8.grown hg5 hsz (fun z hz => (hlo z hz).1))
            go_roundw
            case rel => exact ⟨j + 1, by omega, by go_num, by rw [HT.out, List.length_append]; simpa [ivs] using hown5, hb5⟩
            case measure => simp [intOf]; omega
          | false =>
            have c1' : wr.cell? ⟨g3, j, none⟩ = some (.bool false) := by rw [c1]; show some (Value.bool (p (j + 1))) = _; rw [hf]
            clear c1
            have HT : Hid (rowF (j + 1 + 1) p = rowF (j + 1) p) := Lib.hid (by rw [HN.out, hf]; simp)
            clear hf HN
            go_wp2_with fail
            go_roundw
            case rel => exact ⟨j + 1, by omega, by go_num, by rw [HT.out]; exact hown, hb8⟩
            case measure => simp [intOf]; omega
        · obtain rfl : j = gs.length := by omega
          rw [← HP.out] at hown
          have hb9 := hb.trans (hb8.mono hb.size)
          have h4 := own_keep h3 hb8
          obtain ⟨B3, d3, rfl⟩ := own_form hown
          obtain ⟨wc, hwc⟩ : ∃ wc : World, wc = wr := ⟨_, rfl⟩
          rw [← hwc] at hown hb8 hb9 h4 ⊢
          clear hwc
          have HR3 := Lib.hid (marks_any wc _ _ gs (pars gs a b) (HG.out.below hb9) (Ints.of_own hown rfl) hN OK.out)
          clear hb8 h3 hown HP
          go_wp2_with fail
          refine HR3.out.mono ?_
          rintro e w4 ⟨g4, rfl, ho5, hb10⟩
          have hne3 : g3 ≠ g4 := by
            have h1 := (h4.lt g3 rfl).2
            have h2 := (ho5.lt g4 rfl).1
            omega
          have h5 := own_keep h4 hb10
          have hb11 := hb9.trans (hb10.mono hb9.size)
          replace ho5 := own_le ho5 hb9.size
          rw [← half_zero (up pb) (up p)] at h5
          clear HR3 h4 hb9 hb10
          generalize anc gs (pars gs a b) = f3 at *
          go_wp2_with fail
          go_loopw [14] (fun s14 wr => ∃ m : Nat, m ≤ gs.length ∧ s14 = .int .i64 m ∧ wr.ownsRow w.heap.size 4 1 (sl g3 gs.length) gs.length (bv (mkL gs.length (half m (up pb) (up p)))) ∧ wr.ownsRow w.heap.size 4 1 (sl g4 gs.length) gs.length (bv (mkL gs.length (fun i => f3 (i + 1)))) ∧ Below w.heap.size w wr) (fun s14 _ => gs.length - (intOf s14).toNat)
          case atStart => exact ⟨0, Nat.zero_le _, rfl, h5, ho5, hb11⟩
          case round =>
            clear h5 ho5 hb11
            obtain ⟨m, hm, rfl, h1, h2, hb⟩ := hrel
            have m0 : (0 : Int) ≤ (m : Int) := Int.natCast_nonneg _
            by_cases hlm : m < gs.length
            · have m1 : (m : Int) < (gs.length : Int) := by omega
              have c1 := bools_at h1 hlm
              rw [half_at] at c1
              have c2 := bools_at h2 hlm
              have z1 := h1.frozenAt m
              obtain ⟨h3, hg⟩ := bools_set (k := m) h1 (up pb m)
              rw [half_set] at h3
              rw [HB.out] at h3 hg
              have h4 := h2.kept hg (.inr (by simp [Value.ownBlock]; exact fun e => hne3 e.symm))
              have hb5 : Below w.heap.size w (wr.setCell ⟨g3, m, none⟩ (.bool (p (m + 1) && !f3 (m + 1)))) := hb.setCell (h1.lt g3 rfl).1 _
              have H3 := Lib.hid h3
              have H4 := Lib.hid h4
              have H5 := Lib.hid hb5
              change wr.cell? ⟨g3, m, none⟩ = some (.bool (p (m + 1))) at c1
              clear h1 h2 hb h3 h4 hb5 hg
              generalize p (m + 1) = x at *
              generalize f3 (m + 1) = y at *
              cases x <;> cases y
              all_goals
                simp only [Bool.not_true, Bool.not_false, Bool.and_true, Bool.and_false] at H3 H4 H5
                go_wp2
                go_roundw
                case rel => exact ⟨m + 1, by omega, by go_num, H3.out, H4.out, H5.out⟩
                case measure => simp [intOf]; omega
            · obtain rfl : m = gs.length := by omega
              rw [half_all] at h1
              have HR := Lib.hid (rising_any wr _ g3 _ pb Hz2.out h1 (by omega))
              clear h1 h2
              go_wp2_with fail
              refine HR.out.mono ?_
              rintro e w6 ⟨x, rfl, ho, hb6⟩
              have hz := hb.size
              go_wp2
              go_ret
              rw [Hres.out]
              exact ⟨x, rfl, own_le ho hz, hb.trans (hb6.mono hz)⟩

theorem refBase_any (w : World) (v : Value) (gs : List (List Int)) (a b : Int) (hG : Rows w v gs) (hN : gs.length ≤ 2000) (ok : Ok gs) (h2 : ∀ l ∈ gs, l.length ≤ 2) :
    Calls Try.prog 16 #[v, .int .i64 a, .int .i64 b] w (Says w (base1 gs a b)) := by
  have HB := Lib.hid (refBases_any w v gs a b hG hN ok h2)
  have hll : (basL gs a b).length ≤ 2001 := Nat.le_trans (rowF_len _ _) (by omega)
  have HX : Hid (base1 gs a b = (basL gs a b).getLast?.getD 0) := Lib.hid rfl
  clear hG h2 ok
  generalize basL gs a b = L at *
  go_enter Try.func16, Try.ntmps16
  go_wp2_with fail
  refine HB.out.mono ?_
  rintro e w1 ⟨x, rfl, ho, hb⟩
  clear HB
  obtain ⟨A, c, rfl⟩ := own_form ho
  rcases snoc_cases L with rfl | ⟨L, y, rfl⟩
  · clear ho
    go_wp2
    go_ret
    exact ⟨by rw [HX.out]; rfl, hb⟩
  · have hI := Ints.of_own ho rfl
    obtain ⟨ad, rfl, c1⟩ := hI.cell (k := L.length) (x := y) (by simp)
    have el : (L ++ [y]).length = L.length + 1 := by simp
    have HE : Hid (base1 gs a b = y) := Lib.hid (by rw [HX.out]; simp)
    rw [el] at hll ⊢
    clear ho hI el
    have l0 : (0 : Int) ≤ (L.length : Int) := by omega
    have l1 : (((L.length : Int) + 1 == 0)) = false := by rw [beq_eq_false_iff_ne]; omega
    go_wp2
    go_ret
    exact ⟨by rw [HE.out]; rfl, hb⟩

end Go.Proofs.Ytgcgfflkhlehoaa
