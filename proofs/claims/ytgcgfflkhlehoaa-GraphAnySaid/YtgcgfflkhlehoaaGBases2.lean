/-
  Bases, Base.
-/
import Derived.Test.YtgcgfflkhlehoaaGBases
namespace Go.Proofs.Ytgcgfflkhlehoaa
open Go.RowKit

theorem flat_len {gs : List (List Int)} (h2 : ∀ l ∈ gs, l.length ≤ 2) : ∀ (R : List Int), (R.flatMap (par gs)).length ≤ 2 * R.length
  | [] => by simp
  | x :: R => by
    have := flat_len h2 R
    have hp : (par gs x).length ≤ 2 := by
      unfold par
      rw [List.getD_eq_getElem?_getD]
      cases e : gs[x.toNat - 1]? with
      | none => simp
      | some l => exact h2 l (List.mem_of_getElem? e)
    simp only [List.flatMap_cons, List.length_append, List.length_cons]
    omega
theorem flat_take {gs : List (List Int)} {R : List Int} {k : Nat} {x : Int} (h : R[k]? = some x) : (R.take (k + 1)).flatMap (par gs) = (R.take k).flatMap (par gs) ++ par gs x := by
  rw [List.take_add_one, h]
  simp

set_option maxHeartbeats 4000000 in
theorem bases_any (w : World) (v : Value) (gs : List (List Int)) (a b : Int) (hG : Rows w v gs) (hN : gs.length ≤ 2000) (h2 : ∀ l ∈ gs, l.length ≤ 2) :
    Calls Try.prog 17 #[v, .int .i64 a, .int .i64 b] w (Nums w (basL gs a b)) := by
  obtain ⟨i0, hi, hz0, hz1, hz2⟩ := info_parts intInfo
  obtain ⟨Ag, cg, rfl⟩ := hG.form
  have hb0 := (Below.refl w.heap.size w).alloc (Nat.le_refl _) (.cells #[.int .i64 a] 3)
  have HR := Lib.hid (reach_any (w.alloc (.cells #[.int .i64 a] 3)) _ _ gs [a] (hG.below hb0) (Ints.lit w #[.int .i64 a] 3 [a] rfl (by simp [maxLen])) hN)
  have HG := Lib.hid hG
  have H2 := Lib.hid h2
  clear hG h2
  go_enter Try.func17, Try.ntmps17
  go_wp2_with fail
  refine HR.out.mono ?_
  rintro e w1 ⟨g1, rfl, ho1, hb⟩
  have hb1 := hb0.trans (hb.mono hb0.size)
  replace ho1 := own_le ho1 hb0.size
  have hb2 := hb1.alloc hb1.size (.cells #[.int .i64 b] 3)
  have HR2 := Lib.hid (reach_any (w1.alloc (.cells #[.int .i64 b] 3)) _ _ gs [b] (HG.out.below hb2) (Ints.lit w1 #[.int .i64 b] 3 [b] rfl (by simp [maxLen])) hN)
  clear hb hb0 HR
  go_wp2_with fail
  refine HR2.out.mono ?_
  rintro e w2 ⟨g2, rfl, ho2, hb⟩
  have ho3 := own_keep (own_keep ho1 ((Below.refl _ _).alloc (Nat.le_refl _) (.cells #[.int .i64 b] 3))) hb
  have hne : g1 ≠ g2 := by
    have h1 := (ho1.lt g1 rfl).2
    have h2 := (ho2.lt g2 rfl).1
    simp at h2
    omega
  have hb3 := hb2.trans (hb.mono hb2.size)
  replace ho2 := own_le ho2 hb2.size
  rw [← half_zero (com gs a b) (anc gs [a])] at ho3
  have HE : Hid (∀ k, com gs a b k = (anc gs [a] k && anc gs [b] k)) := Lib.hid fun k => rfl
  clear ho1 hb2 hb HR2
  have HP : Hid (pars gs a b = (rowF (gs.length + 1) (com gs a b)).flatMap (par gs)) := Lib.hid rfl
  have HB : Hid (∀ k, bas gs a b k = (com gs a b k && !anc gs (pars gs a b) k)) := Lib.hid fun k => rfl
  have Hres : Hid (basL gs a b = rowF (gs.length + 1) (bas gs a b)) := Lib.hid rfl
  have HV : Hid (∀ x ∈ rowF (gs.length + 1) (com gs a b), 1 ≤ x ∧ x ≤ gs.length) := Lib.hid fun x hx => by
    obtain ⟨i, _, h, rfl⟩ := mem_rowF.1 hx
    exact (com_iff.1 h).1.vld
  generalize bas gs a b = pb at *
  generalize com gs a b = p at *
  generalize anc gs [a] = f at *
  generalize anc gs [b] = f2 at *
  obtain ⟨N, hnn⟩ : ∃ N, gs.length + 1 = N := ⟨_, rfl⟩
  have HNN := Lib.hid hnn
  have hN1 : N ≤ 2001 := by omega
  rw [hnn] at ho3 ho2 HP HV Hres ⊢
  clear hnn
  go_wp2_with fail
  go_loopw [25] (fun s25 wr => ∃ k : Nat, k ≤ N ∧ s25 = .int .i64 k ∧ wr.ownsRow w.heap.size 4 1 (sl g1 N) N (bv (mkL N (half k p f))) ∧ wr.ownsRow w.heap.size 4 1 (sl g2 N) N (bv (mkL N f2)) ∧ Below w.heap.size w wr) (fun s25 _ => N - (intOf s25).toNat)
  case atStart => exact ⟨0, Nat.zero_le _, rfl, ho3, ho2, hb3⟩
  case round =>
    clear ho3 ho2 hb3
    obtain ⟨k, hk, rfl, h1, h2, hb⟩ := hrel
    have k0 : (0 : Int) ≤ (k : Int) := Int.natCast_nonneg _
    by_cases hlt : k < N
    · have k1 : (k : Int) < (N : Int) := by omega
      have c1 := bools_at h1 hlt
      rw [half_at] at c1
      have c2 := bools_at h2 hlt
      have z1 := h1.frozenAt k
      obtain ⟨h3, hg⟩ := bools_set (k := k) h1 (p k)
      rw [half_set] at h3
      rw [HE.out] at h3 hg
      have h4 := h2.kept hg (.inr (by simp [Value.ownBlock]; exact fun e => hne e.symm))
      have hb5 : Below w.heap.size w (wr.setCell ⟨g1, k, none⟩ (.bool (f k && f2 k))) := hb.setCell (h1.lt g1 rfl).1 _
      have H3 := Lib.hid h3
      have H4 := Lib.hid h4
      have H5 := Lib.hid hb5
      clear h1 h2 hb h3 h4 hb5 hg
      generalize f k = x at *
      generalize f2 k = y at *
      cases x <;> cases y
      all_goals
        simp only [Bool.and_true, Bool.and_false] at H3 H4 H5
        go_wp2
        go_roundw
        case rel => exact ⟨k + 1, by omega, by go_num, H3.out, H4.out, H5.out⟩
        case measure => simp [intOf]; omega
    · obtain rfl : k = N := by omega
      rw [half_all] at h1
      have HR := Lib.hid (row_any wr _ g1 _ p h1 (by omega))
      clear h2 HE
      obtain ⟨wa, hwa⟩ : ∃ wa : World, wa = wr := ⟨_, rfl⟩
      rw [← hwa] at h1 hb HR ⊢
      clear hwa
      go_wp2_with fail
      refine HR.out.mono ?_
      rintro e w3 ⟨x, rfl, ho, hb6⟩
      have hb7 := hb.trans (hb6.mono hb.size)
      have h3 := own_keep h1 hb6
      obtain ⟨B, d, rfl⟩ := own_form ho
      have hI := Ints.of_own ho rfl
      have HL := Lib.hid (rowF_len k p)
      clear HR h1 hb hb6 ho
      generalize hR1 : rowF k p = R1 at *
      have hRl : R1.length ≤ 2001 := by rw [← hR1]; exact Nat.le_trans (rowF_len k p) hN1
      clear hR1 HL
      go_wp2_with fail
      go_loopw [10, 45] (fun s10 s45 wr => ∃ j : Nat, j ≤ R1.length ∧ s45 = .int .i64 j ∧ wr.ownsRow w3.heap.size 3 1 s10 ((R1.take j).flatMap (par gs)).length (ivs ((R1.take j).flatMap (par gs))) ∧ Below w3.heap.size w3 wr) (fun _ s45 _ => R1.length - (intOf s45).toNat)
      case atStart => exact ⟨0, Nat.zero_le _, rfl, World.ownsRow_nil _ _ _ _, Below.refl _ _⟩
      case round =>
        obtain ⟨j, hj, rfl, hown, hb8⟩ := hrel
        have j0 : (0 : Int) ≤ (j : Int) := Int.natCast_nonneg _
        by_cases hlj : j < R1.length
        · have j1 : (j : Int) < (R1.length : Int) := by omega
          obtain ⟨x, hx⟩ : ∃ x, R1[j]? = some x := ⟨_, List.getElem?_eq_getElem hlj⟩
          obtain ⟨x1, x2⟩ := HV.out x (List.mem_of_getElem? hx)
          obtain ⟨ad, rfl, c1⟩ := (hI.below hb8).cell hx
          obtain ⟨l, hl⟩ : ∃ l, gs[x.toNat - 1]? = some l := ⟨_, List.getElem?_eq_getElem (by omega)⟩
          obtain ⟨ag, u, rfl, c2, hu⟩ := (HG.out.below (hb7.trans (hb8.mono hb7.size))).cell hl
          obtain ⟨A2, d2, rfl⟩ := hu.form
          have x3 : (0 : Int) ≤ x - 1 := by omega
          have x4 : x - 1 < (gs.length : Int) := by omega
          have HPX : Hid (par gs x = l) := Lib.hid (by unfold par; rw [List.getD_eq_getElem?_getD, hl]; rfl)
          have HT := Lib.hid (flat_take (gs := gs) hx)
          have hl2 : l.length ≤ 2 := H2.out l (List.mem_of_getElem? hl)
          have hfl := flat_len H2.out (R1.take j)
          rw [List.length_take] at hfl
          have hlo := hown.lt
          have hsz := hb8.size
          clear hx hl
          generalize (R1.take j).flatMap (par gs) = FL at *
          go_wp2_with (at_builtin; refine wpList_append_ints _ rfl _ _ 30 rfl w3.heap.size 3 i0 (.int .i64 0) 8 Try.underlying30 hi hz0 hz1 hz2 rfl _ _ _ rfl hown A2 d2 l rfl hu (by unfold maxLen; omega) (by omega) hsz ?_; intro v5 w5 hown5 hg5; have hb5 : Below w3.heap.size w3 w5 := hb8.grown hg5 hsz (fun z hz => (hlo z hz).1))
          go_roundw
          case rel => exact ⟨j + 1, by omega, by go_num, by rw [HT.out, HPX.out, List.length_append]; simpa [ivs] using hown5, hb5⟩
          case measure => simp [intOf]; omega
        · obtain rfl : j = R1.length := by omega
          rw [List.take_length] at hown
          rw [← HP.out] at hown
          have hb9 := hb7.trans (hb8.mono hb7.size)
          have h4 := own_keep h3 hb8
          obtain ⟨B3, d3, rfl⟩ := own_form hown
          obtain ⟨wc, hwc⟩ : ∃ wc : World, wc = wr := ⟨_, rfl⟩
          rw [← hwc] at hown hb8 hb9 h4 ⊢
          clear hwc
          have HR3 := Lib.hid (reach_any wc _ _ gs (pars gs a b) (HG.out.below hb9) (Ints.of_own hown rfl) hN)
          clear hb7 hb8 h3 hown hI HP
          go_wp2_with fail
          refine HR3.out.mono ?_
          rintro e w4 ⟨g3, rfl, ho5, hb10⟩
          rw [HNN.out] at ho5 ⊢
          have hne3 : g1 ≠ g3 := by
            have h1 := (h4.lt g1 rfl).2
            have h2 := (ho5.lt g3 rfl).1
            omega
          have h5 := own_keep h4 hb10
          have hb11 := hb9.trans (hb10.mono hb9.size)
          replace ho5 := own_le ho5 hb9.size
          rw [← half_zero pb p] at h5
          clear HR3 h4 hb9 hb10
          generalize anc gs (pars gs a b) = f3 at *
          go_wp2_with fail
          go_loopw [61] (fun s61 wr => ∃ m : Nat, m ≤ k ∧ s61 = .int .i64 m ∧ wr.ownsRow w.heap.size 4 1 (sl g1 k) k (bv (mkL k (half m pb p))) ∧ wr.ownsRow w.heap.size 4 1 (sl g3 k) k (bv (mkL k f3)) ∧ Below w.heap.size w wr) (fun s61 _ => k - (intOf s61).toNat)
          case atStart => exact ⟨0, Nat.zero_le _, rfl, h5, ho5, hb11⟩
          case round =>
            clear h5 ho5 hb11
            obtain ⟨m, hm, rfl, h1, h2, hb⟩ := hrel
            have m0 : (0 : Int) ≤ (m : Int) := Int.natCast_nonneg _
            by_cases hlm : m < k
            · have m1 : (m : Int) < (k : Int) := by omega
              have c1 := bools_at h1 hlm
              rw [half_at] at c1
              have c2 := bools_at h2 hlm
              have z1 := h1.frozenAt m
              obtain ⟨h3, hg⟩ := bools_set (k := m) h1 (pb m)
              rw [half_set] at h3
              rw [HB.out] at h3 hg
              have h4 := h2.kept hg (.inr (by simp [Value.ownBlock]; exact fun e => hne3 e.symm))
              have hb5 : Below w.heap.size w (wr.setCell ⟨g1, m, none⟩ (.bool (p m && !f3 m))) := hb.setCell (h1.lt g1 rfl).1 _
              have H3 := Lib.hid h3
              have H4 := Lib.hid h4
              have H5 := Lib.hid hb5
              clear h1 h2 hb h3 h4 hb5 hg
              generalize p m = x at *
              generalize f3 m = y at *
              cases x <;> cases y
              all_goals
                simp only [Bool.not_true, Bool.not_false, Bool.and_true, Bool.and_false] at H3 H4 H5
                go_wp2
                go_roundw
                case rel => exact ⟨m + 1, by omega, by go_num, H3.out, H4.out, H5.out⟩
                case measure => simp [intOf]; omega
            · obtain rfl : m = k := by omega
              rw [half_all] at h1
              have HR := Lib.hid (row_any wr _ g1 _ pb h1 (by omega))
              clear h1 h2
              go_wp2_with fail
              refine HR.out.mono ?_
              rintro e w6 ⟨x, rfl, ho, hb6⟩
              have hz := hb.size
              go_wp2
              go_ret
              rw [Hres.out]
              exact ⟨x, rfl, own_le ho hz, hb.trans (hb6.mono hz)⟩

/-- A number; nothing that was there has changed. -/
def Says (w : World) (x : Int) (e : Ending) (w' : World) : Prop := e = .returned (.int .i64 x) ∧ Below w.heap.size w w'

theorem base_any (w : World) (v : Value) (gs : List (List Int)) (a b : Int) (hG : Rows w v gs) (hN : gs.length ≤ 2000) (h2 : ∀ l ∈ gs, l.length ≤ 2) :
    Calls Try.prog 15 #[v, .int .i64 a, .int .i64 b] w (Says w (base1 gs a b)) := by
  have HB := Lib.hid (bases_any w v gs a b hG hN h2)
  have hll : (basL gs a b).length ≤ 2001 := Nat.le_trans (rowF_len _ _) (by omega)
  have HX : Hid (base1 gs a b = (basL gs a b).getLast?.getD 0) := Lib.hid rfl
  clear hG h2
  generalize basL gs a b = L at *
  go_enter Try.func15, Try.ntmps15
  go_wp2_with fail
  refine HB.out.mono ?_
  rintro e w1 ⟨x, rfl, ho, hb⟩
  clear HB
  obtain ⟨A, c, rfl⟩ := own_form ho
  rcases snoc_cases L with rfl | ⟨L, y, rfl⟩
  · clear ho
    go_wp2
    go_ret
    exact ⟨by rw [HX.out]; rfl, hb⟩
  · have hI := Ints.of_own ho rfl
    obtain ⟨ad, rfl, c1⟩ := hI.cell (k := L.length) (x := y) (by simp)
    have el : (L ++ [y]).length = L.length + 1 := by simp
    have HE : Hid (base1 gs a b = y) := Lib.hid (by rw [HX.out]; simp)
    rw [el] at hll ⊢
    clear ho hI el
    have l0 : (0 : Int) ≤ (L.length : Int) := by omega
    have l1 : (((L.length : Int) + 1 == 0)) = false := by rw [beq_eq_false_iff_ne]; omega
    go_wp2
    go_ret
    exact ⟨by rw [HE.out]; rfl, hb⟩

end Go.Proofs.Ytgcgfflkhlehoaa
