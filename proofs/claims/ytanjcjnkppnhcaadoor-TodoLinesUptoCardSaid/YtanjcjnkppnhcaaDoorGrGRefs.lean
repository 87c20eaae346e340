/-
  The reference's rising, Ancestors, Is, Only.
-/
import Derived.Test.YtanjcjnkppnhcaaDoorGrGMarks
namespace Go.Proofs.YtanjcjnkppnhcaaDoor.G
open Go.RowKit

/-- Marks from 1 on. -/
abbrev up (h : Nat → Bool) : Nat → Bool := fun i => h (i + 1)

set_option maxHeartbeats 2000000 in
theorem rising_any (w : World) (base g n : Nat) (h : Nat → Bool) (h0 : h 0 = false) (ho : w.ownsRow base 4 1 (sl g n) n (bv (mkL n (up h)))) (hn : n ≤ 2001) :
    Calls Tryd.prog 24 #[sl g n] w (Nums w (rowF (n + 1) h)) := by
  obtain ⟨i0, hi, hz0, hz1, hz2⟩ := info_parts intInfo
  have HH := Lib.hid ho
  have hs : rowF 1 h = [] := by rw [rowF_succ, h0]; rfl
  have Hs := Lib.hid hs
  clear ho hs h0
  go_enter Tryd.func24, Tryd.ntmps24
  go_wp2
  go_loopw [3, 4] (fun s3 s4 wr => ∃ k : Nat, k ≤ n ∧ s4 = .int .i64 k ∧ wr.ownsRow w.heap.size 3 1 s3 (rowF (k + 1) h).length (ivs (rowF (k + 1) h)) ∧ Below w.heap.size w wr) (fun _ s4 _ => n - (intOf s4).toNat)
  case atStart => exact ⟨0, Nat.zero_le _, rfl, by rw [Hs.out]; exact World.ownsRow_nil _ _ _ _, Below.refl _ _⟩
  case round =>
    obtain ⟨k, hk, rfl, hown, hb⟩ := hrel
    have k0 : (0 : Int) ≤ (k : Int) := Int.natCast_nonneg _
    have hl := rowF_len (k + 1) h
    by_cases hlt : k < n
    · have k1 : (k : Int) < (n : Int) := by omega
      have c1 := (own_keep HH.out hb).cellAt k (by omega)
      have hm : (bv (mkL n (up h)))[k]? = some (.bool (h (k + 1))) := by simp [mkL_at hlt]
      rw [hm] at c1
      have HN := Lib.hid (rowF_succ (k + 1) h)
      clear hm
      generalize rowF (k + 1) h = R at *
      cases hf : h (k + 1) with
      | true =>
        rw [hf] at c1
        have HE : Hid (rowF (k + 1 + 1) h = R ++ [(k : Int) + 1]) := Lib.hid (by rw [HN.out, hf, if_pos rfl]; congr 1)
        clear hf HN
        have hbase : w.heap.size ≤ (wr.alloc (.cells #[.int .i64 ((k : Int) + 1)] 3)).heap.size := by have := hb.size; simp; omega
        have hown4 := hown.alloc (.cells #[.int .i64 ((k : Int) + 1)] 3)
        have hb4 := hb.alloc hb.size (.cells #[.int .i64 ((k : Int) + 1)] 3)
        have hlo := hown.lt
        go_wp2_with (at_builtin; refine wpList_append_own _ rfl _ _ 42 rfl w.heap.size 3 i0 (.int .i64 0) 1 8 Tryd.underlying42 hi hz0 hz1 hz2 rfl (by decide) _ _ _ rfl hown4 ⟨wr.heap.size, 0, none⟩ 1 1 [.int .i64 ((k : Int) + 1)] rfl rfl (World.news_of_block (cs := #[.int .i64 ((k : Int) + 1)]) (t := 3) (fr := (0, 0)) (heap_alloc_new wr _)) (by simp [Value.oneCell']) (by unfold maxLen; omega) (by omega) hbase ?_; intro v5 w5 hown5 hg5 _; have hb5 : Below w.heap.size w w5 := hb4.grown hg5 hbase (fun z hz => (hlo z hz).1))
        go_roundw
        case rel => exact ⟨k + 1, by omega, by go_num, by rw [HE.out, List.length_append]; simpa [ivs] using hown5, hb5⟩
        case measure => simp [intOf]; omega
      | false =>
        rw [hf] at c1
        have HE : Hid (rowF (k + 1 + 1) h = R) := Lib.hid (by rw [HN.out, hf]; simp)
        clear hf HN
        go_wp2
        go_roundw
        case rel => exact ⟨k + 1, by omega, by go_num, by rw [HE.out]; exact hown, hb⟩
        case measure => simp [intOf]; omega
    · obtain rfl : k = n := by omega
      go_wp2
      go_ret
      exact ⟨_, rfl, hown, hb⟩

set_option maxHeartbeats 2000000 in
theorem refOnly_any (w : World) (v : Value) (gs : List (List Int)) (a b : Int) (hG : Rows w v gs) (hN : gs.length ≤ 2000) (ok : Ok gs) :
    Calls Tryd.prog 14 #[v, .int .i64 a, .int .i64 b] w (Nums w (onlL gs a b)) := by
  obtain ⟨A, cg, rfl⟩ := hG.form
  have hb0 := (Below.refl w.heap.size w).alloc (Nat.le_refl _) (.cells #[.int .i64 a] 3)
  have HR := Lib.hid (marks_any (w.alloc (.cells #[.int .i64 a] 3)) _ _ gs [a] (hG.below hb0) (Ints.lit w #[.int .i64 a] 3 [a] rfl (by simp [maxLen])) hN ok)
  have HG := Lib.hid hG
  have OK := Lib.hid ok
  clear hG ok
  go_enter Tryd.func14, Tryd.ntmps14
  go_wp2_with fail
  refine HR.out.mono ?_
  rintro e w1 ⟨g1, rfl, ho1, hb⟩
  have hb1 := hb0.trans (hb.mono hb0.size)
  replace ho1 := own_le ho1 hb0.size
  have hb2 := hb1.alloc hb1.size (.cells #[.int .i64 b] 3)
  have HR2 := Lib.hid (marks_any (w1.alloc (.cells #[.int .i64 b] 3)) _ _ gs [b] (HG.out.below hb2) (Ints.lit w1 #[.int .i64 b] 3 [b] rfl (by simp [maxLen])) hN OK.out)
  clear hb hb0 HR
  go_wp2_with fail
  refine HR2.out.mono ?_
  rintro e w2 ⟨g2, rfl, ho2, hb⟩
  have ho3 := own_keep (own_keep ho1 ((Below.refl _ _).alloc (Nat.le_refl _) (.cells #[.int .i64 b] 3))) hb
  have hne : g1 ≠ g2 := by
    have h1 := (ho1.lt g1 rfl).2
    have h2 := (ho2.lt g2 rfl).1
    simp at h2
    omega
  have hb3 := hb2.trans (hb.mono hb2.size)
  replace ho2 := own_le ho2 hb2.size
  rw [← half_zero (up (onl gs a b)) (fun i => anc gs [a] (i + 1))] at ho3
  have HE : Hid (∀ k, up (onl gs a b) k = (anc gs [a] (k + 1) && !anc gs [b] (k + 1))) := Lib.hid fun k => rfl
  have Hz : Hid (onl gs a b 0 = false) := Lib.hid (by unfold onl; rw [anc_zero]; rfl)
  have Hres : Hid (onlL gs a b = rowF (gs.length + 1) (onl gs a b)) := Lib.hid rfl
  clear ho1 hb2 hb HR2
  generalize onl gs a b = p at *
  generalize anc gs [a] = f at *
  generalize anc gs [b] = f2 at *
  go_wp2_with fail
  go_loopw [9] (fun s9 wr => ∃ k : Nat, k ≤ gs.length ∧ s9 = .int .i64 k ∧ wr.ownsRow w.heap.size 4 1 (sl g1 gs.length) gs.length (bv (mkL gs.length (half k (up p) (fun i => f (i + 1))))) ∧ wr.ownsRow w.heap.size 4 1 (sl g2 gs.length) gs.length (bv (mkL gs.length (fun i => f2 (i + 1)))) ∧ Below w.heap.size w wr) (fun s9 _ => gs.length - (intOf s9).toNat)
  case atStart => exact ⟨0, Nat.zero_le _, rfl, ho3, ho2, hb3⟩
  case round =>
    clear ho3 ho2 hb3
    obtain ⟨k, hk, rfl, h1, h2, hb⟩ := hrel
    have k0 : (0 : Int) ≤ (k : Int) := Int.natCast_nonneg _
    by_cases hlt : k < gs.length
    · have k1 : (k : Int) < (gs.length : Int) := by omega
      have c1 := bools_at h1 hlt
      rw [half_at] at c1
      have c2 := bools_at h2 hlt
      have z1 := h1.frozenAt k
      obtain ⟨h3, hg⟩ := bools_set (k := k) h1 (up p k)
      rw [half_set] at h3
      rw [HE.out] at h3 hg
      have h4 := h2.kept hg (.inr (by simp [Value.ownBlock]; exact fun e => hne e.symm))
      have hb5 : Below w.heap.size w (wr.setCell ⟨g1, k, none⟩ (.bool (f (k + 1) && !f2 (k + 1)))) := hb.setCell (h1.lt g1 rfl).1 _
      have H3 := Lib.hid h3
      have H4 := Lib.hid h4
      have H5 := Lib.hid hb5
      clear h1 h2 hb h3 h4 hb5 hg
      generalize f (k + 1) = x at *
      generalize f2 (k + 1) = y at *
      cases x <;> cases y
      all_goals
        simp only [Bool.not_true, Bool.not_false, Bool.and_true, Bool.and_false] at H3 H4 H5
        go_wp2
        go_roundw
        case rel => exact ⟨k + 1, by omega, by go_num, H3.out, H4.out, H5.out⟩
        case measure => simp [intOf]; omega
    · obtain rfl : k = gs.length := by omega
      rw [half_all] at h1
      have HR := Lib.hid (rising_any wr _ g1 _ p Hz.out h1 (by omega))
      clear h1 h2
      go_wp2_with fail
      refine HR.out.mono ?_
      rintro e w3 ⟨x, rfl, ho, hb6⟩
      have hz := hb.size
      go_wp2
      go_ret
      rw [Hres.out]
      exact ⟨x, rfl, own_le ho hz, hb.trans (hb6.mono hz)⟩

end Go.Proofs.YtanjcjnkppnhcaaDoor.G
