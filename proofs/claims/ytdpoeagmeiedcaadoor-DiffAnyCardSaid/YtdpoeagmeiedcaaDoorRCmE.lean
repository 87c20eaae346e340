/-
  rectoref11.Common; rectolaw11.Edits.
-/
import Derived.Test.YtdpoeagmeiedcaaDoorRLin
import Derived.Test.YtdpoeagmeiedcaaDoorCommon
namespace Go.Proofs.YtdpoeagmeiedcaaDoor
open Go Go.RowKit

set_option maxHeartbeats 1000000 in
theorem refCommon_any (w : World) (v u : Value) (xs ys : List ByteArray) (h : Strs w v xs) (g : Strs w u ys) (hxl : xs.length ≤ 256) (hyl : ys.length ≤ 256) :
    Calls Tryd.prog 17 #[v, u] w (Costs w (lc xs ys)) := by
  have TB := Lib.hid (refCommon_tab w v u xs ys h g hxl hyl)
  clear h g
  obtain ⟨N, hN⟩ : ∃ N, N = xs.length + 1 := ⟨_, rfl⟩
  obtain ⟨M, hM⟩ : ∃ M, M = ys.length + 1 := ⟨_, rfl⟩
  have HN := Lib.hid hN
  have HM := Lib.hid hM
  have hN0 : (0 : Int) < (N : Int) := by omega
  have hM0 : (0 : Int) < (M : Int) := by omega
  clear hM
  go_enter Tryd.func17, Tryd.ntmps17
  go_wp2_with fail
  refine TB.out.mono ?_
  rintro e w2 ⟨G, rfl, hGl, hO, hb⟩
  rw [← hN]
  clear hN
  have TA := TabAt.of hO
  have r0 := TA.row 0 (by omega)
  have r1 := TA.cell 0 0 (by omega) (by omega)
  rw [← HM.out] at r0
  have e0 : cT xs ys 0 0 = lc xs ys := by unfold cT; simp
  rw [e0] at r1
  rw [Nat.sub_zero] at r0 r1
  clear e0 TA hO
  go_wp2
  go_ret
  exact ⟨rfl, hb⟩

set_option maxHeartbeats 2000000 in
/-- The law's own look: the same edits. -/
theorem edits_same (w : World) (b1 b2 : Nat) (v u : Value) (l : List (Nat × ByteArray)) (h : w.ownsRow b1 66 2 v l.length (edCells l)) (g : w.ownsRow b2 91 2 u l.length (edCells l)) (hl : l.length ≤ 1000) :
    Calls Tryd.prog 15 #[v, u] w (YesB w) := by
  have HO := Lib.hid h
  have HG := Lib.hid g
  obtain ⟨A, m, c, rfl⟩ : ∃ A m c, v = .slice A m c := by
    rcases h.2 with ⟨rfl, _⟩ | ⟨g, cap, cur, rfl, _⟩
    · exact ⟨_, _, _, rfl⟩
    · exact ⟨_, _, _, rfl⟩
  obtain rfl : m = l.length := by
    rcases h.2 with ⟨e, e2⟩ | ⟨g, cap, cur, e, _⟩
    · cases e; exact e2.symm
    · cases e; rfl
  obtain ⟨B, m, d, rfl⟩ : ∃ A m c, u = .slice A m c := by
    rcases g.2 with ⟨rfl, _⟩ | ⟨g, cap, cur, rfl, _⟩
    · exact ⟨_, _, _, rfl⟩
    · exact ⟨_, _, _, rfl⟩
  obtain rfl : m = l.length := by
    rcases g.2 with ⟨e, e2⟩ | ⟨g, cap, cur, e, _⟩
    · cases e; exact e2.symm
    · cases e; rfl
  clear h g
  go_enter Tryd.func15, Tryd.ntmps15
  go_wp2_with fail
  go_loopw [5] (fun s5 wr => ∃ k q : Nat, k ≤ l.length ∧ s5 = .int .i64 k ∧ wr = w.drewN q) (fun s5 _ => l.length - (intOf s5).toNat)
  case atStart => exact ⟨0, 0, Nat.zero_le _, rfl, rfl⟩
  case round =>
    obtain ⟨k, q, hk, rfl, rfl⟩ := hrel
    have k0 : (0 : Int) ≤ (k : Int) := Int.natCast_nonneg _
    by_cases hlt : k < l.length
    · obtain ⟨⟨op, s⟩, hs⟩ : ∃ x, l[k]? = some x := ⟨_, List.getElem?_eq_getElem hlt⟩
      obtain ⟨g1, rfl⟩ : ∃ g, A = some ⟨g, 0, none⟩ := by
        rcases HO.out.2 with ⟨_, e2⟩ | ⟨g, cap, cur, e, _⟩
        · omega
        · cases e; exact ⟨_, rfl⟩
      obtain ⟨g2, rfl⟩ : ∃ g, B = some ⟨g, 0, none⟩ := by
        rcases HG.out.2 with ⟨_, e2⟩ | ⟨g, cap, cur, e, _⟩
        · omega
        · cases e; exact ⟨_, rfl⟩
      have k1 : (k : Int) < (l.length : Int) := by omega
      obtain ⟨x1, x2⟩ := edCells_at hs
      have c1 := own2_at HO.out x1
      have c2 := own2_at HO.out x2
      have c3 := own2_at HG.out x1
      have c4 := own2_at HG.out x2
      clear x1 x2 hs
      go_wp2_with fail
      go_quiet (fail)
      go_wp2
      go_roundw
      case rel => exact ⟨k + 1, _, by omega, by go_num, rfl⟩
      case measure => simp [intOf]; omega
    · obtain rfl : k = l.length := by omega
      go_wp2
      go_ret
      exact ⟨rfl, below_drewN (Below.refl _ _) _⟩
end Go.Proofs.YtdpoeagmeiedcaaDoor
