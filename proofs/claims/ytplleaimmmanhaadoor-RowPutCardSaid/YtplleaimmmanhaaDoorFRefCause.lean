/-
  rectoref14.Cause: what is wrong of a file by itself.
-/
import Derived.Test.YtplleaimmmanhaaDoorFRef
namespace Go.Proofs.YtplleaimmmanhaaDoor
open Go Go.RowKit

theorem mode_any (m : Int) (w : World) : Calls Tryd.prog 40 #[.int .i64 m] w fun e w' => e = .returned (.bool (decide (m = 1) || decide (m = 2))) ∧ w = w' := by
  by_cases h1 : m = 1
  · subst h1
    go_enter Tryd.func40, Tryd.ntmps40
    go_wp2
    go_ret
    exact ⟨rfl, rfl⟩
  · have e1 : (m == 1) = false := by simpa using h1
    by_cases h2 : m = 2
    · subst h2
      go_enter Tryd.func40, Tryd.ntmps40
      go_wp2
      go_ret
      exact ⟨rfl, rfl⟩
    · have e2 : (m == 2) = false := by simpa using h2
      have HV := Lib.hid (show (decide (m = 1) || decide (m = 2)) = false by simp [h1, h2])
      go_enter Tryd.func40, Tryd.ntmps40
      go_wp2
      go_ret
      exact ⟨ret_b HV.out.symm, rfl⟩

set_option maxRecDepth 100000 in
set_option maxHeartbeats 2000000 in
theorem refCause_any (w : World) (p : ByteArray) (m : Int) (d : ByteArray) (hp : p.size ≤ 9223372036854775807) (hd : d.size ≤ 9223372036854775807) :
    Calls Tryd.prog 19 #[.agg #[.string p, .int .i64 m, .string d]] w (NumTo (causeF (p, m, d)) w) := by
  obtain ⟨W1, hW1⟩ : ∃ W1, W1 = w.alloc (.cells #[.string p, .int .i64 m, .string d] 47) := ⟨_, rfl⟩
  have B1 : Below w.heap.size w W1 := by rw [hW1]; exact (Below.refl _ _).alloc (Nat.le_refl _) _
  have K1 : W1.heap[w.heap.size]? = some (.cells #[.string p, .int .i64 m, .string d] 47 (0, 0)) := by rw [hW1]; exact heap_alloc_new w _
  have CK := Lib.hid (refCheck_any p W1 hp)
  obtain ⟨G, hG⟩ : ∃ G, G = w.heap.size := ⟨_, rfl⟩
  have hG1 : G < W1.heap.size := by rw [hG, hW1]; simp
  rw [← hG] at K1
  have ZZ := Lib.hid fun W (hW : Below W1.heap.size W1 W) => (show W.cell? ⟨G, 0, none⟩ = some (.string p) ∧ W.cell? ⟨G, 1, none⟩ = some (.int .i64 m) ∧ W.cell? ⟨G, 2, none⟩ = some (.string d) from
    ⟨cell_of_row W G 0 _ 47 (0, 0) ((hW.block G hG1).trans K1), cell_of_row W G 1 _ 47 (0, 0) ((hW.block G hG1).trans K1), cell_of_row W G 2 _ 47 (0, 0) ((hW.block G hG1).trans K1)⟩)
  obtain ⟨y0, y1, y2⟩ := ZZ.out W1 (Below.refl _ _)
  have HB1 := Lib.hid B1
  have MD := Lib.hid fun W => mode_any m W
  have b1s := B1.size
  clear K1 B1
  go_enter Tryd.func19, Tryd.ntmps19
  go_wp2_with fail
  rw [← hW1, ← hG]
  clear hW1
  have HG := Lib.hid hG
  clear hG
  refine CK.out.mono ?_
  rintro e w2 ⟨rfl, b2⟩
  obtain ⟨z0, z1, z2⟩ := ZZ.out w2 b2
  have hGl : G < w2.heap.size := Nat.lt_of_lt_of_le hG1 b2.size
  have HB2 := Lib.hid (HB1.out.trans (b2.mono b1s))
  clear y0 y1 y2 CK HB1 b2
  by_cases hc : chk p.data.toList = 0
  · have hc1 : (chk p.data.toList == 0) = true := by simpa using hc
    have hc2 : (chk p.data.toList != 0) = false := by simpa using hc
    have HC := Lib.hid hc
    clear hc
    by_cases hm : m = 1 ∨ m = 2
    · have hmd : (decide (m = 1) || decide (m = 2)) = true := by simpa using hm
      rw [hmd] at MD
      by_cases hd1 : 4096 < d.size
      · have HV : Hid (causeF (p, m, d) = 4) := Lib.hid (by unfold causeF; simp [HC.out, hm, hd1])
        have hdi : (4096 : Int) < (d.size : Int) := by omega
        clear hm hmd
        go_wp2_with fail
        refine (MD.out _).mono ?_
        rintro e w' ⟨rfl, rfl⟩
        go_wp2_with fail
        go_ret
        exact ⟨ret_i HV.out.symm, HB2.out⟩
      · have HV : Hid (causeF (p, m, d) = 0) := Lib.hid (by unfold causeF; simp [HC.out, hm, hd1])
        have hdi : ¬ (4096 : Int) < (d.size : Int) := by omega
        clear hm hmd
        go_wp2_with fail
        refine (MD.out _).mono ?_
        rintro e w' ⟨rfl, rfl⟩
        go_wp2_with fail
        go_ret
        exact ⟨ret_i HV.out.symm, HB2.out⟩
    · have HV : Hid (causeF (p, m, d) = 1) := Lib.hid (by unfold causeF; simp [HC.out, hm])
      have hmd : (decide (m = 1) || decide (m = 2)) = false := by simpa using hm
      rw [hmd] at MD
      clear hm hmd
      go_wp2_with fail
      refine (MD.out _).mono ?_
      rintro e w' ⟨rfl, rfl⟩
      go_wp2_with fail
      go_ret
      exact ⟨ret_i HV.out.symm, HB2.out⟩
  · have HV : Hid (causeF (p, m, d) = chk p.data.toList) := Lib.hid (by unfold causeF; simp [hc])
    have hne : (chk p.data.toList == 0) = false := by simpa using hc
    have hne2 : (chk p.data.toList != 0) = true := by simpa using hc
    clear hc
    go_wp2_with fail
    go_ret
    exact ⟨ret_i HV.out.symm, HB2.out⟩
end Go.Proofs.YtplleaimmmanhaaDoor
