/-
  (Row).refuses: why a file can't follow the files of a row.
-/
import Derived.Test.YtapcnmnnichamaaGreatDoorFIdx
import Derived.Test.YtapcnmnnichamaaGreatDoorFChk
import Derived.Test.YtapcnmnnichamaaGreatDoorPCheck
namespace Go.Proofs.YtapcnmnnichamaaGreatDoor
open Go Go.RowKit

def NumTo (n : Int) (w : World) (e : Ending) (w' : World) : Prop := e = .returned (.int .i64 n) ∧ Below w.heap.size w w'

set_option maxRecDepth 100000 in
set_option maxHeartbeats 4000000 in
theorem refuses_any (w : World) (v : Value) (l : List Fl) (f : Fl) (h : Reads 3 cF w v l) (hs : Sized l) (hf : f.1.size ≤ 1000000) (hd : f.2.2.size ≤ 1000000) (hl : l.length ≤ 100000) :
    Calls Tryz.prog 34 #[v, .agg #[.string f.1, .int .i64 f.2.1, .string f.2.2]] w (NumTo (refF l f) w) := by
  obtain ⟨p, m, d⟩ := f
  simp only at hf hd
  obtain ⟨W1, hW1⟩ : ∃ W1, W1 = w.alloc (.cells #[.string p, .int .i64 m, .string d] 49) := ⟨_, rfl⟩
  have B1 : Below w.heap.size w W1 := by rw [hW1]; exact (Below.refl _ _).alloc (Nat.le_refl _) _
  have K1 : W1.heap[w.heap.size]? = some (.cells #[.string p, .int .i64 m, .string d] 49 (0, 0)) := by rw [hW1]; exact heap_alloc_new w _
  have CK := Lib.hid (check_any p W1 (by omega))
  obtain ⟨G, hG⟩ : ∃ G, G = w.heap.size := ⟨_, rfl⟩
  have hG1 : G < W1.heap.size := by rw [hG, hW1]; simp
  rw [← hG] at K1
  have ZZ := Lib.hid fun W (hW : Below W1.heap.size W1 W) => (show W.cell? ⟨G, 0, none⟩ = some (.string p) ∧ W.cell? ⟨G, 1, none⟩ = some (.int .i64 m) ∧ W.cell? ⟨G, 2, none⟩ = some (.string d) from
    ⟨cell_of_row W G 0 _ 49 (0, 0) ((hW.block G hG1).trans K1), cell_of_row W G 1 _ 49 (0, 0) ((hW.block G hG1).trans K1), cell_of_row W G 2 _ 49 (0, 0) ((hW.block G hG1).trans K1)⟩)
  obtain ⟨y0, y1, y2⟩ := ZZ.out W1 (Below.refl _ _)
  obtain ⟨A, c, rfl⟩ := h.form
  have R1 := Lib.hid (h.below B1)
  have hlen := h.len
  have HB1 := Lib.hid B1
  have HS := Lib.hid hs
  have b1s := B1.size
  clear h K1 B1 hs
  go_enter Tryz.func34, Tryz.ntmps34
  go_wp2_with fail
  rw [← hW1, ← hG]
  clear hW1
  have HG := Lib.hid hG
  clear hG
  refine CK.out.mono ?_
  rintro e w2 ⟨rfl, b2⟩
  obtain ⟨z0, z1, z2⟩ := ZZ.out w2 b2
  have hGl : G < w2.heap.size := Nat.lt_of_lt_of_le hG1 b2.size
  clear y0 y1 y2 CK
  have hle : w.heap.size ≤ G := by rw [HG.out]; exact Nat.le_refl _
  have HB2 := Lib.hid (HB1.out.trans (b2.mono b1s))
  have R2 := Lib.hid (R1.out.below b2)
  clear HB1 R1
  by_cases hc : chk p.data.toList = 0
  · have hc1 : (chk p.data.toList == 0) = true := by simpa using hc
    have hc2 : (chk p.data.toList != 0) = false := by simpa using hc
    have HC := Lib.hid hc
    clear hc
    obtain ⟨c0, hc0⟩ : ∃ c0, c0 = chk p.data.toList := ⟨_, rfl⟩
    by_cases hm : m = 1 ∨ m = 2
    · by_cases hd1 : 4096 < d.size
      · have HV : Hid (refF l (p, m, d) = 4) := Lib.hid (by unfold refF causeF; simp [HC.out, hm, hd1])
        have hdi : (4096 : Int) < (d.size : Int) := by omega
        rcases hm with rfl | rfl
        all_goals
          go_wp2_with fail
          go_ret
          exact ⟨ret_i HV.out.symm, HB2.out⟩
      · have HCF : Hid (causeF (p, m, d) = 0) := Lib.hid (by unfold causeF; simp [HC.out, hm, hd1])
        have hdi : ¬ (4096 : Int) < (d.size : Int) := by omega
        by_cases hl0 : l = []
        · subst hl0
          have HV : Hid (refF [] (p, m, d) = 0) := Lib.hid (refF_zero HCF.out rfl rfl)
          have CT := Lib.hid fun W (hW : Below w2.heap.size w2 W) => containsF_any w2 W w2.heap.size hW hW.size (.slice A ([] : List Fl).length c) [] 61 (.pointer (some ⟨G, 0, none⟩)) (fun x => cls x.1.data.toList p.data.toList) (R2.out.below hW) (fun x hx => by cases hx) (by simp) enters_refuses (refuses_pred w2 _ G p hf z0 hGl (Nat.le_refl _))
          simp only [List.length_nil] at CT ⊢
          rcases hm with rfl | rfl
          all_goals
            go_wp2_with fail
            go_quiet (fail)
            have BQ := Lib.hid (below_drewN (Below.refl w2.heap.size w2) nq)
            go_wp2_with fail
            refine (CT.out _ BQ.out).mono ?_
            rintro e w3 ⟨rfl, b3⟩
            have B3 := Lib.hid (HB2.out.trans (Below.trans BQ.out (b3.mono BQ.out.size) |>.mono HB2.out.size))
            clear b3
            go_wp2_with fail
            go_ret
            exact ⟨ret_i HV.out.symm, B3.out⟩
        · obtain ⟨n, hn⟩ : ∃ n, l.length = n + 1 := ⟨l.length - 1, by have := List.length_pos_iff.2 hl0; omega⟩
          obtain ⟨g, hg⟩ : ∃ g, l[n]? = some g := ⟨_, List.getElem?_eq_getElem (by omega)⟩
          have hlast : l.getLast? = some g := by rw [List.getLast?_eq_getElem?, hn]; exact hg
          obtain ⟨ad, rfl, c0, c1, c2⟩ := Fils.at_ R2.out hg
          have hw : IntKind.i64.wrap ((l.length : Int) - 1) = (n : Int) := by rw [IntKind.wrap_i64] <;> omega
          have hpos : (0 : Int) < (l.length : Int) := by omega
          have hpos2 : 0 < l.length := by omega
          have hnl : (n : Int) < (l.length : Int) := by omega
          have hnl2 : n < l.length := by omega
          have hn0 : (0 : Int) ≤ (n : Int) := Int.natCast_nonneg _
          have HLT : Hid (lateF l (p, m, d) = decide (0 ≤ cb g.1 p)) := Lib.hid (by unfold lateF; rw [hlast])
          have CP := Lib.hid fun W => comp_any g.1 p W
          have CT := Lib.hid fun W (hW : Below w2.heap.size w2 W) => containsF_any w2 W w2.heap.size hW hW.size (.slice (some ad) l.length c) l 61 (.pointer (some ⟨G, 0, none⟩)) (fun x => cls x.1.data.toList p.data.toList) (R2.out.below hW) HS.out hl enters_refuses (refuses_pred w2 _ G p hf z0 hGl (Nat.le_refl _))
          have HCT : Hid (clashF l p = l.any (fun x => cls x.1.data.toList p.data.toList)) := Lib.hid rfl
          obtain ⟨q, hq⟩ : ∃ q, q = l.any (fun x => cls x.1.data.toList p.data.toList) := ⟨_, rfl⟩
          obtain ⟨k, hk⟩ : ∃ k, k = cb g.1 p := ⟨_, rfl⟩
          rw [← hq] at CT HCT
          rw [← hk] at HLT CP
          clear hg hn hlast hq hk hl0
          by_cases hk0 : 0 ≤ k
          · have HV : Hid (refF l (p, m, d) = 6) := Lib.hid (by unfold refF; rw [if_neg (by rw [HCF.out]; simp), if_pos (by rw [HLT.out]; simpa using hk0)])
            rcases hm with rfl | rfl
            all_goals
              go_wp2_with fail
              go_quiet ((go_at_call 42; exact Calls.quiet_of_same ((CP.out _).mono fun _ _ h => ⟨h.1, h.2⟩)))
              have BQ := Lib.hid (below_drewN (Below.refl w2.heap.size w2) nq)
              go_wp2_with fail
              go_ret
              exact ⟨ret_i HV.out.symm, HB2.out.trans (BQ.out.mono HB2.out.size)⟩
          · have HL0 : Hid (lateF l (p, m, d) = false) := Lib.hid (by rw [HLT.out]; simpa using hk0)
            cases q with
            | true =>
              have HV : Hid (refF l (p, m, d) = 11) := Lib.hid (by unfold refF; rw [if_neg (by rw [HCF.out]; simp), if_neg (by rw [HL0.out]; simp), if_pos HCT.out])
              rcases hm with rfl | rfl
              all_goals
                go_wp2_with fail
                go_quiet ((go_at_call 42; exact Calls.quiet_of_same ((CP.out _).mono fun _ _ h => ⟨h.1, h.2⟩)))
                have BQ := Lib.hid (below_drewN (Below.refl w2.heap.size w2) nq)
                go_wp2_with fail
                refine (CT.out _ BQ.out).mono ?_
                rintro e w3 ⟨rfl, b3⟩
                have B3 := Lib.hid (HB2.out.trans (Below.trans BQ.out (b3.mono BQ.out.size) |>.mono HB2.out.size))
                clear b3
                go_wp2_with fail
                go_ret
                exact ⟨ret_i HV.out.symm, B3.out⟩
            | false =>
              have HV : Hid (refF l (p, m, d) = 0) := Lib.hid (refF_zero HCF.out HL0.out HCT.out)
              rcases hm with rfl | rfl
              all_goals
                go_wp2_with fail
                go_quiet ((go_at_call 42; exact Calls.quiet_of_same ((CP.out _).mono fun _ _ h => ⟨h.1, h.2⟩)))
                have BQ := Lib.hid (below_drewN (Below.refl w2.heap.size w2) nq)
                go_wp2_with fail
                refine (CT.out _ BQ.out).mono ?_
                rintro e w3 ⟨rfl, b3⟩
                have B3 := Lib.hid (HB2.out.trans (Below.trans BQ.out (b3.mono BQ.out.size) |>.mono HB2.out.size))
                clear b3
                go_wp2_with fail
                go_ret
                exact ⟨ret_i HV.out.symm, B3.out⟩
    · have HV : Hid (refF l (p, m, d) = 1) := Lib.hid (by unfold refF causeF; simp [HC.out, hm])
      have m1 : (m == 1) = false := by simpa using fun e => hm (.inl e)
      have m2 : (m == 2) = false := by simpa using fun e => hm (.inr e)
      have n1 : (m != 1) = true := by simpa using fun e => hm (.inl e)
      have n2 : (m != 2) = true := by simpa using fun e => hm (.inr e)
      clear hm
      go_wp2_with fail
      go_ret
      exact ⟨ret_i HV.out.symm, HB2.out⟩
  · have HV : Hid (refF l (p, m, d) = chk p.data.toList) := Lib.hid (by unfold refF causeF; simp [hc])
    have hne : (chk p.data.toList == 0) = false := by simpa using hc
    have hne2 : (chk p.data.toList != 0) = true := by simpa using hc
    clear hc
    go_wp2_with fail
    go_ret
    exact ⟨ret_i HV.out.symm, HB2.out⟩
end Go.Proofs.YtapcnmnnichamaaGreatDoor
