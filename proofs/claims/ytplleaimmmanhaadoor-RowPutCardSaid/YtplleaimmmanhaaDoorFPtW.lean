/-
  rectolaw14.RowPut: a tree that is cleared of what clashes takes any file that may be, and may be still, where there is room.
-/
import Derived.Test.YtplleaimmmanhaaDoorFKnW
import Derived.Test.YtplleaimmmanhaaDoorFFew
import Derived.Test.YtplleaimmmanhaaDoorFChkThy
import Derived.Test.YtplleaimmmanhaaDoorFRefCause
namespace Go.Proofs.YtplleaimmmanhaaDoor
open Go Go.RowKit

def SmallF (l : List Fl) : Prop := l.length ≤ 80 ∧ ∀ x ∈ l, x.1.size ≤ 100 ∧ x.2.2.size ≤ 5000
theorem SmallF.sized {l : List Fl} (h : SmallF l) : SizedD l := fun x hx => ⟨by have := (h.2 x hx).1; omega, by have := (h.2 x hx).2; omega⟩
theorem causeF_data {f : Fl} (h : causeF f = 0) : f.2.2.size ≤ 4096 := by
  have hp := causeF_path h
  unfold causeF at h
  rw [if_neg (by rw [hp]; simp)] at h
  by_cases hm : f.2.1 = 1 ∨ f.2.1 = 2
  · rw [if_neg (fun e => e hm)] at h
    by_cases hd : 4096 < f.2.2.size
    · rw [if_pos hd] at h; cases h
    · omega
  · rw [if_pos hm] at h; cases h
theorem clrPut_sized {l : List Fl} {f : Fl} (hl : SmallF l) (hf : causeF f = 0) : SizedD (clrPut l f) := fun x hx => by
  rcases clrPut_mem hx with rfl | ⟨hx, _⟩
  · exact ⟨by have := causeF_size hf; omega, by have := causeF_data hf; omega⟩
  · exact hl.sized x hx
theorem gotV_B (o : Option Fl) : gotV o = .tuple #[.agg #[.string (flZ o).1, .int .i64 (flZ o).2.1, .string (flZ o).2.2], .bool o.isSome] := gotV_flZ o
theorem gotV_some (a : ByteArray) (b : Int) (c : ByteArray) : gotV (some (a, b, c)) = .tuple #[.agg #[.string a, .int .i64 b, .string c], .bool true] := rfl

set_option maxRecDepth 100000 in
set_option maxHeartbeats 8000000 in
theorem put_walk (w : World) (v : Value) (l : List Fl) (f : Fl) (h : Reads 3 cF w v l) (hp : f.1.size ≤ 9223372036854775807) (hd : f.2.2.size ≤ 9223372036854775807) :
    Calls Tryd.prog 4 #[v, .agg #[.string f.1, .int .i64 f.2.1, .string f.2.2]] w (YesTo w) := by
  obtain ⟨p, m, d⟩ := f
  simp only at hp hd
  obtain ⟨W1, hW1⟩ : ∃ W1, W1 = w.alloc (.cells #[.string p, .int .i64 m, .string d] 42) := ⟨_, rfl⟩
  have B1 : Below w.heap.size w W1 := by rw [hW1]; exact (Below.refl _ _).alloc (Nat.le_refl _) _
  have K1 : W1.heap[w.heap.size]? = some (.cells #[.string p, .int .i64 m, .string d] 42 (0, 0)) := by rw [hW1]; exact heap_alloc_new w _
  obtain ⟨G, hG⟩ : ∃ G, G = w.heap.size := ⟨_, rfl⟩
  have hG1 : G < W1.heap.size := by rw [hG, hW1]; simp
  rw [← hG] at K1
  have ZZ := Lib.hid fun W (hW : Below W1.heap.size W1 W) => (show W.cell? ⟨G, 0, none⟩ = some (.string p) ∧ W.cell? ⟨G, 1, none⟩ = some (.int .i64 m) ∧ W.cell? ⟨G, 2, none⟩ = some (.string d) from
    ⟨cell_of_row W G 0 _ 42 (0, 0) ((hW.block G hG1).trans K1), cell_of_row W G 1 _ 42 (0, 0) ((hW.block G hG1).trans K1), cell_of_row W G 2 _ 42 (0, 0) ((hW.block G hG1).trans K1)⟩)
  have KN := Lib.hid (known_yes W1)
  obtain ⟨A, c, rfl⟩ := h.form
  have HA := Lib.hid (h.below B1)
  have HB1 := Lib.hid B1
  have b1s := B1.size
  clear h K1 B1
  go_enter Tryd.func4, Tryd.ntmps4
  go_wp2_with fail
  rw [← hW1, ← hG]
  clear hW1
  have HG := Lib.hid hG
  clear hG
  refine KN.out.mono ?_
  rintro e w1 ⟨rfl, b1⟩
  have RA := Lib.hid (HA.out.below b1)
  have C1 := Lib.hid b1
  have FA := Lib.hid (fewF_any w1 _ l RA.out)
  clear KN HA b1
  go_wp2_with fail
  refine FA.out.mono ?_
  rintro e w2 ⟨ba, rfl, hba, qa, rfl⟩
  have HBA := Lib.hid hba
  clear hba FA
  cases ba with
  | false =>
    go_wp2_with fail
    go_ret
    exact ⟨rfl, HB1.out.trans ((below_drewN C1.out _).mono b1s)⟩
  | true =>
  have SA := Lib.hid (show SmallF l from HBA.out rfl)
  clear HBA
  have CA := Lib.hid (checkF_any (w1.drewN qa) _ l RA.out SA.out.sized (by have := SA.out.1; omega))
  have C2 := Lib.hid (show Below W1.heap.size W1 (w1.drewN qa) from below_drewN C1.out _)
  have RA2 := Lib.hid (show Reads 3 cF (w1.drewN qa) _ l from RA.out)
  clear RA C1
  obtain ⟨w2, hw2⟩ : ∃ w2, w2 = w1.drewN qa := ⟨_, rfl⟩
  rw [← hw2] at CA C2 RA2 ⊢
  clear hw2
  go_wp2_with fail
  refine CA.out.mono ?_
  rintro e w3 h3
  rcases h3 with ⟨ho, rfl, b3⟩ | ⟨i, k, F, _, rfl, _, _, b3⟩
  · have HO := Lib.hid ho
    have C3 := Lib.hid (C2.out.trans (b3.mono C2.out.size))
    have RA3 := Lib.hid (RA2.out.below b3)
    obtain ⟨z0, z1, z2⟩ := ZZ.out w3 C3.out
    have RC := Lib.hid (refCause_any w3 p m d hp hd)
    clear ho b3 CA RA2 C2
    go_wp2_with fail
    refine RC.out.mono ?_
    rintro e w4 ⟨rfl, b4⟩
    have C4 := Lib.hid (C3.out.trans (b4.mono C3.out.size))
    have RA4 := Lib.hid (RA3.out.below b4)
    clear b4 RC RA3 C3 z0 z1 z2
    by_cases hc0 : causeF (p, m, d) = 0
    · have HC := Lib.hid hc0
      have hce : (causeF (p, m, d) != 0) = false := by simpa using hc0
      have hce2 : (causeF (p, m, d) == 0) = true := by simpa using hc0
      have hps := Lib.hid (causeF_size hc0)
      have RI := Lib.hid (chkF_rise HO.out)
      have zA : w4.drew.cell? ⟨G, 0, none⟩ = some (.string p) ∧ w4.drew.cell? ⟨G, 1, none⟩ = some (.int .i64 m) ∧ w4.drew.cell? ⟨G, 2, none⟩ = some (.string d) := ZZ.out w4 C4.out
      have CL := Lib.hid (clear_any w4.drew _ l p RA4.out SA.out.sized.paths (by have := hps.out; simp only at this; omega) (by have := SA.out.1; omega))
      have PU := Lib.hid fun W u (hu : Reads 3 cF W u (clearF l p)) => put_any W u (clearF l p) (p, m, d) hu (clear_rise RI.out p) (by have := List.length_filter_le (fun x : Fl => !cls x.1.data.toList p.data.toList) l; have := SA.out.1; unfold clearF; omega)
      have ZY := Lib.hid fun W (hW : Below w4.heap.size w4 W) => ZZ.out W (C4.out.trans (hW.mono C4.out.size))
      clear hc0
      go_wp2_with fail
      go_region_held3 (fun w' => w'.cell? ⟨G, 0, none⟩ = some (.string p) ∧ w'.cell? ⟨G, 1, none⟩ = some (.int .i64 m) ∧ w'.cell? ⟨G, 2, none⟩ = some (.string d)) (first | exact zA | exact zB | exact zC)
        (first
          | (go_at_call 21; refine (PU.out _ _ rc).mono ?_; rintro e w6 ⟨v6, rfl, o6, b6⟩; have bC := bB.trans (b6.mono bB.size); have zC := ZY.out _ bC)
          | (go_at_call 20; refine CL.out.mono ?_; rintro e w5 ⟨v5, rfl, rc, b5⟩; have bB := Below.trans ((Below.refl w4.heap.size w4).drew) (b5.mono (by simp)); have zB := ZY.out _ bB))
      have R6 := Lib.hid (show Reads 3 cF w6 v6 (clrPut l (p, m, d)) from Reads.of_own cF_len o6)
      obtain ⟨Aq, cq, rfl⟩ := R6.out.form
      have C6 := Lib.hid (C4.out.trans (bC.mono C4.out.size))
      have RA6 := Lib.hid (RA4.out.below bC)
      have RQ := Lib.hid (clrPut_rise RI.out (p, m, d))
      have HQL := Lib.hid (clrPut_len l (p, m, d))
      have HQS := Lib.hid (clrPut_sized SA.out HC.out)
      have HQG := Lib.hid (show getF (clrPut l (p, m, d)) p = some (p, m, d) from clrPut_get RI.out (p, m, d))
      have HQT := Lib.hid fun x (hx : x ∈ l) => show (getF (clrPut l (p, m, d)) x.1).isSome = !cls x.1.data.toList p.data.toList from clrPut_stays RI.out hx
      have HQC := Lib.hid fun hl => clrPut_check (l := l) (f := (p, m, d)) HO.out HC.out hl
      obtain ⟨q, hq⟩ : ∃ q, q = clrPut l (p, m, d) := ⟨_, rfl⟩
      rw [← hq] at R6 RQ HQL HQS HQG HQT HQC ⊢
      have RQR := R6
      obtain ⟨zC, _, _⟩ := zC
      have hqn : q.length ≤ 81 := by have := HQL.out; have := SA.out.1; omega
      have GQ := Lib.hid fun W (hW : Below w6.heap.size w6 W) s => get_any W _ q s (R6.out.below hW) RQ.out (by omega)
      have GP := Lib.hid (GQ.out w6 (Below.refl _ _) p)
      rw [HQG.out] at GP
      clear hq rc b5 bB zB o6 b6 bC CL PU ZY zA R6 C4 RA4 HQL
      go_wp2_with fail
      refine GP.out.mono ?_
      rintro e w7 ⟨rfl, b7⟩
      rw [gotV_some]
      obtain ⟨W7, hW7⟩ : ∃ W7, W7 = w7.alloc (.cells #[.string p, .int .i64 m, .string d] 42) := ⟨_, rfl⟩
      have a7 : Below w7.heap.size w7 W7 := by rw [hW7]; exact (Below.refl _ _).alloc (Nat.le_refl _) _
      obtain ⟨g7, hg7⟩ : ∃ g7, g7 = w7.heap.size := ⟨_, rfl⟩
      have k7 : W7.heap[g7]? = some (.cells #[.string p, .int .i64 m, .string d] 42 (0, 0)) := by rw [hW7, hg7]; exact heap_alloc_new w7 _
      have hg7l : g7 < W7.heap.size := by rw [hW7, hg7]; simp
      have b67 := b7.trans (a7.mono b7.size)
      have YY := Lib.hid fun W (hW : Below W7.heap.size W7 W) => (show W.cell? ⟨g7, 0, none⟩ = some (.string p) ∧ W.cell? ⟨g7, 1, none⟩ = some (.int .i64 m) ∧ W.cell? ⟨g7, 2, none⟩ = some (.string d) from
        ⟨cell_of_row W g7 0 _ 42 (0, 0) ((hW.block g7 hg7l).trans k7), cell_of_row W g7 1 _ 42 (0, 0) ((hW.block g7 hg7l).trans k7), cell_of_row W g7 2 _ 42 (0, 0) ((hW.block g7 hg7l).trans k7)⟩)
      have C7 := Lib.hid (C6.out.trans (b67.mono C6.out.size))
      have RA7 := Lib.hid (RA6.out.below b67)
      have GQ7 := Lib.hid fun W (hW : Below W7.heap.size W7 W) s => GQ.out W (b67.trans (hW.mono b67.size)) s
      have CQ7 := Lib.hid fun W (hW : Below W7.heap.size W7 W) => checkF_any W (.slice Aq q.length cq) q (by
        have := (b67.trans (hW.mono b67.size)); exact (RQR.out.below this)) HQS.out (by omega)
      clear b7 a7 k7 b67 GP GQ C6 RA6 zC
      by_cases hlong : 64 < q.length
      · have hli : (64 : Int) < (q.length : Int) := by omega
        have HL := Lib.hid (chkF_long hlong)
        clear hlong
        go_wp2_with fail
        rw [← hW7]
        clear hW7 hg7
        refine (CQ7.out _ (Below.refl _ _)).mono ?_
        rintro e w8 h8
        rcases h8 with ⟨ho, _⟩ | ⟨i, k, F, _, rfl, _, _, b8⟩
        · rw [HL.out] at ho; cases ho
        · have C8 := Lib.hid (C7.out.trans (b8.mono C7.out.size))
          clear b8
          go_wp2_with fail
          go_ret
          exact ⟨rfl, HB1.out.trans (C8.out.mono b1s)⟩
      · have hli : ¬ (64 : Int) < (q.length : Int) := by omega
        have HK := Lib.hid (HQC.out (by omega))
        have hll : l.length ≤ 80 := SA.out.1
        clear hlong HQC
        go_wp2_with fail
        rw [← hW7, ← hg7]
        clear hW7 hg7
        go_loopw [8, 9, 10] (fun s8 _ _ wr => ∃ i : Nat, i ≤ l.length ∧ s8 = .int .i64 i ∧ Below W7.heap.size W7 wr) (fun s8 _ _ _ => l.length - (intOf s8).toNat)
        case atStart => exact ⟨0, Nat.zero_le _, rfl, Below.refl _ _⟩
        case round =>
          obtain ⟨i, hi, rfl, hb⟩ := hrel
          have HBR := Lib.hid hb
          have hbs := hb.size
          by_cases hlt : i < l.length
          · obtain ⟨x, hx⟩ : ∃ x, l[i]? = some x := ⟨_, List.getElem?_eq_getElem hlt⟩
            have hxm := List.mem_of_getElem? hx
            obtain ⟨ad, rfl, c0, c1, c2⟩ := Fils.at_ (RA7.out.below hb) hx
            have GX := Lib.hid (GQ7.out wr hb x.1)
            have HT := Lib.hid (HQT.out x hxm)
            have CX := Lib.hid fun W => refClash_any x.1 p W (by have := (SA.out.2 x hxm).1; omega) (by have := hps.out; omega)
            obtain ⟨o, ho⟩ : ∃ o, o = getF q x.1 := ⟨_, rfl⟩
            rw [← ho] at GX HT
            obtain ⟨cb0, hcb⟩ : ∃ cb0, cb0 = cls x.1.data.toList p.data.toList := ⟨_, rfl⟩
            rw [← hcb] at HT CX
            unfold Got at GX
            rw [gotV_B, HT.out] at GX
            obtain ⟨y, hy⟩ : ∃ y, y = flZ o := ⟨_, rfl⟩
            rw [← hy] at GX
            obtain ⟨y1, y2, y3⟩ := y
            clear hx hxm ho hcb hy hb HT c1 c2
            go_wp2_with fail
            refine GX.out.mono ?_
            rintro e w8 ⟨rfl, b8⟩
            have B8 := Lib.hid (HBR.out.trans (b8.mono hbs))
            have e0 := cell_alloc_l (.cells #[.string y1, .int .i64 y2, .string y3] 42) ((b8.cell (World.block_lt_of_cell? _ _ c0)).trans c0)
            have B8a := Lib.hid (B8.out.alloc B8.out.size (.cells #[.string y1, .int .i64 y2, .string y3] 42))
            obtain ⟨z0, _, _⟩ := ZZ.out _ (C7.out.trans (B8a.out.mono C7.out.size))
            clear b8 c0 GX
            cases cb0 with
            | true =>
              go_wp2_with fail
              go_quiet ((go_at_call 23; exact Calls.quiet_of_same ((CX.out _).mono fun _ _ h => ⟨h.1, h.2.symm⟩)))
              have B9 := Lib.hid (below_drewN B8a.out nq)
              go_wp2_with fail
              go_roundw
              case rel => exact ⟨i + 1, by omega, by go_num, B9.out⟩
              case measure => simp [intOf]; omega
            | false =>
              go_wp2_with fail
              go_quiet ((go_at_call 23; exact Calls.quiet_of_same ((CX.out _).mono fun _ _ h => ⟨h.1, h.2.symm⟩)))
              have B9 := Lib.hid (below_drewN B8a.out nq)
              go_wp2_with fail
              go_roundw
              case rel => exact ⟨i + 1, by omega, by go_num, B9.out⟩
              case measure => simp [intOf]; omega
          · obtain rfl : i = l.length := by omega
            have CQ8 := Lib.hid (CQ7.out wr hb)
            rw [HK.out] at CQ8
            clear hb
            go_wp2_with fail
            refine CQ8.out.mono ?_
            rintro e w8 h8
            rcases h8 with ⟨_, rfl, b8⟩ | ⟨i, k, F, ho, _⟩
            · have B8 := Lib.hid (HBR.out.trans (b8.mono hbs))
              obtain ⟨z0, z1, z2⟩ := ZZ.out _ (C7.out.trans (B8.out.mono C7.out.size))
              obtain ⟨x0, x1, x2⟩ := YY.out _ B8.out
              clear b8
              go_wp2_with fail
              go_ret
              exact ⟨rfl, HB1.out.trans ((C7.out.trans (B8.out.mono C7.out.size)).mono b1s)⟩
            · cases ho
    · have hce : (causeF (p, m, d) != 0) = true := by simpa using hc0
      have hce2 : (causeF (p, m, d) == 0) = false := by simpa using hc0
      clear hc0
      go_wp2_with fail
      go_ret
      exact ⟨rfl, HB1.out.trans (C4.out.mono b1s)⟩
  · have C3 := Lib.hid (C2.out.trans (b3.mono C2.out.size))
    clear b3 CA RA2 C2
    go_wp2_with fail
    go_ret
    exact ⟨rfl, HB1.out.trans (C3.out.mono b1s)⟩
end Go.Proofs.YtplleaimmmanhaaDoor
