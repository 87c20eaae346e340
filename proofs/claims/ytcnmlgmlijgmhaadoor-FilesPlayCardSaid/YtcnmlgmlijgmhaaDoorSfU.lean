/-
  simfs.Cut.
-/
import Derived.Test.YtcnmlgmlijgmhaaDoorSfT
import Derived.Test.YtcnmlgmlijgmhaaDoorSfQ
namespace Go.Proofs.YtcnmlgmlijgmhaaDoor
open Go Go.RowKit Go.Shelf Go.Maps

def cutD (D : DK) (kl : List Bool) : DK := { D with T := cutN D.S D.ps kl D.ps.length, S := cutN D.S D.ps kl D.ps.length, ps := [], off := true, armed := 0, ks := [] }
set_option maxRecDepth 100000 in
set_option maxHeartbeats 8000000 in
theorem cut_any {w : World} {B N : Nat} {L : Loc} {D : DK} (h : DiskIs w B L N D) (v : Value) (kl : List Bool) (hv : ∀ w', w.grownBy w' (some L.bs) → Reads 1 cB w' v kl) (hN : N ≤ 1000000) (hp : D.ps.length ≤ 100000) (hB : B ≤ w.heap.size) :
    Calls Tryd.prog 13 #[.pointer (some ⟨L.F, 0, none⟩), v] w fun e w' => ∃ L', e = .returned (.tuple #[]) ∧ DiskIs w' B L' (N + D.ps.length) (cutD D kl) ∧ Next w L w' L' := by
  obtain ⟨F, bf, bs, vp, vk⟩ := L
  obtain ⟨T, S, ps, q, now, ino, ops, off, armed, ks⟩ := D
  have fs := h.fs
  have hps := h.ps
  have hks := h.ks
  dsimp only at fs hps hks hv hp ⊢
  obtain ⟨A, cap, rfl⟩ := own_form hps
  obtain ⟨Ak, ck, rfl⟩ := (hv w (World.grownBy.refl _ _)).form
  have HV := Lib.hid hv
  have H := Lib.hid h
  have HFS := Lib.hid fs
  have HPS := Lib.hid hps
  have HN := Lib.hid (And.intro hN (And.intro hp hB))
  have c2 := fs.x.cell 2
  have HNE := Lib.hid (And.intro (blk_tree_ne fs.x fs.f) (And.intro (blk_tree_ne fs.x fs.s) (own_tree_ne hps fs.s)))
  have SS := Lib.hid (fun i => Short.cut (ps := ps) h.sS h.so kl i)
  have SO := Lib.hid h.so
  clear hv h fs hps hks hN hB
  go_enter Tryd.func13, Tryd.ntmps13
  go_wp2_with fail
  go_loopw [11] (fun s11 wr => ∃ i : Nat, i ≤ ps.length ∧ s11 = .int .i64 i ∧ Hid (TreeIs wr bs (N + i) (cutN S ps kl i)) ∧ Hid (w.grownBy wr (some bs))) (fun s11 _ => ps.length - (intOf s11).toNat)
  case atStart => exact ⟨0, Nat.zero_le _, rfl, Lib.hid HFS.out.s, Lib.hid (World.grownBy.refl _ _)⟩
  case round =>
    obtain ⟨i, hi, rfl, TS, G⟩ := hrel
    have i0 : (0 : Int) ≤ (i : Int) := Int.natCast_nonneg _
    have KF := Lib.hid (HFS.out.x.grown G.out (fun e => HNE.out.2.1 (Option.some.inj e)))
    have OP := Lib.hid (HPS.out.kept G.out (Or.inr HNE.out.2.2))
    by_cases hlt : i < ps.length
    · have i1 : (i : Int) < (ps.length : Int) := by omega
      obtain ⟨⟨k, fr, p, m, t, ii, s⟩, ho⟩ : ∃ o, ps[i]? = some o := ⟨_, List.getElem?_eq_getElem hlt⟩
      obtain ⟨ad, rfl, c0, c1, c2', c3, c4, c5, c6⟩ := Ops.at_ (Reads.of_own cO_len OP.out) ho
      have HO := Lib.hid ho
      have hok := SO.out _ (List.mem_of_getElem? ho)
      have HOK := Lib.hid hok
      have wlt := World.block_lt_of_cell? _ _ c0
      have HI := Lib.hid i1
      have X1 := Lib.hid (Blk.new wr 80 (opC k fr p m t ii s))
      have G1 := Lib.hid (G.out.andThen (World.grownBy_alloc wr (.cells (opC k fr p m t ii s) 80) (some bs)) (row := some bs) (fun j hj => .inr hj))
      have T1 := Lib.hid (TS.out.alloc (.cells (opC k fr p m t ii s) 80))
      have KF1 := Lib.hid (KF.out.alloc (.cells (opC k fr p m t ii s) 80))
      have XB := Lib.hid (show (wr.heap.size : Nat) ≠ bs by have := TS.out.lt; omega)
      have XF := Lib.hid (show (wr.heap.size : Nat) ≠ F by have := KF.out.lt; omega)
      obtain ⟨X, hX⟩ : ∃ X, X = wr.heap.size := ⟨_, rfl⟩
      go_upto_region 3 with fail
      clear c0 c1 c2' c3 c4 c5 c6 wlt ho hok OP c2
      generalize hW : wr.alloc (.cells (opC k fr p m t ii s) 80) = W1 at *
      rw [← hX] at X1 XB XF ⊢
      clear hW hX
      by_cases hk : i < kl.length
      · have hki : (i : Int) < (kl.length : Int) := by omega
        have hd : decide ((i : Int) < (kl.length : Int)) = true := decide_eq_true hki
        obtain ⟨kb, hkb⟩ : ∃ b, kl[i]? = some b := ⟨_, List.getElem?_eq_getElem hk⟩
        obtain ⟨ak, rfl, kc⟩ := Bools.at_ (HV.out W1 G1.out) hkb
        cases kb with
        | false =>
          have HC := Lib.hid (cutN_no (S := S) HO.out (ks := kl) (by rw [hkb]; rfl))
          clear hkb
          go_quiet (fail)
          go_wp2_with fail
          go_roundw
          case rel => exact ⟨i + 1, by omega, by go_num, Lib.hid (by rw [HC.out]; exact TreeIs.mono (show TreeIs (W1.drewN _) bs (N + i) _ from T1.out) (by omega)), Lib.hid ⟨G1.out.os, G1.out.tape, G1.out.output, G1.out.size, G1.out.block⟩⟩
          case measure => simp [intOf]; omega
        | true =>
          have T1d : TreeIs W1.drew bs (N + i) (cutN S ps kl i) := T1.out
          obtain ⟨r, hr⟩ : ∃ r, r = refO (cutN S ps kl i) (k, fr, p, m, t, ii, s) := ⟨_, rfl⟩
          have RF := Lib.hid (show Calls Tryd.prog 39 #[.map (some bs), .agg #[.int .i64 k, .string fr, .string p, .int .i64 m, .int .i64 t, .int .i64 ii, .string s]] W1.drew fun e w' => e = .returned (.int .i64 r) ∧ Below W1.heap.size W1.drew w' from by
            rw [hr]
            exact refuses_any W1.drew bs (N + i) (cutN S ps kl i) (k, fr, p, m, t, ii, s) T1d (fun x hx => Nat.le_trans (SS.out i x hx) (by omega)) (by have := HOK.out.2.1; dsimp only at this ⊢; unfold maxLen; omega) (by have := HOK.out.2.2; dsimp only at this ⊢; omega) HOK.out.1)
          have HRR := Lib.hid hr
          have HKB := Lib.hid hkb
          clear hr hkb
          have ZZ := Lib.hid fun W (h1 : W.cell? ⟨F, 1, none⟩ = some (.map (some bs))) (hx : Blk W X 80 (opC k fr p m t ii s)) => (⟨h1, hx.cell 0, hx.cell 1, hx.cell 2, hx.cell 3, hx.cell 4, hx.cell 5, hx.cell 6⟩ : W.cell? ⟨F, 1, none⟩ = some (.map (some bs)) ∧ W.cell? ⟨X, 0, none⟩ = some (.int .i64 k) ∧ W.cell? ⟨X, 1, none⟩ = some (.string fr) ∧ W.cell? ⟨X, 2, none⟩ = some (.string p) ∧ W.cell? ⟨X, 3, none⟩ = some (.int .i64 m) ∧ W.cell? ⟨X, 4, none⟩ = some (.int .i64 t) ∧ W.cell? ⟨X, 5, none⟩ = some (.int .i64 ii) ∧ W.cell? ⟨X, 6, none⟩ = some (.string s))
          have z0 := And.intro (show W1.drew.cell? (ak.add i) = some (.bool true) from kc) (ZZ.out W1.drew (KF1.out.cell 1) X1.out)
          go_region_held3 (fun w' => w'.cell? (ak.add i) = some (.bool true) ∧ w'.cell? ⟨F, 1, none⟩ = some (.map (some bs)) ∧ w'.cell? ⟨X, 0, none⟩ = some (.int .i64 k) ∧ w'.cell? ⟨X, 1, none⟩ = some (.string fr) ∧ w'.cell? ⟨X, 2, none⟩ = some (.string p) ∧ w'.cell? ⟨X, 3, none⟩ = some (.int .i64 m) ∧ w'.cell? ⟨X, 4, none⟩ = some (.int .i64 t) ∧ w'.cell? ⟨X, 5, none⟩ = some (.int .i64 ii) ∧ w'.cell? ⟨X, 6, none⟩ = some (.string s))
            (first | exact z0 | exact z6)
            ((go_at_call 39; (with_reducible refine RF.out.mono ?_); rintro e w6 ⟨rfl, b6⟩; have X6 : Blk w6 X 80 (opC k fr p m t ii s) := (show Blk W1.drew X 80 _ from X1.out).below b6 X1.out.lt; have K6 := (show Blk W1.drew F 74 _ from KF1.out).below b6 KF1.out.lt; have z6 := And.intro ((b6.cell (World.block_lt_of_cell? _ _ kc)).trans z0.1) (ZZ.out w6 (K6.cell 1) X6)))
          have T6 := Lib.hid (show TreeIs w6 bs (N + i) (cutN S ps kl i) from TreeIs.below (w := W1.drew) T1d b6)
          have G6 := Lib.hid (show w.grownBy w6 (some bs) from World.grownBy.trans (grown_drew G1.out) ⟨b6.os, b6.tape, b6.output, b6.size, fun k hk _ => b6.block k hk⟩)
          have HX6 := Lib.hid X6
          have HK6 := Lib.hid K6
          clear RF z0 z6 X6 K6 b6 T1d
          by_cases hr0 : r = 0
          · subst hr0
            have HC := Lib.hid (cutN_yes (S := S) HO.out HKB.out HRR.out.symm)
            have DW := Lib.hid (show Calls Tryd.prog 40 #[.map (some bs), .agg #[.int .i64 k, .string fr, .string p, .int .i64 m, .int .i64 t, .int .i64 ii, .string s]] w6.drew fun e w' => e = .returned (.tuple #[]) ∧ TreeIs w' bs (N + i + 1) (doO (cutN S ps kl i) (k, fr, p, m, t, ii, s)) ∧ w6.drew.grownBy w' (some bs) from
              do_any w6.drew bs (N + i) (cutN S ps kl i) (k, fr, p, m, t, ii, s) T6.out (by have := HN.out.1; have := HN.out.2.1; unfold maxLen; omega) (by have := HOK.out.2.1; dsimp only at this ⊢; unfold maxLen; omega) (by have := HOK.out.2.2; dsimp only at this ⊢; unfold maxLen; omega) HOK.out.1)
            have z0 := ZZ.out w6.drew (HK6.out.cell 1) HX6.out
            go_wp2_with fail
            go_region_held3 (fun w' => w'.cell? ⟨F, 1, none⟩ = some (.map (some bs)) ∧ w'.cell? ⟨X, 0, none⟩ = some (.int .i64 k) ∧ w'.cell? ⟨X, 1, none⟩ = some (.string fr) ∧ w'.cell? ⟨X, 2, none⟩ = some (.string p) ∧ w'.cell? ⟨X, 3, none⟩ = some (.int .i64 m) ∧ w'.cell? ⟨X, 4, none⟩ = some (.int .i64 t) ∧ w'.cell? ⟨X, 5, none⟩ = some (.int .i64 ii) ∧ w'.cell? ⟨X, 6, none⟩ = some (.string s))
              (first | exact z0 | exact z7)
              ((go_at_call 40; (with_reducible refine DW.out.mono ?_); rintro e w7 ⟨rfl, T7, G7⟩; have X7 : Blk w7 X 80 (opC k fr p m t ii s) := (show Blk w6.drew X 80 _ from HX6.out).grown G7 (fun e => XB.out (Option.some.inj e)); have K7 := (show Blk w6.drew F 74 _ from HK6.out).grown G7 (fun e => HNE.out.2.1 (Option.some.inj e)); have z7 := ZZ.out w7 (K7.cell 1) X7))
            have T7' := Lib.hid T7
            have G7' := Lib.hid (show w.grownBy w7 (some bs) from World.grownBy.trans (grown_drew G6.out) G7)
            clear T7 G7 X7 K7 z7 z0 DW
            go_wp2_with fail
            go_roundw
            case rel => exact ⟨i + 1, by omega, by go_num, Lib.hid (by rw [HC.out]; exact T7'.out), G7'⟩
            case measure => simp [intOf]; omega
          · have hrb : (r == 0) = false := by simpa using hr0
            have HC := Lib.hid (cutN_ref (ks := kl) HO.out (by rw [← HRR.out]; exact hr0))
            clear hr0
            go_wp2_with fail
            go_roundw
            case rel => exact ⟨i + 1, by omega, by go_num, Lib.hid (by rw [HC.out]; exact T6.out.mono (by omega)), G6⟩
            case measure => simp [intOf]; omega
      · have hd : decide ((i : Int) < (kl.length : Int)) = false := decide_eq_false (by omega)
        have hkn : ¬ (i : Int) < (kl.length : Int) := by omega
        have HC := Lib.hid (cutN_no (S := S) HO.out (ks := kl) (by rw [List.getElem?_eq_none (by omega)]; rfl))
        clear hk
        go_quiet (fail)
        go_wp2_with fail
        go_roundw
        case rel => exact ⟨i + 1, by omega, by go_num, Lib.hid (by rw [HC.out]; exact TreeIs.mono (show TreeIs (W1.drewN _) bs (N + i) _ from T1.out) (by omega)), Lib.hid ⟨G1.out.os, G1.out.tape, G1.out.output, G1.out.size, G1.out.block⟩⟩
        case measure => simp [intOf]; omega
    · have hie : i = ps.length := by omega
      subst hie
      have hd : decide ((ps.length : Int) < (ps.length : Int)) = false := decide_eq_false (by omega)
      have c2 := KF.out.cell 2
      have f2 := KF.out.frozen 2
      have X1 := Lib.hid (show Blk (wr.setCell ⟨F, 2, none⟩ (.slice none 0 0)) F 74 #[.map (some bf), .map (some bs), .slice none 0 0, .int .i64 q, .int .i64 now, .int .i64 ino, .int .i64 ops, .bool off, .int .i64 armed, vk] from by simpa using KF.out.set_ 2 (.slice none 0 0))
      have T1 := Lib.hid (TS.out.setCell (a := ⟨F, 2, none⟩) (Ne.symm (blk_tree_ne KF.out TS.out)) (.slice none 0 0))
      have c1 := X1.out.cell 1
      have CL := Lib.hid (AnyW.maps_Clone_owns Tryd.cloneT 9 fileR bs _ (mapD (cutN S ps kl ps.length)) _ T1.out)
      go_wp2_with (go_at_call 36; refine CL.out.mono ?_; rintro e w2 ⟨rfl, h1, h2, hb⟩; have X2 := Lib.hid (X1.out.below hb (by simpa using KF.out.lt)); have HN1 := Lib.hid h1; have HO1 := Lib.hid h2; have HB1 := Lib.hid hb; clear h1 h2 hb; have x0 := X2.out.cell 0; have y0 := X2.out.frozen 0; have x7 := X2.out.cell 7; have y7 := X2.out.frozen 7; have x8 := X2.out.cell 8; have y8 := X2.out.frozen 8; have x9 := X2.out.cell 9; have y9 := X2.out.frozen 9)
      have hsz : (wr.setCell ⟨F, 2, none⟩ (.slice none 0 0)).heap.size = wr.heap.size := by simp
      have TN : TreeIs w2 wr.heap.size (N + ps.length) (cutN S ps kl ps.length) := by have := HN1.out; unfold TreeIs; simpa using this
      have TO : TreeIs w2 bs (N + ps.length) (cutN S ps kl ps.length) := HO1.out
      have n1 := blk_tree_ne X2.out TN
      have n2 := blk_tree_ne X2.out TO
      refine ⟨rfl, _, (by first | rfl | kernel_rfl), ⟨F, wr.heap.size, bs, .slice none 0 0, .slice none 0 0⟩, rfl, ⟨⟨?_, ?_, ?_, ?_⟩, ⟨by simp [cutD], .inl ⟨rfl, rfl⟩⟩, ⟨by simp [cutD], .inl ⟨rfl, rfl⟩⟩, ⟨H.out.lo.1, ?_, H.out.lo.2.2⟩, SS.out _, SS.out _, fun o ho => absurd ho (by simp [cutD])⟩, ?_⟩
      · simpa [cutD] using (((X2.out.set_ 0 (.map (some wr.heap.size))).set_ 7 (.bool true)).set_ 8 (.int .i64 0)).set_ 9 (.slice none 0 0)
      · exact (((TN.setCell (a := ⟨F, 0, none⟩) (Ne.symm n1) _).setCell (a := ⟨F, 7, none⟩) (Ne.symm n1) _).setCell (a := ⟨F, 8, none⟩) (Ne.symm n1) _).setCell (a := ⟨F, 9, none⟩) (Ne.symm n1) _
      · exact (((TO.setCell (a := ⟨F, 0, none⟩) (Ne.symm n2) _).setCell (a := ⟨F, 7, none⟩) (Ne.symm n2) _).setCell (a := ⟨F, 8, none⟩) (Ne.symm n2) _).setCell (a := ⟨F, 9, none⟩) (Ne.symm n2) _
      · have := TS.out.lt; exact fun e => by dsimp only at e; omega
      · have := G.out.size; have := HN.out.2.2; dsimp only; omega
      · have tF : ∀ (a : World) (j : Nat) (u : Value), Turns a (a.setCell ⟨F, j, none⟩ u) (Loc.foot ⟨F, bf, bs, .slice A ps.length cap, vk⟩) := fun a j u => Turns.of_grown (grown_cellF a F j u) (.inl rfl)
        refine ⟨rfl, fun k hk => ?_, (((((Turns.of_grown G.out (.inr (.inr (.inl rfl)))).trans (tF _ 2 _)).trans (Turns.of_below HB1.out)).trans (tF _ 0 _)).trans (tF _ 7 _)).trans ((tF _ 8 _).trans (tF _ 9 _))⟩
        rcases hk with rfl | rfl | rfl | e
        · exact .inl (.inl rfl)
        · exact .inr G.out.size
        · exact .inl (.inr (.inr (.inl rfl)))
        · simp [Value.ownBlock] at e
end Go.Proofs.YtcnmlgmlijgmhaaDoor
