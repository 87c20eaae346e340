/-
  simfs: Twin.
  An argument that is a row of acts.
  FilesPlay's walk.
  FilesPlay for the card.
-/
import Derived.Test.YtcnmlgmlijgmhaaDoorUE
import Derived.Test.YtcnmlgmlijgmhaaDoorSgC
import Derived.Test.YtcnmlgmlijgmhaaDoorSfN
import Derived.OpenShut
import Derived.ChangeSame
import Derived.Deep.Slices
import Derived.Lib.SmallJoins
import Derived.Test.YtcnmlgmlijgmhaaDoorUG
import Derived.Test.YtcnmlgmlijgmhaaDoorSfY

namespace Go.Proofs.YtcnmlgmlijgmhaaDoor
open Go Go.RowKit Go.Shelf Go.Maps

theorem clone36 (W : World) (b n : Nat) (T : Tr) (h : TreeIs W b n T) : Calls Tryd.prog 36 #[.map (some b)] W fun e w' => e = .returned (.map (some W.heap.size)) ∧ TreeIs w' W.heap.size n T ∧ Below W.heap.size W w' :=
  (AnyW.maps_Clone_owns Tryd.cloneT 9 fileR b n (mapD T) _ h).mono fun _ _ ⟨h1, h2, _, h4⟩ => ⟨h1, h2, h4⟩
theorem DiskIs.base {w : World} {B B' N : Nat} {L : Loc} {D : DK} (h : DiskIs w B L N D) (hb : B' ≤ B) : DiskIs w B' L N D := by
  have := h.lo
  exact ⟨h.fs, ownsRow_base_a h.ps hb, ownsRow_base_a h.ks hb, ⟨by omega, by omega, by omega⟩, h.sT, h.sS, h.so⟩
abbrev fsC (bf bs : Nat) (vp vk : Value) (q now ino ops : Int) (off : Bool) (armed : Int) : Array Value := #[.map (some bf), .map (some bs), vp, .int .i64 q, .int .i64 now, .int .i64 ino, .int .i64 ops, .bool off, .int .i64 armed, vk]
set_option maxRecDepth 100000 in
set_option maxHeartbeats 8000000 in
theorem twin_any {w : World} {B N : Nat} {L : Loc} {D : DK} (h : DiskIs w B L N D) (hp : D.ps.length ≤ 100000) (hk : D.ks.length ≤ 100000) :
    Calls Tryd.prog 12 #[.pointer (some ⟨L.F, 0, none⟩)] w fun e w' => ∃ L', e = .returned (.pointer (some ⟨L'.F, 0, none⟩)) ∧ DiskIs w' w.heap.size L' N D ∧ Below w.heap.size w w' := by
  obtain ⟨Ap, cp, hvp⟩ := own_form h.ps
  obtain ⟨Ak, ck, hvk⟩ := own_form h.ks
  have HD := Lib.hid h
  have X0 : Blk w L.F 74 (fsC L.bf L.bs (.slice Ap D.ps.length cp) (.slice Ak D.ks.length ck) D.q D.now D.ino D.ops D.off D.armed) := by rw [← hvp, ← hvk]; exact h.fs.x
  have HX := Lib.hid X0
  have HVP := Lib.hid hvp
  have HVK := Lib.hid hvk
  have X1 := Lib.hid (Blk.new w 74 (fsC L.bf L.bs (.slice Ap D.ps.length cp) (.slice Ak D.ks.length ck) D.q D.now D.ino D.ops D.off D.armed))
  have ca := X0.cell 0
  have cb := X0.cell 1
  have cc := X0.cell 2
  have cd := X0.cell 3
  have ce := X0.cell 4
  have cf := X0.cell 5
  have cg := X0.cell 6
  have ch := X0.cell 7
  have ci := X0.cell 8
  have cj := X0.cell 9
  clear h X0 hvp hvk
  go_enter Tryd.func12, Tryd.ntmps12
  go_upto_region 2 with fail
  obtain ⟨gn, hgn⟩ : ∃ x, x = w.heap.size := ⟨_, rfl⟩
  have HG := Lib.hid hgn
  have B1 := Lib.hid ((Below.refl w.heap.size w).alloc (Nat.le_refl _) (.cells (fsC L.bf L.bs (.slice Ap D.ps.length cp) (.slice Ak D.ks.length ck) D.q D.now D.ino D.ops D.off D.armed) 74))
  have D1 := Lib.hid (HD.out.alloc (.cells (fsC L.bf L.bs (.slice Ap D.ps.length cp) (.slice Ak D.ks.length ck) D.q D.now D.ino D.ops D.off D.armed) 74))
  have Y1 := Lib.hid (HX.out.alloc (.cells (fsC L.bf L.bs (.slice Ap D.ps.length cp) (.slice Ak D.ks.length ck) D.q D.now D.ino D.ops D.off D.armed) 74))
  rw [← hgn] at X1 ⊢
  clear hgn ca cb cc cd ce cf cg ch ci cj
  generalize hW1 : w.alloc (.cells (fsC L.bf L.bs (.slice Ap D.ps.length cp) (.slice Ak D.ks.length ck) D.q D.now D.ino D.ops D.off D.armed) 74) = w1 at *
  have hne : gn ≠ L.F := fun e => by have := HD.out.fs.x.lt; have := HG.out; omega
  have HNE := Lib.hid hne
  have HS1 := Lib.hid (show gn < w1.heap.size from X1.out.lt)
  clear hW1 hne
  have D1d := Lib.hid (D1.out.below (Below.refl w1.heap.size w1).drew)
  have C1 := Lib.hid (clone36 w1.drew L.bf N D.T D1d.out.fs.f)
  have ZZ := Lib.hid fun W (hx : Blk W L.F 74 (fsC L.bf L.bs (.slice Ap D.ps.length cp) (.slice Ak D.ks.length ck) D.q D.now D.ino D.ops D.off D.armed)) => (⟨hx.cell 0, hx.cell 1⟩ : W.cell? ⟨L.F, 0, none⟩ = some (.map (some L.bf)) ∧ W.cell? ⟨L.F, 1, none⟩ = some (.map (some L.bs)))
  have z0 := ZZ.out w1.drew Y1.out
  go_region_held3 (fun w' => w'.cell? ⟨L.F, 0, none⟩ = some (.map (some L.bf)) ∧ w'.cell? ⟨L.F, 1, none⟩ = some (.map (some L.bs))) (first | exact z0 | exact z2 | exact z3 | exact z4 | exact z5) (first
    | (go_at_call 36; refine C2.out.mono ?_; rintro e w3 ⟨rfl, t3, b3⟩; have B3 := Lib.hid b3; have D3 := Lib.hid (D2.out.below b3); have T3 := Lib.hid t3; have Y3 := Y2.out.below b3 Y2.out.lt; have X3 := X2.out.below b3 X2.out.lt; have U3 := Lib.hid (U2.out.below b3); have p0 := X3.cell 0; have q0 := X3.frozen 0; have p1 := X3.cell 1; have q1 := X3.frozen 1; have z3 := ZZ.out w3 Y3; have z4 := ZZ.out _ (Y3.far (p := ⟨gn, 0, none⟩) HNE.out.symm (.map (some w1.heap.size))); have z5 := ZZ.out _ ((Y3.far (p := ⟨gn, 0, none⟩) HNE.out.symm (.map (some w1.heap.size))).far (p := ⟨gn, 1, none⟩) HNE.out.symm (.map (some w2.heap.size))); have HY3 := Lib.hid Y3; have HX3 := Lib.hid X3; clear t3 b3 Y3 X3)
    | (go_at_call 36; refine C1.out.mono ?_; rintro e w2 ⟨rfl, t2, b2⟩; have B2 := Lib.hid (show Below w1.heap.size w1 w2 from (Below.refl w1.heap.size w1).drew.trans b2); have D2 := Lib.hid (D1d.out.below b2); have U2 := Lib.hid t2; have Y2 := Lib.hid (Y1.out.below B2.out Y1.out.lt); have X2 := Lib.hid (X1.out.below B2.out X1.out.lt); have C2 := Lib.hid (clone36 w2 L.bs N D.S D2.out.fs.s); have z2 := ZZ.out w2 Y2.out; clear t2 b2))
  rename_i hHeld
  obtain ⟨m1, hm1⟩ : ∃ x, x = w1.heap.size := ⟨_, rfl⟩
  obtain ⟨m2, hm2⟩ : ∃ x, x = w2.heap.size := ⟨_, rfl⟩
  have M1 := Lib.hid (show gn < m1 ∧ m1 < m2 from ⟨by have := HS1.out; omega, by have := U2.out.lt; rw [hm1, hm2]; exact this⟩)
  have U3' := Lib.hid (show TreeIs w3 m1 N D.T by rw [hm1]; exact U3.out)
  have T3' := Lib.hid (show TreeIs w3 m2 N D.S by rw [hm2]; exact T3.out)
  rw [← hm1, ← hm2] at hHeld ⊢
  clear hm1 hm2 hHeld p0 q0 p1 q1 z3 z4 z5 z2 z0 C1 C2
  have BW := Lib.hid (show Below w.heap.size w ((w3.setCell ⟨gn, 0, none⟩ (.map (some m1))).setCell ⟨gn, 1, none⟩ (.map (some m2))) from
    (((B1.out.trans (B2.out.mono (by rw [← HG.out]; have := HS1.out; omega))).trans (B3.out.mono (by rw [← HG.out]; have := HS1.out; have := B2.out.size; omega))).setCell (p := ⟨gn, 0, none⟩) (by rw [← HG.out]; exact Nat.le_refl _) _).setCell (p := ⟨gn, 1, none⟩) (by rw [← HG.out]; exact Nat.le_refl _) _)
  have D4 := Lib.hid (D3.out.apart ((Turns.cell w3 gn 0 (.map (some m1))).trans (Turns.cell (w3.setCell ⟨gn, 0, none⟩ (.map (some m1))) gn 1 (.map (some m2)))) (fun k hk e => by have := HD.out.foot_lt k hk; have := HG.out; omega) (fun k hk e => by have := (HD.out.ks.lt k hk).2; have := HG.out; omega))
  have X4 := Lib.hid (show Blk ((w3.setCell ⟨gn, 0, none⟩ (.map (some m1))).setCell ⟨gn, 1, none⟩ (.map (some m2))) gn 74 (fsC m1 m2 (.slice Ap D.ps.length cp) (.slice Ak D.ks.length ck) D.q D.now D.ino D.ops D.off D.armed) from by simpa using (HX3.out.set_ 0 (.map (some m1))).set_ 1 (.map (some m2)))
  have Y4 := Lib.hid ((HY3.out.far (p := ⟨gn, 0, none⟩) HNE.out.symm (.map (some m1))).far (p := ⟨gn, 1, none⟩) HNE.out.symm (.map (some m2)))
  have U4 := Lib.hid ((U3'.out.setCell (a := ⟨gn, 0, none⟩) (show m1 ≠ gn by have := M1.out; omega) (.map (some m1))).setCell (a := ⟨gn, 1, none⟩) (show m1 ≠ gn by have := M1.out; omega) (.map (some m2)))
  have T4 := Lib.hid ((T3'.out.setCell (a := ⟨gn, 0, none⟩) (show m2 ≠ gn by have := M1.out; omega) (.map (some m1))).setCell (a := ⟨gn, 1, none⟩) (show m2 ≠ gn by have := M1.out; omega) (.map (some m2)))
  clear B2 B3 D3 U3 T3 U3' T3' HX3 HY3 Y2 X2 D2 U2 D1d D1 Y1 X1 ZZ
  generalize hW4 : (w3.setCell ⟨gn, 0, none⟩ (.map (some m1))).setCell ⟨gn, 1, none⟩ (.map (some m2)) = w4 at *
  clear hW4
  go_upto_region 3 with fail
  have D4d := Lib.hid (D4.out.below (Below.refl w4.heap.size w4).drew)
  have ZZ := Lib.hid fun W (hx : Blk W L.F 74 (fsC L.bf L.bs (.slice Ap D.ps.length cp) (.slice Ak D.ks.length ck) D.q D.now D.ino D.ops D.off D.armed)) => (⟨hx.cell 2, hx.cell 9⟩ : W.cell? ⟨L.F, 2, none⟩ = some (.slice Ap D.ps.length cp) ∧ W.cell? ⟨L.F, 9, none⟩ = some (.slice Ak D.ks.length ck))
  have z0 := ZZ.out w4.drew Y4.out
  have C1 := Lib.hid (clone37_any w4.drew (.slice Ap D.ps.length cp) D.ps (by rw [← HVP.out]; exact Reads.of_own cO_len D4d.out.ps) (by omega))
  go_region_held3 (fun w' => w'.cell? ⟨L.F, 2, none⟩ = some (.slice Ap D.ps.length cp) ∧ w'.cell? ⟨L.F, 9, none⟩ = some (.slice Ak D.ks.length ck)) (first | exact z0 | exact z2 | exact z3 | exact z4 | exact z5) (first
    | (go_at_call 38; refine C2.out.mono ?_; rintro e w6 ⟨v6, rfl, o6, b6⟩; obtain ⟨A6, c6, rfl⟩ := own_form o6; have B6 := Lib.hid b6; have O6 := Lib.hid o6; have Y6 := Y5.out.below b6 Y5.out.lt; have X6 := X5.out.below b6 X5.out.lt; have P6 := Lib.hid (own_keep O5.out b6); have p0 := X6.cell 2; have q0 := X6.frozen 2; have p1 := X6.cell 9; have q1 := X6.frozen 9; have z3 := ZZ.out w6 Y6; have z4 := ZZ.out _ (Y6.far (p := ⟨gn, 2, none⟩) HNE.out.symm (.slice A5 D.ps.length c5)); have z5 := ZZ.out _ ((Y6.far (p := ⟨gn, 2, none⟩) HNE.out.symm (.slice A5 D.ps.length c5)).far (p := ⟨gn, 9, none⟩) HNE.out.symm (.slice A6 D.ks.length c6)); have HX6 := Lib.hid X6; clear o6 b6 Y6 X6)
    | (go_at_call 37; refine C1.out.mono ?_; rintro e w5 ⟨v5, rfl, o5, b5⟩; obtain ⟨A5, c5, rfl⟩ := own_form o5; have B5 := Lib.hid (show Below w4.heap.size w4 w5 from (Below.refl w4.heap.size w4).drew.trans b5); have O5 := Lib.hid o5; have D5 := Lib.hid (D4d.out.below b5); have Y5 := Lib.hid (Y4.out.below B5.out Y4.out.lt); have X5 := Lib.hid (X4.out.below B5.out X4.out.lt); have C2 := Lib.hid (clone38_any w5 (.slice Ak D.ks.length ck) D.ks (by rw [← HVK.out]; exact Reads.of_own cB_len D5.out.ks) (by omega)); have z2 := ZZ.out w5 Y5.out; clear o5 b5))
  rename_i hHeld
  have B7 := Lib.hid (B5.out.trans (B6.out.mono B5.out.size))
  have U7 := Lib.hid ((U4.out.below B7.out))
  have T7 := Lib.hid ((T4.out.below B7.out))
  clear hHeld p0 q0 p1 q1 z3 z4 z5 z2 z0 C1 C2
  go_wp2_with fail
  go_ret
  refine ⟨⟨gn, m1, m2, .slice A5 D.ps.length c5, .slice A6 D.ks.length c6⟩, rfl, ⟨⟨?_, ?_, ?_, ?_⟩, ?_, ?_, ?_, HD.out.sT, HD.out.sS, HD.out.so⟩, ?_⟩
  · simpa using (HX6.out.set_ 2 (.slice A5 D.ps.length c5)).set_ 9 (.slice A6 D.ks.length c6)
  · exact (U7.out.setCell (a := ⟨gn, 2, none⟩) (show m1 ≠ gn by have := M1.out; omega) _).setCell (a := ⟨gn, 9, none⟩) (show m1 ≠ gn by have := M1.out; omega) _
  · exact (T7.out.setCell (a := ⟨gn, 2, none⟩) (show m2 ≠ gn by have := M1.out; omega) _).setCell (a := ⟨gn, 9, none⟩) (show m2 ≠ gn by have := M1.out; omega) _
  · have := M1.out; show m1 ≠ m2; omega
  · have r1 := P6.out.kept (grown_cellF w6 gn 2 (.slice A5 D.ps.length c5)) (Or.inr (own_blk_ne P6.out HX6.out (by decide)))
    have r2 := r1.kept (grown_cellF _ gn 9 (.slice A6 D.ks.length c6)) (Or.inr (own_blk_ne r1 (HX6.out.set_ 2 _) (by decide)))
    exact ownsRow_base_a r2 (show w.heap.size ≤ w4.drew.heap.size from BW.out.size)
  · have r1 := O6.out.kept (grown_cellF w6 gn 2 (.slice A5 D.ps.length c5)) (Or.inr (own_blk_ne O6.out HX6.out (by decide)))
    have r2 := r1.kept (grown_cellF _ gn 9 (.slice A6 D.ks.length c6)) (Or.inr (own_blk_ne r1 (HX6.out.set_ 2 _) (by decide)))
    exact ownsRow_base_a r2 (Nat.le_trans BW.out.size B5.out.size)
  · have := M1.out; have := HG.out; exact ⟨by show w.heap.size ≤ gn; omega, by show w.heap.size ≤ m1; omega, by show w.heap.size ≤ m2; omega⟩
  · exact ((BW.out.trans (B7.out.mono BW.out.size)).setCell (p := ⟨gn, 2, none⟩) (by rw [← HG.out]; exact Nat.le_refl _) _).setCell (p := ⟨gn, 9, none⟩) (by rw [← HG.out]; exact Nat.le_refl _) _
end Go.Proofs.YtcnmlgmlijgmhaaDoor

namespace Go.Proofs.YtcnmlgmlijgmhaaDoor
open Go.ChangeShapes Go.WideShapes Go.ChangeAt Go.RowKit Go.Deep Go.Joins

theorem Tryd.cellsAct : Tryd.prog.cellsOf 34 = 7 := by kernel_rfl
section
variable {H : Type} {enc : TypeId × Value → H} {P : Program} {w : World} {base : Nat} {spare : Nat → Bool} {held : Bool}
theorem trod_struct7 {t : TypeId} {f0 f1 f2 f3 f4 f5 f6 : Field} {fuel : Nat} {cs : List Value} {x : DataW H × List MemPlace} (ht : P.underlying t = some (.struct #[f0, f1, f2, f3, f4, f5, f6])) (h : DataW.trod enc P w base spare held fuel t cs = some x) :
    ∃ y0 y1 y2 y3 y4 y5 y6 n, cs.length = P.cellsOf t ∧ DataW.trod enc P w base spare held n f0.type ((cs.drop f0.offset).take (P.cellsOf f0.type)) = some y0 ∧
      DataW.trod enc P w base spare held n f1.type ((cs.drop f1.offset).take (P.cellsOf f1.type)) = some y1 ∧ DataW.trod enc P w base spare held n f2.type ((cs.drop f2.offset).take (P.cellsOf f2.type)) = some y2 ∧
      DataW.trod enc P w base spare held n f3.type ((cs.drop f3.offset).take (P.cellsOf f3.type)) = some y3 ∧ DataW.trod enc P w base spare held n f4.type ((cs.drop f4.offset).take (P.cellsOf f4.type)) = some y4 ∧
      DataW.trod enc P w base spare held n f5.type ((cs.drop f5.offset).take (P.cellsOf f5.type)) = some y5 ∧ DataW.trod enc P w base spare held n f6.type ((cs.drop f6.offset).take (P.cellsOf f6.type)) = some y6 := by
  obtain ⟨xs, n, _, rfl, hl, hlen, hf⟩ := DataW.trod_struct ht h
  match xs, hlen with
  | [y0, y1, y2, y3, y4, y5, y6], _ => exact ⟨y0, y1, y2, y3, y4, y5, y6, n, hl, by simpa using hf 0 f0 rfl, by simpa using hf 1 f1 rfl, by simpa using hf 2 f2 rfl, by simpa using hf 3 f3 rfl, by simpa using hf 4 f4 rfl, by simpa using hf 5 f5 rfl, by simpa using hf 6 f6 rfl⟩
end
set_option maxRecDepth 100000 in
theorem bytes_of_cells {H : Type} {enc : TypeId × Value → H} {W : World} {u : Value} {fuel : Nat} {x : DataW H × List MemPlace} (hf : DataW.trod enc Tryd.prog W 0 (fun _ => true) true fuel 32 [u] = some x) :
    ∃ (A : Option Addr) (l : List UInt8) (c : Nat), u = .slice A l.length c ∧ BytesAt W A l ∧ (A = none → l = []) := by
  rcases open_ints Tryd.underlying32 Tryd.underlying5 Tryd.cells5' hf with ⟨hcs, hx⟩ | ⟨a, n', c', zs, hcs, _, hl, hm, hz, hx, hcell, hwf⟩
  · simp at hcs
    subst hcs
    exact ⟨_, [], _, rfl, (fun a e => by cases e), fun _ => rfl⟩
  · simp at hcs
    subst hcs
    simp only [if_true] at hz
    unfold maxLen at hm
    refine ⟨some a, (zs.take n').map fun z => UInt8.ofNat z.toNat, c', by rw [List.length_map, List.length_take]; congr 1; omega, fun b e j hj => ?_, fun e => by cases e⟩
    injection e with e
    subst e
    rw [List.length_map, List.length_take] at hj
    have h1 : j < zs.length := by omega
    have hw := bounds_u8 (hwf (zs.getD j 0) (by rw [List.getD, List.getElem?_eq_getElem h1]; exact List.getElem_mem h1))
    rw [hcell j h1]
    have e2 : ((zs.take n').map fun z => UInt8.ofNat z.toNat).getD j 0 = UInt8.ofNat (zs.getD j 0).toNat := by
      rw [List.getD_eq_getElem?_getD, List.getElem?_map, List.getElem?_take, if_pos (by omega), List.getElem?_eq_getElem h1, List.getD_eq_getElem?_getD, List.getElem?_eq_getElem h1]
      rfl
    rw [e2, UInt8.toNat_ofNat']
    congr 2
    omega
set_option maxRecDepth 100000 in
theorem bools_of_cells {H : Type} {enc : TypeId × Value → H} {W : World} {u : Value} {fuel : Nat} {x : DataW H × List MemPlace} (hf : DataW.trod enc Tryd.prog W 0 (fun _ => true) true fuel 29 [u] = some x) :
    ∃ l : List Bool, Reads 1 cB W u l := by
  rcases open_slice Tryd.underlying29 hf with ⟨hcs, _⟩ | ⟨a, n, c, m, n1, D, Pl, hcs, _, hl, hm, hmm, _, hi⟩
  · simp at hcs
    subst hcs
    exact ⟨[], Reads.nil W⟩
  · simp at hcs
    subst hcs
    have each : ∀ i, i < n → ∃ x : Bool, ∀ (j : Nat) (u : Value), (cB x)[j]? = some u → W.cell? (adr a i 1 j) = some u := fun i hin => by
      obtain ⟨cs', hc, ht⟩ := hi i (by rw [hmm]; split <;> omega)
      rw [Tryd.cells4'] at hc
      obtain ⟨x, rfl, _⟩ := DataW.trod_bool Tryd.underlying4 ht
      have hcell := cell_of_cells?_one hc
      refine ⟨x, fun j u hu => ?_⟩
      match j, hu with
      | 0, hu => simp [cB] at hu; subst hu; exact hcell
      | j + 1, hu => simp [cB] at hu
    obtain ⟨l, hll, hp⟩ := listOf n each
    exact ⟨l, some a, c, by rw [hll], by omega, hm, (fun e => by cases e), fun ad ha i x hx j u hu => by
      obtain rfl := Option.some.inj ha
      exact hp i x hx j u hu⟩
/-- An act in a row. -/
structure ActAt (w : World) (p : Addr) (a : Ac) (Ab Ak : Option Addr) (cb ck : Nat) : Prop where
  c0 : w.cell? p = some (.int .i64 a.op)
  c1 : w.cell? ⟨p.block, p.off + 1, none⟩ = some (.int .i64 a.mode)
  c2 : w.cell? ⟨p.block, p.off + 2, none⟩ = some (.int .i64 a.n)
  c3 : w.cell? ⟨p.block, p.off + 3, none⟩ = some (.string a.p)
  c4 : w.cell? ⟨p.block, p.off + 4, none⟩ = some (.string a.q)
  c5 : w.cell? ⟨p.block, p.off + 5, none⟩ = some (.slice Ab a.s.size cb)
  c6 : w.cell? ⟨p.block, p.off + 6, none⟩ = some (.slice Ak a.ks.length ck)
  hv : ∀ W, Below w.heap.size w W → (convert 32 9 (.slice Ab a.s.size cb)).run Tryd.prog W = .ok (.string a.s) W
  hk : Reads 1 cB w (.slice Ak a.ks.length ck) a.ks
  hn : a.n ≤ 9223372036854775807
def ActsIn (w : World) (v : Value) (l : List Ac) : Prop :=
  ∃ A c, v = .slice A l.length c ∧ l.length ≤ c ∧ c ≤ maxLen ∧ (A = none → l = []) ∧ ∀ ad, A = some ad → ∀ i a, l[i]? = some a → ∃ Ab Ak cb ck, ActAt w (ad.add (i * 7)) a Ab Ak cb ck
set_option maxRecDepth 100000 in
theorem acts_of_trod {H : Type} {enc : TypeId × Value → H} {W : World} {base : Nat} {v : Value} {d : DataW H} {p : List MemPlace} {t : TypeId} (ht : Tryd.prog.underlying t = some (.slice 34)) (hv : Value.okWide Tryd.prog W .any base t v) (h : DataW.Trod enc Tryd.prog W 0 (fun _ => true) true t v d p) :
    ∃ l : List Ac, ActsIn W v l := by
  obtain ⟨A, n, c, rfl⟩ := okWide_slice ht hv
  obtain ⟨fuel, hf⟩ := h
  rcases open_slice ht hf with ⟨hcs, _⟩ | ⟨a, n', c', m, n1, D, Pl, hcs, _, hl, hm, hmm, _, hi⟩
  · simp [Value.cells] at hcs
    obtain ⟨rfl, rfl, rfl⟩ := hcs
    exact ⟨[], none, 0, rfl, Nat.le_refl _, Nat.zero_le _, fun _ => rfl, fun _ e => by cases e⟩
  · simp [Value.cells] at hcs
    obtain ⟨rfl, rfl, rfl⟩ := hcs
    have each : ∀ i, i < n → ∃ x : Ac, ∃ Ab Ak cb ck, ActAt W (a.add (i * 7)) x Ab Ak cb ck := fun i hin => by
      obtain ⟨cs', hc, ht⟩ := hi i (by rw [hmm]; split <;> omega)
      rw [Tryd.cellsAct] at hc
      obtain ⟨_, hcl, hat⟩ := World.cells?_some hc
      obtain ⟨y0, y1, y2, y3, y4, y5, y6, n2, _, h0, h1, h2, h3, h4, h5, h6⟩ := trod_struct7 Tryd.underlying34 ht
      match cs', hcl with
      | [u0, u1, u2, u3, u4, u5, u6], _ =>
        obtain ⟨N0, hN0, _, _⟩ := DataW.trod_int Tryd.underlying3 h0
        obtain ⟨N1, hN1, _, _⟩ := DataW.trod_int Tryd.underlying3 h1
        obtain ⟨N2, hN2, _, hw2⟩ := DataW.trod_int Tryd.underlying3 h2
        obtain ⟨s3, hs3, _, _⟩ := DataW.trod_string Tryd.underlying9 h3
        obtain ⟨s4, hs4, _, _⟩ := DataW.trod_string Tryd.underlying9 h4
        have c3 : Tryd.prog.cellsOf 3 = 1 := by kernel_rfl
        have c9 : Tryd.prog.cellsOf 9 = 1 := by kernel_rfl
        have c32 : Tryd.prog.cellsOf 32 = 1 := by kernel_rfl
        have c29 : Tryd.prog.cellsOf 29 = 1 := by kernel_rfl
        rw [show Tryd.prog.cellsOf 9 = 1 from c9] at hs3 hs4
        rw [show Tryd.prog.cellsOf 3 = 1 from c3] at hN0 hN1 hN2
        have e0 : u0 = .int .i64 N0 := by simpa using hN0
        have e1 : u1 = .int .i64 N1 := by simpa using hN1
        have e2 : u2 = .int .i64 N2 := by simpa using hN2
        have e3 : u3 = .string s3 := by simpa using hs3
        have e4 : u4 = .string s4 := by simpa using hs4
        have e5 : DataW.trod enc Tryd.prog W 0 (fun _ => true) true n2 32 [u5] = some y5 := by
          have := h5
          simp only [c32] at this
          simpa using this
        have e6 : DataW.trod enc Tryd.prog W 0 (fun _ => true) true n2 29 [u6] = some y6 := by
          have := h6
          simp only [c29] at this
          simpa using this
        obtain ⟨Ab, bl, cb, rfl, hb1, hb2⟩ := bytes_of_cells e5
        obtain ⟨kl, hkl⟩ := bools_of_cells e6
        obtain ⟨Ak, ck, rfl⟩ := hkl.form
        subst e0; subst e1; subst e2; subst e3; subst e4
        exact ⟨⟨N0, N1, N2, s3, s4, ⟨bl.toArray⟩, kl⟩, Ab, Ak, cb, ck, hat 0 (by omega), hat 1 (by omega), hat 2 (by omega), hat 3 (by omega), hat 4 (by omega), hat 5 (by omega), hat 6 (by omega), fun W' hb => conv_bytes W W' Ab bl cb hb1 hb2 hb, hkl, (bounds_i64 hw2).2⟩
    obtain ⟨l, hll, hp⟩ := listOf n each
    exact ⟨l, some a, c, by rw [hll], by omega, hm, (fun e => by cases e), fun ad ha i x hx => by
      obtain rfl := Option.some.inj ha
      exact hp i x hx⟩
end Go.Proofs.YtcnmlgmlijgmhaaDoor

namespace Go.Proofs.YtcnmlgmlijgmhaaDoor
open Go Go.RowKit Go.Shelf Go.Maps

section
variable {w0 w : World} {L : Loc} {G N : Nat} {kv nv wv kev : Value} {left : Int} {D : DK}
theorem same_any {k : Nat} (h : Pair w0 w L G N kv nv wv kev left D) (I : Inv k D) (hk : k ≤ 100) :
    Calls Tryd.prog 15 #[.pointer (some ⟨L.F, 0, none⟩), .pointer (some ⟨G, 0, none⟩)] w fun e w' => e = .returned (.bool true) ∧ Below w.heap.size w w' := by
  have F := I.fit hk
  cases ho : D.off with
  | true => exact same_off h.d h.g ho
  | false => exact same_on h.d h.g ho I.aT.names F.hl F.us
end
abbrev docC (q : Int) : Array Value := #[.slice none 0 0, .slice none 0 0, .slice none 0 0, .int .i64 q, .int .i64 0, .int .i64 0, .bool false, .bool false, .int .i64 0, .slice none 0 0, .int .i64 0]
theorem own_none (w : World) (B : Nat) (e : TypeId) (k : Nat) : w.ownsRow B e k (.slice none 0 0) 0 [] := ⟨by simp, .inl ⟨rfl, rfl⟩⟩
theorem pair_start {w0 w : World} {L : Loc} {q : Int} (h : DiskIs w w0.heap.size L 0 (D0 q)) (hb : Below w0.heap.size w0 w) :
    Pair w0 (w.alloc (.cells (docC q) 31)) L w.heap.size 0 (.slice none 0 0) (.slice none 0 0) (.slice none 0 0) (.slice none 0 0) 0 (D0 q) :=
  ⟨h.alloc _, ⟨Blk.new w 31 (docC q), own_none _ _ _ _, own_none _ _ _ _, own_none _ _ _ _, fun e => absurd rfl e, hb.size⟩, hb.alloc hb.size _⟩
theorem pair_twin {w0 w1 w2 w3 : World} {L L2 L3 : Loc} {G N : Nat} {kv nv wv kev : Value} {left : Int} {D : DK} (P1 : Pair w0 w1 L G N kv nv wv kev left D) (d2 : DiskIs w2 w1.heap.size L2 N D) (P2 : Pair w0 w2 L G N kv nv wv kev left D) (n3 : Next w2 L w3 L3) : Pair w0 w3 L2 G N kv nv wv kev left D := by
  have hl : ∀ k, L.foot k → k < w1.heap.size := fun k hk => P1.d.foot_lt k hk
  refine ⟨(d2.apart n3.t (fun k hk hf => by have := d2.foot_lo k hk; have := hl k hf; omega) (fun k hk hf => by have := (d2.ks.lt k hk).1; have := hl k hf; omega)).base P1.b0, P2.g.far P2.d n3.t, P2.b.trans (n3.below P2.d P2.b0)⟩
/-- What stands at a round's head. -/
structure Head (w : World) (wr : World) (L : Loc) (G N : Nat) (kv nv wv kev : Value) (left : Int) (D : DK) (k : Nat) : Prop where
  p : Pair w wr L G N kv nv wv kev left D
  i : Inv k D
  n : N ≤ 100 * k
set_option maxRecDepth 100000 in
set_option maxHeartbeats 8000000 in
theorem filesPlay_any (w : World) (q : Int) (v : Value) (l : List Ac) (hl : ActsIn w v l) :
    Calls Tryd.prog 3 #[.int .i64 q, v] w fun e w' => e = .returned (.bool true) ∧ Below w.heap.size w w' := by
  have KN := Lib.hid (known5_any w)
  obtain ⟨A, c, rfl, hlc, hcm, hn, hat⟩ := hl
  have HAT := Lib.hid hat
  have HNO := Lib.hid hn
  have q0 : (0 : Int) ≤ (l.length : Int) := Int.natCast_nonneg _
  clear hat hn hlc hcm
  go_enter Tryd.func3, Tryd.ntmps3
  go_wp2_with fail
  refine KN.out.mono ?_
  rintro e wk ⟨rfl, bk⟩
  have BK := Lib.hid bk
  have NW := Lib.hid (new_disk wk q)
  clear KN bk
  by_cases h0 : 60 < l.length
  · have d0 : decide ((60 : Int) < (l.length : Int)) = true := decide_eq_true (by omega)
    go_wp2
    go_ret
    exact ⟨rfl, BK.out⟩
  have d0 : decide ((60 : Int) < (l.length : Int)) = false := decide_eq_false (by omega)
  have h60 : (l.length : Int) ≤ 60 := by omega
  clear h0
  go_wp2_with fail
  refine NW.out.mono ?_
  rintro e w2 ⟨L, rfl, dd, b2⟩
  have PS := Lib.hid (pair_start (dd.base BK.out.size) (BK.out.trans (b2.mono BK.out.size)))
  clear NW dd b2 BK d0
  go_wp2_with fail
  obtain ⟨G, hG⟩ : ∃ x, x = w2.heap.size := ⟨_, rfl⟩
  rw [← hG] at PS ⊢
  clear hG
  generalize hW3 : w2.alloc (.cells (docC q) 31) = w3 at *
  clear hW3
  go_loopw [5, 7] (fun s5 s7 wr => ∃ (k : Nat) (L' : Loc) (N : Nat) (kv nv wv kev : Value) (left : Int) (D : DK), k ≤ l.length ∧ s7 = .int .i64 k ∧ s5 = .pointer (some ⟨L'.F, 0, none⟩) ∧ Hid (Head w wr L' G N kv nv wv kev left D k)) (fun _ s7 _ => l.length - (intOf s7).toNat)
  case atStart => exact ⟨0, L, 0, _, _, _, _, _, _, by omega, rfl, rfl, Lib.hid ⟨PS.out, Inv.start q, by omega⟩⟩
  case round =>
    obtain ⟨k, L', N, kv, nv, wv, kev, left, D, hk, rfl, rfl, HH⟩ := hrel
    have k0 : (0 : Int) ≤ (k : Int) := Int.natCast_nonneg _
    by_cases hlt : k < l.length
    · have k1 : (k : Int) < (l.length : Int) := by omega
      have dl : decide ((k : Int) < (l.length : Int)) = true := decide_eq_true k1
      cases A with
      | none => exact absurd (HNO.out rfl) (fun e => by rw [e] at hlt; simp at hlt)
      | some ad =>
      obtain ⟨a, ha⟩ : ∃ a, l[k]? = some a := ⟨_, List.getElem?_eq_getElem hlt⟩
      obtain ⟨Ab, Ak, cb, ck, hact⟩ := HAT.out ad rfl k a ha
      have BB := Lib.hid HH.out.p.b
      have cc := fun (p : Addr) (u : Value) (hp : w.cell? p = some u) => (BB.out.cell (World.block_lt_of_cell? _ _ hp)).trans hp
      have e0 := cc _ _ hact.c0
      have e1 := cc _ _ hact.c1
      have e2 := cc _ _ hact.c2
      have e3 := cc _ _ hact.c3
      have e4 := cc _ _ hact.c4
      have e5 := cc _ _ hact.c5
      have e6 := cc _ _ hact.c6
      have K1 := Lib.hid (Blk.new wr 34 (actC a.op a.mode a.n a.p a.q (.slice Ab a.s.size cb) (.slice Ak a.ks.length ck)))
      have P1 := Lib.hid (HH.out.p.alloc (.cells (actC a.op a.mode a.n a.p a.q (.slice Ab a.s.size cb) (.slice Ak a.ks.length ck)) 34))
      have HV := Lib.hid (And.intro hact.hv (And.intro hact.hk hact.hn))
      have HB := Lib.hid (HH.out.p.b)
      have II := Lib.hid HH.out.i
      have NN := Lib.hid HH.out.n
      have HLT := Lib.hid hlt
      obtain ⟨op, mode, n, p, qq, s, ks⟩ := a
      dsimp only at e0 e1 e2 e3 e4 e5 e6 K1 P1 HV
      clear hact cc ha hk hlt HH
      have z3 : (0 : Int) ≤ (p.size : Int) := Int.natCast_nonneg _
      have z4 : (0 : Int) ≤ (qq.size : Int) := Int.natCast_nonneg _
      have z5 : (0 : Int) ≤ (s.size : Int) := Int.natCast_nonneg _
      have z6 : (0 : Int) ≤ (ks.length : Int) := Int.natCast_nonneg _
      go_upto_region 11 with fail
      obtain ⟨gb, hgb⟩ : ∃ x, x = wr.heap.size := ⟨_, rfl⟩
      rw [← hgb] at K1 ⊢
      clear hgb
      generalize hW1 : wr.alloc (.cells (actC op mode n p qq (.slice Ab s.size cb) (.slice Ak ks.length ck)) 34) = w1 at *
      clear hW1 e0 e1 e2 e3 e4 e5 e6
      have y0 := K1.out.cell 0
      have y1 := K1.out.cell 1
      have y2 := K1.out.cell 2
      have y3 := K1.out.cell 3
      have y4 := K1.out.cell 4
      have y5 := K1.out.cell 5
      have y6 := K1.out.cell 6
      by_cases h3 : 100 < p.size
      · have d3 : decide ((100 : Int) < (p.size : Int)) = true := decide_eq_true (by omega)
        go_wp2
        go_ret
        exact ⟨rfl, P1.out.b⟩
      have d3 : decide ((100 : Int) < (p.size : Int)) = false := decide_eq_false (by omega)
      by_cases h4 : 100 < qq.size
      · have d4 : decide ((100 : Int) < (qq.size : Int)) = true := decide_eq_true (by omega)
        go_wp2
        go_ret
        exact ⟨rfl, P1.out.b⟩
      have d4 : decide ((100 : Int) < (qq.size : Int)) = false := decide_eq_false (by omega)
      by_cases h5 : 300 < s.size
      · have d5 : decide ((300 : Int) < (s.size : Int)) = true := decide_eq_true (by omega)
        go_wp2
        go_ret
        exact ⟨rfl, P1.out.b⟩
      have d5 : decide ((300 : Int) < (s.size : Int)) = false := decide_eq_false (by omega)
      by_cases h6 : 100 < ks.length
      · have d6 : decide ((100 : Int) < (ks.length : Int)) = true := decide_eq_true (by omega)
        go_wp2
        go_ret
        exact ⟨rfl, P1.out.b⟩
      have d6 : decide ((100 : Int) < (ks.length : Int)) = false := decide_eq_false (by omega)
      have OK : (Ac.mk op mode n p qq s ks).Ok := ⟨by show p.size ≤ 100; omega, by show qq.size ≤ 100; omega, by show s.size ≤ 300; omega, by show ks.length ≤ 100; omega, HV.out.2.2⟩
      have BA := Lib.hid (both_any P1.out II.out (by have := HLT.out; omega) (Ac.mk op mode n p qq s ks) OK Ab Ak cb ck HV.out.1 HV.out.2.1 (by have := NN.out; have := HLT.out; omega))
      have IP := Lib.hid (II.out.play OK)
      have TW := Lib.hid (twin_any P1.out.d (by have := II.out.lS; have := HLT.out; omega) (by have := II.out.kl; omega))
      clear h3 h4 h5 h6 OK
      by_cases h12 : op = 12
      · subst h12
        clear BA IP
        go_wp2_with (first
          | (go_at_call 12; refine TW.out.mono ?_; rintro e w2 ⟨L2, rfl, d2, b2⟩; have D2 := Lib.hid d2; have P2 := Lib.hid (P1.out.below b2); have CT := Lib.hid (cut_any (P1.out.below b2).d (.slice none 0 0) [] (fun w' _ => Reads.nil w') (by have := NN.out; have := HLT.out; omega) (by have := II.out.lS; have := HLT.out; omega) P2.out.b0); clear d2 b2)
          | (go_at_call 13; refine CT.out.mono ?_; rintro e w3 ⟨L3, rfl, _, n3⟩; have P3 := Lib.hid (pair_twin P1.out D2.out P2.out n3); have SM := Lib.hid (same_any P3.out II.out (by have := HLT.out; omega)); clear n3)
          | (go_at_call 15; refine SM.out.mono ?_; rintro e w4 ⟨rfl, b4⟩; have P4 := Lib.hid (P3.out.below b4); clear b4))
        go_roundw
        case rel => exact ⟨k + 1, L2, _, _, _, _, _, _, _, by have := HLT.out; omega, by go_num, rfl, Lib.hid ⟨P4.out, II.out.mono, by have := NN.out; omega⟩⟩
        case measure => have := HLT.out; simp [intOf]; omega
      · have d12 : (op == 12) = false := by simpa using h12
        clear TW h12
        go_wp2_with (first
          | (go_at_call 14; refine BA.out.mono ?_; rintro e w3 ⟨L3, kv3, nv3, wv3, kev3, left3, rfl, p3, hF3⟩; have P3 := Lib.hid p3; rw [← hF3]; have SM := Lib.hid (same_any P3.out IP.out (by have := HLT.out; omega)); clear p3 hF3)
          | (go_at_call 15; refine SM.out.mono ?_; rintro e w4 ⟨rfl, b4⟩; have P4 := Lib.hid (P3.out.below b4); clear b4))
        go_roundw
        case rel => exact ⟨k + 1, L3, _, _, _, _, _, _, _, by have := HLT.out; omega, by go_num, rfl, Lib.hid ⟨P4.out, IP.out, by have := NN.out; have := HLT.out; omega⟩⟩
        case measure => have := HLT.out; simp [intOf]; omega
    · have hd : decide ((k : Int) < (l.length : Int)) = false := decide_eq_false (by omega)
      have HB := Lib.hid HH.out.p.b
      clear HH
      go_wp2_with fail
      go_ret
      exact ⟨rfl, HB.out⟩
end Go.Proofs.YtcnmlgmlijgmhaaDoor

namespace Go.Proofs.YtcnmlgmlijgmhaaDoor
open Go Go.RowKit
theorem filesPlay_law (w : World) (v : Value) (q : Int) (l : List Ac) (h : ActsIn w v l) :
    Calls Tryd.prog 3 #[.int .i64 q, v] w fun e w' => e = .returned (.bool true) ∧ Below w.heap.size w w' := filesPlay_any w q v l h
end Go.Proofs.YtcnmlgmlijgmhaaDoor
