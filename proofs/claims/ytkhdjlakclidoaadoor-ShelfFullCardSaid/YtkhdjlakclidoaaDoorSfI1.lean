/-
  slices.Insert at a row of shelves: one put at its place; the ways: at the end; no room; room.
-/
import Derived.Test.YtkhdjlakclidoaaDoorSfA
import Derived.Shelf.Spec.SlicesInsertGrow
import Derived.Lib.AppendZerosOnto
namespace Go.Proofs.YtkhdjlakclidoaaDoor
open Go Go.RowKit

theorem run_copy_four {P : Program} (w : World) (dT sT ty elem : TypeId) (b o dLen dCap : Nat) (a : Addr) (sLen sCap : Nat) (cs : List Value) (k : Nat)
    (hu : P.underlying dT = some (.slice elem)) (hs : (P.info? elem).map (·.size) = some 4) (hm : Nat.min sLen dLen = k) (hn : cs.length = k * 4)
    (hsrc : ∀ j v, cs[j]? = some v → w.cell? (a.add j) = some v) (hc : ∀ j, j < cs.length → (w.cell? ⟨b, o + j, none⟩).isSome = true) (hf : ∀ j, j < cs.length → w.frozen? ⟨b, o + j, none⟩ = false) (h1 : ∀ v ∈ cs, v.oneCell' = true) :
    (Builtin.copy_ #[dT, sT] ty #[.slice (some ⟨b, o, none⟩) dLen dCap, .slice (some a) sLen sCap]).run P w = .ok (goInt k) (w.setCells b o cs) := by
  have hl := run_loadCells_list (P := P) w a cs hsrc
  have hst := run_storeCells_cells (P := P) b o cs 0 w (by simpa using hc) (by simpa using hf) h1
  cases hq : P.info? elem with
  | none => simp [hq] at hs
  | some i =>
    have hi : i.size = 4 := by simpa [hq] using hs
    have hm' : min sLen dLen = k := hm
    simp [Builtin.copy_, run_underlying hu, Builtin.lenOf, Builtin.firstCells, sizeOf, typeInfo, hq, hi, hm', ← hn, hl, hst]

theorem rcs_one {r : Sf} (h : r.2.1.oneCell' = true) : ∀ u ∈ rcs r, u.oneCell' = true := by
  intro u hu
  simp at hu
  rcases hu with rfl | rfl | rfl | rfl <;> first | rfl | exact h
theorem size40 : (Tryd.prog.info? 40).map (·.size) = some 4 := by
  obtain ⟨i0, hi0, _, h1, _⟩ := info_parts sfInfo
  rw [hi0]; simp [h1]

set_option maxHeartbeats 4000000 in
set_option maxRecDepth 100000 in
theorem insert_shift (w : World) (B g cap i vb : Nat) (l : List Sf) (r : Sf) (hO : SOwn w B (.slice (some ⟨g, 0, none⟩) l.length cap) l) (hi : i < l.length) (hroom : l.length + 1 ≤ cap) (h1 : ∀ u ∈ sce l, u.oneCell' = true) (hr1 : r.2.1.oneCell' = true) (hvb : Blk w vb 40 (rcs r).toArray) (hne : vb ≠ g) :
    Calls Tryd.prog 34 #[.slice (some ⟨g, 0, none⟩) l.length cap, .int .i64 i, .slice (some ⟨vb, 0, none⟩) 1 1] w fun e w' =>
      e = .returned (.slice (some ⟨g, 0, none⟩) (l.length + 1) cap) ∧ w' = (w.drew.setCells g ((i + 1) * 4) (sce (l.drop i))).setCells g (i * 4) (rcs r) := by
  rcases hO.open_ with ⟨h, _⟩ | ⟨g', cap', cur, hv, hB, hb, hn, hmx, hs, hcs⟩
  · cases h
  injection hv with e1 e2 e3
  injection e1 with e1
  injection e1 with e1
  subst e1; subst e3
  unfold maxLen at hmx
  have hov : ∀ lb cb, (callFunc 50 #[.slice (some ⟨vb, 0, none⟩) 1 1, .slice (some ⟨g, (i + 1) * 4, none⟩) lb cb]).run Tryd.prog w = .ok (.value (.bool false)) w := fun lb cb => by
    rw [run_callFunc_extern Tryd.func50 (by kernel_rfl) (by kernel_rfl) (by kernel_rfl) (e := Extern.SlicesOverlaps.overlaps #[33, 33] #[4]) (by kernel_rfl),
      Lib.run_overlaps_apart w 33 4 40 Tryd.underlying33 4 Tryd.sizeOf40 ⟨vb, 0, none⟩ ⟨g, (i + 1) * 4, none⟩ 1 1 lb cb hne 40 40 4 cur.size (by unfold Blk at hvb; simp [World.shape?, hvb]) (by unfold Blk at hb; simp [World.shape?, hb]) (by omega) (hvb.frozen _) (hvb.frozen _)]
    rfl
  have hdl : (sce (l.drop i)).length = (l.length - i) * 4 := by rw [sce_len, List.length_drop]
  have hw1 : IntKind.i64.wrap ((i : Int) + 1) = (i : Int) + 1 := by rw [IntKind.wrap_i64]; omega
  have hw2 : IntKind.i64.wrap ((l.length : Int) + 1) = (l.length : Int) + 1 := by rw [IntKind.wrap_i64]; omega
  have hb1 : (0 : Int) ≤ (i : Int) + 1 := by omega
  have htn : ((i : Int) + 1).toNat = i + 1 := by omega
  have hn1 : ¬ ((i : Int) = (l.length : Int)) := by omega
  have hsp : ∀ j, j < (l.length + 1) * 4 → (w.cell? ⟨g, j, none⟩).isSome = true := fun j hj => by rw [hb.cell, Array.getElem?_eq_getElem (by omega)]; rfl
  have hcell : ∀ j v, (sce l)[j]? = some v → w.cell? ⟨g, j, none⟩ = some v := fun j v hj => by
    have := (List.getElem?_eq_some_iff.1 hj).1
    rw [sce_len] at this
    rw [hb.cell, hcs j this]; exact hj
  have hcp1 : ∀ ty dc sc, (Builtin.copy_ #[34, 34] ty #[.slice (some ⟨g, (i + 1) * 4, none⟩) (l.length - i) dc, .slice (some ⟨g, i * 4, none⟩) (l.length + 1 - i) sc]).run Tryd.prog w.drew = .ok (goInt (l.length - i : Nat)) (w.drew.setCells g ((i + 1) * 4) (sce (l.drop i))) := fun ty dc sc =>
    run_copy_four w.drew _ _ ty 40 g ((i + 1) * 4) _ dc ⟨g, i * 4, none⟩ _ sc (sce (l.drop i)) (l.length - i) Tryd.underlying34 size40 (by simp only [Nat.min_def]; split <;> omega) hdl
      (fun j v hj => by rw [Addr.add_lit]; exact hcell (i * 4 + j) v (by rw [sce_drop, List.getElem?_drop] at hj; exact hj))
      (fun j hj => hsp _ (by omega)) (fun j _ => hb.frozen _) (fun v hv => h1 v (by rw [sce_drop] at hv; exact List.mem_of_mem_drop hv))
  obtain ⟨W1, hW1⟩ : ∃ W1, W1 = w.drew.setCells g ((i + 1) * 4) (sce (l.drop i)) := ⟨_, rfl⟩
  have hsp1 : ∀ k, k < (l.length + 1) * 4 → (W1.cell? ⟨g, k, none⟩).isSome = true := fun k hk => by
    rw [hW1]
    exact isSome_setCells g (sce (l.drop i)) ((i + 1) * 4) w.drew (fun j hj => hsp _ (by rw [hdl] at hj; omega)) _ (hsp k hk)
  have hcp2 : ∀ ty dc, (Builtin.copy_ #[34, 33] ty #[.slice (some ⟨g, i * 4, none⟩) (l.length + 1 - i) dc, .slice (some ⟨vb, 0, none⟩) 1 1]).run Tryd.prog W1 = .ok (goInt 1) (W1.setCells g (i * 4) (rcs r)) := fun ty dc =>
    run_copy_four W1 _ _ ty 40 g (i * 4) _ dc ⟨vb, 0, none⟩ 1 1 (rcs r) 1 Tryd.underlying34 size40 (by simp only [Nat.min_def]; split <;> omega) rfl
      (fun j v hj => by
        rw [Addr.add_lit, hW1, World.cell?_setCells_out g _ _ _ _ (fun h _ => absurd h hne)]
        have := hvb.cell (0 + j)
        rw [show w.drew.cell? ⟨vb, 0 + j, none⟩ = w.cell? ⟨vb, 0 + j, none⟩ from rfl, this, Nat.zero_add]
        simpa using hj)
      (fun j hj => hsp1 _ (by simp at hj; omega)) (fun j _ => by rw [hW1, World.frozen?_setCells]; exact hb.frozen _) (rcs_one hr1)
  rw [← hW1] at hcp1 ⊢
  have HW := Lib.hid hW1
  clear hW1 hsp hsp1 hcell hcs hs hdl hO
  have hlt : i + 1 ≤ l.length + 1 := by omega
  have hle : i ≤ l.length := by omega
  have hle1 : i ≤ l.length + 1 := by omega
  have hle2 : (i : Int) ≤ (l.length : Int) + 1 := by omega
  have hq1 : ¬ (cap = i + 1) := by omega
  have hq2 : ¬ (cap = i) := by omega
  go_enter Tryd.func34, Tryd.ntmps34
  go_wp2_with (simp only [hov])
  go_region_law (refine step_copy_runI rfl _ _ 34 34 rfl _ _ (by simp [Act.eval, Act.put]) (by simp [Act.eval, Act.put]) (hcp1 _ _ _) ?_)
  go_wp2_with (at_builtin; refine wpList_copy_runI _ rfl _ _ 34 33 rfl _ _ rfl rfl (hcp2 _ _) ?_)
  go_ret
  exact ⟨rfl, rfl⟩
end Go.Proofs.YtkhdjlakclidoaaDoor
