/-
  slices.Insert at a row of names: one name put at its place; the ways: at the end; no room; room.
-/
import Derived.Test.YtkhdjlakclidoaaNTab
import Derived.Shelf.Spec.SlicesInsertGrow
import Derived.Lib.AppendZerosOnto
namespace Go.Proofs.Ytkhdjlakclidoaa
open Go.RowKit

theorem run_copy_two {P : Program} (w : World) (dT sT ty elem : TypeId) (b o dLen dCap : Nat) (a : Addr) (sLen sCap : Nat) (cs : List Value) (k : Nat)
    (hu : P.underlying dT = some (.slice elem)) (hs : (P.info? elem).map (·.size) = some 2) (hm : Nat.min sLen dLen = k) (hn : cs.length = k * 2)
    (hsrc : ∀ j v, cs[j]? = some v → w.cell? (a.add j) = some v) (hc : ∀ j, j < cs.length → (w.cell? ⟨b, o + j, none⟩).isSome = true) (hf : ∀ j, j < cs.length → w.frozen? ⟨b, o + j, none⟩ = false) (h1 : ∀ v ∈ cs, v.oneCell' = true) :
    (Builtin.copy_ #[dT, sT] ty #[.slice (some ⟨b, o, none⟩) dLen dCap, .slice (some a) sLen sCap]).run P w = .ok (goInt k) (w.setCells b o cs) := by
  have hl := run_loadCells_list (P := P) w a cs hsrc
  have hst := run_storeCells_cells (P := P) b o cs 0 w (by simpa using hc) (by simpa using hf) h1
  cases hq : P.info? elem with
  | none => simp [hq] at hs
  | some i =>
    have hi : i.size = 2 := by simpa [hq] using hs
    have hm' : min sLen dLen = k := hm
    simp [Builtin.copy_, run_underlying hu, Builtin.lenOf, Builtin.firstCells, sizeOf, typeInfo, hq, hi, hm', ← hn, hl, hst]

theorem size43 : (Try.prog.info? 43).map (·.size) = some 2 := by
  obtain ⟨i0, hi0, _, h1, _⟩ := info_parts refInfo
  rw [hi0]; simp [h1]

set_option maxHeartbeats 4000000 in
set_option maxRecDepth 100000 in
theorem insert_shift (w : World) (B g cap i vb : Nat) (l : List Rf) (r : Rf) (hO : Own w B (.slice (some ⟨g, 0, none⟩) l.length cap) l) (hi : i < l.length) (hroom : l.length + 1 ≤ cap) (hvb : Blk w vb 43 #[.string r.1, .int .i64 r.2]) (hne : vb ≠ g) :
    Calls Try.prog 25 #[.slice (some ⟨g, 0, none⟩) l.length cap, .int .i64 i, .slice (some ⟨vb, 0, none⟩) 1 1] w fun e w' =>
      e = .returned (.slice (some ⟨g, 0, none⟩) (l.length + 1) cap) ∧ w' = (w.drew.setCells g ((i + 1) * 2) (ce (l.drop i))).setCells g (i * 2) [.string r.1, .int .i64 r.2] := by
  rcases hO.open_ with ⟨h, _⟩ | ⟨g', cap', cur, hv, hB, hb, hn, hmx, hs, hcs⟩
  · cases h
  injection hv with e1 e2 e3
  injection e1 with e1
  injection e1 with e1
  subst e1; subst e3
  unfold maxLen at hmx
  have hov : ∀ lb cb, (callFunc 33 #[.slice (some ⟨vb, 0, none⟩) 1 1, .slice (some ⟨g, (i + 1) * 2, none⟩) lb cb]).run Try.prog w = .ok (.value (.bool false)) w := fun lb cb => by
    rw [run_callFunc_extern Try.func33 (by kernel_rfl) (by kernel_rfl) (by kernel_rfl) (e := Extern.SlicesOverlaps.overlaps #[27, 27] #[4]) (by kernel_rfl),
      Lib.run_overlaps_apart w 27 4 43 Try.underlying27 2 Try.sizeOf43 ⟨vb, 0, none⟩ ⟨g, (i + 1) * 2, none⟩ 1 1 lb cb hne 43 43 2 cur.size (by unfold Blk at hvb; simp [World.shape?, hvb]) (by unfold Blk at hb; simp [World.shape?, hb]) (by omega) (hvb.frozen _) (hvb.frozen _)]
    rfl
  have hdl : (ce (l.drop i)).length = (l.length - i) * 2 := by rw [ce_len, List.length_drop]
  have hw1 : IntKind.i64.wrap ((i : Int) + 1) = (i : Int) + 1 := by rw [IntKind.wrap_i64]; omega
  have hw2 : IntKind.i64.wrap ((l.length : Int) + 1) = (l.length : Int) + 1 := by rw [IntKind.wrap_i64]; omega
  have hb1 : (0 : Int) ≤ (i : Int) + 1 := by omega
  have htn : ((i : Int) + 1).toNat = i + 1 := by omega
  have hn1 : ¬ ((i : Int) = (l.length : Int)) := by omega
  have hsp : ∀ j, j < (l.length + 1) * 2 → (w.cell? ⟨g, j, none⟩).isSome = true := fun j hj => by rw [hb.cell, Array.getElem?_eq_getElem (by omega)]; rfl
  have hcell : ∀ j v, (ce l)[j]? = some v → w.cell? ⟨g, j, none⟩ = some v := fun j v hj => by
    have := (List.getElem?_eq_some_iff.1 hj).1
    rw [ce_len] at this
    rw [hb.cell, hcs j this]; exact hj
  have hcp1 : ∀ ty dc sc, (Builtin.copy_ #[27, 27] ty #[.slice (some ⟨g, (i + 1) * 2, none⟩) (l.length - i) dc, .slice (some ⟨g, i * 2, none⟩) (l.length + 1 - i) sc]).run Try.prog w.drew = .ok (goInt (l.length - i : Nat)) (w.drew.setCells g ((i + 1) * 2) (ce (l.drop i))) := fun ty dc sc =>
    run_copy_two w.drew _ _ ty 43 g ((i + 1) * 2) _ dc ⟨g, i * 2, none⟩ _ sc (ce (l.drop i)) (l.length - i) Try.underlying27 size43 (by simp only [Nat.min_def]; split <;> omega) hdl
      (fun j v hj => by rw [Addr.add_lit]; exact hcell (i * 2 + j) v (by rw [ce_drop, List.getElem?_drop] at hj; exact hj))
      (fun j hj => hsp _ (by omega)) (fun j _ => hb.frozen _) (fun v hv => ce_one _ v hv)
  obtain ⟨W1, hW1⟩ : ∃ W1, W1 = w.drew.setCells g ((i + 1) * 2) (ce (l.drop i)) := ⟨_, rfl⟩
  have hsp1 : ∀ k, k < (l.length + 1) * 2 → (W1.cell? ⟨g, k, none⟩).isSome = true := fun k hk => by
    rw [hW1]
    exact isSome_setCells g (ce (l.drop i)) ((i + 1) * 2) w.drew (fun j hj => hsp _ (by rw [hdl] at hj; omega)) _ (hsp k hk)
  have hcp2 : ∀ ty dc, (Builtin.copy_ #[27, 27] ty #[.slice (some ⟨g, i * 2, none⟩) (l.length + 1 - i) dc, .slice (some ⟨vb, 0, none⟩) 1 1]).run Try.prog W1 = .ok (goInt 1) (W1.setCells g (i * 2) [.string r.1, .int .i64 r.2]) := fun ty dc =>
    run_copy_two W1 _ _ ty 43 g (i * 2) _ dc ⟨vb, 0, none⟩ 1 1 [.string r.1, .int .i64 r.2] 1 Try.underlying27 size43 (by simp only [Nat.min_def]; split <;> omega) rfl
      (fun j v hj => by
        rw [Addr.add_lit, hW1, World.cell?_setCells_out g _ _ _ _ (fun h _ => absurd h hne)]
        have := hvb.cell (0 + j)
        rw [show w.drew.cell? ⟨vb, 0 + j, none⟩ = w.cell? ⟨vb, 0 + j, none⟩ from rfl, this, Nat.zero_add]
        simpa using hj)
      (fun j hj => hsp1 _ (by simp at hj; omega)) (fun j _ => by rw [hW1, World.frozen?_setCells]; exact hb.frozen _) (fun v hv => by simp at hv; rcases hv with rfl | rfl <;> rfl)
  rw [← hW1] at hcp1 ⊢
  have HW := Lib.hid hW1
  clear hW1 hsp hsp1 hcell hcs hs hdl hO
  have hlt : i + 1 ≤ l.length + 1 := by omega
  have hle : i ≤ l.length := by omega
  have hle1 : i ≤ l.length + 1 := by omega
  have hle2 : (i : Int) ≤ (l.length : Int) + 1 := by omega
  have hq1 : ¬ (cap = i + 1) := by omega
  have hq2 : ¬ (cap = i) := by omega
  go_enter Try.func25, Try.ntmps25
  go_wp2_with (simp only [hov])
  go_region_law (refine step_copy_runI rfl _ _ 27 27 rfl _ _ (by simp [Act.eval, Act.put]) (by simp [Act.eval, Act.put]) (hcp1 _ _ _) ?_)
  go_wp2_with (at_builtin; refine wpList_copy_runI _ rfl _ _ 27 27 rfl _ _ rfl rfl (hcp2 _ _) ?_)
  go_ret
  exact ⟨rfl, rfl⟩
end Go.Proofs.Ytkhdjlakclidoaa
