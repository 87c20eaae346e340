/-
  slices.Insert at a row of shelves, where there is no room; at the end; all ways in one contract.
-/
import Derived.Test.YtkhdjlakclidoaaDoorSfI1
import Derived.Laws.AppendOwnNone
namespace Go.Proofs.YtkhdjlakclidoaaDoor
open Go Go.RowKit

set_option maxHeartbeats 4000000 in
set_option maxRecDepth 100000 in
theorem insert_grow (w : World) (B g cap i vb : Nat) (l : List Sf) (r : Sf) (hO : SOwn w B (.slice (some ⟨g, 0, none⟩) l.length cap) l) (hi : i < l.length) (hroom : cap < l.length + 1) (hfew : l.length ≤ 1000) (h1 : ∀ u ∈ sce l, u.oneCell' = true) (hr1 : r.2.1.oneCell' = true) (hvb : Blk w vb 40 (rcs r).toArray) :
    Calls Tryd.prog 34 #[.slice (some ⟨g, 0, none⟩) l.length cap, .int .i64 i, .slice (some ⟨vb, 0, none⟩) 1 1] w fun e w' => ∃ (G : Nat) (ROW : Array Value),
      e = .returned (.slice (some ⟨w.heap.size, 0, none⟩) (l.length + 1) G) ∧ l.length + 1 ≤ G ∧ G ≤ maxLen ∧ ROW.size = G * 4 ∧ (∀ j, j < i * 4 → ROW[j]? = (sce l)[j]?) ∧
      w' = (((w.alloc (.cells ROW 40)).drew.setCells w.heap.size (i * 4) (rcs r)).drew).setCells w.heap.size ((i + 1) * 4) (sce (l.drop i)) := by
  rcases hO.open_ with ⟨h, _⟩ | ⟨g', cap', cur, hv, hB, hb, hn, hmx, hs, hcs⟩
  · cases h
  injection hv with e1 e2 e3
  injection e1 with e1
  injection e1 with e1
  subst e1; subst e3
  unfold maxLen at hmx
  obtain ⟨i0, hi0, hz0, hzs, hzb⟩ := info_parts sfInfo
  have hdl : (sce (l.drop i)).length = (l.length - i) * 4 := by rw [sce_len, List.length_drop]
  have hbw := hb.lt
  have hvw := hvb.lt
  have hcell : ∀ j v, (sce l)[j]? = some v → w.cell? ⟨g, j, none⟩ = some v := fun j v hj => by
    have := (List.getElem?_eq_some_iff.1 hj).1
    rw [sce_len] at this
    rw [hb.cell, hcs j this]; exact hj
  have hkk : (l.length : Int) + 1 - (i : Int) = ((l.length + 1 - i : Nat) : Int) := by omega
  have hik : i + (l.length + 1 - i) = l.length + 1 := by omega
  have hold : (Builtin.firstCells i0.size i (.slice (some ⟨g, 0, none⟩) i cap)).run Tryd.prog w.drew = .ok (sce (l.take i)).toArray w.drew := by
    rw [hzs]
    exact run_firstCells_some w.drew 4 i ⟨g, 0, none⟩ i cap (sce (l.take i)) (by rw [sce_len, List.length_take]; omega) (fun j v hj => by
      rw [Addr.add_lit, Nat.zero_add]
      rw [sce_take, List.getElem?_take] at hj
      split at hj
      · exact hcell j v hj
      · cases hj)
  obtain ⟨G, hG⟩ : ∃ G, G = grownCap w (l.length + 1) cap 40 := ⟨_, rfl⟩
  obtain ⟨ROW, hROW⟩ : ∃ ROW : Array Value, ROW = (sce (l.take i)).toArray ++ Builtin.zeroCells (Value.agg #[.int .i64 0, .slice none 0 0, .slice none 0 0, .string ⟨#[]⟩]).cells (l.length + 1 - i) ++ Builtin.zeroCells (Value.agg #[.int .i64 0, .slice none 0 0, .slice none 0 0, .string ⟨#[]⟩]).cells (G - (l.length + 1)) := ⟨_, rfl⟩
  have hrz : ∀ ty, (Builtin.append_ #[34, 3] ty #[.slice (some ⟨g, 0, none⟩) i cap, .int .i64 ((l.length : Int) + 1 - (i : Int))]).run Tryd.prog w =
      .ok (.slice (some ⟨w.heap.size, 0, none⟩) (l.length + 1) G) (w.drew.alloc (.cells ROW 40)) := fun ty => by
    have h := Lib.run_append_grow_zeros w 34 3 ty 40 i0 _ .i64 .i64 Tryd.underlying34 Tryd.underlying3 hi0 hz0 (some ⟨g, 0, none⟩) i cap (sce (l.take i)) hold (l.length + 1 - i) (by omega) (by omega) (by omega) (by omega) (by rw [hzb]; omega) (by rw [hzb, hik]; exact growslice_fits hroom (by omega))
    rw [hik] at h
    rw [hkk, hROW, hG]
    exact h
  have hGn : l.length + 1 ≤ G := by rw [hG]; exact grownCap_ge w _ _ _
  have hGm : G ≤ maxLen := by
    have := grownCap_le_maxLen w (l.length + 1) cap 40 (by unfold maxLen; omega)
    rw [← hG] at this
    exact this
  have hzl : ∀ k, (Builtin.zeroCells (Value.agg #[.int .i64 0, .slice none 0 0, .slice none 0 0, .string ⟨#[]⟩]).cells k).size = k * 4 := fun k => by rw [size_zeroCells]; rfl
  have hcl : (sce (l.take i)).length = i * 4 := by rw [sce_len, List.length_take]; omega
  have hRs : ROW.size = G * 4 := by
    rw [hROW, Array.size_append, Array.size_append, hzl, hzl, List.size_toArray, hcl]
    omega
  have hRc : ∀ j, j < i * 4 → ROW[j]? = (sce l)[j]? := fun j hj => by
    rw [hROW, Array.append_assoc, Array.getElem?_append_left (by rw [List.size_toArray, hcl]; exact hj), List.getElem?_toArray, sce_take, List.getElem?_take, if_pos hj]
  clear hROW hG hold hcl hzl
  obtain ⟨W1, hW1⟩ : ∃ W1, W1 = w.drew.alloc (.cells ROW 40) := ⟨_, rfl⟩
  have hN : ∀ j, j < (l.length + 1) * 4 → (W1.cell? ⟨w.heap.size, j, none⟩).isSome = true := fun j hj => by
    rw [hW1, World.cell?_alloc_at (w := w.drew) ROW _ w.heap.size j rfl, Array.getElem?_eq_getElem (by omega)]; rfl
  have hNf : ∀ j, W1.frozen? ⟨w.heap.size, j, none⟩ = false := fun j => by rw [hW1]; exact World.frozen?_alloc_at (w := w.drew) ROW _ w.heap.size j rfl
  have hOb : ∀ j v, w.cell? ⟨g, j, none⟩ = some v → W1.cell? ⟨g, j, none⟩ = some v := fun j v h => by rw [hW1, World.cell?_alloc_past (w := w.drew) _ g j hbw]; exact h
  have hOv : ∀ j v, w.cell? ⟨vb, j, none⟩ = some v → W1.cell? ⟨vb, j, none⟩ = some v := fun j v h => by rw [hW1, World.cell?_alloc_past (w := w.drew) _ vb j hvw]; exact h
  have hcpA : ∀ (W : World), (∀ x, W.cell? x = W1.cell? x) → (∀ x, W.frozen? x = W1.frozen? x) → ∀ ty dc, (Builtin.copy_ #[34, 33] ty #[.slice (some ⟨w.heap.size, i * 4, none⟩) (l.length + 1 - i) dc, .slice (some ⟨vb, 0, none⟩) 1 1]).run Tryd.prog W = .ok (goInt 1) (W.setCells w.heap.size (i * 4) (rcs r)) := fun W hWc hWf ty dc =>
    run_copy_four W _ _ ty 40 w.heap.size (i * 4) _ dc ⟨vb, 0, none⟩ 1 1 (rcs r) 1 Tryd.underlying34 size40 (by simp only [Nat.min_def]; split <;> omega) rfl
      (fun j v hj => by
        rw [Addr.add_lit, hWc, Nat.zero_add]
        exact hOv _ v (by rw [hvb.cell]; simpa using hj))
      (fun j hj => by rw [hWc]; exact hN _ (by simp at hj; omega)) (fun j hj => by rw [hWf]; exact hNf _) (rcs_one hr1)
  have hbN : g ≠ w.heap.size := by omega
  have hcpB : ∀ (W : World), (∀ x, W.cell? x = (W1.setCells w.heap.size (i * 4) (rcs r)).cell? x) → (∀ x, W.frozen? x = (W1.setCells w.heap.size (i * 4) (rcs r)).frozen? x) → ∀ ty dc sc, (Builtin.copy_ #[34, 34] ty #[.slice (some ⟨w.heap.size, (i + 1) * 4, none⟩) (l.length - i) dc, .slice (some ⟨g, i * 4, none⟩) (l.length - i) sc]).run Tryd.prog W = .ok (goInt (l.length - i : Nat)) (W.setCells w.heap.size ((i + 1) * 4) (sce (l.drop i))) := fun W hWc hWf ty dc sc =>
    run_copy_four W _ _ ty 40 w.heap.size ((i + 1) * 4) _ dc ⟨g, i * 4, none⟩ _ sc (sce (l.drop i)) (l.length - i) Tryd.underlying34 size40 (by simp only [Nat.min_def]; split <;> omega) hdl
      (fun j v hj => by
        rw [Addr.add_lit, hWc, World.cell?_setCells_out _ _ _ _ _ (fun h _ => absurd h hbN)]
        exact hOb _ v (hcell (i * 4 + j) v (by rw [sce_drop, List.getElem?_drop] at hj; exact hj)))
      (fun j hj => by rw [hWc]; exact isSome_setCells _ (rcs r) (i * 4) W1 (fun t ht => hN _ (by simp at ht; omega)) _ (hN _ (by rw [hdl] at hj; omega)))
      (fun j hj => by rw [hWf, World.frozen?_setCells]; exact hNf _) (fun v hv => h1 v (by rw [sce_drop] at hv; exact List.mem_of_mem_drop hv))
  rw [← hW1] at hrz
  subst hW1
  have hE1 : ∀ x, ((w.alloc (.cells ROW 40)).drew).cell? x = (w.drew.alloc (.cells ROW 40)).cell? x := fun x => rfl
  have hE2 : ∀ x, ((w.alloc (.cells ROW 40)).drew).frozen? x = (w.drew.alloc (.cells ROW 40)).frozen? x := fun x => rfl
  have hF1 : ∀ x, (((w.alloc (.cells ROW 40)).drew.setCells w.heap.size (i * 4) (rcs r)).drew).cell? x = ((w.drew.alloc (.cells ROW 40)).setCells w.heap.size (i * 4) (rcs r)).cell? x := fun x => rfl
  have hF2 : ∀ x, (((w.alloc (.cells ROW 40)).drew.setCells w.heap.size (i * 4) (rcs r)).drew).frozen? x = ((w.drew.alloc (.cells ROW 40)).setCells w.heap.size (i * 4) (rcs r)).frozen? x := fun x => rfl
  have HR := Lib.hid hRc
  have HS := Lib.hid hRs
  have HM := Lib.hid hGm
  unfold maxLen at hGm
  have hw1 : IntKind.i64.wrap ((i : Int) + 1) = (i : Int) + 1 := by rw [IntKind.wrap_i64]; omega
  have hb1 : (0 : Int) ≤ (i : Int) + 1 := by omega
  have htn : ((i : Int) + 1).toNat = i + 1 := by omega
  have hn1 : ¬ ((i : Int) = (l.length : Int)) := by omega
  have hroomi : (cap : Int) < (l.length : Int) + 1 := by omega
  have hle : i ≤ l.length := by omega
  have hlei : (i : Int) ≤ (l.length : Int) := by omega
  have hle1 : i ≤ l.length + 1 := by omega
  have hle2 : (i : Int) ≤ (l.length : Int) + 1 := by omega
  have hq1 : ¬ (cap = i) := by omega
  have hq2 : ¬ (G = i) := by omega
  have hq3 : ¬ (G = i + 1) := by omega
  clear hkk hik hRc hRs hN hNf hOb hOv hdl hcs hs hcell hO hi0 hz0 hzs hzb
  go_enter Tryd.func34, Tryd.ntmps34
  go_wp2_with (first
    | (at_builtin; refine Lib.wpList_append_run _ rfl _ _ _ _ rfl _ _ rfl rfl _ _ (hrz _) ?_)
    | (at_builtin; refine wpList_copy_runI _ rfl _ _ 34 33 rfl _ _ rfl rfl (hcpA _ hE1 hE2 _ _) ?_))
  go_region_law (refine step_copy_runI rfl _ _ 34 34 rfl (.slice (some ⟨w.heap.size, (i + 1) * 4, none⟩) (l.length - i) (G - (i + 1))) (.slice (some ⟨g, i * 4, none⟩) (l.length - i) (cap - i)) (by simp [Act.eval, Act.put]) (by simp [Act.eval, Act.put]) (hcpB _ hF1 hF2 3 (G - (i + 1)) (cap - i)) ?_)
  go_wp2
  go_ret
  exact ⟨G, ROW, rfl, hGn, HM.out, HS.out, HR.out, rfl⟩
end Go.Proofs.YtkhdjlakclidoaaDoor
