/-
  slices.Delete at a row of shelves: one taken out.
-/
import Derived.Test.YtkhdjlakclidoaaDoorSfI3
import Derived.Lib.SliceRun
namespace Go.Proofs.YtkhdjlakclidoaaDoor
open Go Go.RowKit

theorem run_clear_one {P : Program} (w : World) (t e ty : TypeId) (z : Value) (x y x2 y2 : Value) (ht : P.underlying t = some (.slice e)) (hv : ∀ w, (zeroValue e).run P w = .ok z w) (hz : z.cells = #[x, y, x2, y2]) (hx : x.oneCell' = true) (hy : y.oneCell' = true) (hx2 : x2.oneCell' = true) (hy2 : y2.oneCell' = true) (b o c : Nat)
    (hc : ∀ j, j < 4 → (w.cell? ⟨b, o + j, none⟩).isSome = true) (hf : ∀ j, j < 4 → w.frozen? ⟨b, o + j, none⟩ = false) :
    (Builtin.clear_ #[t] ty #[.slice (some ⟨b, o, none⟩) 1 c]).run P w = .ok (.tuple #[]) (w.setCells b o [x, y, x2, y2]) := by
  have hzc : (Builtin.zeroCells z.cells 1).toList = [x, y, x2, y2] := by
    rw [hz]
    simp [Builtin.zeroCells]
    rfl
  have hst := run_storeCells_cells (P := P) b o [x, y, x2, y2] 0 w (by simpa using hc) (by simpa using hf) (by intro v hv'; simp at hv'; rcases hv' with rfl | rfl | rfl | rfl <;> assumption)
  simp only [Nat.add_zero] at hst
  simp [Builtin.clear_, run_underlying ht, hv, hzc, hst]

set_option maxHeartbeats 4000000 in
set_option maxRecDepth 1000000 in
theorem delete_run (w : World) (B g cap i : Nat) (l : List Sf) (hO : SOwn w B (.slice (some ⟨g, 0, none⟩) l.length cap) l) (h1 : ∀ u ∈ sce l, u.oneCell' = true) (hi : i < l.length) :
    Calls Tryd.prog 38 #[.slice (some ⟨g, 0, none⟩) l.length cap, .int .i64 i, .int .i64 ((i : Int) + 1)] w fun e w' =>
      e = .returned (.slice (some ⟨g, 0, none⟩) (l.length - 1) cap) ∧ w' = (w.drew.setCells g (i * 4) (sce (l.drop (i + 1)))).setCells g ((l.length - 1) * 4) [.int .i64 0, .slice none 0 0, .slice none 0 0, .string ⟨#[]⟩] := by
  rcases hO.open_ with ⟨h, _⟩ | ⟨g', cap', cur, hv, hB, hb, hn, hmx, hs, hcs⟩
  · cases h
  injection hv with e1 e2 e3
  injection e1 with e1
  injection e1 with e1
  subst e1; subst e3
  unfold maxLen at hmx
  obtain ⟨i0, hi0, hz0, hz1, hz2⟩ := info_parts sfInfo
  obtain ⟨n, hnn⟩ : ∃ n, n = l.length := ⟨_, rfl⟩
  obtain ⟨news, hnews⟩ : ∃ news, news = sce (l.drop (i + 1)) := ⟨_, rfl⟩
  have hlen : news.length = (n - (i + 1)) * 4 := by rw [hnews, sce_len, List.length_drop, hnn]
  have hcell : ∀ j v, (sce l)[j]? = some v → w.cell? ⟨g, j, none⟩ = some v := fun j v hj => by
    have := (List.getElem?_eq_some_iff.1 hj).1
    rw [sce_len] at this
    rw [hb.cell, hcs j this]; exact hj
  obtain ⟨A, hA, hsrc⟩ : ∃ A : Addr, (if cap = i + 1 then some (⟨g, 0, none⟩ : Addr) else some ⟨g, (i + 1) * 4, none⟩) = some A ∧ Hid (∀ t u, news[t]? = some u → w.drew.cell? (A.add t) = some u) := by
    by_cases h : cap = i + 1
    · refine ⟨⟨g, 0, none⟩, by simp [h], fun t u hu => ?_⟩
      have h0 : news.length = 0 := by rw [hlen]; omega
      rw [List.length_eq_zero_iff.1 h0] at hu
      simp at hu
    · refine ⟨⟨g, (i + 1) * 4, none⟩, by simp [h], fun t u hu => ?_⟩
      rw [Addr.add_lit]
      exact hcell _ u (by rw [hnews, sce_drop, List.getElem?_drop] at hu; exact hu)
  have s1 : Hid (news.length = (n - (i + 1)) * 4) := hlen
  have s2 : Hid (∀ u ∈ news, u.oneCell' = true) := by rw [hnews]; intro u hu; exact h1 u (by rw [sce_drop] at hu; exact List.mem_of_mem_drop hu)
  have hsp : ∀ j, j < cap * 4 → (w.cell? ⟨g, j, none⟩).isSome = true := fun j hj => by rw [hb.cell, Array.getElem?_eq_getElem (by omega)]; rfl
  have s3 : Hid (∀ t, t < news.length → (w.drew.cell? ⟨g, 0 + i * 4 + t, none⟩).isSome = true ∧ w.drew.frozen? ⟨g, 0 + i * 4 + t, none⟩ = false) := by
    intro t ht
    rw [hlen] at ht
    exact ⟨hsp _ (by omega), hb.frozen _⟩
  obtain ⟨W1, hW1⟩ : ∃ W1, W1 = w.drew.setCells g (0 + i * 4) news := ⟨_, rfl⟩
  have hi' : i < n := by omega
  have e1 : n - (i + (n - (i + 1))) = 1 := by omega
  have e2 : i + (n - (i + 1)) = n - 1 := by omega
  have hcl : ∀ ty c, (Builtin.clear_ #[34] ty #[.slice (some ⟨g, (i + (n - (i + 1))) * 4, none⟩) (n - (i + (n - (i + 1)))) c]).run Tryd.prog W1 = .ok (.tuple #[]) (W1.setCells g ((n - 1) * 4) [.int .i64 0, .slice none 0 0, .slice none 0 0, .string ⟨#[]⟩]) := fun ty c => by
    rw [e1, e2]
    exact run_clear_one W1 34 40 ty _ _ _ _ _ Tryd.underlying34 Tryd.zeroValue40 rfl rfl rfl rfl rfl g ((n - 1) * 4) c (fun t ht => by rw [hW1]; exact isSome_setCells g news (0 + i * 4) w.drew (fun j hj => hsp _ (by rw [hlen] at hj; omega)) _ (hsp _ (by omega))) (fun t ht => by rw [hW1, World.frozen?_setCells]; exact hb.frozen _)
  have HW : Hid (W1 = w.drew.setCells g (0 + i * 4) news) := hW1
  have HN : Hid (news = sce (l.drop (i + 1))) := hnews
  rw [← hnn] at hi hn ⊢
  have HNN : Hid (n = l.length) := hnn
  have hw1 : IntKind.i64.wrap ((i : Int) + 1) = (i : Int) + 1 := by rw [IntKind.wrap_i64]; omega
  have htn : ((i : Int) + 1).toNat = i + 1 := by omega
  have hb1 : (0 : Int) ≤ (i : Int) + 1 := by omega
  have hne : ¬ ((i : Int) = (i : Int) + 1) := by omega
  have hle : (i : Int) + 1 ≤ (n : Int) := by omega
  have hle2 : i + 1 ≤ n := by omega
  have hle3 : i ≤ n := by omega
  have hle4 : (i : Int) ≤ (i : Int) + 1 := by omega
  have hq : ¬ (n = i) := by omega
  have hic : i ≤ cap := by omega
  have hjc : i + 1 ≤ cap := by omega
  have hcn : (n : Int) ≤ (cap : Int) := by omega
  have HE := Lib.hid e2
  clear e1 e2 hi'
  clear hnews hW1 hcell hcs hs hsp hlen hO hnn
  go_enter Tryd.func38, Tryd.ntmps38
  go_wp2_with fail
  go_region_law (refine step_append_room rfl (.tmp 22) (.tmp 25) 34 rfl 40 i0 4 Tryd.underlying34 hi0 hz1 g 0 i cap (by simp [Act.eval, Act.put]) A (n - (i + 1)) (cap - (i + 1)) news (by simp [Act.eval, Act.put]) s1.out hsrc.out s2.out (by omega) s3.out ?_; rw [← HW.out])
  go_wp2_with fail
  go_ret
  refine ⟨?_, ?_⟩
  · show Ending.returned (.slice (some ⟨g, 0, none⟩) (i + (n - (i + 1))) cap) = _
    rw [HE.out]
  · rw [← HN.out, HW.out, Nat.zero_add]

/-- l without its element i. -/
def delR (l : List Sf) (i : Nat) : List Sf := l.take i ++ l.drop (i + 1)
theorem delR_length {l : List Sf} {i : Nat} (h : i < l.length) : (delR l i).length = l.length - 1 := by unfold delR; simp; omega
theorem sce_del (l : List Sf) (i : Nat) (h : i < l.length) (j : Nat) : (sce (delR l i))[j]? = if j < i * 4 then (sce l)[j]? else (sce l)[j + 4]? := by
  have hl : (sce (l.take i)).length = i * 4 := by rw [sce_len, List.length_take]; omega
  unfold delR
  rw [sce_app, List.getElem?_append, hl]
  by_cases h1 : j < i * 4
  · rw [if_pos h1, if_pos h1, sce_take, List.getElem?_take, if_pos h1]
  · rw [if_neg h1, if_neg h1, sce_drop, List.getElem?_drop]
    congr 1
    omega
set_option maxRecDepth 100000 in
set_option maxHeartbeats 4000000 in
theorem delete_any (w : World) (B : Nat) (v : Value) (l : List Sf) (i : Nat) (hO : SOwn w B v l) (h1 : ∀ u ∈ sce l, u.oneCell' = true) (hi : i < l.length) :
    Calls Tryd.prog 38 #[v, .int .i64 i, .int .i64 ((i : Int) + 1)] w (SRowed w B v (delR l i)) := by
  rcases hO.open_ with ⟨_, h0⟩ | ⟨g, cap, cur, hv, hB, hb, hn, hmx, hs, hcs⟩
  · subst h0; simp at hi
  subst hv
  have hdl : (sce (l.drop (i + 1))).length = (l.length - (i + 1)) * 4 := by rw [sce_len, List.length_drop]
  have hdd := delR_length hi
  refine (delete_run w B g cap i l hO h1 hi).mono ?_
  rintro e w' ⟨rfl, rfl⟩
  obtain ⟨c1, b1, s1, x1⟩ := Blk.setCells (sce (l.drop (i + 1))) (i * 4) (hb.drewN 1) (by rw [hdl]; omega)
  obtain ⟨c2, b2, s2, x2⟩ := Blk.setCells [.int .i64 0, .slice none 0 0, .slice none 0 0, .string ⟨#[]⟩] ((l.length - 1) * 4) b1 (by simp; omega)
  refine ⟨_, rfl, ?_, ?_, .inl rfl⟩
  · have := SOwn.mk_ (l := delR l i) hB b2 (by rw [s2, s1, hs]) hmx (by rw [hdd]; omega) (fun j hj => by
      rw [hdd] at hj
      rw [x2, x1, sce_del l i hi, hdl, if_neg (by omega)]
      by_cases q1 : j < i * 4
      · rw [if_neg (by omega), if_pos q1, hcs j (by omega)]
      · rw [if_pos (by omega), if_neg q1, sce_drop, List.getElem?_drop]
        congr 1
        omega)
    rw [hdd] at this
    exact this
  · have k := World.grownBy.trans (grown_setCells g (sce (l.drop (i + 1))) (i * 4) w.drew) (grown_setCells g [.int .i64 0, .slice none 0 0, .slice none 0 0, .string ⟨#[]⟩] ((l.length - 1) * 4) _)
    exact ⟨k.os, k.tape, k.output, k.size, k.block⟩

end Go.Proofs.YtkhdjlakclidoaaDoor
