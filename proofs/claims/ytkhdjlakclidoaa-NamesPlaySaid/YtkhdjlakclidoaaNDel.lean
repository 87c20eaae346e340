/-
  slices.Delete at a row of names: one name taken out.
-/
import Derived.Test.YtkhdjlakclidoaaNIns3
import Derived.Lib.SliceRun
namespace Go.Proofs.Ytkhdjlakclidoaa
open Go.RowKit

theorem run_clear_one {P : Program} (w : World) (t e ty : TypeId) (z : Value) (x y : Value) (ht : P.underlying t = some (.slice e)) (hv : ∀ w, (zeroValue e).run P w = .ok z w) (hz : z.cells = #[x, y]) (hx : x.oneCell' = true) (hy : y.oneCell' = true) (b o c : Nat)
    (hc : ∀ j, j < 2 → (w.cell? ⟨b, o + j, none⟩).isSome = true) (hf : ∀ j, j < 2 → w.frozen? ⟨b, o + j, none⟩ = false) :
    (Builtin.clear_ #[t] ty #[.slice (some ⟨b, o, none⟩) 1 c]).run P w = .ok (.tuple #[]) (w.setCells b o [x, y]) := by
  have hzc : (Builtin.zeroCells z.cells 1).toList = [x, y] := by
    rw [hz]
    simp [Builtin.zeroCells]
    rfl
  have hst := run_storeCells_cells (P := P) b o [x, y] 0 w (by simpa using hc) (by simpa using hf) (by intro v hv'; simp at hv'; rcases hv' with rfl | rfl <;> assumption)
  simp only [Nat.add_zero] at hst
  simp [Builtin.clear_, run_underlying ht, hv, hzc, hst]

set_option maxHeartbeats 4000000 in
set_option maxRecDepth 1000000 in
theorem delete_run (w : World) (B g cap i : Nat) (l : List Rf) (hO : Own w B (.slice (some ⟨g, 0, none⟩) l.length cap) l) (hi : i < l.length) :
    Calls Try.prog 26 #[.slice (some ⟨g, 0, none⟩) l.length cap, .int .i64 i, .int .i64 ((i : Int) + 1)] w fun e w' =>
      e = .returned (.slice (some ⟨g, 0, none⟩) (l.length - 1) cap) ∧ w' = (w.drew.setCells g (i * 2) (ce (l.drop (i + 1)))).setCells g ((l.length - 1) * 2) [.string ⟨#[]⟩, .int .i64 0] := by
  rcases hO.open_ with ⟨h, _⟩ | ⟨g', cap', cur, hv, hB, hb, hn, hmx, hs, hcs⟩
  · cases h
  injection hv with e1 e2 e3
  injection e1 with e1
  injection e1 with e1
  subst e1; subst e3
  unfold maxLen at hmx
  obtain ⟨i0, hi0, hz0, hz1, hz2⟩ := info_parts refInfo
  obtain ⟨n, hnn⟩ : ∃ n, n = l.length := ⟨_, rfl⟩
  obtain ⟨news, hnews⟩ : ∃ news, news = ce (l.drop (i + 1)) := ⟨_, rfl⟩
  have hlen : news.length = (n - (i + 1)) * 2 := by rw [hnews, ce_len, List.length_drop, hnn]
  have hcell : ∀ j v, (ce l)[j]? = some v → w.cell? ⟨g, j, none⟩ = some v := fun j v hj => by
    have := (List.getElem?_eq_some_iff.1 hj).1
    rw [ce_len] at this
    rw [hb.cell, hcs j this]; exact hj
  obtain ⟨A, hA, hsrc⟩ : ∃ A : Addr, (if cap = i + 1 then some (⟨g, 0, none⟩ : Addr) else some ⟨g, (i + 1) * 2, none⟩) = some A ∧ Hid (∀ t u, news[t]? = some u → w.drew.cell? (A.add t) = some u) := by
    by_cases h : cap = i + 1
    · refine ⟨⟨g, 0, none⟩, by simp [h], fun t u hu => ?_⟩
      have h0 : news.length = 0 := by rw [hlen]; omega
      rw [List.length_eq_zero_iff.1 h0] at hu
      simp at hu
    · refine ⟨⟨g, (i + 1) * 2, none⟩, by simp [h], fun t u hu => ?_⟩
      rw [Addr.add_lit]
      exact hcell _ u (by rw [hnews, ce_drop, List.getElem?_drop] at hu; exact hu)
  have s1 : Hid (news.length = (n - (i + 1)) * 2) := hlen
  have s2 : Hid (∀ u ∈ news, u.oneCell' = true) := by rw [hnews]; exact ce_one _
  have hsp : ∀ j, j < cap * 2 → (w.cell? ⟨g, j, none⟩).isSome = true := fun j hj => by rw [hb.cell, Array.getElem?_eq_getElem (by omega)]; rfl
  have s3 : Hid (∀ t, t < news.length → (w.drew.cell? ⟨g, 0 + i * 2 + t, none⟩).isSome = true ∧ w.drew.frozen? ⟨g, 0 + i * 2 + t, none⟩ = false) := by
    intro t ht
    rw [hlen] at ht
    exact ⟨hsp _ (by omega), hb.frozen _⟩
  obtain ⟨W1, hW1⟩ : ∃ W1, W1 = w.drew.setCells g (0 + i * 2) news := ⟨_, rfl⟩
  have hi' : i < n := by omega
  have e1 : n - (i + (n - (i + 1))) = 1 := by omega
  have e2 : i + (n - (i + 1)) = n - 1 := by omega
  have hcl : ∀ ty c, (Builtin.clear_ #[27] ty #[.slice (some ⟨g, (i + (n - (i + 1))) * 2, none⟩) (n - (i + (n - (i + 1)))) c]).run Try.prog W1 = .ok (.tuple #[]) (W1.setCells g ((n - 1) * 2) [.string ⟨#[]⟩, .int .i64 0]) := fun ty c => by
    rw [e1, e2]
    exact run_clear_one W1 27 43 ty _ _ _ Try.underlying27 Try.zeroValue43 rfl rfl rfl g ((n - 1) * 2) c (fun t ht => by rw [hW1]; exact isSome_setCells g news (0 + i * 2) w.drew (fun j hj => hsp _ (by rw [hlen] at hj; omega)) _ (hsp _ (by omega))) (fun t ht => by rw [hW1, World.frozen?_setCells]; exact hb.frozen _)
  have HW : Hid (W1 = w.drew.setCells g (0 + i * 2) news) := hW1
  have HN : Hid (news = ce (l.drop (i + 1))) := hnews
  rw [← hnn] at hi hn ⊢
  have HNN : Hid (n = l.length) := hnn
  have hw1 : IntKind.i64.wrap ((i : Int) + 1) = (i : Int) + 1 := by rw [IntKind.wrap_i64]; omega
  have htn : ((i : Int) + 1).toNat = i + 1 := by omega
  have hb1 : (0 : Int) ≤ (i : Int) + 1 := by omega
  have hne : ¬ ((i : Int) = (i : Int) + 1) := by omega
  have hle : (i : Int) + 1 ≤ (n : Int) := by omega
  have hle2 : i + 1 ≤ n := by omega
  have hle3 : i ≤ n := by omega
  have hle4 : (i : Int) ≤ (i : Int) + 1 := by omega
  have hq : ¬ (n = i) := by omega
  have hic : i ≤ cap := by omega
  have hjc : i + 1 ≤ cap := by omega
  have hcn : (n : Int) ≤ (cap : Int) := by omega
  have HE := Lib.hid e2
  clear e1 e2 hi'
  clear hnews hW1 hcell hcs hs hsp hlen hO hnn
  go_enter Try.func26, Try.ntmps26
  go_wp2_with fail
  go_region_law (refine step_append_room rfl (.tmp 22) (.tmp 25) 27 rfl 43 i0 2 Try.underlying27 hi0 hz1 g 0 i cap (by simp [Act.eval, Act.put]) A (n - (i + 1)) (cap - (i + 1)) news (by simp [Act.eval, Act.put]) s1.out hsrc.out s2.out (by omega) s3.out ?_; rw [← HW.out])
  go_wp2_with fail
  go_ret
  refine ⟨?_, ?_⟩
  · show Ending.returned (.slice (some ⟨g, 0, none⟩) (i + (n - (i + 1))) cap) = _
    rw [HE.out]
  · rw [← HN.out, HW.out, Nat.zero_add]

theorem ce_del (l : List Rf) (i : Nat) (h : i < l.length) (j : Nat) : (ce (delR l i))[j]? = if j < i * 2 then (ce l)[j]? else (ce l)[j + 2]? := by
  have hl : (ce (l.take i)).length = i * 2 := by rw [ce_len, List.length_take]; omega
  unfold delR
  rw [ce_app, List.getElem?_append, hl]
  by_cases h1 : j < i * 2
  · rw [if_pos h1, if_pos h1, ce_take, List.getElem?_take, if_pos h1]
  · rw [if_neg h1, if_neg h1, ce_drop, List.getElem?_drop]
    congr 1
    omega
theorem delete_any (w : World) (B : Nat) (v : Value) (l : List Rf) (i : Nat) (hO : Own w B v l) (hi : i < l.length) :
    Calls Try.prog 26 #[v, .int .i64 i, .int .i64 ((i : Int) + 1)] w (Rowed w B v (delR l i)) := by
  rcases hO.open_ with ⟨_, h0⟩ | ⟨g, cap, cur, hv, hB, hb, hn, hmx, hs, hcs⟩
  · subst h0; simp at hi
  subst hv
  have hdl : (ce (l.drop (i + 1))).length = (l.length - (i + 1)) * 2 := by rw [ce_len, List.length_drop]
  have hdd := delR_length hi
  refine (delete_run w B g cap i l hO hi).mono ?_
  rintro e w' ⟨rfl, rfl⟩
  obtain ⟨c1, b1, s1, x1⟩ := Blk.setCells (ce (l.drop (i + 1))) (i * 2) (hb.drewN 1) (by rw [hdl]; omega)
  obtain ⟨c2, b2, s2, x2⟩ := Blk.setCells [.string ⟨#[]⟩, .int .i64 0] ((l.length - 1) * 2) b1 (by simp; omega)
  refine ⟨_, rfl, ?_, ?_, .inl rfl⟩
  · have := Own.mk_ (l := delR l i) hB b2 (by rw [s2, s1, hs]) hmx (by rw [hdd]; omega) (fun j hj => by
      rw [hdd] at hj
      rw [x2, x1, ce_del l i hi, hdl, if_neg (by omega)]
      by_cases q1 : j < i * 2
      · rw [if_neg (by omega), if_pos q1, hcs j (by omega)]
      · rw [if_pos (by omega), if_neg q1, ce_drop, List.getElem?_drop]
        congr 1
        omega)
    rw [hdd] at this
    exact this
  · have k := World.grownBy.trans (grown_setCells g (ce (l.drop (i + 1))) (i * 2) w.drew) (grown_setCells g [.string ⟨#[]⟩, .int .i64 0] ((l.length - 1) * 2) _)
    exact ⟨k.os, k.tape, k.output, k.size, k.block⟩

/-- slices.Clone: a row of its own, the old one as it was. -/
theorem clone_any (w : World) (B : Nat) (v : Value) (l : List Rf) (hO : Own w B v l) (hfew : l.length ≤ 1000) :
    Calls Try.prog 27 #[v] w fun e w' => ∃ v', e = .returned v' ∧ Own w' w.heap.size v' l ∧ Below w.heap.size w w' := by
  obtain ⟨i0, hi0, hz0, hz1, hz2⟩ := info_parts refInfo
  have q27 : ∀ (w : World) (a : Option Addr) (n c n' c' : Nat), (binOp .eql 27 (.slice a n c) (.slice none n' c')).run Try.prog w = .ok (.bool a.isNone) w := fun w a n c n' c' => Lib.run_eql_slice_nil w _ _ a n c n' c' Try.underlying27
  rcases hO.open_ with ⟨rfl, rfl⟩ | ⟨g, cap, cur, hv, hB, hb, hn, hmx, hs, hcs⟩
  · go_enter Try.func27, Try.ntmps27
    go_wp2
    go_ret
    exact ⟨_, rfl, World.ownsRow_nil _ _ _ _, Below.refl _ _⟩
  · subst hv
    have hcell : ∀ j v, (ce l)[j]? = some v → w.cell? ⟨g, j, none⟩ = some v := fun j v hj => by
      have := (List.getElem?_eq_some_iff.1 hj).1
      rw [ce_len] at this
      rw [hb.cell, hcs j this]; exact hj
    have HC := Lib.hid hcell
    have HL := Lib.hid (ce_len l)
    have hlt := hb.lt
    clear hcell hcs hs hO hb
    go_enter Try.func27, Try.ntmps27
    go_wp2_with (at_builtin; refine wpList_append_own_at _ rfl _ _ 27 rfl w.heap.size 43 i0 _ 2 24 Try.underlying27 hi0 hz0 hz1 hz2 rfl (by decide) _ _ _ rfl (World.ownsRow_made w #[] 0 (Nat.le_refl _) (Nat.zero_le _) rfl) ⟨g, 0, none⟩ l.length cap (ce l) rfl HL.out ?c1 (ce_one l) ?c3 ?c4 ?c5 ?_)
    case c1 =>
      intro j u hj
      rw [Addr.add_lit, Nat.zero_add]
      exact Lib.cell?_alloc_some _ (HC.out j u hj)
    case c3 => unfold maxLen; omega
    case c4 => omega
    case c5 => simp
    intro v' w1 hown hg' _ hat
    go_wp2
    go_ret
    exact ⟨v', rfl, by simpa using hown, ((Below.refl _ w).alloc (Nat.le_refl _) _).grown hg' (by simp) (by intro k hk; simp [Value.ownBlock] at hk; omega)⟩
end Go.Proofs.Ytkhdjlakclidoaa
