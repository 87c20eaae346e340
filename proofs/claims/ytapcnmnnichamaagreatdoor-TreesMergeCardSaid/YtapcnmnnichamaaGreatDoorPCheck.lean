/-
  path.Check: what is wrong with a text as a path.
-/
import Derived.Test.YtapcnmnnichamaaGreatDoorPSeq
import Derived.Test.YtapcnmnnichamaaGreatDoorPGood
namespace Go.Proofs.YtapcnmnnichamaaGreatDoor
open Go Go.RowKit Go.Shelf
attribute [local go_sem] Oper.semAt_some

theorem may_cell {C B : Nat} {W W' : World} {row : Option Nat} {a : Addr} {v : Value} (h : W.cell? a = some v) (hg : W.grownBy W' row) (hm : May C B W row) (hne : a.block ≠ C) : W'.cell? a = some v := by
  obtain ⟨o, ho, hc⟩ := cells_of_cell h
  have hlt := World.block_lt_of_cell? W a h
  refine (World.cell?_of_block (hg.block a.block hlt fun e => ?_)).trans h
  rcases hm _ e.symm with e1 | ⟨_, o', ho', hc'⟩
  · exact hne e1
  · rw [ho] at ho'; cases ho'; rw [hc] at hc'; cases hc'
theorem may_frozen {C B : Nat} {W W' : World} {row : Option Nat} {a : Addr} {v : Value} (h : W.cell? a = some v) (hg : W.grownBy W' row) (hm : May C B W row) (hne : a.block ≠ C) : W'.frozen? a = W.frozen? a := by
  obtain ⟨o, ho, hc⟩ := cells_of_cell h
  have hlt := World.block_lt_of_cell? W a h
  refine World.frozen?_of_block (hg.block a.block hlt fun e => ?_)
  rcases hm _ e.symm with e1 | ⟨_, o', ho', hc'⟩
  · exact hne e1
  · rw [ho] at ho'; cases ho'; rw [hc] at hc'; cases hc'
theorem may_below {C B N : Nat} {w W W' : World} {row : Option Nat} (h : Below N w W) (hg : W.grownBy W' row) (hm : May C B W row) (hC : N ≤ C) (hB : N ≤ B) (hN : N ≤ W.heap.size) : Below N w W' :=
  h.grown hg hN fun k hk => by
    rcases hm k hk with e | ⟨e, _⟩
    · omega
    · omega

theorem cell_new_l (W : World) (v : Value) (t : TypeId) : (W.alloc (.cells #[v] t)).cell? ⟨W.heap.size, 0, none⟩ = some v ∧ (W.alloc (.cells #[v] t)).frozen? ⟨W.heap.size, 0, none⟩ = false := by
  have h := heap_alloc_new W (.cells #[v] t)
  exact ⟨cell_of_row _ W.heap.size 0 #[v] t (0, 0) h, by unfold World.frozen?; rw [h]; simp⟩
theorem cell_alloc_l {W : World} {a : Addr} {v : Value} (o : Obj) (h : W.cell? a = some v) : (W.alloc o).cell? a = some v :=
  (World.cell?_alloc_lt W o a (World.block_lt_of_cell? W a h)).trans h
theorem frozen_alloc_l {W : World} {a : Addr} {v : Value} (o : Obj) (h : W.cell? a = some v) (hf : W.frozen? a = false) : (W.alloc o).frozen? a = false :=
  (World.frozen?_of_block (Below.heap_alloc W o a.block (World.block_lt_of_cell? W a h))).trans hf

theorem split_any (s : ByteArray) (w : World) : Calls Tryz.prog 74 #[.string s, .string ⟨#[47]⟩] w fun e w' =>
    e = .returned (.func (.func 122) #[] #[.pointer (some ⟨w.heap.size + 1, 0, none⟩), .pointer (some ⟨w.heap.size, 0, none⟩), .pointer (some ⟨w.heap.size + 1 + 1, 0, none⟩)]) ∧
    ((w.alloc (.cells #[.string s] 9)).alloc (.cells #[.string ⟨#[47]⟩] 9)).alloc (.cells #[.int .i64 0] 3) = w' := by
  have h39 : Calls Tryz.prog 101 #[.string s, .string ⟨#[47]⟩, .int .i64 0] w fun e w' =>
      e = .returned (.func (.func 122) #[] #[.pointer (some ⟨w.heap.size + 1, 0, none⟩), .pointer (some ⟨w.heap.size, 0, none⟩), .pointer (some ⟨w.heap.size + 1 + 1, 0, none⟩)]) ∧
      ((w.alloc (.cells #[.string s] 9)).alloc (.cells #[.string ⟨#[47]⟩] 9)).alloc (.cells #[.int .i64 0] 3) = w' := by
    go_enter Tryz.func101, Tryz.ntmps101
    go_wp2
    go_ret
    exact ⟨rfl, rfl⟩
  go_enter Tryz.func74, Tryz.ntmps74
  go_wp2_with (go_at_call 101; refine h39.mono ?_; rintro e w' ⟨rfl, rfl⟩)
  go_ret
  exact ⟨rfl, rfl⟩

theorem check_long (s : ByteArray) (w : World) (hs : s.size ≤ 9223372036854775807) (h : 64 < s.size) : Calls Tryz.prog 60 #[.string s] w fun e w' => e = .returned (.int .i64 4) ∧ Below w.heap.size w w' := by
  have hi : (64 : Int) < (s.size : Int) := by omega
  go_enter Tryz.func60, Tryz.ntmps60
  go_wp2
  refine bodyPost_ret (v := .int .i64 4) (by simp [results, Tryz.results60, go_sem]) rfl ⟨rfl, ?_⟩
  exact (Below.refl _ _).alloc (Nat.le_refl _) _
theorem check_empty (w : World) : Calls Tryz.prog 60 #[.string ⟨#[]⟩] w fun e w' => e = .returned (.int .i64 5) ∧ Below w.heap.size w w' := by
  go_enter Tryz.func60, Tryz.ntmps60
  go_wp2
  refine bodyPost_ret (v := .int .i64 5) (by simp [results, Tryz.results60, go_sem]) rfl ⟨rfl, ?_⟩
  exact (Below.refl _ _).alloc (Nat.le_refl _) _

set_option maxHeartbeats 2000000 in
theorem check_main (s : ByteArray) (w : World) (h0 : ¬ s.data.toList = []) (h : ¬ 64 < s.size) : Calls Tryz.prog 60 #[.string s] w (Checked s w) := by
  have hi : ¬ (64 : Int) < (s.size : Int) := by omega
  have hi2 : (s.size : Int) ≤ 64 := by omega
  have q0 : ¬ s.toList = [] := by rw [ByteArray.toList_eq]; exact h0
  have q0' : s.toList.isEmpty = false := by rw [List.isEmpty_eq_false_iff]; exact q0
  have hsz : s.data.toList.length = s.size := by rw [Array.length_toList]; rfl
  have HS := Lib.hid hsz
  have H0 := Lib.hid h0
  clear hsz h0
  refine (callsIn_wide (n := 3)).1 ?_
  refine callsIn_of_wp_marks Tryz.func60 rfl trivial ?_ rfl
  simp only [Tryz.ntmps60, List.size_toArray, List.length_cons, List.length_nil, Nat.reduceAdd, Nat.reduceSub, Array.replicate_succ, Array.replicate_zero, List.push_toArray, List.append_toArray, List.nil_append, List.cons_append]
  gi_wp2_with (refine ⟨trivial, ?_⟩; gi_at_call 74; refine (callsIn_wide.2 (split_any s _)).mono ?_; rintro e w' ⟨rfl, rfl⟩)
  have c0 := cell_new_l w (.int .i64 0) 75
  have c1 := cell_new_l (w.alloc (.cells #[.int .i64 0] 75)) (.string s) 9
  have c2 := cell_new_l ((w.alloc (.cells #[.int .i64 0] 75)).alloc (.cells #[.string s] 9)) (.string ⟨#[47]⟩) 9
  have c3 := cell_new_l (((w.alloc (.cells #[.int .i64 0] 75)).alloc (.cells #[.string s] 9)).alloc (.cells #[.string ⟨#[47]⟩] 9)) (.int .i64 0) 3
  simp only [World.size_alloc] at c1 c2 c3
  have hB0 : Below w.heap.size w ((((w.alloc (.cells #[.int .i64 0] 75)).alloc (.cells #[.string s] 9)).alloc (.cells #[.string ⟨#[47]⟩] 9)).alloc (.cells #[.int .i64 0] 3)) := ((((Below.refl _ w).alloc (Nat.le_refl _) _).alloc (by simp) _).alloc (by simp; omega) _).alloc (by simp; omega) _
  have d0 := cell_alloc_l (.cells #[.int .i64 0] 3) (cell_alloc_l (.cells #[.string ⟨#[47]⟩] 9) (cell_alloc_l (.cells #[.string s] 9) c0.1))
  have d1 := cell_alloc_l (.cells #[.int .i64 0] 3) (cell_alloc_l (.cells #[.string ⟨#[47]⟩] 9) c1.1)
  have d2 := cell_alloc_l (.cells #[.int .i64 0] 3) c2.1
  have d3 := c3.1
  have e0 := frozen_alloc_l (.cells #[.int .i64 0] 3) (cell_alloc_l (.cells #[.string ⟨#[47]⟩] 9) (cell_alloc_l (.cells #[.string s] 9) c0.1)) (frozen_alloc_l (.cells #[.string ⟨#[47]⟩] 9) (cell_alloc_l (.cells #[.string s] 9) c0.1) (frozen_alloc_l (.cells #[.string s] 9) c0.1 c0.2))
  have e1 := frozen_alloc_l (.cells #[.int .i64 0] 3) (cell_alloc_l (.cells #[.string ⟨#[47]⟩] 9) c1.1) (frozen_alloc_l (.cells #[.string ⟨#[47]⟩] 9) c1.1 c1.2)
  have hz : ((((w.alloc (.cells #[.int .i64 0] 75)).alloc (.cells #[.string s] 9)).alloc (.cells #[.string ⟨#[47]⟩] 9)).alloc (.cells #[.int .i64 0] 3)).heap.size = w.heap.size + 4 := by simp
  clear c0 c1 c2 c3
  have HZ := Lib.hid hz
  refine range_cap rfl (by omega) (gf := 122) rfl trivial (enters_of Tryz.func122 (by kernel_rfl) rfl)
    (seq_cap s (w.heap.size + 1) _ (by omega) (by omega) d1 e1 d2 d3) (by omega) (fun h k => h.trans k) (belowK_b (Nat.le_refl _)) (Below.refl _ _) (fun _ => rfl)
    (fun pre W => ((∀ x ∈ pre, gp x.data.toList = true) ∧ W.cell? ⟨w.heap.size, 0, none⟩ = some (.int .i64 0) ∧ W.frozen? ⟨w.heap.size, 0, none⟩ = false) ∧ Below w.heap.size w W)
    (fun c pre W => (c = .ret ∧ (∃ x ∈ pre, gp x.data.toList = false) ∧ W.cell? ⟨w.heap.size, 0, none⟩ = some (.int .i64 5)) ∧ Below w.heap.size w W)
    (fun pre A B row hs hg hm => ⟨⟨hs.1.1, may_cell hs.1.2.1 hg hm (by show w.heap.size ≠ _; omega), (may_frozen hs.1.2.1 hg hm (by show w.heap.size ≠ _; omega)).trans hs.1.2.2⟩, may_below hs.2 hg hm (by omega) (by omega) hs.2.size⟩)
    (fun c pre A B row hs hg hm => ⟨⟨hs.1.1, hs.1.2.1, may_cell hs.1.2.2 hg hm (by show w.heap.size ≠ _; omega)⟩, may_below hs.2 hg hm (by omega) (by omega) hs.2.size⟩)
    ⟨⟨by simp, d0, e0⟩, hB0⟩
    (fun x => { tmps := #[.string s, undef, .pointer (some ⟨w.heap.size, 0, none⟩), .string x, .string s, .int .i64 s.size, .bool false, .string s, .bool false, .string s, .func (.func 122) #[] #[.pointer (some ⟨w.heap.size + 1 + 1, 0, none⟩), .pointer (some ⟨w.heap.size + 1, 0, none⟩), .pointer (some ⟨w.heap.size + 1 + 1 + 1, 0, none⟩)], .string x, undef, undef, undef], defers := [] }) ?assign ?body ?done ?stop
  case assign =>
    intro l x W K hK
    gi_wp2
    exact hK
  case body =>
    rintro l pre x W ⟨⟨hp, hc, hf⟩, hB⟩ _ hx
    have hxs : x.size ≤ s.size := hx
    have HP := Lib.hid fun W => part_any x W (by omega)
    cases hg : gp x.data.toList with
    | true =>
      rw [hg] at HP
      have HG := Lib.hid hg
      clear hg hx
      gi_wp2_with (refine ⟨trivial, ?_⟩; gi_at_call 75; refine (CallsIn.inRound l (callsIn_wide.2 (HP.out _))).mono ?_; rintro e w' ⟨rfl, rfl⟩)
      exact ⟨KeepsOthers.refl _, Below.refl _ _, ⟨fun y hy => (List.mem_append.1 hy).elim (hp y) (fun e => by simp at e; subst e; exact HG.out), hc, hf⟩, hB⟩
    | false =>
      rw [hg] at HP
      have HG := Lib.hid hg
      clear hg hx
      gi_wp2_with (refine ⟨trivial, ?_⟩; gi_at_call 75; refine (CallsIn.inRound l (callsIn_wide.2 (HP.out _))).mono ?_; rintro e w' ⟨rfl, rfl⟩)
      exact ⟨KeepsOthers.setCell _ _ _, ⟨rfl, ⟨x, List.mem_append.2 (.inr (by simp)), HG.out⟩, World.cell?_setCell_same' _ _ _ (by rw [hc]; rfl)⟩, hB.setCell (p := ⟨w.heap.size, 0, none⟩) (Nat.le_refl _) _⟩
  case done =>
    rintro D ys W hD hys ⟨⟨hall, hc, hf⟩, hB⟩ hK
    have HA : Hid (chk s.data.toList = 0) := by
      refine chk_good (by rw [HS.out]; exact h) H0.out ?_
      have hy2 : ys.map (·.data.toList) = spl s.data.toList := hys
      rw [← hy2, List.all_eq_true]
      intro x hx
      obtain ⟨y, hy, rfl⟩ := List.mem_map.1 hx
      exact hall y hy
    rw [hz] at hD
    gi_wp2
    have hK' := (KeepsOthers.setCell W ⟨w.heap.size, 0, none⟩ (.int .i64 0)).same D _ hK rfl
    refine ⟨by simp, .inl ⟨_, _, rfl, run_takeDeferred hK', ?_⟩⟩
    have hc5 := cell_kept (World.cell?_setCell_same' W ⟨w.heap.size, 0, none⟩ (.int .i64 0) (by rw [hc]; rfl)) (grownBy_putObj' _ D (.deferred none)) (fun r e => by cases e; exact ⟨_, hK', rfl⟩)
    refine ⟨.int .i64 0, ?_, by rw [HA.out], (hB.setCell (p := ⟨w.heap.size, 0, none⟩) (Nat.le_refl _) _).trans (belowK_b (w := w) (Nat.le_refl _) _ D _ _ (by omega) hK' rfl rfl)⟩
    simp [results, Tryz.f60, go_sem, hc5]
  case stop =>
    rintro D c pre W hD hpre ⟨⟨rfl, hin, hc⟩, hB⟩ hK
    have HA : Hid (chk s.data.toList = 5) := by
      refine chk_bad (by rw [HS.out]; exact h) H0.out ?_
      obtain ⟨more, hm⟩ := hpre
      obtain ⟨x, hx, hg⟩ := hin
      rw [← hm, Bool.eq_false_iff]
      intro ha
      rw [List.all_eq_true] at ha
      have := ha x.data.toList (List.mem_append.2 (.inl (List.mem_map.2 ⟨x, hx, rfl⟩)))
      rw [hg] at this
      cases this
    rw [hz] at hD
    gi_wp2
    refine ⟨by simp, .inl ⟨_, _, rfl, run_takeDeferred hK, ?_⟩⟩
    have hc5 := cell_kept hc (grownBy_putObj' _ D (.deferred none)) (fun r e => by cases e; exact ⟨_, hK, rfl⟩)
    refine ⟨.int .i64 5, ?_, by rw [HA.out], hB.trans (belowK_b (w := w) (Nat.le_refl _) W D _ _ (by omega) hK rfl rfl)⟩
    simp [results, Tryz.f60, go_sem, hc5]

theorem check_any (s : ByteArray) (w : World) (hs : s.size ≤ 9223372036854775807) : Calls Tryz.prog 60 #[.string s] w (Checked s w) := by
  have hsz : s.data.toList.length = s.size := by rw [Array.length_toList]; rfl
  by_cases h : 64 < s.size
  · refine (check_long s w hs h).mono ?_
    rintro e w' ⟨rfl, hb⟩
    exact ⟨by rw [chk_long (by rw [hsz]; exact h)], hb⟩
  · by_cases h0 : s.data.toList = []
    · obtain rfl := bytes_eq (b := ⟨#[]⟩) h0
      exact check_empty w
    · exact check_main s w h0 h
end Go.Proofs.YtapcnmnnichamaaGreatDoor
