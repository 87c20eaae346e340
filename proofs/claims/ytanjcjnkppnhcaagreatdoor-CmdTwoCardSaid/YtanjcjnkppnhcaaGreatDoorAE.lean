/-
  path.Check: what is wrong with a text as a path.
  cmd: the verbs, a verb's place, a refusal; which fields a verb has.
  cmd: which fields a verb has; what is wrong with a number, a text, a step.
  cmd: what is wrong with a name, a text, the steps of a command; Check.
  cmd: what is wrong with a name; Check.
  cmd.Check: what is wrong with a command first.
-/
import Derived.Test.YtanjcjnkppnhcaaGreatDoorAD
import Derived.Test.YtanjcjnkppnhcaaGreatDoorTdQ
import Derived.Test.YtanjcjnkppnhcaaGreatDoorAA
import Derived.Test.YtanjcjnkppnhcaaGreatDoorAC

namespace Go.Proofs.YtanjcjnkppnhcaaGreatDoor
open Go Go.RowKit Go.Shelf
attribute [local go_sem] Oper.semAt_some

theorem may_cell {C B : Nat} {W W' : World} {row : Option Nat} {a : Addr} {v : Value} (h : W.cell? a = some v) (hg : W.grownBy W' row) (hm : May C B W row) (hne : a.block ≠ C) : W'.cell? a = some v := by
  obtain ⟨o, ho, hc⟩ := cells_of_cell h
  have hlt := World.block_lt_of_cell? W a h
  refine (World.cell?_of_block (hg.block a.block hlt fun e => ?_)).trans h
  rcases hm _ e.symm with e1 | ⟨_, o', ho', hc'⟩
  · exact hne e1
  · rw [ho] at ho'; cases ho'; rw [hc] at hc'; cases hc'
theorem may_frozen {C B : Nat} {W W' : World} {row : Option Nat} {a : Addr} {v : Value} (h : W.cell? a = some v) (hg : W.grownBy W' row) (hm : May C B W row) (hne : a.block ≠ C) : W'.frozen? a = W.frozen? a := by
  obtain ⟨o, ho, hc⟩ := cells_of_cell h
  have hlt := World.block_lt_of_cell? W a h
  refine World.frozen?_of_block (hg.block a.block hlt fun e => ?_)
  rcases hm _ e.symm with e1 | ⟨_, o', ho', hc'⟩
  · exact hne e1
  · rw [ho] at ho'; cases ho'; rw [hc] at hc'; cases hc'
theorem may_below {C B N : Nat} {w W W' : World} {row : Option Nat} (h : Below N w W) (hg : W.grownBy W' row) (hm : May C B W row) (hC : N ≤ C) (hB : N ≤ B) (hN : N ≤ W.heap.size) : Below N w W' :=
  h.grown hg hN fun k hk => by
    rcases hm k hk with e | ⟨e, _⟩
    · omega
    · omega

theorem cell_new_l (W : World) (v : Value) (t : TypeId) : (W.alloc (.cells #[v] t)).cell? ⟨W.heap.size, 0, none⟩ = some v ∧ (W.alloc (.cells #[v] t)).frozen? ⟨W.heap.size, 0, none⟩ = false := by
  have h := heap_alloc_new W (.cells #[v] t)
  exact ⟨cell_of_row _ W.heap.size 0 #[v] t (0, 0) h, by unfold World.frozen?; rw [h]; simp⟩
theorem cell_alloc_l {W : World} {a : Addr} {v : Value} (o : Obj) (h : W.cell? a = some v) : (W.alloc o).cell? a = some v :=
  (World.cell?_alloc_lt W o a (World.block_lt_of_cell? W a h)).trans h
theorem frozen_alloc_l {W : World} {a : Addr} {v : Value} (o : Obj) (h : W.cell? a = some v) (hf : W.frozen? a = false) : (W.alloc o).frozen? a = false :=
  (World.frozen?_of_block (Below.heap_alloc W o a.block (World.block_lt_of_cell? W a h))).trans hf

theorem split_any (s : ByteArray) (w : World) : Calls Tryz.prog 113 #[.string s, .string ⟨#[47]⟩] w fun e w' =>
    e = .returned (.func (.func 152) #[] #[.pointer (some ⟨w.heap.size + 1, 0, none⟩), .pointer (some ⟨w.heap.size, 0, none⟩), .pointer (some ⟨w.heap.size + 1 + 1, 0, none⟩)]) ∧
    ((w.alloc (.cells #[.string s] 9)).alloc (.cells #[.string ⟨#[47]⟩] 9)).alloc (.cells #[.int .i64 0] 3) = w' := by
  have h39 : Calls Tryz.prog 136 #[.string s, .string ⟨#[47]⟩, .int .i64 0] w fun e w' =>
      e = .returned (.func (.func 152) #[] #[.pointer (some ⟨w.heap.size + 1, 0, none⟩), .pointer (some ⟨w.heap.size, 0, none⟩), .pointer (some ⟨w.heap.size + 1 + 1, 0, none⟩)]) ∧
      ((w.alloc (.cells #[.string s] 9)).alloc (.cells #[.string ⟨#[47]⟩] 9)).alloc (.cells #[.int .i64 0] 3) = w' := by
    go_enter Tryz.func136, Tryz.ntmps136
    go_wp2
    go_ret
    exact ⟨rfl, rfl⟩
  go_enter Tryz.func113, Tryz.ntmps113
  go_wp2_with (go_at_call 136; refine h39.mono ?_; rintro e w' ⟨rfl, rfl⟩)
  go_ret
  exact ⟨rfl, rfl⟩

theorem check_long (s : ByteArray) (w : World) (hs : s.size ≤ 9223372036854775807) (h : 64 < s.size) : Calls Tryz.prog 92 #[.string s] w fun e w' => e = .returned (.int .i64 4) ∧ Below w.heap.size w w' := by
  have hi : (64 : Int) < (s.size : Int) := by omega
  go_enter Tryz.func92, Tryz.ntmps92
  go_wp2
  refine bodyPost_ret (v := .int .i64 4) (by simp [results, Tryz.results92, go_sem]) rfl ⟨rfl, ?_⟩
  exact (Below.refl _ _).alloc (Nat.le_refl _) _
theorem check_empty (w : World) : Calls Tryz.prog 92 #[.string ⟨#[]⟩] w fun e w' => e = .returned (.int .i64 5) ∧ Below w.heap.size w w' := by
  go_enter Tryz.func92, Tryz.ntmps92
  go_wp2
  refine bodyPost_ret (v := .int .i64 5) (by simp [results, Tryz.results92, go_sem]) rfl ⟨rfl, ?_⟩
  exact (Below.refl _ _).alloc (Nat.le_refl _) _

set_option maxHeartbeats 2000000 in
theorem check_main (s : ByteArray) (w : World) (h0 : ¬ s.data.toList = []) (h : ¬ 64 < s.size) : Calls Tryz.prog 92 #[.string s] w (Checked s w) := by
  have hi : ¬ (64 : Int) < (s.size : Int) := by omega
  have hi2 : (s.size : Int) ≤ 64 := by omega
  have q0 : ¬ s.toList = [] := by rw [ByteArray.toList_eq]; exact h0
  have q0' : s.toList.isEmpty = false := by rw [List.isEmpty_eq_false_iff]; exact q0
  have hsz : s.data.toList.length = s.size := by rw [Array.length_toList]; rfl
  have HS := Lib.hid hsz
  have H0 := Lib.hid h0
  clear hsz h0
  refine (callsIn_wide (n := 3)).1 ?_
  refine callsIn_of_wp_marks Tryz.func92 rfl trivial ?_ rfl
  simp only [Tryz.ntmps92, List.size_toArray, List.length_cons, List.length_nil, Nat.reduceAdd, Nat.reduceSub, Array.replicate_succ, Array.replicate_zero, List.push_toArray, List.append_toArray, List.nil_append, List.cons_append]
  gi_wp2_with (refine ⟨trivial, ?_⟩; gi_at_call 113; refine (callsIn_wide.2 (split_any s _)).mono ?_; rintro e w' ⟨rfl, rfl⟩)
  have c0 := cell_new_l w (.int .i64 0) 73
  have c1 := cell_new_l (w.alloc (.cells #[.int .i64 0] 73)) (.string s) 9
  have c2 := cell_new_l ((w.alloc (.cells #[.int .i64 0] 73)).alloc (.cells #[.string s] 9)) (.string ⟨#[47]⟩) 9
  have c3 := cell_new_l (((w.alloc (.cells #[.int .i64 0] 73)).alloc (.cells #[.string s] 9)).alloc (.cells #[.string ⟨#[47]⟩] 9)) (.int .i64 0) 3
  simp only [World.size_alloc] at c1 c2 c3
  have hB0 : Below w.heap.size w ((((w.alloc (.cells #[.int .i64 0] 73)).alloc (.cells #[.string s] 9)).alloc (.cells #[.string ⟨#[47]⟩] 9)).alloc (.cells #[.int .i64 0] 3)) := ((((Below.refl _ w).alloc (Nat.le_refl _) _).alloc (by simp) _).alloc (by simp; omega) _).alloc (by simp; omega) _
  have d0 := cell_alloc_l (.cells #[.int .i64 0] 3) (cell_alloc_l (.cells #[.string ⟨#[47]⟩] 9) (cell_alloc_l (.cells #[.string s] 9) c0.1))
  have d1 := cell_alloc_l (.cells #[.int .i64 0] 3) (cell_alloc_l (.cells #[.string ⟨#[47]⟩] 9) c1.1)
  have d2 := cell_alloc_l (.cells #[.int .i64 0] 3) c2.1
  have d3 := c3.1
  have e0 := frozen_alloc_l (.cells #[.int .i64 0] 3) (cell_alloc_l (.cells #[.string ⟨#[47]⟩] 9) (cell_alloc_l (.cells #[.string s] 9) c0.1)) (frozen_alloc_l (.cells #[.string ⟨#[47]⟩] 9) (cell_alloc_l (.cells #[.string s] 9) c0.1) (frozen_alloc_l (.cells #[.string s] 9) c0.1 c0.2))
  have e1 := frozen_alloc_l (.cells #[.int .i64 0] 3) (cell_alloc_l (.cells #[.string ⟨#[47]⟩] 9) c1.1) (frozen_alloc_l (.cells #[.string ⟨#[47]⟩] 9) c1.1 c1.2)
  have hz : ((((w.alloc (.cells #[.int .i64 0] 73)).alloc (.cells #[.string s] 9)).alloc (.cells #[.string ⟨#[47]⟩] 9)).alloc (.cells #[.int .i64 0] 3)).heap.size = w.heap.size + 4 := by simp
  clear c0 c1 c2 c3
  have HZ := Lib.hid hz
  refine range_cap rfl (by omega) (gf := 152) rfl trivial (enters_of Tryz.func152 (by kernel_rfl) rfl)
    (seq_cap s (w.heap.size + 1) _ (by omega) (by omega) d1 e1 d2 d3) (by omega) (fun h k => h.trans k) (belowK_b (Nat.le_refl _)) (Below.refl _ _) (fun _ => rfl)
    (fun pre W => ((∀ x ∈ pre, gp x.data.toList = true) ∧ W.cell? ⟨w.heap.size, 0, none⟩ = some (.int .i64 0) ∧ W.frozen? ⟨w.heap.size, 0, none⟩ = false) ∧ Below w.heap.size w W)
    (fun c pre W => (c = .ret ∧ (∃ x ∈ pre, gp x.data.toList = false) ∧ W.cell? ⟨w.heap.size, 0, none⟩ = some (.int .i64 5)) ∧ Below w.heap.size w W)
    (fun pre A B row hs hg hm => ⟨⟨hs.1.1, may_cell hs.1.2.1 hg hm (by show w.heap.size ≠ _; omega), (may_frozen hs.1.2.1 hg hm (by show w.heap.size ≠ _; omega)).trans hs.1.2.2⟩, may_below hs.2 hg hm (by omega) (by omega) hs.2.size⟩)
    (fun c pre A B row hs hg hm => ⟨⟨hs.1.1, hs.1.2.1, may_cell hs.1.2.2 hg hm (by show w.heap.size ≠ _; omega)⟩, may_below hs.2 hg hm (by omega) (by omega) hs.2.size⟩)
    ⟨⟨by simp, d0, e0⟩, hB0⟩
    (fun x => { tmps := #[.string s, undef, .pointer (some ⟨w.heap.size, 0, none⟩), .string x, .string s, .int .i64 s.size, .bool false, .string s, .bool false, .string s, .func (.func 152) #[] #[.pointer (some ⟨w.heap.size + 1 + 1, 0, none⟩), .pointer (some ⟨w.heap.size + 1, 0, none⟩), .pointer (some ⟨w.heap.size + 1 + 1 + 1, 0, none⟩)], .string x, undef, undef, undef], defers := [] }) ?assign ?body ?done ?stop
  case assign =>
    intro l x W K hK
    gi_wp2
    exact hK
  case body =>
    rintro l pre x W ⟨⟨hp, hc, hf⟩, hB⟩ _ hx
    have hxs : x.size ≤ s.size := hx
    have HP := Lib.hid fun W => part_any x W (by omega)
    cases hg : gp x.data.toList with
    | true =>
      rw [hg] at HP
      have HG := Lib.hid hg
      clear hg hx
      gi_wp2_with (refine ⟨trivial, ?_⟩; gi_at_call 114; refine (CallsIn.inRound l (callsIn_wide.2 (HP.out _))).mono ?_; rintro e w' ⟨rfl, rfl⟩)
      exact ⟨KeepsOthers.refl _, Below.refl _ _, ⟨fun y hy => (List.mem_append.1 hy).elim (hp y) (fun e => by simp at e; subst e; exact HG.out), hc, hf⟩, hB⟩
    | false =>
      rw [hg] at HP
      have HG := Lib.hid hg
      clear hg hx
      gi_wp2_with (refine ⟨trivial, ?_⟩; gi_at_call 114; refine (CallsIn.inRound l (callsIn_wide.2 (HP.out _))).mono ?_; rintro e w' ⟨rfl, rfl⟩)
      exact ⟨KeepsOthers.setCell _ _ _, ⟨rfl, ⟨x, List.mem_append.2 (.inr (by simp)), HG.out⟩, World.cell?_setCell_same' _ _ _ (by rw [hc]; rfl)⟩, hB.setCell (p := ⟨w.heap.size, 0, none⟩) (Nat.le_refl _) _⟩
  case done =>
    rintro D ys W hD hys ⟨⟨hall, hc, hf⟩, hB⟩ hK
    have HA : Hid (chk s.data.toList = 0) := by
      refine chk_good (by rw [HS.out]; exact h) H0.out ?_
      have hy2 : ys.map (·.data.toList) = spl s.data.toList := hys
      rw [← hy2, List.all_eq_true]
      intro x hx
      obtain ⟨y, hy, rfl⟩ := List.mem_map.1 hx
      exact hall y hy
    rw [hz] at hD
    gi_wp2
    have hK' := (KeepsOthers.setCell W ⟨w.heap.size, 0, none⟩ (.int .i64 0)).same D _ hK rfl
    refine ⟨by simp, .inl ⟨_, _, rfl, run_takeDeferred hK', ?_⟩⟩
    have hc5 := cell_kept (World.cell?_setCell_same' W ⟨w.heap.size, 0, none⟩ (.int .i64 0) (by rw [hc]; rfl)) (grownBy_putObj' _ D (.deferred none)) (fun r e => by cases e; exact ⟨_, hK', rfl⟩)
    refine ⟨.int .i64 0, ?_, by rw [HA.out], (hB.setCell (p := ⟨w.heap.size, 0, none⟩) (Nat.le_refl _) _).trans (belowK_b (w := w) (Nat.le_refl _) _ D _ _ (by omega) hK' rfl rfl)⟩
    simp [results, Tryz.f92, go_sem, hc5]
  case stop =>
    rintro D c pre W hD hpre ⟨⟨rfl, hin, hc⟩, hB⟩ hK
    have HA : Hid (chk s.data.toList = 5) := by
      refine chk_bad (by rw [HS.out]; exact h) H0.out ?_
      obtain ⟨more, hm⟩ := hpre
      obtain ⟨x, hx, hg⟩ := hin
      rw [← hm, Bool.eq_false_iff]
      intro ha
      rw [List.all_eq_true] at ha
      have := ha x.data.toList (List.mem_append.2 (.inl (List.mem_map.2 ⟨x, hx, rfl⟩)))
      rw [hg] at this
      cases this
    rw [hz] at hD
    gi_wp2
    refine ⟨by simp, .inl ⟨_, _, rfl, run_takeDeferred hK, ?_⟩⟩
    have hc5 := cell_kept hc (grownBy_putObj' _ D (.deferred none)) (fun r e => by cases e; exact ⟨_, hK, rfl⟩)
    refine ⟨.int .i64 5, ?_, by rw [HA.out], hB.trans (belowK_b (w := w) (Nat.le_refl _) W D _ _ (by omega) hK rfl rfl)⟩
    simp [results, Tryz.f92, go_sem, hc5]

theorem check_any (s : ByteArray) (w : World) (hs : s.size ≤ 9223372036854775807) : Calls Tryz.prog 92 #[.string s] w (Checked s w) := by
  have hsz : s.data.toList.length = s.size := by rw [Array.length_toList]; rfl
  by_cases h : 64 < s.size
  · refine (check_long s w hs h).mono ?_
    rintro e w' ⟨rfl, hb⟩
    exact ⟨by rw [chk_long (by rw [hsz]; exact h)], hb⟩
  · by_cases h0 : s.data.toList = []
    · obtain rfl := bytes_eq (b := ⟨#[]⟩) h0
      exact check_empty w
    · exact check_main s w h0 h
end Go.Proofs.YtanjcjnkppnhcaaGreatDoor

namespace Go.Proofs.YtanjcjnkppnhcaaGreatDoor
open Go Go.RowKit

/-- The k-th verb. -/
def vB : Nat → ByteArray
  | 0 => ⟨#[97, 100, 100]⟩
  | 1 => ⟨#[114, 109]⟩
  | 2 => ⟨#[99, 111, 109, 109, 105, 116]⟩
  | 3 => ⟨#[98, 114, 97, 110, 99, 104]⟩
  | 4 => ⟨#[100, 101, 108, 101, 116, 101]⟩
  | 5 => ⟨#[115, 119, 105, 116, 99, 104]⟩
  | 6 => ⟨#[114, 101, 115, 101, 116]⟩
  | 7 => ⟨#[109, 101, 114, 103, 101]⟩
  | 8 => ⟨#[112, 105, 99, 107]⟩
  | 9 => ⟨#[114, 101, 118, 101, 114, 116]⟩
  | 10 => ⟨#[115, 116, 97, 115, 104]⟩
  | 11 => ⟨#[112, 111, 112]⟩
  | 12 => ⟨#[97, 112, 112, 108, 121]⟩
  | 13 => ⟨#[115, 104, 101, 108, 118, 101]⟩
  | 14 => ⟨#[114, 101, 98, 97, 115, 101]⟩
  | 15 => ⟨#[99, 111, 110, 116, 105, 110, 117, 101]⟩
  | 16 => ⟨#[115, 107, 105, 112]⟩
  | 17 => ⟨#[97, 98, 111, 114, 116]⟩
  | 18 => ⟨#[117, 110, 100, 111]⟩
  | _ => ⟨#[114, 101, 100, 111]⟩
def verbsB : List ByteArray := [⟨#[97, 100, 100]⟩, ⟨#[114, 109]⟩, ⟨#[99, 111, 109, 109, 105, 116]⟩, ⟨#[98, 114, 97, 110, 99, 104]⟩, ⟨#[100, 101, 108, 101, 116, 101]⟩, ⟨#[115, 119, 105, 116, 99, 104]⟩, ⟨#[114, 101, 115, 101, 116]⟩, ⟨#[109, 101, 114, 103, 101]⟩, ⟨#[112, 105, 99, 107]⟩, ⟨#[114, 101, 118, 101, 114, 116]⟩, ⟨#[115, 116, 97, 115, 104]⟩, ⟨#[112, 111, 112]⟩, ⟨#[97, 112, 112, 108, 121]⟩, ⟨#[115, 104, 101, 108, 118, 101]⟩, ⟨#[114, 101, 98, 97, 115, 101]⟩, ⟨#[99, 111, 110, 116, 105, 110, 117, 101]⟩, ⟨#[115, 107, 105, 112]⟩, ⟨#[97, 98, 111, 114, 116]⟩, ⟨#[117, 110, 100, 111]⟩, ⟨#[114, 101, 100, 111]⟩]
theorem verbsB_at {k : Nat} (h : k < 20) : verbsB[k]? = some (vB k) := by
  have : ∀ j : Fin 20, verbsB[j.1]? = some (vB j.1) := by decide +kernel
  exact this ⟨k, h⟩
theorem k20 {k : Nat} (h : k < 20) : k = 0 ∨ k = 1 ∨ k = 2 ∨ k = 3 ∨ k = 4 ∨ k = 5 ∨ k = 6 ∨ k = 7 ∨ k = 8 ∨ k = 9 ∨ k = 10 ∨ k = 11 ∨ k = 12 ∨ k = 13 ∨ k = 14 ∨ k = 15 ∨ k = 16 ∨ k = 17 ∨ k = 18 ∨ k = 19 := by omega
/-- The place of a text in a row of texts, told from i on; -1: it is not there. -/
def goP : List ByteArray → ByteArray → Nat → Int
  | [], _, _ => -1
  | x :: xs, v, i => if x = v then i else goP xs v (i + 1)
def placeV (v : ByteArray) : Int := goP verbsB v 0
theorem place_vB {k : Nat} (h : k < 20) : placeV (vB k) = k := by
  have : ∀ j : Fin 20, placeV (vB j.1) = j.1 := by decide +kernel
  exact this ⟨k, h⟩
theorem goP_spec : ∀ (l : List ByteArray) (v : ByteArray) (i : Nat), (goP l v i = -1 ∧ ∀ x ∈ l, x ≠ v) ∨ ∃ j, goP l v i = ((i + j : Nat) : Int) ∧ l[j]? = some v
  | [], v, i => .inl ⟨rfl, fun x hx => by cases hx⟩
  | x :: xs, v, i => by
    unfold goP
    by_cases h : x = v
    · rw [if_pos h]; exact .inr ⟨0, rfl, by rw [h]; rfl⟩
    · rw [if_neg h]
      rcases goP_spec xs v (i + 1) with ⟨h1, h2⟩ | ⟨j, h1, h2⟩
      · exact .inl ⟨h1, fun y hy => (List.mem_cons.1 hy).elim (fun e => e ▸ h) (h2 y)⟩
      · exact .inr ⟨j + 1, by rw [h1]; congr 1; omega, h2⟩
/-- A verb is one of the twenty, or its place is -1. -/
theorem place_cases (v : ByteArray) : (placeV v = -1) ∨ ∃ k, k < 20 ∧ v = vB k ∧ placeV v = k := by
  rcases goP_spec verbsB v 0 with ⟨h, _⟩ | ⟨j, h, hj⟩
  · exact .inl h
  · have hl : j < 20 := (List.getElem?_eq_some_iff.1 hj).1
    rw [verbsB_at hl] at hj
    exact .inr ⟨j, hl, (Option.some.inj hj).symm, by unfold placeV; rw [h]; simp⟩
theorem placeV_in (v : ByteArray) : -1 ≤ placeV v ∧ placeV v ≤ 19 := by
  rcases place_cases v with h | ⟨k, h, _, h1⟩ <;> omega
theorem eq_bytes {a b : ByteArray} : (a.toList == b.toList) = decide (a = b) := by
  by_cases h : a = b
  · subst h; simp
  · rw [decide_eq_false h, beq_eq_false_iff_ne]
    exact fun e => h (bytesB_eq (by rw [← ByteArray.toList_eq, e, ByteArray.toList_eq]))
set_option maxRecDepth 100000 in
set_option maxHeartbeats 2000000 in
theorem verbs_any (w : World) : Calls Tryz.prog 27 #[] w fun e w' => e = .returned (.slice (some ⟨w.heap.size, 0, none⟩) 20 20) ∧ w' = w.alloc (.cells #[.string ⟨#[97, 100, 100]⟩, .string ⟨#[114, 109]⟩, .string ⟨#[99, 111, 109, 109, 105, 116]⟩, .string ⟨#[98, 114, 97, 110, 99, 104]⟩, .string ⟨#[100, 101, 108, 101, 116, 101]⟩, .string ⟨#[115, 119, 105, 116, 99, 104]⟩, .string ⟨#[114, 101, 115, 101, 116]⟩, .string ⟨#[109, 101, 114, 103, 101]⟩, .string ⟨#[112, 105, 99, 107]⟩, .string ⟨#[114, 101, 118, 101, 114, 116]⟩, .string ⟨#[115, 116, 97, 115, 104]⟩, .string ⟨#[112, 111, 112]⟩, .string ⟨#[97, 112, 112, 108, 121]⟩, .string ⟨#[115, 104, 101, 108, 118, 101]⟩, .string ⟨#[114, 101, 98, 97, 115, 101]⟩, .string ⟨#[99, 111, 110, 116, 105, 110, 117, 101]⟩, .string ⟨#[115, 107, 105, 112]⟩, .string ⟨#[97, 98, 111, 114, 116]⟩, .string ⟨#[117, 110, 100, 111]⟩, .string ⟨#[114, 101, 100, 111]⟩] 9) := by
  go_enter Tryz.func27, Tryz.ntmps27
  go_wp2
  go_ret
  exact ⟨rfl, rfl⟩
set_option maxRecDepth 100000 in
set_option maxHeartbeats 2000000 in
theorem refVerbs_any (w : World) : Calls Tryz.prog 28 #[] w fun e w' => e = .returned (.slice (some ⟨w.heap.size, 0, none⟩) 20 20) ∧ w' = w.alloc (.cells #[.string ⟨#[97, 100, 100]⟩, .string ⟨#[114, 109]⟩, .string ⟨#[99, 111, 109, 109, 105, 116]⟩, .string ⟨#[98, 114, 97, 110, 99, 104]⟩, .string ⟨#[100, 101, 108, 101, 116, 101]⟩, .string ⟨#[115, 119, 105, 116, 99, 104]⟩, .string ⟨#[114, 101, 115, 101, 116]⟩, .string ⟨#[109, 101, 114, 103, 101]⟩, .string ⟨#[112, 105, 99, 107]⟩, .string ⟨#[114, 101, 118, 101, 114, 116]⟩, .string ⟨#[115, 116, 97, 115, 104]⟩, .string ⟨#[112, 111, 112]⟩, .string ⟨#[97, 112, 112, 108, 121]⟩, .string ⟨#[115, 104, 101, 108, 118, 101]⟩, .string ⟨#[114, 101, 98, 97, 115, 101]⟩, .string ⟨#[99, 111, 110, 116, 105, 110, 117, 101]⟩, .string ⟨#[115, 107, 105, 112]⟩, .string ⟨#[97, 98, 111, 114, 116]⟩, .string ⟨#[117, 110, 100, 111]⟩, .string ⟨#[114, 101, 100, 111]⟩] 9) := by
  go_enter Tryz.func28, Tryz.ntmps28
  go_wp2
  go_ret
  exact ⟨rfl, rfl⟩
theorem verbs_cells (w : World) (k : Nat) (x : ByteArray) (hx : verbsB[k]? = some x) : (w.alloc (.cells #[.string ⟨#[97, 100, 100]⟩, .string ⟨#[114, 109]⟩, .string ⟨#[99, 111, 109, 109, 105, 116]⟩, .string ⟨#[98, 114, 97, 110, 99, 104]⟩, .string ⟨#[100, 101, 108, 101, 116, 101]⟩, .string ⟨#[115, 119, 105, 116, 99, 104]⟩, .string ⟨#[114, 101, 115, 101, 116]⟩, .string ⟨#[109, 101, 114, 103, 101]⟩, .string ⟨#[112, 105, 99, 107]⟩, .string ⟨#[114, 101, 118, 101, 114, 116]⟩, .string ⟨#[115, 116, 97, 115, 104]⟩, .string ⟨#[112, 111, 112]⟩, .string ⟨#[97, 112, 112, 108, 121]⟩, .string ⟨#[115, 104, 101, 108, 118, 101]⟩, .string ⟨#[114, 101, 98, 97, 115, 101]⟩, .string ⟨#[99, 111, 110, 116, 105, 110, 117, 101]⟩, .string ⟨#[115, 107, 105, 112]⟩, .string ⟨#[97, 98, 111, 114, 116]⟩, .string ⟨#[117, 110, 100, 111]⟩, .string ⟨#[114, 101, 100, 111]⟩] 9)).cell? ⟨w.heap.size, k, none⟩ = some (.string x) := by
  have : (#[.string ⟨#[97, 100, 100]⟩, .string ⟨#[114, 109]⟩, .string ⟨#[99, 111, 109, 109, 105, 116]⟩, .string ⟨#[98, 114, 97, 110, 99, 104]⟩, .string ⟨#[100, 101, 108, 101, 116, 101]⟩, .string ⟨#[115, 119, 105, 116, 99, 104]⟩, .string ⟨#[114, 101, 115, 101, 116]⟩, .string ⟨#[109, 101, 114, 103, 101]⟩, .string ⟨#[112, 105, 99, 107]⟩, .string ⟨#[114, 101, 118, 101, 114, 116]⟩, .string ⟨#[115, 116, 97, 115, 104]⟩, .string ⟨#[112, 111, 112]⟩, .string ⟨#[97, 112, 112, 108, 121]⟩, .string ⟨#[115, 104, 101, 108, 118, 101]⟩, .string ⟨#[114, 101, 98, 97, 115, 101]⟩, .string ⟨#[99, 111, 110, 116, 105, 110, 117, 101]⟩, .string ⟨#[115, 107, 105, 112]⟩, .string ⟨#[97, 98, 111, 114, 116]⟩, .string ⟨#[117, 110, 100, 111]⟩, .string ⟨#[114, 101, 100, 111]⟩] : Array Value) = (verbsB.map Value.string).toArray := rfl
  rw [this, cell_of_row _ _ k _ 9 (0, 0) (heap_alloc_new w _)]
  simp [hx]
set_option maxRecDepth 100000 in
set_option maxHeartbeats 4000000 in
theorem index_any (w : World) (A : Option Addr) (c : Nat) (ss : List ByteArray) (v : ByteArray) (hs : ss.length ≤ 1000000) (h : ∀ ad, A = some ad → ∀ k x, ss[k]? = some x → w.cell? (ad.add k) = some (.string x)) (hA : ss ≠ [] → A ≠ none) :
    Calls Tryz.prog 91 #[.slice A ss.length c, .string v] w fun e w' => e = .returned (.int .i64 (goP ss v 0)) ∧ w' = w := by
  have HC := Lib.hid h
  have HA := Lib.hid hA
  have n0 : (0 : Int) ≤ (ss.length : Int) := Int.natCast_nonneg _
  have n1 : (ss.length : Int) ≤ 1000000 := by omega
  obtain ⟨R, hR⟩ : ∃ R, R = goP ss v 0 := ⟨_, rfl⟩
  have HR := Lib.hid (show goP (ss.drop 0) v 0 = R by rw [hR]; rfl)
  rw [← hR]
  clear h hA hR
  go_enter Tryz.func91, Tryz.ntmps91
  go_wp2_with fail
  go_loopw [5, 8] (fun _ s8 wr => ∃ k : Nat, k ≤ ss.length ∧ s8 = .int .i64 k ∧ Hid (goP (ss.drop k) v k = R) ∧ Hid (wr = w)) (fun _ s8 _ => ss.length - (intOf s8).toNat)
  case atStart => exact ⟨0, Nat.zero_le _, rfl, HR, Lib.hid rfl⟩
  case round =>
    clear HR
    obtain ⟨k, hk, rfl, HR, HW⟩ := hrel
    have k0 : (0 : Int) ≤ (k : Int) := Int.natCast_nonneg _
    by_cases hlt : k < ss.length
    · have hli : (k : Int) < (ss.length : Int) := by omega
      obtain ⟨x, hx⟩ : ∃ x, ss[k]? = some x := ⟨_, List.getElem?_eq_getElem hlt⟩
      obtain ⟨ad, rfl⟩ : ∃ ad, A = some ad := by
        cases A with
        | none => exact absurd rfl (HA.out (by intro e; rw [e] at hlt; cases hlt))
        | some ad => exact ⟨ad, rfl⟩
      have c0 : wr.cell? (ad.add k) = some (.string x) := by rw [HW.out]; exact HC.out ad rfl k x hx
      have HP := HR.out
      rw [drop_consB hx, goP] at HP
      have e1 := eq_bytes (a := v) (b := x)
      have HLT := Lib.hid hlt
      by_cases hv : x = v
      · rw [if_pos hv] at HP
        replace HP := Lib.hid HP
        clear hx hlt hk e1
        subst hv
        go_wp2
        go_ret
        exact ⟨by rw [← HP.out]; rfl, HW.out⟩
      · rw [if_neg hv] at HP
        rw [decide_eq_false (fun e => hv e.symm)] at e1
        replace HP := Lib.hid HP
        clear hx hv hlt hk
        go_wp2
        go_roundw
        case rel => exact ⟨k + 1, by have := HLT.out; omega, by go_num, HP, HW⟩
        case measure => have := HLT.out; simp [intOf]; omega
    · obtain rfl : k = ss.length := by omega
      have HP := HR.out
      rw [List.drop_length, goP] at HP
      replace HP := Lib.hid HP
      clear hlt hk
      go_wp2
      go_ret
      exact ⟨by rw [← HP.out]; rfl, HW.out⟩
set_option maxHeartbeats 2000000 in
theorem place_any (v : ByteArray) (w : World) : Calls Tryz.prog 54 #[.string v] w fun e w' => e = .returned (.int .i64 (placeV v)) ∧ Below w.heap.size w w' := by
  have VS := Lib.hid (verbs_any w)
  have HC := Lib.hid (verbs_cells w)
  have HB := Lib.hid ((Below.refl w.heap.size w).alloc (Nat.le_refl _) (.cells #[.string ⟨#[97, 100, 100]⟩, .string ⟨#[114, 109]⟩, .string ⟨#[99, 111, 109, 109, 105, 116]⟩, .string ⟨#[98, 114, 97, 110, 99, 104]⟩, .string ⟨#[100, 101, 108, 101, 116, 101]⟩, .string ⟨#[115, 119, 105, 116, 99, 104]⟩, .string ⟨#[114, 101, 115, 101, 116]⟩, .string ⟨#[109, 101, 114, 103, 101]⟩, .string ⟨#[112, 105, 99, 107]⟩, .string ⟨#[114, 101, 118, 101, 114, 116]⟩, .string ⟨#[115, 116, 97, 115, 104]⟩, .string ⟨#[112, 111, 112]⟩, .string ⟨#[97, 112, 112, 108, 121]⟩, .string ⟨#[115, 104, 101, 108, 118, 101]⟩, .string ⟨#[114, 101, 98, 97, 115, 101]⟩, .string ⟨#[99, 111, 110, 116, 105, 110, 117, 101]⟩, .string ⟨#[115, 107, 105, 112]⟩, .string ⟨#[97, 98, 111, 114, 116]⟩, .string ⟨#[117, 110, 100, 111]⟩, .string ⟨#[114, 101, 100, 111]⟩] 9))
  go_enter Tryz.func54, Tryz.ntmps54
  go_wp2_with fail
  refine VS.out.mono ?_
  rintro e w1 ⟨rfl, hw⟩
  rw [← hw] at HC HB
  have IX := Lib.hid (index_any w1 (some ⟨w.heap.size, 0, none⟩) 20 verbsB v (by decide) (fun ad e k x hx => by
    obtain rfl := Option.some.inj e
    have := HC.out k x hx
    rwa [show (⟨w.heap.size, 0, none⟩ : Addr).add k = ⟨w.heap.size, k, none⟩ from Lib.add_plain w.heap.size 0 k |>.trans (by rw [Nat.zero_add])]) (fun _ e => by cases e))
  rw [show verbsB.length = 20 from rfl] at IX
  clear hw VS HC
  go_wp2_with fail
  refine IX.out.mono ?_
  rintro e w2 ⟨rfl, hw⟩
  rw [← hw] at HB
  clear hw IX
  go_wp2
  go_ret
  exact ⟨rfl, HB.out⟩
/-- A refusal of a command. -/
def bCmd : ByteArray := ⟨#[99, 109, 100]⟩
set_option maxHeartbeats 2000000 in
theorem fault_cmd (v : ByteArray) (ty : TypeId) (y : Value) (w : World) : Calls Tryz.prog 55 #[.string v, .iface ty y] w fun e w' => ∃ F, e = .returned (.iface 76 (.pointer (some ⟨F, 0, none⟩))) ∧ Blk w' F 78 #[.string bCmd, .int .i64 (placeV v), .iface ty y] ∧ w.heap.size ≤ F ∧ Below w.heap.size w w' := by
  have PL := Lib.hid (place_any v w)
  go_enter Tryz.func55, Tryz.ntmps55
  go_wp2_with fail
  refine PL.out.mono ?_
  rintro e w1 ⟨rfl, d1⟩
  have D1 := Lib.hid d1
  clear d1 PL
  go_wp2
  go_ret
  exact ⟨w1.heap.size, rfl, heap_alloc_new w1 _, D1.out.size, D1.out.alloc D1.out.size _⟩
#print axioms fault_cmd
end Go.Proofs.YtanjcjnkppnhcaaGreatDoor

namespace Go.Proofs.YtanjcjnkppnhcaaGreatDoor
open Go Go.RowKit

/-- A command's value: its verb is the k-th. -/
abbrev cmdV (k : Nat) (nm : ByteArray) (n : Int) (tx : ByteArray) (f : Bool) (A : Option Addr) (m c : Nat) : Value := .agg #[.string (vB k), .string nm, .int .i64 n, .string tx, .bool f, .slice A m c]
def hasNmK (k : Nat) : Bool := [0, 1, 3, 4, 5, 6, 7].contains k
def hasNK (k : Nat) (nm : ByteArray) : Bool := if k = 5 then nm.toList.isEmpty else [6, 8, 9, 11, 12, 13, 14].contains k
def hasFK (k : Nat) : Bool := [1, 5].contains k
def hasTK (k : Nat) : Bool := [2, 10].contains k
set_option maxRecDepth 100000 in
set_option maxHeartbeats 4000000 in
theorem hasName_any (k : Nat) (hk : k < 20) (w : World) : Calls Tryz.prog 61 #[.string (vB k)] w fun e w' => e = .returned (.bool (hasNmK k)) ∧ w' = w := by
  rcases k20 hk with rfl | rfl | rfl | rfl | rfl | rfl | rfl | rfl | rfl | rfl | rfl | rfl | rfl | rfl | rfl | rfl | rfl | rfl | rfl | rfl
  all_goals
    simp only [vB]
    go_enter Tryz.func61, Tryz.ntmps61
    go_wp2
    go_ret
    exact ⟨rfl, rfl⟩
set_option maxRecDepth 100000 in
set_option maxHeartbeats 4000000 in
theorem hasForce_any (k : Nat) (hk : k < 20) (w : World) : Calls Tryz.prog 63 #[.string (vB k)] w fun e w' => e = .returned (.bool (hasFK k)) ∧ w' = w := by
  rcases k20 hk with rfl | rfl | rfl | rfl | rfl | rfl | rfl | rfl | rfl | rfl | rfl | rfl | rfl | rfl | rfl | rfl | rfl | rfl | rfl | rfl
  all_goals
    simp only [vB]
    go_enter Tryz.func63, Tryz.ntmps63
    go_wp2
    go_ret
    exact ⟨rfl, rfl⟩
set_option maxRecDepth 100000 in
set_option maxHeartbeats 4000000 in
theorem hasText_any (k : Nat) (hk : k < 20) (w : World) : Calls Tryz.prog 64 #[.string (vB k)] w fun e w' => e = .returned (.bool (hasTK k)) ∧ w' = w := by
  rcases k20 hk with rfl | rfl | rfl | rfl | rfl | rfl | rfl | rfl | rfl | rfl | rfl | rfl | rfl | rfl | rfl | rfl | rfl | rfl | rfl | rfl
  all_goals
    simp only [vB]
    go_enter Tryz.func64, Tryz.ntmps64
    go_wp2
    go_ret
    exact ⟨rfl, rfl⟩
theorem hasNK_5 (nm : ByteArray) : hasNK 5 nm = nm.toList.isEmpty := rfl
set_option maxRecDepth 100000 in
set_option maxHeartbeats 8000000 in
theorem hasN_any (k : Nat) (hk : k < 20) (nm : ByteArray) (n : Int) (tx : ByteArray) (f : Bool) (A : Option Addr) (m c : Nat) (w : World) :
    Calls Tryz.prog 62 #[cmdV k nm n tx f A m c] w fun e w' => e = .returned (.bool (hasNK k nm)) ∧ Below w.heap.size w w' := by
  have hb := (Below.refl w.heap.size w).alloc (Nat.le_refl _) (.cells #[.string (vB k), .string nm, .int .i64 n, .string tx, .bool f, .slice A m c] 52)
  unfold cmdV
  cases hE : nm.toList.isEmpty with
  | true =>
    have HE := Lib.hid (show hasNK 5 nm = true by rw [hasNK_5, hE])
    have hE2 : nm.toList = [] := by simpa using hE
    rcases k20 hk with rfl | rfl | rfl | rfl | rfl | rfl | rfl | rfl | rfl | rfl | rfl | rfl | rfl | rfl | rfl | rfl | rfl | rfl | rfl | rfl
    all_goals
      simp only [vB] at hb ⊢
      have HB := Lib.hid hb
      clear hb
      go_enter Tryz.func62, Tryz.ntmps62
      go_wp2
      go_ret
      first
        | exact ⟨rfl, HB.out⟩
        | exact ⟨by rw [HE.out]; rfl, HB.out⟩
  | false =>
    have HE := Lib.hid (show hasNK 5 nm = false by rw [hasNK_5, hE])
    have hE2 : ¬ nm.toList = [] := by simpa using hE
    rcases k20 hk with rfl | rfl | rfl | rfl | rfl | rfl | rfl | rfl | rfl | rfl | rfl | rfl | rfl | rfl | rfl | rfl | rfl | rfl | rfl | rfl
    all_goals
      simp only [vB] at hb ⊢
      have HB := Lib.hid hb
      clear hb
      go_enter Tryz.func62, Tryz.ntmps62
      go_wp2
      go_ret
      first
        | exact ⟨rfl, HB.out⟩
        | exact ⟨by rw [HE.out]; rfl, HB.out⟩
/-- What is wrong with a number. -/
def wNK (k : Nat) (nm : ByteArray) (n : Int) : Int := if hasNK k nm = false then 0 else if n < (if [11, 12, 13].contains k = true then 0 else 1) then 1 else 0
set_option maxRecDepth 100000 in
set_option maxHeartbeats 8000000 in
theorem wrongN_any (k : Nat) (hk : k < 20) (nm : ByteArray) (n : Int) (tx : ByteArray) (f : Bool) (A : Option Addr) (m c : Nat) (w : World) :
    Calls Tryz.prog 57 #[cmdV k nm n tx f A m c] w fun e w' => e = .returned (.int .i64 (wNK k nm n)) ∧ Below w.heap.size w w' := by
  have hb := (Below.refl w.heap.size w).alloc (Nat.le_refl _) (.cells #[.string (vB k), .string nm, .int .i64 n, .string tx, .bool f, .slice A m c] 52)
  have HN := Lib.hid fun W => hasN_any k hk nm n tx f A m c W
  have HZ := Lib.hid (Blk.new w 52 #[.string (vB k), .string nm, .int .i64 n, .string tx, .bool f, .slice A m c])
  obtain ⟨g, hg⟩ : ∃ g, g = w.heap.size := ⟨_, rfl⟩
  have HB := Lib.hid hb
  clear hb
  cases hn : hasNK k nm with
  | false =>
    have HV := Lib.hid (show wNK k nm n = 0 by unfold wNK; rw [if_pos hn])
    rw [hn] at HN
    clear hn
    unfold cmdV at HN ⊢
    go_enter Tryz.func57, Tryz.ntmps57
    go_wp2_with fail
    refine (HN.out _).mono ?_
    rintro e w1 ⟨rfl, d1⟩
    have B1 := Lib.hid (HB.out.trans (d1.mono HB.out.size))
    go_wp2
    go_ret
    exact ⟨by rw [HV.out]; rfl, B1.out⟩
  | true =>
    have HV := Lib.hid (show wNK k nm n = if n < (if [11, 12, 13].contains k = true then 0 else 1) then 1 else 0 by unfold wNK; rw [if_neg (by rw [hn]; simp)])
    rw [hn] at HN
    clear hn
    unfold cmdV at HN ⊢
    rw [← hg] at HZ
    go_enter Tryz.func57, Tryz.ntmps57
    go_wp2_with fail
    refine (HN.out _).mono ?_
    rintro e w1 ⟨rfl, d1⟩
    have B1 := Lib.hid (HB.out.trans (d1.mono HB.out.size))
    have Z1 := Lib.hid (HZ.out.below d1 HZ.out.lt)
    rw [← hg]
    clear d1 HN HZ HB hg
    rcases k20 hk with rfl | rfl | rfl | rfl | rfl | rfl | rfl | rfl | rfl | rfl | rfl | rfl | rfl | rfl | rfl | rfl | rfl | rfl | rfl | rfl
    all_goals
      simp only [vB] at Z1 ⊢
      have z0 := Z1.out.cell 0
      have z2 := Z1.out.cell 2
      clear Z1
      first
        | (by_cases h0 : n < 0
           · have HV2 := Lib.hid (show (1 : Int) = wNK _ nm n by rw [HV.out]; exact (if_pos h0).symm)
             clear HV
             go_wp2
             go_ret
             exact ⟨congrArg (fun x => Ending.returned (.int .i64 x)) HV2.out, B1.out⟩
           · have HV2 := Lib.hid (show (0 : Int) = wNK _ nm n by rw [HV.out]; exact (if_neg h0).symm)
             clear HV
             go_wp2
             go_ret
             exact ⟨congrArg (fun x => Ending.returned (.int .i64 x)) HV2.out, B1.out⟩)
        | (by_cases h0 : n < 1
           · have HV2 := Lib.hid (show (1 : Int) = wNK _ nm n by rw [HV.out]; exact (if_pos h0).symm)
             clear HV
             go_wp2
             go_ret
             exact ⟨congrArg (fun x => Ending.returned (.int .i64 x)) HV2.out, B1.out⟩
           · have HV2 := Lib.hid (show (0 : Int) = wNK _ nm n by rw [HV.out]; exact (if_neg h0).symm)
             clear HV
             go_wp2
             go_ret
             exact ⟨congrArg (fun x => Ending.returned (.int .i64 x)) HV2.out, B1.out⟩)
theorem ix_nls : ∀ l : List UInt8, (0 ≤ Lib.indexByte l 10) ↔ (nls l).length ≠ 1
  | [] => by simp [Lib.indexByte, nls]
  | a :: l => by
    have ih := ix_nls l
    have hn := List.length_pos_iff.2 (nls_ne l)
    by_cases ha : a = 10
    · subst ha
      rw [nls_ten rfl, List.length_cons]
      have e : Lib.indexByte (10 :: l) 10 = 0 := by unfold Lib.indexByte; simp
      rw [e]
      constructor
      · intro _; omega
      · intro _; exact Int.le_refl _
    · obtain ⟨x, xs, hx⟩ : ∃ x xs, nls l = x :: xs := by
        cases h : nls l with
        | nil => exact absurd h (nls_ne l)
        | cons x xs => exact ⟨x, xs, rfl⟩
      rw [nls_more ha hx]
      rw [hx] at ih
      have e : Lib.indexByte (a :: l) 10 = if Lib.indexByte l 10 == -1 then -1 else Lib.indexByte l 10 + 1 := by rw [Lib.indexByte]; rw [if_neg (by simpa using ha)]
      rw [e]
      have hge := Lib.indexByte_ge l 10
      by_cases h1 : Lib.indexByte l 10 = -1
      · rw [if_pos (by simpa using h1)]
        rw [h1] at ih
        simp only [List.length_cons] at ih ⊢
        constructor
        · intro h; omega
        · intro h; have := ih.2 h; omega
      · rw [if_neg (by simpa using h1)]
        simp only [List.length_cons] at ih ⊢
        rw [← ih]
        omega
/-- What is wrong with a text of one line. -/
def wlV (tx : ByteArray) : Int := if 256 < tx.size then 4 else if (nls tx.data.toList).length = 1 then 0 else 2
set_option maxHeartbeats 4000000 in
theorem contains10_any (tx : ByteArray) (w : World) : Calls Tryz.prog 116 #[.string tx, .string ⟨#[10]⟩] w fun e w' => e = .returned (.bool (decide ((nls tx.data.toList).length ≠ 1))) ∧ w' = w := by
  have IX := Lib.hid (Tryz.strings_Index_one tx 10 w)
  have HX := Lib.hid (show decide (0 ≤ Lib.indexByte tx.data.toList 10) = decide ((nls tx.data.toList).length ≠ 1) from decide_eq_decide.2 (ix_nls _))
  go_enter Tryz.func116, Tryz.ntmps116
  go_wp2_with fail
  refine IX.out.mono ?_
  rintro e w1 ⟨rfl, rfl⟩
  go_wp2
  go_ret
  exact ⟨congrArg (fun b => Ending.returned (.bool b)) HX.out, rfl⟩
set_option maxHeartbeats 4000000 in
theorem wrongLine_any (tx : ByteArray) (w : World) : Calls Tryz.prog 94 #[.string tx] w fun e w' => e = .returned (.int .i64 (wlV tx)) ∧ w' = w := by
  have CT := Lib.hid (contains10_any tx w)
  by_cases hz : 256 < tx.size
  · have HV := Lib.hid (show (4 : Int) = wlV tx from (if_pos hz).symm)
    have hzi : (256 : Int) < (tx.size : Int) := by omega
    clear hz
    go_enter Tryz.func94, Tryz.ntmps94
    go_wp2
    go_ret
    exact ⟨by rw [← HV.out]; rfl, rfl⟩
  have hzi : ¬ (256 : Int) < (tx.size : Int) := by omega
  by_cases h1 : (nls tx.data.toList).length = 1
  · have HV := Lib.hid (show (0 : Int) = wlV tx by unfold wlV; rw [if_neg hz, if_pos h1])
    rw [decide_eq_false (by simpa using h1)] at CT
    clear hz h1
    go_enter Tryz.func94, Tryz.ntmps94
    go_wp2_with fail
    refine CT.out.mono ?_
    rintro e w1 ⟨rfl, rfl⟩
    go_wp2
    go_ret
    exact ⟨by rw [← HV.out]; rfl, rfl⟩
  · have HV := Lib.hid (show (2 : Int) = wlV tx by unfold wlV; rw [if_neg hz, if_neg h1])
    rw [decide_eq_true (by simpa using h1)] at CT
    clear hz h1
    go_enter Tryz.func94, Tryz.ntmps94
    go_wp2_with fail
    refine CT.out.mono ?_
    rintro e w1 ⟨rfl, rfl⟩
    go_wp2
    go_ret
    exact ⟨by rw [← HV.out]; rfl, rfl⟩
#print axioms wrongLine_any
end Go.Proofs.YtanjcjnkppnhcaaGreatDoor

namespace Go.Proofs.YtanjcjnkppnhcaaGreatDoor
open Go Go.RowKit

abbrev cmdC (k : Nat) (nm : ByteArray) (n : Int) (tx : ByteArray) (f : Bool) (A : Option Addr) (m c : Nat) : Array Value := #[.string (vB k), .string nm, .int .i64 n, .string tx, .bool f, .slice A m c]
/-- What is wrong with a text. -/
def wTK (k : Nat) (tx : ByteArray) : Int := if k = 2 then (if tx = ⟨#[]⟩ then 1 else wlV tx) else if k = 10 then wlV tx else 0
theorem emptyB (tx : ByteArray) : (tx = ⟨#[]⟩ ∧ tx.toList.isEmpty = true) ∨ (tx ≠ ⟨#[]⟩ ∧ tx.toList.isEmpty = false ∧ ¬ tx.toList = []) := by
  by_cases h : tx = ⟨#[]⟩
  · subst h; exact .inl ⟨rfl, by rw [ByteArray.toList_eq]; rfl⟩
  · have h2 : ¬ tx.toList = [] := fun e => h (bytesB_eq (by rw [← ByteArray.toList_eq, e]))
    exact .inr ⟨h, by simpa using h2, h2⟩
theorem ret_e {a b : Int} (h : a = b) : Ending.returned (.int .i64 a) = .returned (.int .i64 b) := by rw [h]
set_option maxRecDepth 100000 in
set_option maxHeartbeats 8000000 in
theorem wrongText_any (k : Nat) (hk : k < 20) (nm : ByteArray) (n : Int) (tx : ByteArray) (f : Bool) (A : Option Addr) (m c : Nat) (w : World) :
    Calls Tryz.prog 58 #[cmdV k nm n tx f A m c] w fun e w' => e = .returned (.int .i64 (wTK k tx)) ∧ Below w.heap.size w w' := by
  have hb := (Below.refl w.heap.size w).alloc (Nat.le_refl _) (.cells (cmdC k nm n tx f A m c) 52)
  have WL := Lib.hid fun W => wrongLine_any tx W
  unfold cmdV
  unfold cmdC at hb
  rcases emptyB tx with ⟨rfl, -⟩ | ⟨h1, h2, h3⟩
  · rcases k20 hk with rfl | rfl | rfl | rfl | rfl | rfl | rfl | rfl | rfl | rfl | rfl | rfl | rfl | rfl | rfl | rfl | rfl | rfl | rfl | rfl
    all_goals
      simp only [vB] at hb ⊢
      have HB := Lib.hid hb
      clear hb
      go_enter Tryz.func58, Tryz.ntmps58
      go_wp2_with (go_at_call 94; refine (WL.out _).mono ?_; rintro e w1 ⟨rfl, rfl⟩)
      go_ret
      exact ⟨rfl, HB.out⟩
  · have HV := Lib.hid (show wTK 2 tx = wlV tx by unfold wTK; rw [if_pos rfl, if_neg h1])
    clear h1
    rcases k20 hk with rfl | rfl | rfl | rfl | rfl | rfl | rfl | rfl | rfl | rfl | rfl | rfl | rfl | rfl | rfl | rfl | rfl | rfl | rfl | rfl
    all_goals
      simp only [vB] at hb ⊢
      have HB := Lib.hid hb
      clear hb
      go_enter Tryz.func58, Tryz.ntmps58
      go_wp2_with (go_at_call 94; refine (WL.out _).mono ?_; rintro e w1 ⟨rfl, rfl⟩)
      go_ret
      first
        | exact ⟨ret_e HV.out.symm, HB.out⟩
        | exact ⟨rfl, HB.out⟩
/-- What is wrong with a step of a command. -/
def wSV (x : Fl) : Int := if knownV x.1 = false then 5 else if x.2.1 < 1 ∨ 1000000 < x.2.1 then 1 else if isRw x.1 = false then 0 else if x.2.2 = ⟨#[]⟩ then 1 else wlV x.2.2
theorem known_six {v : ByteArray} (h : knownV v = true) : v = ⟨#[112, 105, 99, 107]⟩ ∨ v = ⟨#[114, 101, 119, 111, 114, 100]⟩ ∨ v = ⟨#[101, 100, 105, 116]⟩ ∨ v = ⟨#[115, 113, 117, 97, 115, 104]⟩ ∨ v = ⟨#[102, 105, 120, 117, 112]⟩ ∨ v = ⟨#[100, 114, 111, 112]⟩ := by
  have := known_verb h
  unfold verbL at this
  simpa using this
theorem known_none {v : ByteArray} (h : knownV v = false) : (v.toList == [112, 105, 99, 107]) = false ∧ (v.toList == [114, 101, 119, 111, 114, 100]) = false ∧ (v.toList == [101, 100, 105, 116]) = false ∧ (v.toList == [115, 113, 117, 97, 115, 104]) = false ∧ (v.toList == [102, 105, 120, 117, 112]) = false ∧ (v.toList == [100, 114, 111, 112]) = false := by
  unfold knownV at h
  simp only [Bool.or_eq_false_iff] at h
  obtain ⟨⟨⟨⟨⟨a, b⟩, c⟩, d⟩, e⟩, f⟩ := h
  exact ⟨a, b, c, d, e, f⟩
set_option maxRecDepth 100000 in
set_option maxHeartbeats 8000000 in
theorem wrongStep_any (x : Fl) (w : World) :
    Calls Tryz.prog 95 #[.agg #[.string x.1, .int .i64 x.2.1, .string x.2.2]] w fun e w' => e = .returned (.int .i64 (wSV x)) ∧ Below w.heap.size w w' := by
  obtain ⟨v, cc, tx⟩ := x
  have HB := Lib.hid ((Below.refl w.heap.size w).alloc (Nat.le_refl _) (.cells #[.string v, .int .i64 cc, .string tx] 41))
  cases hv : knownV v with
  | false =>
    have HV := Lib.hid (show (5 : Int) = wSV (v, cc, tx) by unfold wSV; rw [if_pos hv])
    obtain ⟨a, b, c, d, e, f⟩ := known_none hv
    clear hv
    go_enter Tryz.func95, Tryz.ntmps95
    go_wp2
    go_ret
    exact ⟨ret_e HV.out, HB.out⟩
  | true =>
    have HK := Lib.hid (show ¬ knownV v = false by rw [hv]; simp)
    have HS := known_six hv
    clear hv
    by_cases h1 : cc < 1
    · have HV := Lib.hid (show (1 : Int) = wSV (v, cc, tx) by unfold wSV; rw [if_neg HK.out, if_pos (.inl h1)])
      clear HK
      rcases HS with rfl | rfl | rfl | rfl | rfl | rfl
      all_goals
        go_enter Tryz.func95, Tryz.ntmps95
        go_wp2
        go_ret
        exact ⟨ret_e HV.out, HB.out⟩
    by_cases h2 : 1000000 < cc
    · have HV := Lib.hid (show (1 : Int) = wSV (v, cc, tx) by unfold wSV; rw [if_neg HK.out, if_pos (.inr h2)])
      clear HK
      rcases HS with rfl | rfl | rfl | rfl | rfl | rfl
      all_goals
        go_enter Tryz.func95, Tryz.ntmps95
        go_wp2
        go_ret
        exact ⟨ret_e HV.out, HB.out⟩
    have HQ := Lib.hid (show ¬ (cc < 1 ∨ 1000000 < cc) by omega)
    cases hr : isRw v with
    | false =>
      have HV := Lib.hid (show (0 : Int) = wSV (v, cc, tx) by unfold wSV; rw [if_neg HK.out, if_neg HQ.out, if_pos hr])
      have hr2 : (v.toList == [114, 101, 119, 111, 114, 100]) = false := hr
      clear hr HQ HK
      rcases HS with rfl | rfl | rfl | rfl | rfl | rfl
      case inr.inl => exact absurd hr2 (by decide +kernel)
      all_goals
        go_enter Tryz.func95, Tryz.ntmps95
        go_wp2
        go_ret
        exact ⟨ret_e HV.out, HB.out⟩
    | true =>
      obtain rfl : v = ⟨#[114, 101, 119, 111, 114, 100]⟩ := eq_of_toListB (by simpa using hr)
      clear HS
      rcases emptyB tx with ⟨rfl, -⟩ | ⟨e1, e2, e3⟩
      · have HV := Lib.hid (show (1 : Int) = wSV (⟨#[114, 101, 119, 111, 114, 100]⟩, cc, ⟨#[]⟩) by unfold wSV; rw [if_neg HK.out, if_neg HQ.out, if_neg (by rw [hr]; simp), if_pos rfl])
        clear HK HQ hr
        go_enter Tryz.func95, Tryz.ntmps95
        go_wp2
        go_ret
        exact ⟨ret_e HV.out, HB.out⟩
      · have HV := Lib.hid (show wlV tx = wSV (⟨#[114, 101, 119, 111, 114, 100]⟩, cc, tx) by unfold wSV; rw [if_neg HK.out, if_neg HQ.out, if_neg (by rw [hr]; simp), if_neg e1])
        have WL := Lib.hid fun W => wrongLine_any tx W
        clear HK HQ hr e1
        go_enter Tryz.func95, Tryz.ntmps95
        go_wp2_with fail
        refine (WL.out _).mono ?_
        rintro e w1 ⟨rfl, rfl⟩
        go_wp2
        go_ret
        exact ⟨ret_e HV.out, HB.out⟩
/-- The first wrong step. -/
def wSs : List Fl → Int
  | [] => 0
  | x :: l => if wSV x ≠ 0 then wSV x else wSs l
def wDK (k : Nat) (l : List Fl) : Int := if k = 14 then (if 32 < l.length then 4 else wSs l) else 0
theorem verb_not {k : Nat} (hk : k < 20) (h : k ≠ 14) : ((vB k).toList == [114, 101, 98, 97, 115, 101]) = false := by
  have : ∀ j : Fin 20, j.1 ≠ 14 → ((vB j.1).toList == [114, 101, 98, 97, 115, 101]) = false := by decide +kernel
  exact this ⟨k, hk⟩ h
set_option maxRecDepth 100000 in
set_option maxHeartbeats 8000000 in
theorem wrongTodo_any (k : Nat) (hk : k < 20) (nm : ByteArray) (n : Int) (tx : ByteArray) (f : Bool) (A : Option Addr) (l : List Fl) (c : Nat) (w : World) (hl : Reads 3 cF w (.slice A l.length c) l) :
    Calls Tryz.prog 59 #[cmdV k nm n tx f A l.length c] w fun e w' => e = .returned (.int .i64 (wDK k l)) ∧ Below w.heap.size w w' := by
  have hb := (Below.refl w.heap.size w).alloc (Nat.le_refl _) (.cells (cmdC k nm n tx f A l.length c) 52)
  have l0 : (0 : Int) ≤ (l.length : Int) := Int.natCast_nonneg _
  have HL := Lib.hid fun W (hW : Below w.heap.size w W) => hl.below hW
  have hz := hl.len.2
  unfold maxLen at hz
  unfold cmdV
  unfold cmdC at hb
  clear hl
  by_cases h14 : k = 14
  · subst h14
    simp only [vB] at hb ⊢
    have HB := Lib.hid hb
    have HZ := Lib.hid (Blk.new w 52 #[.string ⟨#[114, 101, 98, 97, 115, 101]⟩, .string nm, .int .i64 n, .string tx, .bool f, .slice A l.length c])
    obtain ⟨g, hg⟩ : ∃ g, g = w.heap.size := ⟨_, rfl⟩
    clear hb
    by_cases h32 : 32 < l.length
    · have HV := Lib.hid (show (4 : Int) = wDK 14 l by unfold wDK; rw [if_pos rfl, if_pos h32])
      have h32i : (32 : Int) < (l.length : Int) := by omega
      clear h32
      go_enter Tryz.func59, Tryz.ntmps59
      go_wp2
      go_ret
      exact ⟨ret_e HV.out, HB.out⟩
    have h32i : ¬ (32 : Int) < (l.length : Int) := by omega
    obtain ⟨R, hR⟩ : ∃ R, R = wDK 14 l := ⟨_, rfl⟩
    have HR := Lib.hid (show wSs (l.drop 0) = R by rw [hR]; unfold wDK; rw [if_pos rfl, if_neg h32]; rfl)
    rw [← hR]
    have hl9 : (l.length : Int) ≤ 32 := by omega
    clear hR h32 hz
    rw [← hg] at HZ
    go_enter Tryz.func59, Tryz.ntmps59
    go_wp2_with fail
    rw [← hg]
    go_loopw [4, 5, 16] (fun _ _ s16 wr => ∃ k : Nat, k ≤ l.length ∧ s16 = .int .i64 k ∧ Hid (wSs (l.drop k) = R) ∧ Hid (Blk wr g 52 #[.string ⟨#[114, 101, 98, 97, 115, 101]⟩, .string nm, .int .i64 n, .string tx, .bool f, .slice A l.length c]) ∧ Hid (Below w.heap.size w wr)) (fun _ _ s16 _ => l.length - (intOf s16).toNat)
    case atStart => exact ⟨0, Nat.zero_le _, rfl, HR, HZ, HB⟩
    case round =>
      clear HR HZ HB hg
      obtain ⟨k, hk, rfl, HR, HZ, HB⟩ := hrel
      have k0 : (0 : Int) ≤ (k : Int) := Int.natCast_nonneg _
      by_cases hlt : k < l.length
      · have hli : (k : Int) < (l.length : Int) := by omega
        obtain ⟨x, hx⟩ : ∃ x, l[k]? = some x := ⟨_, List.getElem?_eq_getElem hlt⟩
        obtain ⟨ad, rfl, c0, c1, c2⟩ := Fils.at_ (HL.out wr HB.out) hx
        have HP := HR.out
        rw [drop_consB hx, wSs] at HP
        replace HP := Lib.hid HP
        have HLT := Lib.hid hlt
        have WS := Lib.hid fun W => wrongStep_any x W
        obtain ⟨o, ho⟩ : ∃ o, o = wSV x := ⟨_, rfl⟩
        rw [← ho] at WS HP
        obtain ⟨v, cc, t⟩ := x
        dsimp only at c0 c1 c2 WS
        have B2 := Lib.hid (HB.out.alloc HB.out.size (.cells #[.string v, .int .i64 cc, .string t] 41))
        have Z2 := Lib.hid (HZ.out.alloc (.cells #[.string v, .int .i64 cc, .string t] 41))
        clear hx hlt hk ho HR HZ HB
        go_wp2_with fail
        refine (WS.out _).mono ?_
        rintro e w2 ⟨rfl, d2⟩
        have B3 := Lib.hid (B2.out.trans (d2.mono B2.out.size))
        have Z3 := Lib.hid (Z2.out.below d2 Z2.out.lt)
        clear d2 B2 Z2 WS c0 c1 c2
        by_cases h0 : o = 0
        · subst h0
          have HP2 := Lib.hid (show wSs (l.drop (k + 1)) = R by have := HP.out; rw [if_neg (by simp)] at this; exact this)
          clear HP
          go_wp2
          go_roundw
          case rel => exact ⟨k + 1, by have := HLT.out; omega, by go_num, HP2, Z3, B3⟩
          case measure => have := HLT.out; simp [intOf]; omega
        · have HP2 := Lib.hid (show o = R by have := HP.out; rw [if_pos h0] at this; exact this)
          have h0b : (o == 0) = false := by simpa using h0
          clear HP
          go_wp2
          go_ret
          exact ⟨ret_e HP2.out, B3.out⟩
      · obtain rfl : k = l.length := by omega
        have HP := HR.out
        rw [List.drop_length, wSs] at HP
        replace HP := Lib.hid HP
        clear hlt hk
        go_wp2
        go_ret
        exact ⟨ret_e HP.out, HB.out⟩
  · have HV := Lib.hid (show (0 : Int) = wDK k l by unfold wDK; rw [if_neg h14])
    have hv := verb_not hk h14
    have HB := Lib.hid hb
    clear hb h14 hk
    obtain ⟨v, hv2⟩ : ∃ v, v = vB k := ⟨_, rfl⟩
    rw [← hv2] at HB hv ⊢
    clear hv2
    go_enter Tryz.func59, Tryz.ntmps59
    go_wp2
    go_ret
    exact ⟨ret_e HV.out, HB.out⟩
#print axioms wrongTodo_any
end Go.Proofs.YtanjcjnkppnhcaaGreatDoor

namespace Go.Proofs.YtanjcjnkppnhcaaGreatDoor
open Go Go.RowKit

/-- What is wrong with a name. -/
def wMK (k : Nat) (nm : ByteArray) : Int :=
  if k = 0 then (if nm = ⟨#[]⟩ then 0 else chk nm.data.toList)
  else if k = 1 then chk nm.data.toList
  else if k = 5 then (if nm = ⟨#[]⟩ then 0 else if Nm.goodN nm = true then 0 else 5)
  else if k = 3 ∨ k = 4 ∨ k = 7 then (if Nm.goodN nm = true then 0 else 5)
  else if k = 6 then (if (nm.toList == [115, 111, 102, 116]) = true ∨ (nm.toList == [109, 105, 120, 101, 100]) = true ∨ (nm.toList == [104, 97, 114, 100]) = true then 0 else 5)
  else 0
theorem wMK_0 {nm : ByteArray} (h : nm ≠ ⟨#[]⟩) : wMK 0 nm = chk nm.data.toList := by unfold wMK; rw [if_pos rfl, if_neg h]
theorem wMK_1 (nm : ByteArray) : wMK 1 nm = chk nm.data.toList := rfl
set_option maxRecDepth 100000 in
set_option maxHeartbeats 16000000 in
theorem wrongName_any (k : Nat) (hk : k < 20) (nm : ByteArray) (n : Int) (tx : ByteArray) (f : Bool) (A : Option Addr) (m c : Nat) (w : World) (hs : nm.size ≤ 1000000) :
    Calls Tryz.prog 56 #[cmdV k nm n tx f A m c] w fun e w' => e = .returned (.int .i64 (wMK k nm)) ∧ Below w.heap.size w w' := by
  have hb := (Below.refl w.heap.size w).alloc (Nat.le_refl _) (.cells (cmdC k nm n tx f A m c) 52)
  have PC := Lib.hid fun W => check_any nm W (by omega)
  have GD := Lib.hid fun W => Nm.good_any nm W hs
  unfold cmdV
  unfold cmdC at hb
  unfold Checked at PC
  by_cases h6 : k = 6
  · subst h6
    simp only [vB] at hb ⊢
    have HB := Lib.hid hb
    clear hb PC GD
    cases hs1 : (nm.toList == [115, 111, 102, 116]) with
    | true =>
      have HV := Lib.hid (show (0 : Int) = wMK 6 nm by unfold wMK; rw [hs1]; rfl)
      go_enter Tryz.func56, Tryz.ntmps56
      go_wp2
      go_ret
      exact ⟨ret_e HV.out, HB.out⟩
    | false =>
      cases hs2 : (nm.toList == [109, 105, 120, 101, 100]) with
      | true =>
        have HV := Lib.hid (show (0 : Int) = wMK 6 nm by unfold wMK; rw [hs1, hs2]; rfl)
        go_enter Tryz.func56, Tryz.ntmps56
        go_wp2
        go_ret
        exact ⟨ret_e HV.out, HB.out⟩
      | false =>
        cases hs3 : (nm.toList == [104, 97, 114, 100]) with
        | true =>
          have HV := Lib.hid (show (0 : Int) = wMK 6 nm by unfold wMK; rw [hs1, hs2, hs3]; rfl)
          go_enter Tryz.func56, Tryz.ntmps56
          go_wp2
          go_ret
          exact ⟨ret_e HV.out, HB.out⟩
        | false =>
          have HV := Lib.hid (show (5 : Int) = wMK 6 nm by unfold wMK; rw [hs1, hs2, hs3]; rfl)
          go_enter Tryz.func56, Tryz.ntmps56
          go_wp2
          go_ret
          exact ⟨ret_e HV.out, HB.out⟩
  rcases emptyB nm with ⟨rfl, -⟩ | ⟨h1, h2, h3⟩
  · have GE := Lib.hid (show Nm.goodN ⟨#[]⟩ = false from Nm.goodN_short rfl)
    rw [GE.out] at GD
    rcases k20 hk with rfl | rfl | rfl | rfl | rfl | rfl | rfl | rfl | rfl | rfl | rfl | rfl | rfl | rfl | rfl | rfl | rfl | rfl | rfl | rfl
    case inr.inr.inr.inr.inr.inr.inl => exact absurd rfl h6
    all_goals
      simp only [vB] at hb ⊢
      have HB := Lib.hid hb
      clear hb h6
      go_enter Tryz.func56, Tryz.ntmps56
      go_wp2_with (first | (go_at_call 92; refine (PC.out _).mono ?_; rintro e w1 ⟨rfl, d1⟩; have D1 := Lib.hid d1; clear d1) | (go_at_call 93; refine (GD.out _).mono ?_; rintro e w1 ⟨rfl, rfl⟩))
      go_ret
      first
        | exact ⟨rfl, HB.out⟩
        | exact ⟨rfl, HB.out.trans (D1.out.mono HB.out.size)⟩
        | exact ⟨ret_e (by unfold wMK; rw [GE.out]; rfl), HB.out⟩
  · have HV0 := Lib.hid (wMK_0 h1)
    obtain ⟨gd, hgd⟩ : ∃ gd, gd = Nm.goodN nm := ⟨_, rfl⟩
    rw [← hgd] at GD
    have HG := Lib.hid hgd
    have HN := Lib.hid h1
    clear h1 hgd
    cases gd with
    | true =>
      have HV5 := Lib.hid (show wMK 5 nm = 0 by unfold wMK; rw [← HG.out]; simp)
      have HV3 := Lib.hid (show wMK 3 nm = 0 by unfold wMK; rw [← HG.out]; simp)
      rcases k20 hk with rfl | rfl | rfl | rfl | rfl | rfl | rfl | rfl | rfl | rfl | rfl | rfl | rfl | rfl | rfl | rfl | rfl | rfl | rfl | rfl
      case inr.inr.inr.inr.inr.inr.inl => exact absurd rfl h6
      all_goals
        simp only [vB] at hb ⊢
        have HB := Lib.hid hb
        clear hb h6
        go_enter Tryz.func56, Tryz.ntmps56
        go_wp2_with (first | (go_at_call 92; refine (PC.out _).mono ?_; rintro e w1 ⟨rfl, d1⟩; have D1 := Lib.hid d1; clear d1) | (go_at_call 93; refine (GD.out _).mono ?_; rintro e w1 ⟨rfl, rfl⟩))
        go_ret
        first
          | exact ⟨rfl, HB.out⟩
          | exact ⟨ret_e HV0.out.symm, HB.out.trans (D1.out.mono HB.out.size)⟩
          | exact ⟨rfl, HB.out.trans (D1.out.mono HB.out.size)⟩
          | exact ⟨ret_e HV5.out.symm, HB.out⟩
          | exact ⟨ret_e HV3.out.symm, HB.out⟩
    | false =>
      have HV5 := Lib.hid (show wMK 5 nm = 5 by unfold wMK; rw [← HG.out, if_neg (by decide), if_neg (by decide), if_pos rfl, if_neg HN.out]; simp)
      have HV3 := Lib.hid (show wMK 3 nm = 5 by unfold wMK; rw [← HG.out]; simp)
      rcases k20 hk with rfl | rfl | rfl | rfl | rfl | rfl | rfl | rfl | rfl | rfl | rfl | rfl | rfl | rfl | rfl | rfl | rfl | rfl | rfl | rfl
      case inr.inr.inr.inr.inr.inr.inl => exact absurd rfl h6
      all_goals
        simp only [vB] at hb ⊢
        have HB := Lib.hid hb
        clear hb h6
        go_enter Tryz.func56, Tryz.ntmps56
        go_wp2_with (first | (go_at_call 92; refine (PC.out _).mono ?_; rintro e w1 ⟨rfl, d1⟩; have D1 := Lib.hid d1; clear d1) | (go_at_call 93; refine (GD.out _).mono ?_; rintro e w1 ⟨rfl, rfl⟩))
        go_ret
        first
          | exact ⟨rfl, HB.out⟩
          | exact ⟨ret_e HV0.out.symm, HB.out.trans (D1.out.mono HB.out.size)⟩
          | exact ⟨rfl, HB.out.trans (D1.out.mono HB.out.size)⟩
          | exact ⟨ret_e HV5.out.symm, HB.out⟩
          | exact ⟨ret_e HV3.out.symm, HB.out⟩
#print axioms wrongName_any
end Go.Proofs.YtanjcjnkppnhcaaGreatDoor

namespace Go.Proofs.YtanjcjnkppnhcaaGreatDoor
open Go Go.RowKit

def checkK (k : Nat) (nm : ByteArray) (n : Int) (tx : ByteArray) (l : List Fl) : Int :=
  if wMK k nm ≠ 0 then wMK k nm else if wNK k nm n ≠ 0 then wNK k nm n else if wTK k tx ≠ 0 then wTK k tx else wDK k l
def CkTo (k : Nat) (o : Int) (w : World) (e : Ending) (w' : World) : Prop :=
  ((o = 0 ∧ e = .returned .nilIface) ∨ ∃ F, o ≠ 0 ∧ e = .returned (.iface 76 (.pointer (some ⟨F, 0, none⟩))) ∧ Blk w' F 78 #[.string bCmd, .int .i64 k, .iface 73 (.int .i64 o)]) ∧ Below w.heap.size w w'
theorem place_of {k : Nat} (hk : k < 20) : placeV (vB k) = (k : Int) := place_vB hk
/-- A command whose verb is none. -/
theorem check_none (v : ByteArray) (hv : placeV v = -1) (nm : ByteArray) (n : Int) (tx : ByteArray) (f : Bool) (A : Option Addr) (m c : Nat) (w : World) :
    Calls Tryz.prog 25 #[.agg #[.string v, .string nm, .int .i64 n, .string tx, .bool f, .slice A m c]] w fun e w' => (∃ F, e = .returned (.iface 76 (.pointer (some ⟨F, 0, none⟩))) ∧ Blk w' F 78 #[.string bCmd, .int .i64 (-1), .iface 73 (.int .i64 5)]) ∧ Below w.heap.size w w' := by
  have PL := Lib.hid fun W => place_any v W
  have FC := Lib.hid fun W => fault_cmd v 73 (.int .i64 5) W
  rw [hv] at PL FC
  have hb := (Below.refl w.heap.size w).alloc (Nat.le_refl _) (.cells #[.string v, .string nm, .int .i64 n, .string tx, .bool f, .slice A m c] 52)
  have HZ := Lib.hid (Blk.new w 52 #[.string v, .string nm, .int .i64 n, .string tx, .bool f, .slice A m c])
  obtain ⟨g, hg⟩ : ∃ g, g = w.heap.size := ⟨_, rfl⟩
  have HB := Lib.hid hb
  clear hb hv
  rw [← hg] at HZ
  go_enter Tryz.func25, Tryz.ntmps25
  go_wp2_with fail
  refine (PL.out _).mono ?_
  rintro e w1 ⟨rfl, d1⟩
  rw [← hg]
  have B1 := Lib.hid (HB.out.trans (d1.mono HB.out.size))
  have Z1 := Lib.hid (HZ.out.below d1 HZ.out.lt)
  have z0 := Z1.out.cell 0
  clear d1 HB HZ hg PL
  go_wp2_with fail
  refine (FC.out _).mono ?_
  rintro e w2 ⟨F, rfl, hF, hF2, d2⟩
  have B2 := Lib.hid (B1.out.trans (d2.mono B1.out.size))
  have HF := Lib.hid hF
  clear hF hF2 d2 B1 Z1 z0
  go_wp2
  go_ret
  exact ⟨⟨F, rfl, HF.out⟩, B2.out⟩
set_option maxRecDepth 100000 in
set_option maxHeartbeats 16000000 in
theorem check_cmd (k : Nat) (hk : k < 20) (nm : ByteArray) (n : Int) (tx : ByteArray) (f : Bool) (A : Option Addr) (l : List Fl) (c : Nat) (w : World) (hs : nm.size ≤ 1000000) (hl : Reads 3 cF w (.slice A l.length c) l) :
    Calls Tryz.prog 25 #[cmdV k nm n tx f A l.length c] w (CkTo k (checkK k nm n tx l) w) := by
  have PL := Lib.hid fun W => place_any (vB k) W
  have FC := Lib.hid fun o W => fault_cmd (vB k) 73 (.int .i64 o) W
  rw [place_vB hk] at PL FC
  have HL := Lib.hid fun W (hW : Below w.heap.size w W) => hl.below hW
  have W1 := Lib.hid fun W => wrongName_any k hk nm n tx f A l.length c W hs
  have W2 := Lib.hid fun W => wrongN_any k hk nm n tx f A l.length c W
  have W3 := Lib.hid fun W => wrongText_any k hk nm n tx f A l.length c W
  have W4 := Lib.hid fun W (hW : Below w.heap.size w W) => wrongTodo_any k hk nm n tx f A l c W (HL.out W hW)
  have hb := (Below.refl w.heap.size w).alloc (Nat.le_refl _) (.cells (cmdC k nm n tx f A l.length c) 52)
  have HZ := Lib.hid (Blk.new w 52 (cmdC k nm n tx f A l.length c))
  have HQ := Lib.hid (show checkK k nm n tx l = if wMK k nm ≠ 0 then wMK k nm else if wNK k nm n ≠ 0 then wNK k nm n else if wTK k tx ≠ 0 then wTK k tx else wDK k l from rfl)
  generalize checkK k nm n tx l = R at *
  generalize wMK k nm = o1 at *
  generalize wNK k nm n = o2 at *
  generalize wTK k tx = o3 at *
  generalize wDK k l = o4 at *
  obtain ⟨g, hg⟩ : ∃ g, g = w.heap.size := ⟨_, rfl⟩
  have HK := Lib.hid hk
  obtain ⟨v, hv⟩ : ∃ v, v = vB k := ⟨_, rfl⟩
  have HB := Lib.hid hb
  clear hb hl HL hk
  have hkl : ((k : Int) == -1) = false := by rw [beq_eq_false_iff_ne]; omega
  unfold cmdV at W1 W2 W3 W4 ⊢
  unfold cmdC at HZ HB
  rw [← hg] at HZ
  rw [← hv] at PL FC W1 W2 W3 W4 HZ HB ⊢
  clear hv
  go_enter Tryz.func25, Tryz.ntmps25
  go_wp2_with fail
  refine (PL.out _).mono ?_
  rintro e w1 ⟨rfl, d1⟩
  rw [← hg]
  have B1 := Lib.hid (HB.out.trans (d1.mono HB.out.size))
  have Z1 := Lib.hid (HZ.out.below d1 HZ.out.lt)
  clear d1 HB HZ hg PL
  have B2 := Lib.hid (B1.out.alloc B1.out.size (.cells #[.func (.func 56) #[] #[], .func (.func 57) #[] #[], .func (.func 58) #[] #[], .func (.func 59) #[] #[]] 102))
  have Z2 := Lib.hid (Z1.out.alloc (.cells #[.func (.func 56) #[] #[], .func (.func 57) #[] #[], .func (.func 58) #[] #[], .func (.func 59) #[] #[]] 102))
  have Y2 := Lib.hid (Blk.new w1 102 #[.func (.func 56) #[] #[], .func (.func 57) #[] #[], .func (.func 58) #[] #[], .func (.func 59) #[] #[]])
  have z0 := Z1.out.cell 0
  go_wp2_with fail
  clear z0 B1 Z1
  obtain ⟨y, hy⟩ : ∃ y, y = w1.heap.size := ⟨_, rfl⟩
  rw [← hy] at Y2 ⊢
  clear hy
  generalize w1.alloc (.cells #[.func (.func 56) #[] #[], .func (.func 57) #[] #[], .func (.func 58) #[] #[], .func (.func 59) #[] #[]] 102) = v2 at *
  refine wp_loop_rounds 5 ?_
  rw [rounds_succ]
  have y0 := Y2.out.cell 0
  have x0 := Z2.out.cell 0
  have x1 := Z2.out.cell 1
  have x2 := Z2.out.cell 2
  have x3 := Z2.out.cell 3
  have x4 := Z2.out.cell 4
  have x5 := Z2.out.cell 5
  go_wp2_with fail
  refine (W1.out _).mono ?_
  rintro e v3 ⟨rfl, d3⟩
  have B3 := Lib.hid (B2.out.trans (d3.mono B2.out.size))
  have Z3 := Lib.hid (Z2.out.below d3 Z2.out.lt)
  have Y3 := Lib.hid (Y2.out.below d3 Y2.out.lt)
  clear y0 x0 x1 x2 x3 x4 x5 d3 B2 Z2 Y2 W1
  have x0 := Z3.out.cell 0
  by_cases h0 : o1 = 0
  case neg =>
    have HR := Lib.hid (show R = o1 by rw [HQ.out, if_pos h0])
    have hb0 : (o1 == 0) = false := by simpa using h0
    have HN := Lib.hid h0
    clear h0 HQ
    go_wp2_with fail
    refine (FC.out _ _).mono ?_
    rintro e u1 ⟨F, rfl, hF, hF2, d9⟩
    have B9 := Lib.hid (B3.out.trans (d9.mono B3.out.size))
    have HF := Lib.hid hF
    clear hF hF2 d9 B3 Z3 Y3 x0
    go_wp2
    go_ret
    exact ⟨.inr ⟨F, by rw [HR.out]; exact HN.out, rfl, by rw [HR.out]; exact HF.out⟩, B9.out⟩

  subst h0
  clear x0
  go_wp2_with fail
  rw [rounds_succ]
  have y1 := Y3.out.cell 1
  have x0 := Z3.out.cell 0
  have x1 := Z3.out.cell 1
  have x2 := Z3.out.cell 2
  have x3 := Z3.out.cell 3
  have x4 := Z3.out.cell 4
  have x5 := Z3.out.cell 5
  go_wp2_with fail
  refine (W2.out _).mono ?_
  rintro e v4 ⟨rfl, d4⟩
  have B4 := Lib.hid (B3.out.trans (d4.mono B3.out.size))
  have Z4 := Lib.hid (Z3.out.below d4 Z3.out.lt)
  have Y4 := Lib.hid (Y3.out.below d4 Y3.out.lt)
  clear y1 x0 x1 x2 x3 x4 x5 d4 B3 Z3 Y3 W2
  have x0 := Z4.out.cell 0
  by_cases h1 : o2 = 0
  case neg =>
    have HR := Lib.hid (show R = o2 by rw [HQ.out, if_neg (show ¬ (0 : Int) ≠ 0 by simp), if_pos h1])
    have hb1 : (o2 == 0) = false := by simpa using h1
    have HN := Lib.hid h1
    clear h1 HQ
    go_wp2_with fail
    refine (FC.out _ _).mono ?_
    rintro e u1 ⟨F, rfl, hF, hF2, d9⟩
    have B9 := Lib.hid (B4.out.trans (d9.mono B4.out.size))
    have HF := Lib.hid hF
    clear hF hF2 d9 B4 Z4 Y4 x0
    go_wp2
    go_ret
    exact ⟨.inr ⟨F, by rw [HR.out]; exact HN.out, rfl, by rw [HR.out]; exact HF.out⟩, B9.out⟩

  subst h1
  clear x0
  go_wp2_with fail
  rw [rounds_succ]
  have y2 := Y4.out.cell 2
  have x0 := Z4.out.cell 0
  have x1 := Z4.out.cell 1
  have x2 := Z4.out.cell 2
  have x3 := Z4.out.cell 3
  have x4 := Z4.out.cell 4
  have x5 := Z4.out.cell 5
  go_wp2_with fail
  refine (W3.out _).mono ?_
  rintro e v5 ⟨rfl, d5⟩
  have B5 := Lib.hid (B4.out.trans (d5.mono B4.out.size))
  have Z5 := Lib.hid (Z4.out.below d5 Z4.out.lt)
  have Y5 := Lib.hid (Y4.out.below d5 Y4.out.lt)
  clear y2 x0 x1 x2 x3 x4 x5 d5 B4 Z4 Y4 W3
  have x0 := Z5.out.cell 0
  by_cases h2 : o3 = 0
  case neg =>
    have HR := Lib.hid (show R = o3 by rw [HQ.out, if_neg (show ¬ (0 : Int) ≠ 0 by simp), if_neg (show ¬ (0 : Int) ≠ 0 by simp), if_pos h2])
    have hb2 : (o3 == 0) = false := by simpa using h2
    have HN := Lib.hid h2
    clear h2 HQ
    go_wp2_with fail
    refine (FC.out _ _).mono ?_
    rintro e u1 ⟨F, rfl, hF, hF2, d9⟩
    have B9 := Lib.hid (B5.out.trans (d9.mono B5.out.size))
    have HF := Lib.hid hF
    clear hF hF2 d9 B5 Z5 Y5 x0
    go_wp2
    go_ret
    exact ⟨.inr ⟨F, by rw [HR.out]; exact HN.out, rfl, by rw [HR.out]; exact HF.out⟩, B9.out⟩

  subst h2
  clear x0
  go_wp2_with fail
  rw [rounds_succ]
  have y3 := Y5.out.cell 3
  have x0 := Z5.out.cell 0
  have x1 := Z5.out.cell 1
  have x2 := Z5.out.cell 2
  have x3 := Z5.out.cell 3
  have x4 := Z5.out.cell 4
  have x5 := Z5.out.cell 5
  go_wp2_with fail
  refine (W4.out _ B5.out).mono ?_
  rintro e v6 ⟨rfl, d6⟩
  have B6 := Lib.hid (B5.out.trans (d6.mono B5.out.size))
  have Z6 := Lib.hid (Z5.out.below d6 Z5.out.lt)
  have Y6 := Lib.hid (Y5.out.below d6 Y5.out.lt)
  clear y3 x0 x1 x2 x3 x4 x5 d6 B5 Z5 Y5 W4
  have x0 := Z6.out.cell 0
  by_cases h3 : o4 = 0
  case neg =>
    have HR := Lib.hid (show R = o4 by rw [HQ.out, if_neg (show ¬ (0 : Int) ≠ 0 by simp), if_neg (show ¬ (0 : Int) ≠ 0 by simp), if_neg (show ¬ (0 : Int) ≠ 0 by simp)])
    have hb3 : (o4 == 0) = false := by simpa using h3
    have HN := Lib.hid h3
    clear h3 HQ
    go_wp2_with fail
    refine (FC.out _ _).mono ?_
    rintro e u1 ⟨F, rfl, hF, hF2, d9⟩
    have B9 := Lib.hid (B6.out.trans (d9.mono B6.out.size))
    have HF := Lib.hid hF
    clear hF hF2 d9 B6 Z6 Y6 x0
    go_wp2
    go_ret
    exact ⟨.inr ⟨F, by rw [HR.out]; exact HN.out, rfl, by rw [HR.out]; exact HF.out⟩, B9.out⟩

  subst h3
  clear x0
  go_wp2_with fail
  rw [rounds_succ]
  go_wp2
  go_ret
  exact ⟨.inl ⟨by rw [HQ.out]; simp, rfl⟩, B6.out⟩
#print axioms check_cmd
end Go.Proofs.YtanjcjnkppnhcaaGreatDoor
