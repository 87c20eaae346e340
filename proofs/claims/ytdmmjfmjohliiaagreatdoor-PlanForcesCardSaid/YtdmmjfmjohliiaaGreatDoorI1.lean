/-
  rectoref14.Put: a file put into a row that rises: by paths alone.
  rectoref14.Paths: the paths of trees, rising, each once.
  status.Tracked, status.allPaths: the paths of head and index, and of all three.
  rectoref14.Conflicts, rectoref14.Tracked.
  rectoref14.Cut, rectoref14.Clear: a tree without a file, without what clashes.
  rectoref14.Put at any files.
  rectoref14.Of, rectoref14.Force: the document's own Force.
  rectoref14.Same: are trees the same?
  rectolaw20.PlanForces: laid by force, the index is the tree, all that was tracked is as the tree has it, and what is in nobody's way stays.
-/
import Derived.Test.YtdmmjfmjohliiaaGreatDoorH3
import Derived.Test.YtdmmjfmjohliiaaGreatDoorG1
import Derived.Deep.DrawnRows
import Derived.Test.YtdmmjfmjohliiaaGreatDoorG3
import Derived.Test.YtdmmjfmjohliiaaGreatDoorG4
import Derived.Test.YtdmmjfmjohliiaaGreatDoorG6
import Derived.Test.YtdmmjfmjohliiaaGreatDoorH2
namespace Go.Proofs.YtdmmjfmjohliiaaGreatDoor
open Go.RowKit

/-- The cells of a file that is a path alone. -/
def cP (p : ByteArray) : List Value := [.string p, .int .i64 0, .string ⟨#[]⟩]
theorem cP_len (p : ByteArray) : (cP p).length = 3 := rfl
theorem Pats.at_ {w : World} {A : Option Addr} {n c : Nat} {l : List ByteArray} (h : Reads 3 cP w (.slice A n c) l) {i : Nat} {f : ByteArray} (hi : l[i]? = some f) :
    ∃ ad : Addr, A = some ad ∧ w.cell? (ad.add (i * 3)) = some (.string f) ∧ w.cell? ⟨(ad.add (i * 3)).block, (ad.add (i * 3)).off + 1, none⟩ = some (.int .i64 0) ∧ w.cell? ⟨(ad.add (i * 3)).block, (ad.add (i * 3)).off + 2, none⟩ = some (.string ⟨#[]⟩) := by
  obtain ⟨ad, ha, hc⟩ := h.at_ hi
  exact ⟨ad, ha, hc 0 _ rfl, hc 1 _ rfl, hc 2 _ rfl⟩

/-- How far a put has come. -/
def PutAt (ps : List ByteArray) (p : ByteArray) (i : Nat) : Bool → List ByteArray → Prop
  | false, acc => acc = ps.take i ∧ ∀ x ∈ ps.take i, cb x p < 0
  | true, acc => RiseP acc ∧ (∀ s, s ∈ acc ↔ s ∈ ps.take i ∨ s = p) ∧ (∃ x ∈ ps.take i, 0 ≤ cb x p) ∧ acc.length ≤ i + 1
section
variable {ps acc : List ByteArray} {p q : ByteArray} {i : Nat}
theorem PutAt.len {b : Bool} (h : PutAt ps p i b acc) : acc.length ≤ i + (if b then 1 else 0) := by
  cases b with
  | false => rw [h.1, List.length_take]; simp; omega
  | true => simpa using h.2.2.2
theorem rise_snoc (h : RiseP acc) (hq : ∀ x ∈ acc, cb x q < 0) : RiseP (acc ++ [q]) :=
  List.pairwise_append.2 ⟨h, List.pairwise_singleton _ _, fun x hx y hy => by rw [List.mem_singleton.1 hy]; exact hq x hx⟩
theorem take_rise (hr : RiseP ps) (hq : ps[i]? = some q) : ∀ x ∈ ps.take i, cb x q < 0 := fun x hx => by
  obtain ⟨t, ht, rfl⟩ := List.getElem_of_mem hx
  obtain ⟨hi, rfl⟩ := List.getElem?_eq_some_iff.1 hq
  rw [List.length_take] at ht
  rw [List.getElem_take]
  exact List.pairwise_iff_getElem.1 hr t i (by omega) hi (by omega)
theorem put_lt (h : PutAt ps p i false acc) (hq : ps[i]? = some q) (hc : cb q p < 0) : PutAt ps p (i + 1) false (acc ++ [q]) := by
  refine ⟨by rw [h.1, take_snoc hq], fun x hx => ?_⟩
  rw [take_snoc hq] at hx
  rcases List.mem_append.1 hx with hx | hx
  · exact h.2 x hx
  · rw [List.mem_singleton.1 hx]; exact hc
theorem put_eq (hr : RiseP ps) (h : PutAt ps p i false acc) (hq : ps[i]? = some p) : PutAt ps p (i + 1) true (acc ++ [p]) := by
  have hl := h.len
  obtain ⟨rfl, h2⟩ := h
  refine ⟨rise_snoc (List.Pairwise.sublist (List.take_sublist _ _) hr) h2, fun s => ?_, ⟨p, by rw [take_snoc hq]; simp, by rw [cb_self]; exact Int.le_refl _⟩, ?_⟩
  · rw [take_snoc hq]; simp
  · rw [List.length_append, List.length_singleton]; simp at hl ⊢; omega
theorem put_ge (hr : RiseP ps) (h : PutAt ps p i false acc) (hq : ps[i]? = some q) (hc : ¬ cb q p < 0) (hne : ¬ q = p) : PutAt ps p (i + 1) true (acc ++ [p] ++ [q]) := by
  have hl := h.len
  have hpq : cb p q < 0 := by
    have := cb_swap q p
    have h0 : cb q p ≠ 0 := fun e => hne (cb_zero e)
    omega
  have ht := take_rise hr hq
  obtain ⟨rfl, h2⟩ := h
  refine ⟨rise_snoc (rise_snoc (List.Pairwise.sublist (List.take_sublist _ _) hr) h2) (fun x hx => ?_), fun s => ?_, ⟨q, by rw [take_snoc hq]; simp, by omega⟩, ?_⟩
  · rcases List.mem_append.1 hx with hx | hx
    · exact ht x hx
    · rw [List.mem_singleton.1 hx]; exact hpq
  · rw [take_snoc hq]
    simp only [List.mem_append, List.mem_singleton]
    constructor
    · rintro ((h | h) | h)
      · exact .inl (.inl h)
      · exact .inr h
      · exact .inl (.inr h)
    · rintro ((h | h) | h)
      · exact .inl (.inl h)
      · exact .inr h
      · exact .inl (.inr h)
  · rw [List.length_append, List.length_append, List.length_singleton, List.length_singleton]; simp at hl ⊢; omega
theorem put_past (hr : RiseP ps) (h : PutAt ps p i true acc) (hq : ps[i]? = some q) : ¬ q = p ∧ PutAt ps p (i + 1) true (acc ++ [q]) := by
  obtain ⟨h1, h2, ⟨x, hx, hx0⟩, h4⟩ := h
  have ht := take_rise hr hq
  have hpq : cb p q < 0 := by
    have hxq := ht x hx
    by_cases e : cb x p = 0
    · rw [← cb_zero e]; exact hxq
    · have : cb p x < 0 := by have := cb_swap x p; omega
      exact cb_trans this hxq
  refine ⟨fun e => by rw [e, cb_self] at hpq; omega, rise_snoc h1 (fun y hy => ?_), fun s => ?_, ⟨x, by rw [take_snoc hq]; exact List.mem_append_left _ hx, hx0⟩, by rw [List.length_append, List.length_singleton]; omega⟩
  · rcases (h2 y).1 hy with hy | hy
    · exact ht y hy
    · rw [hy]; exact hpq
  · rw [take_snoc hq, List.mem_append, h2 s, List.mem_append, List.mem_singleton]
    constructor
    · rintro ((h | h) | h)
      · exact .inl (.inl h)
      · exact .inr h
      · exact .inl (.inr h)
    · rintro ((h | h) | h)
      · exact .inl (.inl h)
      · exact .inr h
      · exact .inl (.inr h)
theorem put_end {b : Bool} (hr : RiseP ps) (h : PutAt ps p ps.length b acc) : nrm (ps ++ [p]) = if b then acc else acc ++ [p] := by
  cases b with
  | false =>
    obtain ⟨h1, h2⟩ := h
    rw [List.take_length] at h1 h2
    subst h1
    exact nrm_of (rise_snoc hr h2) fun s => Iff.rfl
  | true =>
    obtain ⟨h1, h2, _⟩ := h
    rw [List.take_length] at h2
    exact nrm_of h1 fun s => by show s ∈ ps ++ [p] ↔ s ∈ acc; rw [h2 s]; simp
end

set_option maxRecDepth 100000 in
set_option maxHeartbeats 4000000 in
theorem refPut_any (w : World) (v : Value) (ps : List ByteArray) (p : ByteArray) (h : Reads 3 cP w v ps) (hr : RiseP ps) (hl : ps.length ≤ 100000) :
    Calls Tryz.prog 46 #[v, .agg #[.string p, .int .i64 0, .string ⟨#[]⟩]] w (OwnTo 73 3 cP (nrm (ps ++ [p])) w) := by
  obtain ⟨A, c, rfl⟩ := h.form
  have hn := h.len
  have hnm : ps.length ≤ 9223372036854775807 := by omega
  obtain ⟨W1, hW1⟩ : ∃ W1, W1 = w.alloc (.cells #[.string p, .int .i64 0, .string ⟨#[]⟩] 73) := ⟨_, rfl⟩
  have B1 : Below w.heap.size w W1 := by rw [hW1]; exact (Below.refl _ _).alloc (Nat.le_refl _) _
  obtain ⟨G, hG⟩ : ∃ G, G = w.heap.size := ⟨_, rfl⟩
  have K1 : W1.heap[G]? = some (.cells #[.string p, .int .i64 0, .string ⟨#[]⟩] 73 (0, 0)) := by rw [hW1, hG]; exact heap_alloc_new w _
  have YY := Lib.hid fun W (hW : Below W1.heap.size W1 W) => (⟨(hW.cell (World.block_lt_of_cell? _ _ (cell_of_row W1 G 0 _ 73 (0, 0) K1))).trans (cell_of_row W1 G 0 _ 73 (0, 0) K1), (hW.cell (World.block_lt_of_cell? _ _ (cell_of_row W1 G 1 _ 73 (0, 0) K1))).trans (cell_of_row W1 G 1 _ 73 (0, 0) K1), (hW.cell (World.block_lt_of_cell? _ _ (cell_of_row W1 G 2 _ 73 (0, 0) K1))).trans (cell_of_row W1 G 2 _ 73 (0, 0) K1)⟩ : W.cell? ⟨G, 0, none⟩ = some (.string p) ∧ W.cell? ⟨G, 1, none⟩ = some (.int .i64 0) ∧ W.cell? ⟨G, 2, none⟩ = some (.string ⟨#[]⟩))
  have HO := Lib.hid (h.below B1)
  have HR := Lib.hid hr
  have HB1 := Lib.hid B1
  obtain ⟨i0, hi, hz0, hz1, hz2⟩ := info_parts refFileInfo
  clear h hn hr K1 B1
  go_enter Tryz.func46, Tryz.ntmps46
  go_wp2_with fail
  rw [← hW1, ← hG]
  clear hW1 hG
  go_loopw [5, 6, 7] (fun s5 s6 s7 wr => ∃ (i : Nat) (acc : List ByteArray) (b : Bool), i ≤ ps.length ∧ s6 = .bool b ∧ s7 = .int .i64 i ∧ Hid (PutAt ps p i b acc) ∧ Hid (wr.ownsRow W1.heap.size 73 3 s5 acc.length (acc.flatMap cP)) ∧ Below W1.heap.size W1 wr) (fun _ _ s7 _ => ps.length - (intOf s7).toNat)
  case atStart => exact ⟨0, [], false, Nat.zero_le _, rfl, rfl, Lib.hid ⟨rfl, by simp⟩, Lib.hid (World.ownsRow_nil _ _ _ _), Below.refl _ _⟩
  case round =>
    obtain ⟨i, acc, b, hil, rfl, rfl, hp, hown, hb⟩ := hrel
    have HL := Lib.hid hp.out.len
    by_cases hlt : i < ps.length
    · obtain ⟨q, hq⟩ : ∃ q, ps[i]? = some q := ⟨_, List.getElem?_eq_getElem hlt⟩
      obtain ⟨ad, rfl, c0, c1, c2⟩ := Pats.at_ HO.out hq
      have HQ := Lib.hid hq
      have ZZ := Lib.hid fun W (hW : Below W1.heap.size W1 W) => (⟨(hW.cell (World.block_lt_of_cell? _ _ c0)).trans c0, (hW.cell (World.block_lt_of_cell? _ _ c1)).trans c1, (hW.cell (World.block_lt_of_cell? _ _ c2)).trans c2⟩ : FilCells ad i q 0 ⟨#[]⟩ W)
      unfold FilCells at ZZ
      have i0' : (0 : Int) ≤ (i : Int) := Int.natCast_nonneg _
      have hi1 : (i : Int) < (ps.length : Int) := by omega
      have hlc := less_cb q p
      clear hq c0 c1 c2
      cases b with
      | false =>
        by_cases hc : cb q p < 0
        · have hls : Op.bytesLess q.toList p.toList = true := by rw [hlc]; exact decide_eq_true hc
          have hne : ¬ q.toList = p.toList := fun e => by rw [tl_eq e, cb_self] at hc; omega
          have hneb : (q.toList == p.toList) = false := by simpa using hne
          have FA := Lib.hid (put_lt hp.out HQ.out hc)
          clear hlc hc
          obtain ⟨x0, x1, x2⟩ := ZZ.out _ hb
          obtain ⟨y0, y1, y2⟩ := YY.out _ hb
          go_wp2_with fail
          go_quiet (fail)
          obtain ⟨w1, hw1⟩ : ∃ w1, w1 = wr.drewN nq := ⟨_, rfl⟩
          have hb1 : Below W1.heap.size W1 w1 := by rw [hw1]; exact below_drewN hb nq
          have hown1 : Hid (w1.ownsRow W1.heap.size 73 3 u5 acc.length (acc.flatMap cP)) := by rw [hw1]; exact hown
          rw [← hw1]
          clear hw1
          obtain ⟨x0, x1, x2⟩ := ZZ.out _ hb1
          obtain ⟨y0, y1, y2⟩ := YY.out _ hb1
          clear hown
          go_wp2_with fail
          go_quiet (fail)
          obtain ⟨w2, hw2⟩ : ∃ w2, w2 = w1.drewN nq := ⟨_, rfl⟩
          have hb2 : Below W1.heap.size W1 w2 := by rw [hw2]; exact below_drewN hb1 nq
          have hown2 : Hid (w2.ownsRow W1.heap.size 73 3 u5 acc.length (acc.flatMap cP)) := by rw [hw2]; exact hown1
          rw [← hw2]
          clear hw2
          clear x0 x1 x2 y0 y1 y2
          obtain ⟨x0, x1, x2⟩ := ZZ.out _ hb2
          obtain ⟨y0, y1, y2⟩ := YY.out _ hb2
          have hsz3 := hb2.size
          have own43 := hown2.out.alloc (.cells #[.string q, .int .i64 0, .string ⟨#[]⟩] 73)
          have news3 := news_one w2 #[.string q, .int .i64 0, .string ⟨#[]⟩] 73 w2.heap.size rfl
          go_wp2_with (at_builtin; refine wpList_append_own _ rfl _ _ 30 rfl W1.heap.size 73 i0 (.agg #[.string ⟨#[]⟩, .int .i64 0, .string ⟨#[]⟩]) 3 40 Tryz.underlying30 hi hz0 hz1 hz2 rfl (by decide) _ _ _ rfl own43 ⟨w2.heap.size, 0, none⟩ 1 1 [.string q, .int .i64 0, .string ⟨#[]⟩] rfl rfl news3 (by simp [Value.oneCell']) (by unfold maxLen; (have := HL.out; simp at this; omega)) (by (have := HL.out; simp at this; omega)) (by simp; omega) ?_; intro v3 w3 ow3 hg3 _)
          have hb3 : Below W1.heap.size W1 w3 := (hb2.alloc hsz3 _).grown hg3 (by simp; omega) (fun k hk => (hown2.out.lt k hk).1)
          have hown3 : Hid (w3.ownsRow W1.heap.size 73 3 v3 (acc ++ [q]).length ((acc ++ [q]).flatMap cP)) := Lib.hid (by rw [flat_snoc, List.length_append]; exact ow3)
          clear news3 own43 hg3 ow3
          go_wp2
          go_roundw
          case rel => exact ⟨i + 1, acc ++ [q], false, by omega, rfl, by go_num, FA, hown3, hb3⟩
          case measure => simp [intOf]; omega
        · have hls : Op.bytesLess q.toList p.toList = false := by rw [hlc]; exact decide_eq_false hc
          clear hlc
          by_cases hqp : q = p
          · subst hqp
            have FA := Lib.hid (put_eq HR.out hp.out HQ.out)
            clear hc
            obtain ⟨x0, x1, x2⟩ := ZZ.out _ hb
            obtain ⟨y0, y1, y2⟩ := YY.out _ hb
            go_wp2_with fail
            go_quiet (fail)
            obtain ⟨w1, hw1⟩ : ∃ w1, w1 = wr.drewN nq := ⟨_, rfl⟩
            have hb1 : Below W1.heap.size W1 w1 := by rw [hw1]; exact below_drewN hb nq
            have hown1 : Hid (w1.ownsRow W1.heap.size 73 3 u5 acc.length (acc.flatMap cP)) := by rw [hw1]; exact hown
            rw [← hw1]
            clear hw1
            obtain ⟨x0, x1, x2⟩ := ZZ.out _ hb1
            obtain ⟨y0, y1, y2⟩ := YY.out _ hb1
            clear hown
            have hsz2 := hb1.size
            have own42 := hown1.out.alloc (.cells #[.string q, .int .i64 0, .string ⟨#[]⟩] 73)
            have news2 := news_one w1 #[.string q, .int .i64 0, .string ⟨#[]⟩] 73 w1.heap.size rfl
            go_wp2_with (at_builtin; refine wpList_append_own _ rfl _ _ 30 rfl W1.heap.size 73 i0 (.agg #[.string ⟨#[]⟩, .int .i64 0, .string ⟨#[]⟩]) 3 40 Tryz.underlying30 hi hz0 hz1 hz2 rfl (by decide) _ _ _ rfl own42 ⟨w1.heap.size, 0, none⟩ 1 1 [.string q, .int .i64 0, .string ⟨#[]⟩] rfl rfl news2 (by simp [Value.oneCell']) (by unfold maxLen; (have := HL.out; simp at this; omega)) (by (have := HL.out; simp at this; omega)) (by simp; omega) ?_; intro v2 w2 ow2 hg2 _)
            have hb2 : Below W1.heap.size W1 w2 := (hb1.alloc hsz2 _).grown hg2 (by simp; omega) (fun k hk => (hown1.out.lt k hk).1)
            have hown2 : Hid (w2.ownsRow W1.heap.size 73 3 v2 (acc ++ [q]).length ((acc ++ [q]).flatMap cP)) := Lib.hid (by rw [flat_snoc, List.length_append]; exact ow2)
            clear news2 own42 hg2 ow2
            clear x0 x1 x2 y0 y1 y2
            obtain ⟨x0, x1, x2⟩ := ZZ.out _ hb2
            obtain ⟨y0, y1, y2⟩ := YY.out _ hb2
            go_wp2_with fail
            go_quiet (fail)
            obtain ⟨w3, hw3⟩ : ∃ w3, w3 = w2.drewN nq := ⟨_, rfl⟩
            have hb3 : Below W1.heap.size W1 w3 := by rw [hw3]; exact below_drewN hb2 nq
            have hown3 : Hid (w3.ownsRow W1.heap.size 73 3 v2 (acc ++ [q]).length ((acc ++ [q]).flatMap cP)) := by rw [hw3]; exact hown2
            rw [← hw3]
            clear hw3
            clear x0 x1 x2 y0 y1 y2
            obtain ⟨x0, x1, x2⟩ := ZZ.out _ hb3
            obtain ⟨y0, y1, y2⟩ := YY.out _ hb3
            go_wp2
            go_roundw
            case rel => exact ⟨i + 1, acc ++ [q], true, by omega, rfl, by go_num, FA, hown3, hb3⟩
            case measure => simp [intOf]; omega
          · have hne : ¬ q.toList = p.toList := fun e => hqp (tl_eq e)
            have hneb : (q.toList == p.toList) = false := by simpa using hne
            have FA := Lib.hid (put_ge HR.out hp.out HQ.out hc hqp)
            clear hc hqp
            obtain ⟨x0, x1, x2⟩ := ZZ.out _ hb
            obtain ⟨y0, y1, y2⟩ := YY.out _ hb
            go_wp2_with fail
            go_quiet (fail)
            obtain ⟨w1, hw1⟩ : ∃ w1, w1 = wr.drewN nq := ⟨_, rfl⟩
            have hb1 : Below W1.heap.size W1 w1 := by rw [hw1]; exact below_drewN hb nq
            have hown1 : Hid (w1.ownsRow W1.heap.size 73 3 u5 acc.length (acc.flatMap cP)) := by rw [hw1]; exact hown
            rw [← hw1]
            clear hw1
            obtain ⟨x0, x1, x2⟩ := ZZ.out _ hb1
            obtain ⟨y0, y1, y2⟩ := YY.out _ hb1
            clear hown
            have hsz2 := hb1.size
            have own42 := hown1.out.alloc (.cells #[.string p, .int .i64 0, .string ⟨#[]⟩] 73)
            have news2 := news_one w1 #[.string p, .int .i64 0, .string ⟨#[]⟩] 73 w1.heap.size rfl
            go_wp2_with (at_builtin; refine wpList_append_own _ rfl _ _ 30 rfl W1.heap.size 73 i0 (.agg #[.string ⟨#[]⟩, .int .i64 0, .string ⟨#[]⟩]) 3 40 Tryz.underlying30 hi hz0 hz1 hz2 rfl (by decide) _ _ _ rfl own42 ⟨w1.heap.size, 0, none⟩ 1 1 [.string p, .int .i64 0, .string ⟨#[]⟩] rfl rfl news2 (by simp [Value.oneCell']) (by unfold maxLen; (have := HL.out; simp at this; omega)) (by (have := HL.out; simp at this; omega)) (by simp; omega) ?_; intro v2 w2 ow2 hg2 _)
            have hb2 : Below W1.heap.size W1 w2 := (hb1.alloc hsz2 _).grown hg2 (by simp; omega) (fun k hk => (hown1.out.lt k hk).1)
            have hown2 : Hid (w2.ownsRow W1.heap.size 73 3 v2 (acc ++ [p]).length ((acc ++ [p]).flatMap cP)) := Lib.hid (by rw [flat_snoc, List.length_append]; exact ow2)
            clear news2 own42 hg2 ow2
            clear x0 x1 x2 y0 y1 y2
            obtain ⟨x0, x1, x2⟩ := ZZ.out _ hb2
            obtain ⟨y0, y1, y2⟩ := YY.out _ hb2
            go_wp2_with fail
            go_quiet (fail)
            obtain ⟨w3, hw3⟩ : ∃ w3, w3 = w2.drewN nq := ⟨_, rfl⟩
            have hb3 : Below W1.heap.size W1 w3 := by rw [hw3]; exact below_drewN hb2 nq
            have hown3 : Hid (w3.ownsRow W1.heap.size 73 3 v2 (acc ++ [p]).length ((acc ++ [p]).flatMap cP)) := by rw [hw3]; exact hown2
            rw [← hw3]
            clear hw3
            clear x0 x1 x2 y0 y1 y2
            obtain ⟨x0, x1, x2⟩ := ZZ.out _ hb3
            obtain ⟨y0, y1, y2⟩ := YY.out _ hb3
            have hsz4 := hb3.size
            have own44 := hown3.out.alloc (.cells #[.string q, .int .i64 0, .string ⟨#[]⟩] 73)
            have news4 := news_one w3 #[.string q, .int .i64 0, .string ⟨#[]⟩] 73 w3.heap.size rfl
            go_wp2_with (at_builtin; refine wpList_append_own _ rfl _ _ 30 rfl W1.heap.size 73 i0 (.agg #[.string ⟨#[]⟩, .int .i64 0, .string ⟨#[]⟩]) 3 40 Tryz.underlying30 hi hz0 hz1 hz2 rfl (by decide) _ _ _ rfl own44 ⟨w3.heap.size, 0, none⟩ 1 1 [.string q, .int .i64 0, .string ⟨#[]⟩] rfl rfl news4 (by simp [Value.oneCell']) (by unfold maxLen; (have := HL.out; rw [List.length_append, List.length_singleton]; simp at this; omega)) (by (have := HL.out; rw [List.length_append, List.length_singleton]; simp at this; omega)) (by simp; omega) ?_; intro v4 w4 ow4 hg4 _)
            have hb4 : Below W1.heap.size W1 w4 := (hb3.alloc hsz4 _).grown hg4 (by simp; omega) (fun k hk => (hown3.out.lt k hk).1)
            have hown4 : Hid (w4.ownsRow W1.heap.size 73 3 v4 ((acc ++ [p]) ++ [q]).length (((acc ++ [p]) ++ [q]).flatMap cP)) := Lib.hid (by rw [flat_snoc, List.length_append]; exact ow4)
            clear news4 own44 hg4 ow4
            go_wp2
            go_roundw
            case rel => exact ⟨i + 1, acc ++ [p] ++ [q], true, by omega, rfl, by go_num, FA, hown4, hb4⟩
            case measure => simp [intOf]; omega
      | true =>
        have FA := Lib.hid (put_past HR.out hp.out HQ.out)
        have hne : ¬ q.toList = p.toList := fun e => FA.out.1 (tl_eq e)
        have hneb : (q.toList == p.toList) = false := by simpa using hne
        clear hlc
        obtain ⟨x0, x1, x2⟩ := ZZ.out _ hb
        obtain ⟨y0, y1, y2⟩ := YY.out _ hb
        go_wp2_with fail
        go_quiet (fail)
        obtain ⟨w1, hw1⟩ : ∃ w1, w1 = wr.drewN nq := ⟨_, rfl⟩
        have hb1 : Below W1.heap.size W1 w1 := by rw [hw1]; exact below_drewN hb nq
        have hown1 : Hid (w1.ownsRow W1.heap.size 73 3 u5 acc.length (acc.flatMap cP)) := by rw [hw1]; exact hown
        rw [← hw1]
        clear hw1
        obtain ⟨x0, x1, x2⟩ := ZZ.out _ hb1
        obtain ⟨y0, y1, y2⟩ := YY.out _ hb1
        clear hown
        go_wp2_with fail
        go_quiet (fail)
        obtain ⟨w2, hw2⟩ : ∃ w2, w2 = w1.drewN nq := ⟨_, rfl⟩
        have hb2 : Below W1.heap.size W1 w2 := by rw [hw2]; exact below_drewN hb1 nq
        have hown2 : Hid (w2.ownsRow W1.heap.size 73 3 u5 acc.length (acc.flatMap cP)) := by rw [hw2]; exact hown1
        rw [← hw2]
        clear hw2
        clear x0 x1 x2 y0 y1 y2
        obtain ⟨x0, x1, x2⟩ := ZZ.out _ hb2
        obtain ⟨y0, y1, y2⟩ := YY.out _ hb2
        have hsz3 := hb2.size
        have own43 := hown2.out.alloc (.cells #[.string q, .int .i64 0, .string ⟨#[]⟩] 73)
        have news3 := news_one w2 #[.string q, .int .i64 0, .string ⟨#[]⟩] 73 w2.heap.size rfl
        go_wp2_with (at_builtin; refine wpList_append_own _ rfl _ _ 30 rfl W1.heap.size 73 i0 (.agg #[.string ⟨#[]⟩, .int .i64 0, .string ⟨#[]⟩]) 3 40 Tryz.underlying30 hi hz0 hz1 hz2 rfl (by decide) _ _ _ rfl own43 ⟨w2.heap.size, 0, none⟩ 1 1 [.string q, .int .i64 0, .string ⟨#[]⟩] rfl rfl news3 (by simp [Value.oneCell']) (by unfold maxLen; (have := HL.out; simp at this; omega)) (by (have := HL.out; simp at this; omega)) (by simp; omega) ?_; intro v3 w3 ow3 hg3 _)
        have hb3 : Below W1.heap.size W1 w3 := (hb2.alloc hsz3 _).grown hg3 (by simp; omega) (fun k hk => (hown2.out.lt k hk).1)
        have hown3 : Hid (w3.ownsRow W1.heap.size 73 3 v3 (acc ++ [q]).length ((acc ++ [q]).flatMap cP)) := Lib.hid (by rw [flat_snoc, List.length_append]; exact ow3)
        clear news3 own43 hg3 ow3
        go_wp2
        go_roundw
        case rel => exact ⟨i + 1, acc ++ [q], true, by omega, rfl, by go_num, Lib.hid FA.out.2, hown3, hb3⟩
        case measure => simp [intOf]; omega
    · obtain rfl : i = ps.length := by omega
      have HE := Lib.hid (put_end HR.out hp.out)
      cases b with
      | true =>
        have HE2 : Hid (nrm (ps ++ [p]) = acc) := Lib.hid HE.out
        go_wp2
        go_ret
        exact ⟨_, rfl, by rw [HE2.out]; exact own_base hown.out HB1.out.size, HB1.out.trans (hb.mono HB1.out.size)⟩
      | false =>
        have HE2 : Hid (nrm (ps ++ [p]) = acc ++ [p]) := Lib.hid HE.out
        obtain ⟨y0, y1, y2⟩ := YY.out _ hb
        have hsz3 := hb.size
        have own43 := hown.out.alloc (.cells #[.string p, .int .i64 0, .string ⟨#[]⟩] 73)
        have news3 := news_one wr #[.string p, .int .i64 0, .string ⟨#[]⟩] 73 wr.heap.size rfl
        go_wp2_with (at_builtin; refine wpList_append_own _ rfl _ _ 30 rfl W1.heap.size 73 i0 (.agg #[.string ⟨#[]⟩, .int .i64 0, .string ⟨#[]⟩]) 3 40 Tryz.underlying30 hi hz0 hz1 hz2 rfl (by decide) _ _ _ rfl own43 ⟨wr.heap.size, 0, none⟩ 1 1 [.string p, .int .i64 0, .string ⟨#[]⟩] rfl rfl news3 (by simp [Value.oneCell']) (by unfold maxLen; (have := HL.out; simp at this; omega)) (by (have := HL.out; simp at this; omega)) (by simp; omega) ?_; intro v3 w3 ow3 hg3 _)
        have hb3 : Below W1.heap.size W1 w3 := (hb.alloc hsz3 _).grown hg3 (by simp; omega) (fun k hk => (hown.out.lt k hk).1)
        have hown3 : Hid (w3.ownsRow W1.heap.size 73 3 v3 (acc ++ [p]).length ((acc ++ [p]).flatMap cP)) := Lib.hid (by rw [flat_snoc, List.length_append]; exact ow3)
        clear news3 own43 hg3 ow3
        go_wp2
        go_ret
        exact ⟨_, rfl, by rw [HE2.out]; exact own_base hown3.out HB1.out.size, HB1.out.trans (hb3.mono HB1.out.size)⟩
end Go.Proofs.YtdmmjfmjohliiaaGreatDoor
namespace Go.Proofs.YtdmmjfmjohliiaaGreatDoor
open Go.RowKit

theorem nrm_nil2 : nrm [] = [] := nrm_of List.Pairwise.nil fun s => by simp
theorem nrm_app (a : List ByteArray) (p : ByteArray) : nrm (nrm a ++ [p]) = nrm (a ++ [p]) := nrm_of (nrm_rise _) fun s => by
  rw [nrm_mem, List.mem_append, List.mem_append, nrm_mem]
theorem nrm_id {a : List ByteArray} (h : RiseP a) : nrm a = a := nrm_of h fun _ => Iff.rfl

set_option maxRecDepth 100000 in
set_option maxHeartbeats 4000000 in
theorem refPaths_any (w : World) (ad : Addr) (c : Nat) (rs : List (Value × List Fl)) (h : Trees w ad rs) (hl : rs.length ≤ 1000) (hp : (pathsR rs).length ≤ 100000) :
    Calls Tryz.prog 60 #[.slice (some ad) rs.length c] w (TextsTo (nrm (pathsR rs)) w) := by
  have hnm : rs.length ≤ 9223372036854775807 := by omega
  have HO := Lib.hid h
  have HP := Lib.hid hp
  obtain ⟨i0, hi, hz0, hz1, hz2⟩ := info_parts strInfo
  clear h hp
  go_enter Tryz.func60, Tryz.ntmps60
  go_wp2
  go_loopw [3, 4] (fun s3 s4 wr => ∃ (i : Nat) (cur : List ByteArray), i ≤ rs.length ∧ s4 = .int .i64 i ∧ Hid (cur = nrm (pathsR (rs.take i))) ∧ Hid (wr.ownsRow w.heap.size 73 3 s3 cur.length (cur.flatMap cP)) ∧ Below w.heap.size w wr) (fun _ s4 _ => rs.length - (intOf s4).toNat)
  case atStart => exact ⟨0, [], Nat.zero_le _, rfl, Lib.hid nrm_nil2.symm, Lib.hid (World.ownsRow_nil _ _ _ _), Below.refl _ _⟩
  case round =>
    obtain ⟨i, cur, hil, rfl, HC, hown, hb⟩ := hrel
    by_cases hlt : i < rs.length
    · obtain ⟨r, hr⟩ : ∃ r, rs[i]? = some r := ⟨_, List.getElem?_eq_getElem hlt⟩
      have HT := Lib.hid (show pathsR (rs.take (i + 1)) = pathsR (rs.take i) ++ r.2.map (·.1) by rw [take_snoc hr, pathsR_snoc])
      have hle := pathsR_take rs (i + 1)
      rw [HT.out, List.length_append, List.length_map] at hle
      have CC := Lib.hid fun W (hW : Below w.heap.size w W) => (HO.out.below hW i r hr).1
      have hrd := (HO.out i r hr).2
      obtain ⟨rv, l⟩ := r
      obtain ⟨B, d, hrv⟩ := hrd.form
      simp only at hrv
      subst hrv
      have HR := Lib.hid hrd
      have i0' : (0 : Int) ≤ (i : Int) := Int.natCast_nonneg _
      have hi1 : (i : Int) < (rs.length : Int) := by omega
      have hlm : l.length ≤ 9223372036854775807 := by have := HP.out; simp only at hle; omega
      obtain ⟨acc, hacc⟩ : ∃ acc, acc = pathsR (rs.take i) := ⟨_, rfl⟩
      rw [← hacc] at HC HT hle
      have HLE := Lib.hid hle
      clear hr hrd hacc hle
      go_wp2
      go_loopw [3, 5] (fun s3 s5 wq => ∃ (j : Nat) (cur : List ByteArray), j ≤ l.length ∧ s5 = .int .i64 j ∧ Hid (cur = nrm (acc ++ (l.take j).map (·.1))) ∧ Hid (wq.ownsRow w.heap.size 73 3 s3 cur.length (cur.flatMap cP)) ∧ Below w.heap.size w wq) (fun _ s5 _ => l.length - (intOf s5).toNat)
      case atStart => exact ⟨0, cur, Nat.zero_le _, rfl, Lib.hid (by rw [List.take_zero, List.map_nil, List.append_nil]; exact HC.out), hown, hb⟩
      case round =>
        clear HC hown hb
        obtain ⟨j, cur, hjl, rfl, HC, hown, hb⟩ := hrel
        have cc := CC.out _ hb
        by_cases hjt : j < l.length
        · obtain ⟨f, hf⟩ : ∃ f, l[j]? = some f := ⟨_, List.getElem?_eq_getElem hjt⟩
          obtain ⟨ad2, rfl, c0, c1, c2⟩ := Fils.at_ (HR.out.below hb) hf
          obtain ⟨p, m, dd⟩ := f
          have HE := Lib.hid (show nrm (acc ++ (l.take (j + 1)).map (fun x => x.1)) = nrm (cur ++ [p]) by rw [HC.out, nrm_app, take_snoc hf]; simp)
          have hcl : cur.length ≤ 100000 := by
            have h1 := HLE.out
            have h2 := HP.out
            rw [HC.out]
            refine Nat.le_trans (nrm_len _) ?_
            rw [List.length_append, List.length_map, List.length_take]
            omega
          have j0' : (0 : Int) ≤ (j : Int) := Int.natCast_nonneg _
          have hj1 : (j : Int) < (l.length : Int) := by omega
          have hrise : RiseP cur := by rw [HC.out]; exact nrm_rise _
          obtain ⟨A3, c3, rfl⟩ := own_form hown.out
          have PT := Lib.hid (refPut_any wr _ cur p (Reads.of_own cP_len hown.out) hrise hcl)
          obtain ⟨nx, hnx⟩ : ∃ nx, nx = nrm (cur ++ [p]) := ⟨_, rfl⟩
          rw [← hnx] at PT HE
          have hsz := hb.size
          clear hf hrise hnx
          go_wp2_with fail
          refine PT.out.mono ?_
          rintro e w5 ⟨v5, rfl, o5, b5⟩
          have HB5 := hb.trans (b5.mono hsz)
          have HO5 := Lib.hid (own_base o5 hsz)
          clear o5 b5
          go_wp2
          go_roundw
          case rel => exact ⟨j + 1, nx, by omega, by go_num, Lib.hid HE.out.symm, HO5, HB5⟩
          case measure => simp [intOf]; omega
        · obtain rfl : j = l.length := by omega
          go_wp2
          go_roundw
          case rel => exact ⟨i + 1, cur, by omega, by go_num, Lib.hid (by rw [HT.out, HC.out, List.take_length]), hown, hb⟩
          case measure => simp [intOf]; omega
    · obtain rfl : i = rs.length := by omega
      rw [List.take_length] at HC
      have hcl : cur.length ≤ 100000 := by rw [HC.out]; exact Nat.le_trans (nrm_len _) HP.out
      obtain ⟨A3, c3, rfl⟩ := own_form hown.out
      have RR := Lib.hid (Reads.of_own cP_len hown.out)
      have hB := Lib.hid hb
      have hsz0 := hb.size
      have HCE : Hid (nrm (pathsR rs) = cur) := Lib.hid HC.out.symm
      clear hown HC hb
      obtain ⟨wo, hwo⟩ : ∃ wo, wo = wr := ⟨_, rfl⟩
      subst hwo
      go_wp2
      go_loopw [6, 7] (fun s6 s7 wq => ∃ k : Nat, k ≤ cur.length ∧ s7 = .int .i64 k ∧ Hid (wq.ownsRow wo.heap.size 9 1 s6 k ((cur.take k).map Value.string)) ∧ Below wo.heap.size wo wq) (fun _ s7 _ => cur.length - (intOf s7).toNat)
      case atStart => exact ⟨0, Nat.zero_le _, rfl, Lib.hid (World.ownsRow_nil _ _ _ _), Below.refl _ _⟩
      case round =>
        obtain ⟨k, hk, rfl, hown, hb⟩ := hrel
        by_cases hkt : k < cur.length
        · obtain ⟨p, hp⟩ : ∃ p, cur[k]? = some p := ⟨_, List.getElem?_eq_getElem hkt⟩
          obtain ⟨ad2, rfl, c0, c1, c2⟩ := Pats.at_ (RR.out.below hb) hp
          have HE := Lib.hid (show cur.take (k + 1) = cur.take k ++ [p] from take_snoc hp)
          have k0' : (0 : Int) ≤ (k : Int) := Int.natCast_nonneg _
          have hk1 : (k : Int) < (cur.length : Int) := by omega
          have hsz := hb.size
          have hown4 := hown.out.alloc (.cells #[.string p] 9)
          have hnews := news_one wr #[.string p] 9 wr.heap.size rfl
          clear hp
          go_wp2_with (at_builtin; refine wpList_append_own _ rfl _ _ 25 rfl wo.heap.size 9 i0 (.string { data := #[] }) 1 16 Tryz.underlying25 hi hz0 hz1 hz2 rfl (by decide) _ _ _ rfl hown4 ⟨wr.heap.size, 0, none⟩ 1 1 [.string p] rfl rfl hnews (by simp [Value.oneCell']) (by unfold maxLen; omega) (by omega) (by simp; omega) ?_; intro v5 w5 hown5 hg5 _)
          have hb5 : Below wo.heap.size wo w5 := (hb.alloc hsz _).grown hg5 (by simp; omega) (fun k hk => (hown.out.lt k hk).1)
          clear hnews hown4 hg5
          go_roundw
          case rel => exact ⟨k + 1, by omega, by go_num, Lib.hid (by rw [HE.out, str_snoc]; exact hown5), hb5⟩
          case measure => simp [intOf]; omega
        · obtain rfl : k = cur.length := by omega
          have HE : Hid (cur.take cur.length = cur) := Lib.hid (List.take_length)
          go_wp2
          go_ret
          exact ⟨_, rfl, by rw [HCE.out]; exact own_base (by have := hown.out; rw [HE.out] at this; exact this) hsz0, hB.out.trans (hb.mono hsz0)⟩
end Go.Proofs.YtdmmjfmjohliiaaGreatDoor
namespace Go.Proofs.YtdmmjfmjohliiaaGreatDoor
open Go.RowKit

/-- The paths of head and index. -/
def trackP (h : List Fl) (ix : List En) : List ByteArray := nrm (nrm (h.map (·.1)) ++ ix.map (·.1))
/-- .. and of the folder besides. -/
def allP (h : List Fl) (ix : List En) (wk : List Fl) : List ByteArray := nrm (trackP h ix ++ nrm (wk.map (·.1)))
theorem pathsR_one (v : Value) (l : List Fl) : pathsR [(v, l)] = l.map (·.1) := by simp [pathsR]
theorem trees_one {w : World} {v : Value} {l : List Fl} (h : Reads 3 cF w v l) : Trees (w.alloc (.cells #[v] 23)) ⟨w.heap.size, 0, none⟩ [(v, l)] := fun i r hr => by
  cases i with
  | zero =>
    simp at hr; subst hr
    exact ⟨cell_of_row _ _ 0 _ 23 (0, 0) (heap_alloc_new w _), h.alloc _⟩
  | succ i => simp at hr
/-- files.Paths of one tree. -/
theorem paths_one (w : World) (v : Value) (l : List Fl) (h : Reads 3 cF w v l) (hl : l.length ≤ 100000) :
    Calls Tryz.prog 116 #[.slice (some ⟨w.heap.size, 0, none⟩) 1 1] (w.alloc (.cells #[v] 23)) (TextsTo (nrm (l.map (·.1))) (w.alloc (.cells #[v] 23))) := by
  have := paths_any (w.alloc (.cells #[v] 23)) ⟨w.heap.size, 0, none⟩ 1 [(v, l)] (trees_one h) (by simp) (by rw [pathsR_one, List.length_map]; exact hl)
  rw [pathsR_one] at this
  exact this

end Go.Proofs.YtdmmjfmjohliiaaGreatDoor
namespace Go.Proofs.YtdmmjfmjohliiaaGreatDoor
open Go.RowKit

theorem stage_mem {l : List En} {n : Int} {s : ByteArray} : s ∈ (stageE l n).map (·.1) ↔ ∃ e ∈ l, e.2.1 = n ∧ e.1 = s := by
  unfold stageE
  simp only [List.mem_map, List.mem_filter, decide_eq_true_eq]
  constructor
  · rintro ⟨f, ⟨e, ⟨he, hn⟩, rfl⟩, rfl⟩
    exact ⟨e, he, hn, rfl⟩
  · rintro ⟨e, he, hn, rfl⟩
    exact ⟨_, ⟨e, ⟨he, hn⟩, rfl⟩, rfl⟩
theorem confE_mem {l : List En} {s : ByteArray} : s ∈ confE l ↔ ∃ e ∈ l, e.2.1 ≠ 0 ∧ e.1 = s := by
  unfold confE
  simp only [List.mem_map, List.mem_filter, decide_eq_true_eq]
  constructor
  · rintro ⟨e, ⟨he, hn⟩, rfl⟩
    exact ⟨e, he, hn, rfl⟩
  · rintro ⟨e, he, hn, rfl⟩
    exact ⟨e, ⟨he, hn⟩, rfl⟩
/-- Each entry has a stage that may be. -/
def StagesOk (l : List En) : Prop := ∀ e ∈ l, e.2.1 = 0 ∨ e.2.1 = 1 ∨ e.2.1 = 2 ∨ e.2.1 = 3
theorem conf_stages {l : List En} (h : StagesOk l) (v1 v2 v3 : Value) : nrm (pathsR [(v1, stageE l 1), (v2, stageE l 2), (v3, stageE l 3)]) = nrm (confE l) := nrm_congr fun s => by
  simp only [pathsR, List.flatMap_cons, List.flatMap_nil, List.append_nil, List.mem_append, stage_mem, confE_mem]
  constructor
  · rintro (⟨e, he, hn, hs⟩ | ⟨e, he, hn, hs⟩ | ⟨e, he, hn, hs⟩) <;> exact ⟨e, he, by omega, hs⟩
  · rintro ⟨e, he, hn, hs⟩
    rcases h e he with h | h | h | h
    · exact absurd h hn
    · exact .inl ⟨e, he, h, hs⟩
    · exact .inr (.inl ⟨e, he, h, hs⟩)
    · exact .inr (.inr ⟨e, he, h, hs⟩)
theorem track_stages {l : List En} (h : StagesOk l) (f : List Fl) (v v0 v1 v2 v3 : Value) : nrm (pathsR [(v, f), (v0, stageE l 0), (v1, stageE l 1), (v2, stageE l 2), (v3, stageE l 3)]) = trackP f l := nrm_congr fun s => by
  simp only [pathsR, List.flatMap_cons, List.flatMap_nil, List.append_nil, List.mem_append, stage_mem, nrm_mem]
  constructor
  · rintro (hs | ⟨e, he, hn, hs⟩ | ⟨e, he, hn, hs⟩ | ⟨e, he, hn, hs⟩ | ⟨e, he, hn, hs⟩)
    · exact .inl hs
    all_goals exact .inr (List.mem_map.2 ⟨e, he, hs⟩)
  · rintro (hs | hs)
    · exact .inl hs
    · obtain ⟨e, he, hs⟩ := List.mem_map.1 hs
      rcases h e he with h | h | h | h
      · exact .inr (.inl ⟨e, he, h, hs⟩)
      · exact .inr (.inr (.inl ⟨e, he, h, hs⟩))
      · exact .inr (.inr (.inr (.inl ⟨e, he, h, hs⟩)))
      · exact .inr (.inr (.inr (.inr ⟨e, he, h, hs⟩)))

/-- Trees in a block. -/
theorem trees_block {W : World} {g : Nat} {cs : Array Value} {t : TypeId} (h : W.heap[g]? = some (.cells cs t (0, 0))) {rs : List (Value × List Fl)} (hc : cs.toList = rs.map (·.1)) (hr : ∀ r ∈ rs, Reads 3 cF W r.1 r.2) : Trees W ⟨g, 0, none⟩ rs := fun i r hi => by
  refine ⟨World.news_of_block h i r.1 ?_, hr r (List.mem_of_getElem? hi)⟩
  rw [hc, List.getElem?_map, hi]
  rfl
theorem own_reads {w w' : World} {ty : TypeId} {v : Value} {l : List Fl} (o : w.ownsRow w'.heap.size ty 3 v l.length (l.flatMap cF)) : Reads 3 cF w v l := Reads.of_own cF_len o

set_option maxRecDepth 100000 in
set_option maxHeartbeats 2000000 in
theorem refConf_any (w : World) (v : Value) (l : List En) (h : Reads 6 cE w v l) (hl : l.length ≤ 10000) (hk : StagesOk l) :
    Calls Tryz.prog 57 #[v] w (TextsTo (nrm (confE l)) w) := by
  have ST := Lib.hid fun W (hW : Below w.heap.size w W) n => refStage_any W v l n (h.below hW) (by omega)
  have L1 := Nat.le_trans (stageE_len l 1) hl
  have L2 := Nat.le_trans (stageE_len l 2) hl
  have L3 := Nat.le_trans (stageE_len l 3) hl
  have HE := Lib.hid (conf_stages hk)
  obtain ⟨s1, h1⟩ : ∃ s, s = stageE l 1 := ⟨_, rfl⟩
  obtain ⟨s2, h2⟩ : ∃ s, s = stageE l 2 := ⟨_, rfl⟩
  obtain ⟨s3, h3⟩ : ∃ s, s = stageE l 3 := ⟨_, rfl⟩
  rw [← h1, ← h2, ← h3] at HE
  rw [← h1] at L1
  rw [← h2] at L2
  rw [← h3] at L3
  have S1 := Lib.hid fun W (hW : Below w.heap.size w W) => ST.out W hW 1
  have S2 := Lib.hid fun W (hW : Below w.heap.size w W) => ST.out W hW 2
  have S3 := Lib.hid fun W (hW : Below w.heap.size w W) => ST.out W hW 3
  rw [← h1] at S1
  rw [← h2] at S2
  rw [← h3] at S3
  clear h ST hk h1 h2 h3
  go_enter Tryz.func57, Tryz.ntmps57
  go_wp2_with fail
  refine (S1.out w (Below.refl _ _)).mono ?_
  rintro e w1 ⟨v1, rfl, o1, b1⟩
  have R1 := Lib.hid (own_reads o1)
  obtain ⟨A1, c1, rfl⟩ := own_form o1
  clear o1
  go_wp2_with fail
  refine (S2.out w1 b1).mono ?_
  rintro e w2 ⟨v2, rfl, o2, b2⟩
  have R12 := Lib.hid (R1.out.below b2)
  have R2 := Lib.hid (own_reads o2)
  have B2 := b1.trans (b2.mono b1.size)
  obtain ⟨A2, c2, rfl⟩ := own_form o2
  clear o2 b2 R1
  go_wp2_with fail
  refine (S3.out w2 B2).mono ?_
  rintro e w3 ⟨v3, rfl, o3, b3⟩
  have R13 := Lib.hid (R12.out.below b3)
  have R23 := Lib.hid (R2.out.below b3)
  have R3 := Lib.hid (own_reads o3)
  have B3 := B2.trans (b3.mono B2.size)
  obtain ⟨A3, c3, rfl⟩ := own_form o3
  clear o3 b3 R12 R2 b1 B2 S1 S2 S3
  have TT := Lib.hid (refPaths_any (w3.alloc (.cells #[.slice A1 s1.length c1, .slice A2 s2.length c2, .slice A3 s3.length c3] 30)) ⟨w3.heap.size, 0, none⟩ 3 [(.slice A1 s1.length c1, s1), (.slice A2 s2.length c2, s2), (.slice A3 s3.length c3, s3)]
    (trees_block (heap_alloc_new w3 _) rfl (by
      intro r hr
      simp only [List.mem_cons, List.not_mem_nil, or_false] at hr
      rcases hr with rfl | rfl | rfl
      · exact R13.out.alloc _
      · exact R23.out.alloc _
      · exact R3.out.alloc _)) (by simp) (by simp [pathsR]; omega))
  rw [HE.out] at TT
  have s3' := B3.size
  have B4 := B3.alloc s3' (.cells #[.slice A1 s1.length c1, .slice A2 s2.length c2, .slice A3 s3.length c3] 30)
  have HB4 := Lib.hid B4
  clear R13 R23 R3 B4
  go_wp2_with fail
  refine TT.out.mono ?_
  rintro e w5 ⟨v5, rfl, o5, b5⟩
  have o6 := Lib.hid (own_base o5 HB4.out.size)
  have b6 := Lib.hid (HB4.out.trans (b5.mono HB4.out.size))
  clear o5 b5 TT
  go_wp2
  go_ret
  exact ⟨_, rfl, o6.out, b6.out⟩

set_option maxRecDepth 100000 in
set_option maxHeartbeats 2000000 in
theorem refTrack_any (w : World) (v u : Value) (f : List Fl) (l : List En) (g : Reads 3 cF w v f) (h : Reads 6 cE w u l) (hf : f.length ≤ 10000) (hl : l.length ≤ 10000) (hk : StagesOk l) :
    Calls Tryz.prog 67 #[v, u] w (TextsTo (trackP f l) w) := by
  have ST := Lib.hid fun W (hW : Below w.heap.size w W) n => refStage_any W u l n (h.below hW) (by omega)
  have L0 := Nat.le_trans (stageE_len l 0) hl
  have L1 := Nat.le_trans (stageE_len l 1) hl
  have L2 := Nat.le_trans (stageE_len l 2) hl
  have L3 := Nat.le_trans (stageE_len l 3) hl
  have HE := Lib.hid (track_stages hk f)
  obtain ⟨s0, h0⟩ : ∃ s, s = stageE l 0 := ⟨_, rfl⟩
  obtain ⟨s1, h1⟩ : ∃ s, s = stageE l 1 := ⟨_, rfl⟩
  obtain ⟨s2, h2⟩ : ∃ s, s = stageE l 2 := ⟨_, rfl⟩
  obtain ⟨s3, h3⟩ : ∃ s, s = stageE l 3 := ⟨_, rfl⟩
  rw [← h0, ← h1, ← h2, ← h3] at HE
  rw [← h0] at L0
  rw [← h1] at L1
  rw [← h2] at L2
  rw [← h3] at L3
  have S0 := Lib.hid fun W (hW : Below w.heap.size w W) => ST.out W hW 0
  have S1 := Lib.hid fun W (hW : Below w.heap.size w W) => ST.out W hW 1
  have S2 := Lib.hid fun W (hW : Below w.heap.size w W) => ST.out W hW 2
  have S3 := Lib.hid fun W (hW : Below w.heap.size w W) => ST.out W hW 3
  rw [← h0] at S0
  rw [← h1] at S1
  rw [← h2] at S2
  rw [← h3] at S3
  obtain ⟨A, c, rfl⟩ := g.form
  have RR := Lib.hid g
  clear h ST hk h0 h1 h2 h3 g
  go_enter Tryz.func67, Tryz.ntmps67
  go_wp2_with fail
  refine (S0.out w (Below.refl _ _)).mono ?_
  rintro e w0 ⟨v0, rfl, o0, b0⟩
  have R0 := Lib.hid (own_reads o0)
  obtain ⟨A0, c0, rfl⟩ := own_form o0
  clear o0
  go_wp2_with fail
  refine (S1.out w0 b0).mono ?_
  rintro e w1 ⟨v1, rfl, o1, b1⟩
  have R01 := Lib.hid (R0.out.below b1)
  have R1 := Lib.hid (own_reads o1)
  have B1 := b0.trans (b1.mono b0.size)
  obtain ⟨A1, c1, rfl⟩ := own_form o1
  clear o1 b1 R0 b0
  go_wp2_with fail
  refine (S2.out w1 B1).mono ?_
  rintro e w2 ⟨v2, rfl, o2, b2⟩
  have R02 := Lib.hid (R01.out.below b2)
  have R12 := Lib.hid (R1.out.below b2)
  have R2 := Lib.hid (own_reads o2)
  have B2 := B1.trans (b2.mono B1.size)
  obtain ⟨A2, c2, rfl⟩ := own_form o2
  clear o2 b2 R1 R01 B1
  go_wp2_with fail
  refine (S3.out w2 B2).mono ?_
  rintro e w3 ⟨v3, rfl, o3, b3⟩
  have R03 := Lib.hid (R02.out.below b3)
  have R13 := Lib.hid (R12.out.below b3)
  have R23 := Lib.hid (R2.out.below b3)
  have R3 := Lib.hid (own_reads o3)
  have B3 := B2.trans (b3.mono B2.size)
  have RF := Lib.hid (RR.out.below B3)
  obtain ⟨A3, c3, rfl⟩ := own_form o3
  clear o3 b3 R12 R2 R02 B2 S0 S1 S2 S3
  have TT := Lib.hid (refPaths_any (w3.alloc (.cells #[.slice A f.length c, .slice A0 s0.length c0, .slice A1 s1.length c1, .slice A2 s2.length c2, .slice A3 s3.length c3] 30)) ⟨w3.heap.size, 0, none⟩ 5 [(.slice A f.length c, f), (.slice A0 s0.length c0, s0), (.slice A1 s1.length c1, s1), (.slice A2 s2.length c2, s2), (.slice A3 s3.length c3, s3)]
    (trees_block (heap_alloc_new w3 _) rfl (by
      intro r hr
      simp only [List.mem_cons, List.not_mem_nil, or_false] at hr
      rcases hr with rfl | rfl | rfl | rfl | rfl
      · exact RF.out.alloc _
      · exact R03.out.alloc _
      · exact R13.out.alloc _
      · exact R23.out.alloc _
      · exact R3.out.alloc _)) (by simp) (by simp [pathsR]; omega))
  rw [HE.out] at TT
  have s3' := B3.size
  have B4 := B3.alloc s3' (.cells #[.slice A f.length c, .slice A0 s0.length c0, .slice A1 s1.length c1, .slice A2 s2.length c2, .slice A3 s3.length c3] 30)
  have HB4 := Lib.hid B4
  clear RF R03 R13 R23 R3 B4
  go_wp2_with fail
  refine TT.out.mono ?_
  rintro e w5 ⟨v5, rfl, o5, b5⟩
  have o6 := Lib.hid (own_base o5 HB4.out.size)
  have b6 := Lib.hid (HB4.out.trans (b5.mono HB4.out.size))
  clear o5 b5 TT
  go_wp2
  go_ret
  exact ⟨_, rfl, o6.out, b6.out⟩
end Go.Proofs.YtdmmjfmjohliiaaGreatDoor
namespace Go.Proofs.YtdmmjfmjohliiaaGreatDoor
open Go Go.RowKit

theorem filter_snoc {p : Fl → Bool} {l : List Fl} {i : Nat} {x : Fl} (hx : l[i]? = some x) : (l.take (i + 1)).filter p = (l.take i).filter p ++ (if p x then [x] else []) := by
  rw [take_snoc hx, List.filter_append]
  cases h : p x <;> simp [h]
set_option maxRecDepth 100000 in
set_option maxHeartbeats 2000000 in
theorem refCut_any (w : World) (v : Value) (l : List Fl) (s : ByteArray) (h : Reads 3 cF w v l) (hl : l.length ≤ 100000) :
    Calls Tryz.prog 44 #[v, .string s] w (OwnTo 73 3 cF (cutF l s) w) := by
  obtain ⟨A, c, rfl⟩ := h.form
  have hn := h.len
  have hnm : l.length ≤ 9223372036854775807 := by omega
  have HO := Lib.hid h
  obtain ⟨i0, hi, hz0, hz1, hz2⟩ := info_parts refFileInfo
  obtain ⟨P, hP⟩ : ∃ P : Fl → Bool, P = fun x => decide (x.1 ≠ s) := ⟨_, rfl⟩
  have HPF := Lib.hid (show cutF l s = l.filter P by rw [hP]; rfl)
  have HPX := Lib.hid fun x => (show P x = decide (x.1 ≠ s) by rw [hP])
  clear h hn hP
  go_enter Tryz.func44, Tryz.ntmps44
  go_wp2
  go_loopw [5, 6] (fun s5 s6 wr => ∃ (i : Nat) (acc : List Fl), i ≤ l.length ∧ s6 = .int .i64 i ∧ Hid (acc = (l.take i).filter P) ∧ Hid (wr.ownsRow w.heap.size 73 3 s5 acc.length (acc.flatMap cF)) ∧ Below w.heap.size w wr) (fun _ s6 _ => l.length - (intOf s6).toNat)
  case atStart => exact ⟨0, [], Nat.zero_le _, rfl, Lib.hid (by simp), Lib.hid (World.ownsRow_nil _ _ _ _), Below.refl _ _⟩
  case round =>
    obtain ⟨i, acc, hil, rfl, HA, hown, hb⟩ := hrel
    by_cases hlt : i < l.length
    · obtain ⟨f, hf⟩ : ∃ f, l[i]? = some f := ⟨_, List.getElem?_eq_getElem hlt⟩
      obtain ⟨ad, rfl, c0, c1, c2⟩ := Fils.at_ (HO.out.below hb) hf
      have HT := Lib.hid (filter_snoc (p := P) hf)
      have HPf := Lib.hid (HPX.out f)
      have hal : acc.length ≤ 100000 := by rw [HA.out]; exact Nat.le_trans (List.length_filter_le _ _) (by rw [List.length_take]; omega)
      obtain ⟨p, m, d⟩ := f
      have hsz := hb.size
      clear hf
      by_cases hps : p = s
      · subst hps
        have HN := Lib.hid (show (l.take (i + 1)).filter P = acc by rw [HT.out, HPf.out, HA.out]; simp)
        go_wp2
        go_roundw
        case rel => exact ⟨i + 1, acc, by omega, by go_num, Lib.hid HN.out.symm, hown, hb⟩
        case measure => simp [intOf]; omega
      · have hne : ¬ p.toList = s.toList := fun e => hps (tl_eq e)
        have hneb : (p.toList == s.toList) = false := by simpa using hne
        have HN := Lib.hid (show (l.take (i + 1)).filter P = acc ++ [(p, m, d)] by rw [HT.out, HPf.out, HA.out]; simp [hps])
        have own4 := hown.out.alloc (.cells #[.string p, .int .i64 m, .string d] 73)
        have news4 := news_one wr #[.string p, .int .i64 m, .string d] 73 wr.heap.size rfl
        clear hps
        go_wp2_with (at_builtin; refine wpList_append_own _ rfl _ _ 30 rfl w.heap.size 73 i0 (.agg #[.string ⟨#[]⟩, .int .i64 0, .string ⟨#[]⟩]) 3 40 Tryz.underlying30 hi hz0 hz1 hz2 rfl (by decide) _ _ _ rfl own4 ⟨wr.heap.size, 0, none⟩ 1 1 [.string p, .int .i64 m, .string d] rfl rfl news4 (by simp [Value.oneCell']) (by unfold maxLen; omega) (by omega) (by simp; omega) ?_; intro v5 w5 ow5 hg5 _)
        have hb5 : Below w.heap.size w w5 := (hb.alloc hsz _).grown hg5 (by simp; omega) (fun k hk => (hown.out.lt k hk).1)
        have hown5 : Hid (w5.ownsRow w.heap.size 73 3 v5 (acc ++ [(p, m, d)]).length ((acc ++ [(p, m, d)]).flatMap cF)) := Lib.hid (by rw [flat_snoc, List.length_append]; exact ow5)
        clear news4 own4 hg5 ow5
        go_wp2
        go_roundw
        case rel => exact ⟨i + 1, acc ++ [(p, m, d)], by omega, by go_num, Lib.hid HN.out.symm, hown5, hb5⟩
        case measure => simp [intOf]; omega
    · obtain rfl : i = l.length := by omega
      have HE := Lib.hid (show cutF l s = acc by rw [HPF.out, HA.out, List.take_length])
      go_wp2
      go_ret
      exact ⟨_, rfl, by rw [HE.out]; exact hown.out, hb⟩

set_option maxRecDepth 100000 in
set_option maxHeartbeats 2000000 in
theorem refClear_any (w : World) (v : Value) (l : List Fl) (s : ByteArray) (h : Reads 3 cF w v l) (hz : Sized l) (hs : s.size ≤ 1000000) (hl : l.length ≤ 100000) :
    Calls Tryz.prog 68 #[v, .string s] w (OwnTo 73 3 cF (clearF l s) w) := by
  obtain ⟨A, c, rfl⟩ := h.form
  have hn := h.len
  have hnm : l.length ≤ 9223372036854775807 := by omega
  have HO := Lib.hid h
  have HZ := Lib.hid hz
  obtain ⟨i0, hi, hz0, hz1, hz2⟩ := info_parts refFileInfo
  obtain ⟨P, hP⟩ : ∃ P : Fl → Bool, P = fun x => !cls x.1.data.toList s.data.toList := ⟨_, rfl⟩
  have HPF := Lib.hid (show clearF l s = l.filter P by rw [hP]; rfl)
  have HPX := Lib.hid fun x => (show P x = !cls x.1.data.toList s.data.toList by rw [hP])
  clear h hn hP hz
  go_enter Tryz.func68, Tryz.ntmps68
  go_wp2
  go_loopw [5, 6] (fun s5 s6 wr => ∃ (i : Nat) (acc : List Fl), i ≤ l.length ∧ s6 = .int .i64 i ∧ Hid (acc = (l.take i).filter P) ∧ Hid (wr.ownsRow w.heap.size 73 3 s5 acc.length (acc.flatMap cF)) ∧ Below w.heap.size w wr) (fun _ s6 _ => l.length - (intOf s6).toNat)
  case atStart => exact ⟨0, [], Nat.zero_le _, rfl, Lib.hid (by simp), Lib.hid (World.ownsRow_nil _ _ _ _), Below.refl _ _⟩
  case round =>
    obtain ⟨i, acc, hil, rfl, HA, hown, hb⟩ := hrel
    by_cases hlt : i < l.length
    · obtain ⟨f, hf⟩ : ∃ f, l[i]? = some f := ⟨_, List.getElem?_eq_getElem hlt⟩
      obtain ⟨ad, rfl, c0, c1, c2⟩ := Fils.at_ (HO.out.below hb) hf
      have HT := Lib.hid (filter_snoc (p := P) hf)
      have HPf := Lib.hid (HPX.out f)
      have hal : acc.length ≤ 100000 := by rw [HA.out]; exact Nat.le_trans (List.length_filter_le _ _) (by rw [List.length_take]; omega)
      have CX := Lib.hid fun W => refClash_any f.1 s W (HZ.out.at_ hf) hs
      obtain ⟨p, m, d⟩ := f
      obtain ⟨k, hk⟩ : ∃ k, k = cls p.data.toList s.data.toList := ⟨_, rfl⟩
      simp only at HPf CX
      rw [← hk] at HPf CX
      have hsz := hb.size
      clear hf hk
      cases k with
      | true =>
        have HN := Lib.hid (show (l.take (i + 1)).filter P = acc by rw [HT.out, HPf.out, HA.out]; simp)
        go_wp2_with fail
        refine (CX.out _).mono ?_
        rintro e w' ⟨rfl, rfl⟩
        go_wp2
        go_roundw
        case rel => exact ⟨i + 1, acc, by omega, by go_num, Lib.hid HN.out.symm, hown, hb⟩
        case measure => simp [intOf]; omega
      | false =>
        have HN := Lib.hid (show (l.take (i + 1)).filter P = acc ++ [(p, m, d)] by rw [HT.out, HPf.out, HA.out]; simp)
        have own4 := hown.out.alloc (.cells #[.string p, .int .i64 m, .string d] 73)
        have news4 := news_one wr #[.string p, .int .i64 m, .string d] 73 wr.heap.size rfl
        go_wp2_with fail
        refine (CX.out _).mono ?_
        rintro e w' ⟨rfl, rfl⟩
        go_wp2_with (at_builtin; refine wpList_append_own _ rfl _ _ 30 rfl w.heap.size 73 i0 (.agg #[.string ⟨#[]⟩, .int .i64 0, .string ⟨#[]⟩]) 3 40 Tryz.underlying30 hi hz0 hz1 hz2 rfl (by decide) _ _ _ rfl own4 ⟨wr.heap.size, 0, none⟩ 1 1 [.string p, .int .i64 m, .string d] rfl rfl news4 (by simp [Value.oneCell']) (by unfold maxLen; omega) (by omega) (by simp; omega) ?_; intro v5 w5 ow5 hg5 _)
        have hb5 : Below w.heap.size w w5 := (hb.alloc hsz _).grown hg5 (by simp; omega) (fun k hk => (hown.out.lt k hk).1)
        have hown5 : Hid (w5.ownsRow w.heap.size 73 3 v5 (acc ++ [(p, m, d)]).length ((acc ++ [(p, m, d)]).flatMap cF)) := Lib.hid (by rw [flat_snoc, List.length_append]; exact ow5)
        clear news4 own4 hg5 ow5
        go_wp2
        go_roundw
        case rel => exact ⟨i + 1, acc ++ [(p, m, d)], by omega, by go_num, Lib.hid HN.out.symm, hown5, hb5⟩
        case measure => simp [intOf]; omega
    · obtain rfl : i = l.length := by omega
      have HE := Lib.hid (show clearF l s = acc by rw [HPF.out, HA.out, List.take_length])
      go_wp2
      go_ret
      exact ⟨_, rfl, by rw [HE.out]; exact hown.out, hb⟩
end Go.Proofs.YtdmmjfmjohliiaaGreatDoor
namespace Go.Proofs.YtdmmjfmjohliiaaGreatDoor
open Go.RowKit

theorem putF_all {l : List Fl} {f : Fl} (h : ∀ x ∈ l, cb x.1 f.1 < 0) : putF l f = l ++ [f] := by
  unfold putF
  rw [List.filter_eq_self.2 fun x hx => decide_eq_true (h x hx), List.filter_eq_nil_iff.2 fun x hx => by have := h x hx; simp; omega]
theorem putF_snoc_gt {l : List Fl} {f q : Fl} (h : 0 < cb q.1 f.1) : putF (l ++ [q]) f = putF l f ++ [q] := by
  unfold putF
  rw [List.filter_append, List.filter_append, List.filter_cons, List.filter_cons, if_neg (by simp; omega), if_pos (by simpa using h)]
  simp
theorem putF_snoc_eq {l : List Fl} {f q : Fl} (h : cb q.1 f.1 = 0) : putF (l ++ [q]) f = putF l f := by
  unfold putF
  rw [List.filter_append, List.filter_append, List.filter_cons, List.filter_cons, if_neg (by simp; omega), if_neg (by simp; omega)]
  simp
/-- How far a file is put: as long as it is not, all that has come lies before it; once it is, all that comes lies behind. -/
def PutAtF (l : List Fl) (f : Fl) (i : Nat) : Bool → List Fl → Prop
  | false, acc => acc = l.take i ∧ ∀ x ∈ l.take i, cb x.1 f.1 < 0
  | true, acc => acc = putF (l.take i) f ∧ ∀ (t : Nat) (x : Fl), i ≤ t → l[t]? = some x → 0 < cb x.1 f.1
section
variable {l : List Fl} {f q : Fl} {i : Nat} {acc : List Fl}
theorem PutAtF.len {b : Bool} (h : PutAtF l f i b acc) : acc.length ≤ i + (if b then 1 else 0) := by
  cases b with
  | false => rw [h.1, List.length_take]; simp; omega
  | true => rw [h.1]; have := put_len (l.take i) f; rw [List.length_take] at this; simp; omega
theorem putF_lt (h : PutAtF l f i false acc) (hq : l[i]? = some q) (hc : cb q.1 f.1 < 0) : PutAtF l f (i + 1) false (acc ++ [q]) := by
  refine ⟨by rw [take_snoc hq, h.1], fun x hx => ?_⟩
  rw [take_snoc hq] at hx
  rcases List.mem_append.1 hx with hx | hx
  · exact h.2 x hx
  · simp at hx; subst hx; exact hc
theorem rise_later (hr : RiseF l) (hq : l[i]? = some q) {t : Nat} {x : Fl} (ht : i < t) (hx : l[t]? = some x) : cb q.1 x.1 < 0 := by
  obtain ⟨h1, rfl⟩ := List.getElem?_eq_some_iff.1 hq
  obtain ⟨h2, rfl⟩ := List.getElem?_eq_some_iff.1 hx
  exact List.pairwise_iff_getElem.1 hr i t h1 h2 ht
theorem putF_eq (hr : RiseF l) (h : PutAtF l f i false acc) (hq : l[i]? = some q) (he : q.1 = f.1) : PutAtF l f (i + 1) true (acc ++ [f]) := by
  refine ⟨by rw [take_snoc hq, putF_snoc_eq (by rw [he, cb_self]), putF_all h.2, h.1], fun t x ht hx => ?_⟩
  have := rise_later hr hq (by omega) hx
  rw [he] at this
  rw [cb_swap]; omega
theorem putF_ge (hr : RiseF l) (h : PutAtF l f i false acc) (hq : l[i]? = some q) (hc : ¬ cb q.1 f.1 < 0) (hne : ¬ q.1 = f.1) : PutAtF l f (i + 1) true (acc ++ [f] ++ [q]) := by
  have hpos : 0 < cb q.1 f.1 := by
    rcases Int.lt_or_le 0 (cb q.1 f.1) with h | h
    · exact h
    · exact absurd (cb_zero (by omega)) hne
  refine ⟨by rw [take_snoc hq, putF_snoc_gt hpos, putF_all h.2, h.1], fun t x ht hx => ?_⟩
  have h1 := rise_later hr hq (by omega) hx
  have h2 : cb f.1 q.1 < 0 := by rw [cb_swap]; omega
  have := cb_trans h2 h1
  rw [cb_swap]; omega
theorem putF_past (h : PutAtF l f i true acc) (hq : l[i]? = some q) : ¬ q.1 = f.1 ∧ PutAtF l f (i + 1) true (acc ++ [q]) := by
  have hpos := h.2 i q (Nat.le_refl _) hq
  refine ⟨fun e => by rw [e, cb_self] at hpos; omega, by rw [take_snoc hq, putF_snoc_gt hpos, h.1], fun t x ht hx => h.2 t x (by omega) hx⟩
theorem putF_end {b : Bool} (h : PutAtF l f l.length b acc) : putF l f = if b then acc else acc ++ [f] := by
  cases b with
  | false =>
    obtain ⟨h1, h2⟩ := h
    rw [List.take_length] at h1 h2
    rw [putF_all h2, h1]; rfl
  | true =>
    obtain ⟨h1, _⟩ := h
    rw [List.take_length] at h1
    rw [h1]; rfl
end

set_option maxRecDepth 100000 in
set_option maxHeartbeats 4000000 in
theorem refPutF_any (w : World) (v : Value) (ps : List Fl) (p : ByteArray) (pm : Int) (pd : ByteArray) (h : Reads 3 cF w v ps) (hr : RiseF ps) (hl : ps.length ≤ 100000) :
    Calls Tryz.prog 46 #[v, .agg #[.string p, .int .i64 pm, .string pd]] w (OwnTo 73 3 cF (putF ps (p, pm, pd)) w) := by
  obtain ⟨A, c, rfl⟩ := h.form
  have hn := h.len
  have hnm : ps.length ≤ 9223372036854775807 := by omega
  obtain ⟨W1, hW1⟩ : ∃ W1, W1 = w.alloc (.cells #[.string p, .int .i64 pm, .string pd] 73) := ⟨_, rfl⟩
  have B1 : Below w.heap.size w W1 := by rw [hW1]; exact (Below.refl _ _).alloc (Nat.le_refl _) _
  obtain ⟨G, hG⟩ : ∃ G, G = w.heap.size := ⟨_, rfl⟩
  have K1 : W1.heap[G]? = some (.cells #[.string p, .int .i64 pm, .string pd] 73 (0, 0)) := by rw [hW1, hG]; exact heap_alloc_new w _
  have YY := Lib.hid fun W (hW : Below W1.heap.size W1 W) => (⟨(hW.cell (World.block_lt_of_cell? _ _ (cell_of_row W1 G 0 _ 73 (0, 0) K1))).trans (cell_of_row W1 G 0 _ 73 (0, 0) K1), (hW.cell (World.block_lt_of_cell? _ _ (cell_of_row W1 G 1 _ 73 (0, 0) K1))).trans (cell_of_row W1 G 1 _ 73 (0, 0) K1), (hW.cell (World.block_lt_of_cell? _ _ (cell_of_row W1 G 2 _ 73 (0, 0) K1))).trans (cell_of_row W1 G 2 _ 73 (0, 0) K1)⟩ : W.cell? ⟨G, 0, none⟩ = some (.string p) ∧ W.cell? ⟨G, 1, none⟩ = some (.int .i64 pm) ∧ W.cell? ⟨G, 2, none⟩ = some (.string pd))
  have HO := Lib.hid (h.below B1)
  have HR := Lib.hid hr
  have HB1 := Lib.hid B1
  obtain ⟨i0, hi, hz0, hz1, hz2⟩ := info_parts refFileInfo
  clear h hn hr K1 B1
  go_enter Tryz.func46, Tryz.ntmps46
  go_wp2_with fail
  rw [← hW1, ← hG]
  clear hW1 hG
  go_loopw [5, 6, 7] (fun s5 s6 s7 wr => ∃ (i : Nat) (acc : List Fl) (b : Bool), i ≤ ps.length ∧ s6 = .bool b ∧ s7 = .int .i64 i ∧ Hid (PutAtF ps (p, pm, pd) i b acc) ∧ Hid (wr.ownsRow W1.heap.size 73 3 s5 acc.length (acc.flatMap cF)) ∧ Below W1.heap.size W1 wr) (fun _ _ s7 _ => ps.length - (intOf s7).toNat)
  case atStart => exact ⟨0, [], false, Nat.zero_le _, rfl, rfl, Lib.hid ⟨rfl, by simp⟩, Lib.hid (World.ownsRow_nil _ _ _ _), Below.refl _ _⟩
  case round =>
    obtain ⟨i, acc, b, hil, rfl, rfl, hp, hown, hb⟩ := hrel
    have HL := Lib.hid hp.out.len
    by_cases hlt : i < ps.length
    · obtain ⟨q, hq⟩ : ∃ q, ps[i]? = some q := ⟨_, List.getElem?_eq_getElem hlt⟩
      obtain ⟨ad, rfl, c0, c1, c2⟩ := Fils.at_ HO.out hq
      obtain ⟨q, qm, qd⟩ := q
      have HQ := Lib.hid hq
      have ZZ := Lib.hid fun W (hW : Below W1.heap.size W1 W) => (⟨(hW.cell (World.block_lt_of_cell? _ _ c0)).trans c0, (hW.cell (World.block_lt_of_cell? _ _ c1)).trans c1, (hW.cell (World.block_lt_of_cell? _ _ c2)).trans c2⟩ : FilCells ad i q qm qd W)
      unfold FilCells at ZZ
      have i0' : (0 : Int) ≤ (i : Int) := Int.natCast_nonneg _
      have hi1 : (i : Int) < (ps.length : Int) := by omega
      have hlc := less_cb q p
      clear hq c0 c1 c2
      cases b with
      | false =>
        by_cases hc : cb q p < 0
        · have hls : Op.bytesLess q.toList p.toList = true := by rw [hlc]; exact decide_eq_true hc
          have hne : ¬ q.toList = p.toList := fun e => by rw [tl_eq e, cb_self] at hc; omega
          have hneb : (q.toList == p.toList) = false := by simpa using hne
          have FA := Lib.hid (putF_lt hp.out HQ.out hc)
          clear hlc hc
          obtain ⟨x0, x1, x2⟩ := ZZ.out _ hb
          obtain ⟨y0, y1, y2⟩ := YY.out _ hb
          go_wp2_with fail
          go_quiet (fail)
          obtain ⟨w1, hw1⟩ : ∃ w1, w1 = wr.drewN nq := ⟨_, rfl⟩
          have hb1 : Below W1.heap.size W1 w1 := by rw [hw1]; exact below_drewN hb nq
          have hown1 : Hid (w1.ownsRow W1.heap.size 73 3 u5 acc.length (acc.flatMap cF)) := by rw [hw1]; exact hown
          rw [← hw1]
          clear hw1
          obtain ⟨x0, x1, x2⟩ := ZZ.out _ hb1
          obtain ⟨y0, y1, y2⟩ := YY.out _ hb1
          clear hown
          go_wp2_with fail
          go_quiet (fail)
          obtain ⟨w2, hw2⟩ : ∃ w2, w2 = w1.drewN nq := ⟨_, rfl⟩
          have hb2 : Below W1.heap.size W1 w2 := by rw [hw2]; exact below_drewN hb1 nq
          have hown2 : Hid (w2.ownsRow W1.heap.size 73 3 u5 acc.length (acc.flatMap cF)) := by rw [hw2]; exact hown1
          rw [← hw2]
          clear hw2
          clear x0 x1 x2 y0 y1 y2
          obtain ⟨x0, x1, x2⟩ := ZZ.out _ hb2
          obtain ⟨y0, y1, y2⟩ := YY.out _ hb2
          have hsz3 := hb2.size
          have own43 := hown2.out.alloc (.cells #[.string q, .int .i64 qm, .string qd] 73)
          have news3 := news_one w2 #[.string q, .int .i64 qm, .string qd] 73 w2.heap.size rfl
          go_wp2_with (at_builtin; refine wpList_append_own _ rfl _ _ 30 rfl W1.heap.size 73 i0 (.agg #[.string ⟨#[]⟩, .int .i64 0, .string ⟨#[]⟩]) 3 40 Tryz.underlying30 hi hz0 hz1 hz2 rfl (by decide) _ _ _ rfl own43 ⟨w2.heap.size, 0, none⟩ 1 1 [.string q, .int .i64 qm, .string qd] rfl rfl news3 (by simp [Value.oneCell']) (by unfold maxLen; (have := HL.out; simp at this; omega)) (by (have := HL.out; simp at this; omega)) (by simp; omega) ?_; intro v3 w3 ow3 hg3 _)
          have hb3 : Below W1.heap.size W1 w3 := (hb2.alloc hsz3 _).grown hg3 (by simp; omega) (fun k hk => (hown2.out.lt k hk).1)
          have hown3 : Hid (w3.ownsRow W1.heap.size 73 3 v3 (acc ++ [(q, qm, qd)]).length ((acc ++ [(q, qm, qd)]).flatMap cF)) := Lib.hid (by rw [flat_snoc, List.length_append]; exact ow3)
          clear news3 own43 hg3 ow3
          go_wp2
          go_roundw
          case rel => exact ⟨i + 1, acc ++ [(q, qm, qd)], false, by omega, rfl, by go_num, FA, hown3, hb3⟩
          case measure => simp [intOf]; omega
        · have hls : Op.bytesLess q.toList p.toList = false := by rw [hlc]; exact decide_eq_false hc
          clear hlc
          by_cases hqp : q = p
          · subst hqp
            have FA := Lib.hid (putF_eq HR.out hp.out HQ.out rfl)
            clear hc
            obtain ⟨x0, x1, x2⟩ := ZZ.out _ hb
            obtain ⟨y0, y1, y2⟩ := YY.out _ hb
            go_wp2_with fail
            go_quiet (fail)
            obtain ⟨w1, hw1⟩ : ∃ w1, w1 = wr.drewN nq := ⟨_, rfl⟩
            have hb1 : Below W1.heap.size W1 w1 := by rw [hw1]; exact below_drewN hb nq
            have hown1 : Hid (w1.ownsRow W1.heap.size 73 3 u5 acc.length (acc.flatMap cF)) := by rw [hw1]; exact hown
            rw [← hw1]
            clear hw1
            obtain ⟨x0, x1, x2⟩ := ZZ.out _ hb1
            obtain ⟨y0, y1, y2⟩ := YY.out _ hb1
            clear hown
            have hsz2 := hb1.size
            have own42 := hown1.out.alloc (.cells #[.string q, .int .i64 pm, .string pd] 73)
            have news2 := news_one w1 #[.string q, .int .i64 pm, .string pd] 73 w1.heap.size rfl
            go_wp2_with (at_builtin; refine wpList_append_own _ rfl _ _ 30 rfl W1.heap.size 73 i0 (.agg #[.string ⟨#[]⟩, .int .i64 0, .string ⟨#[]⟩]) 3 40 Tryz.underlying30 hi hz0 hz1 hz2 rfl (by decide) _ _ _ rfl own42 ⟨w1.heap.size, 0, none⟩ 1 1 [.string q, .int .i64 pm, .string pd] rfl rfl news2 (by simp [Value.oneCell']) (by unfold maxLen; (have := HL.out; simp at this; omega)) (by (have := HL.out; simp at this; omega)) (by simp; omega) ?_; intro v2 w2 ow2 hg2 _)
            have hb2 : Below W1.heap.size W1 w2 := (hb1.alloc hsz2 _).grown hg2 (by simp; omega) (fun k hk => (hown1.out.lt k hk).1)
            have hown2 : Hid (w2.ownsRow W1.heap.size 73 3 v2 (acc ++ [(q, pm, pd)]).length ((acc ++ [(q, pm, pd)]).flatMap cF)) := Lib.hid (by rw [flat_snoc, List.length_append]; exact ow2)
            clear news2 own42 hg2 ow2
            clear x0 x1 x2 y0 y1 y2
            obtain ⟨x0, x1, x2⟩ := ZZ.out _ hb2
            obtain ⟨y0, y1, y2⟩ := YY.out _ hb2
            go_wp2_with fail
            go_quiet (fail)
            obtain ⟨w3, hw3⟩ : ∃ w3, w3 = w2.drewN nq := ⟨_, rfl⟩
            have hb3 : Below W1.heap.size W1 w3 := by rw [hw3]; exact below_drewN hb2 nq
            have hown3 : Hid (w3.ownsRow W1.heap.size 73 3 v2 (acc ++ [(q, pm, pd)]).length ((acc ++ [(q, pm, pd)]).flatMap cF)) := by rw [hw3]; exact hown2
            rw [← hw3]
            clear hw3
            clear x0 x1 x2 y0 y1 y2
            obtain ⟨x0, x1, x2⟩ := ZZ.out _ hb3
            obtain ⟨y0, y1, y2⟩ := YY.out _ hb3
            go_wp2
            go_roundw
            case rel => exact ⟨i + 1, acc ++ [(q, pm, pd)], true, by omega, rfl, by go_num, FA, hown3, hb3⟩
            case measure => simp [intOf]; omega
          · have hne : ¬ q.toList = p.toList := fun e => hqp (tl_eq e)
            have hneb : (q.toList == p.toList) = false := by simpa using hne
            have FA := Lib.hid (putF_ge HR.out hp.out HQ.out hc hqp)
            clear hc hqp
            obtain ⟨x0, x1, x2⟩ := ZZ.out _ hb
            obtain ⟨y0, y1, y2⟩ := YY.out _ hb
            go_wp2_with fail
            go_quiet (fail)
            obtain ⟨w1, hw1⟩ : ∃ w1, w1 = wr.drewN nq := ⟨_, rfl⟩
            have hb1 : Below W1.heap.size W1 w1 := by rw [hw1]; exact below_drewN hb nq
            have hown1 : Hid (w1.ownsRow W1.heap.size 73 3 u5 acc.length (acc.flatMap cF)) := by rw [hw1]; exact hown
            rw [← hw1]
            clear hw1
            obtain ⟨x0, x1, x2⟩ := ZZ.out _ hb1
            obtain ⟨y0, y1, y2⟩ := YY.out _ hb1
            clear hown
            have hsz2 := hb1.size
            have own42 := hown1.out.alloc (.cells #[.string p, .int .i64 pm, .string pd] 73)
            have news2 := news_one w1 #[.string p, .int .i64 pm, .string pd] 73 w1.heap.size rfl
            go_wp2_with (at_builtin; refine wpList_append_own _ rfl _ _ 30 rfl W1.heap.size 73 i0 (.agg #[.string ⟨#[]⟩, .int .i64 0, .string ⟨#[]⟩]) 3 40 Tryz.underlying30 hi hz0 hz1 hz2 rfl (by decide) _ _ _ rfl own42 ⟨w1.heap.size, 0, none⟩ 1 1 [.string p, .int .i64 pm, .string pd] rfl rfl news2 (by simp [Value.oneCell']) (by unfold maxLen; (have := HL.out; simp at this; omega)) (by (have := HL.out; simp at this; omega)) (by simp; omega) ?_; intro v2 w2 ow2 hg2 _)
            have hb2 : Below W1.heap.size W1 w2 := (hb1.alloc hsz2 _).grown hg2 (by simp; omega) (fun k hk => (hown1.out.lt k hk).1)
            have hown2 : Hid (w2.ownsRow W1.heap.size 73 3 v2 (acc ++ [(p, pm, pd)]).length ((acc ++ [(p, pm, pd)]).flatMap cF)) := Lib.hid (by rw [flat_snoc, List.length_append]; exact ow2)
            clear news2 own42 hg2 ow2
            clear x0 x1 x2 y0 y1 y2
            obtain ⟨x0, x1, x2⟩ := ZZ.out _ hb2
            obtain ⟨y0, y1, y2⟩ := YY.out _ hb2
            go_wp2_with fail
            go_quiet (fail)
            obtain ⟨w3, hw3⟩ : ∃ w3, w3 = w2.drewN nq := ⟨_, rfl⟩
            have hb3 : Below W1.heap.size W1 w3 := by rw [hw3]; exact below_drewN hb2 nq
            have hown3 : Hid (w3.ownsRow W1.heap.size 73 3 v2 (acc ++ [(p, pm, pd)]).length ((acc ++ [(p, pm, pd)]).flatMap cF)) := by rw [hw3]; exact hown2
            rw [← hw3]
            clear hw3
            clear x0 x1 x2 y0 y1 y2
            obtain ⟨x0, x1, x2⟩ := ZZ.out _ hb3
            obtain ⟨y0, y1, y2⟩ := YY.out _ hb3
            have hsz4 := hb3.size
            have own44 := hown3.out.alloc (.cells #[.string q, .int .i64 qm, .string qd] 73)
            have news4 := news_one w3 #[.string q, .int .i64 qm, .string qd] 73 w3.heap.size rfl
            go_wp2_with (at_builtin; refine wpList_append_own _ rfl _ _ 30 rfl W1.heap.size 73 i0 (.agg #[.string ⟨#[]⟩, .int .i64 0, .string ⟨#[]⟩]) 3 40 Tryz.underlying30 hi hz0 hz1 hz2 rfl (by decide) _ _ _ rfl own44 ⟨w3.heap.size, 0, none⟩ 1 1 [.string q, .int .i64 qm, .string qd] rfl rfl news4 (by simp [Value.oneCell']) (by unfold maxLen; (have := HL.out; rw [List.length_append, List.length_singleton]; simp at this; omega)) (by (have := HL.out; rw [List.length_append, List.length_singleton]; simp at this; omega)) (by simp; omega) ?_; intro v4 w4 ow4 hg4 _)
            have hb4 : Below W1.heap.size W1 w4 := (hb3.alloc hsz4 _).grown hg4 (by simp; omega) (fun k hk => (hown3.out.lt k hk).1)
            have hown4 : Hid (w4.ownsRow W1.heap.size 73 3 v4 ((acc ++ [(p, pm, pd)]) ++ [(q, qm, qd)]).length (((acc ++ [(p, pm, pd)]) ++ [(q, qm, qd)]).flatMap cF)) := Lib.hid (by rw [flat_snoc, List.length_append]; exact ow4)
            clear news4 own44 hg4 ow4
            go_wp2
            go_roundw
            case rel => exact ⟨i + 1, acc ++ [(p, pm, pd)] ++ [(q, qm, qd)], true, by omega, rfl, by go_num, FA, hown4, hb4⟩
            case measure => simp [intOf]; omega
      | true =>
        have FA := Lib.hid (putF_past hp.out HQ.out)
        have hne : ¬ q.toList = p.toList := fun e => FA.out.1 (tl_eq e)
        have hneb : (q.toList == p.toList) = false := by simpa using hne
        clear hlc
        obtain ⟨x0, x1, x2⟩ := ZZ.out _ hb
        obtain ⟨y0, y1, y2⟩ := YY.out _ hb
        go_wp2_with fail
        go_quiet (fail)
        obtain ⟨w1, hw1⟩ : ∃ w1, w1 = wr.drewN nq := ⟨_, rfl⟩
        have hb1 : Below W1.heap.size W1 w1 := by rw [hw1]; exact below_drewN hb nq
        have hown1 : Hid (w1.ownsRow W1.heap.size 73 3 u5 acc.length (acc.flatMap cF)) := by rw [hw1]; exact hown
        rw [← hw1]
        clear hw1
        obtain ⟨x0, x1, x2⟩ := ZZ.out _ hb1
        obtain ⟨y0, y1, y2⟩ := YY.out _ hb1
        clear hown
        go_wp2_with fail
        go_quiet (fail)
        obtain ⟨w2, hw2⟩ : ∃ w2, w2 = w1.drewN nq := ⟨_, rfl⟩
        have hb2 : Below W1.heap.size W1 w2 := by rw [hw2]; exact below_drewN hb1 nq
        have hown2 : Hid (w2.ownsRow W1.heap.size 73 3 u5 acc.length (acc.flatMap cF)) := by rw [hw2]; exact hown1
        rw [← hw2]
        clear hw2
        clear x0 x1 x2 y0 y1 y2
        obtain ⟨x0, x1, x2⟩ := ZZ.out _ hb2
        obtain ⟨y0, y1, y2⟩ := YY.out _ hb2
        have hsz3 := hb2.size
        have own43 := hown2.out.alloc (.cells #[.string q, .int .i64 qm, .string qd] 73)
        have news3 := news_one w2 #[.string q, .int .i64 qm, .string qd] 73 w2.heap.size rfl
        go_wp2_with (at_builtin; refine wpList_append_own _ rfl _ _ 30 rfl W1.heap.size 73 i0 (.agg #[.string ⟨#[]⟩, .int .i64 0, .string ⟨#[]⟩]) 3 40 Tryz.underlying30 hi hz0 hz1 hz2 rfl (by decide) _ _ _ rfl own43 ⟨w2.heap.size, 0, none⟩ 1 1 [.string q, .int .i64 qm, .string qd] rfl rfl news3 (by simp [Value.oneCell']) (by unfold maxLen; (have := HL.out; simp at this; omega)) (by (have := HL.out; simp at this; omega)) (by simp; omega) ?_; intro v3 w3 ow3 hg3 _)
        have hb3 : Below W1.heap.size W1 w3 := (hb2.alloc hsz3 _).grown hg3 (by simp; omega) (fun k hk => (hown2.out.lt k hk).1)
        have hown3 : Hid (w3.ownsRow W1.heap.size 73 3 v3 (acc ++ [(q, qm, qd)]).length ((acc ++ [(q, qm, qd)]).flatMap cF)) := Lib.hid (by rw [flat_snoc, List.length_append]; exact ow3)
        clear news3 own43 hg3 ow3
        go_wp2
        go_roundw
        case rel => exact ⟨i + 1, acc ++ [(q, qm, qd)], true, by omega, rfl, by go_num, Lib.hid FA.out.2, hown3, hb3⟩
        case measure => simp [intOf]; omega
    · obtain rfl : i = ps.length := by omega
      have HE := Lib.hid (putF_end hp.out)
      cases b with
      | true =>
        have HE2 : Hid (putF ps (p, pm, pd) = acc) := Lib.hid HE.out
        go_wp2
        go_ret
        exact ⟨_, rfl, by rw [HE2.out]; exact own_base hown.out HB1.out.size, HB1.out.trans (hb.mono HB1.out.size)⟩
      | false =>
        have HE2 : Hid (putF ps (p, pm, pd) = acc ++ [(p, pm, pd)]) := Lib.hid HE.out
        obtain ⟨y0, y1, y2⟩ := YY.out _ hb
        have hsz3 := hb.size
        have own43 := hown.out.alloc (.cells #[.string p, .int .i64 pm, .string pd] 73)
        have news3 := news_one wr #[.string p, .int .i64 pm, .string pd] 73 wr.heap.size rfl
        go_wp2_with (at_builtin; refine wpList_append_own _ rfl _ _ 30 rfl W1.heap.size 73 i0 (.agg #[.string ⟨#[]⟩, .int .i64 0, .string ⟨#[]⟩]) 3 40 Tryz.underlying30 hi hz0 hz1 hz2 rfl (by decide) _ _ _ rfl own43 ⟨wr.heap.size, 0, none⟩ 1 1 [.string p, .int .i64 pm, .string pd] rfl rfl news3 (by simp [Value.oneCell']) (by unfold maxLen; (have := HL.out; simp at this; omega)) (by (have := HL.out; simp at this; omega)) (by simp; omega) ?_; intro v3 w3 ow3 hg3 _)
        have hb3 : Below W1.heap.size W1 w3 := (hb.alloc hsz3 _).grown hg3 (by simp; omega) (fun k hk => (hown.out.lt k hk).1)
        have hown3 : Hid (w3.ownsRow W1.heap.size 73 3 v3 (acc ++ [(p, pm, pd)]).length ((acc ++ [(p, pm, pd)]).flatMap cF)) := Lib.hid (by rw [flat_snoc, List.length_append]; exact ow3)
        clear news3 own43 hg3 ow3
        go_wp2
        go_ret
        exact ⟨_, rfl, by rw [HE2.out]; exact own_base hown3.out HB1.out.size, HB1.out.trans (hb3.mono HB1.out.size)⟩
end Go.Proofs.YtdmmjfmjohliiaaGreatDoor
namespace Go.Proofs.YtdmmjfmjohliiaaGreatDoor
open Go Go.RowKit

theorem chk_stages {l : List En} (h : chkE l = none) : StagesOk l := fun e he => by
  obtain ⟨i, hi, rfl⟩ := List.getElem_of_mem he
  have h0 := chkE_at h (List.getElem?_eq_getElem hi)
  have ho : ownE l[i] = 0 := by
    by_cases h1 : ownE l[i] = 0
    · exact h1
    · rw [wrE_own h1] at h0; exact h0
  have hb : badE l[i] = false := by
    cases hb : badE l[i] with
    | false => rfl
    | true =>
      unfold ownE at ho
      rw [hb] at ho
      by_cases hc : chk l[i].1.data.toList = 0
      · rw [hc] at ho; simp at ho
      · rw [if_pos hc] at ho; exact absurd ho hc
  unfold badE at hb
  simp only [Bool.or_eq_false_iff, decide_eq_false_iff_not] at hb
  have h1 := hb.1
  have h2 := hb.2.1
  omega
set_option maxHeartbeats 2000000 in
theorem refOf_any (w : World) (v : Value) (l : List Fl) (h : Reads 3 cF w v l) (hl : l.length ≤ 100000) :
    Calls Tryz.prog 69 #[v] w (OwnTo 74 6 cE (l.map toE) w) := by
  obtain ⟨A, c, rfl⟩ := h.form
  have hn := h.len
  have hnm : l.length ≤ 9223372036854775807 := by omega
  have HO := Lib.hid h
  obtain ⟨i0, hi, hz0, hz1, hz2⟩ := info_parts refEntryInfo
  clear h hn
  go_enter Tryz.func69, Tryz.ntmps69
  go_wp2
  go_loopw [3, 4] (fun s3 s4 wr => ∃ i : Nat, i ≤ l.length ∧ s4 = .int .i64 i ∧ Hid (wr.ownsRow w.heap.size 74 6 s3 i (((l.take i).map toE).flatMap cE)) ∧ Below w.heap.size w wr) (fun _ s4 _ => l.length - (intOf s4).toNat)
  case atStart => exact ⟨0, Nat.zero_le _, rfl, Lib.hid (World.ownsRow_nil _ _ _ _), Below.refl _ _⟩
  case round =>
    obtain ⟨i, hil, rfl, hown, hb⟩ := hrel
    by_cases hlt : i < l.length
    · obtain ⟨f, hf⟩ : ∃ f, l[i]? = some f := ⟨_, List.getElem?_eq_getElem hlt⟩
      obtain ⟨ad, rfl, c0, c1, c2⟩ := Fils.at_ HO.out hf
      obtain ⟨p, m, d⟩ := f
      have HF := Lib.hid hf
      have ZZ := Lib.hid fun W (hW : Below w.heap.size w W) => (⟨(hW.cell (World.block_lt_of_cell? _ _ c0)).trans c0, (hW.cell (World.block_lt_of_cell? _ _ c1)).trans c1, (hW.cell (World.block_lt_of_cell? _ _ c2)).trans c2⟩ : FilCells ad i p m d W)
      unfold FilCells at ZZ
      have z0 := ZZ.out _ hb.drew
      have i0' : (0 : Int) ≤ (i : Int) := Int.natCast_nonneg _
      have hi1 : (i : Int) < (l.length : Int) := by omega
      have hsz := hb.size
      clear hf c0 c1 c2
      go_wp2
      go_region_held3 (fun w' => w'.cell? (ad.add (i * 3)) = some (.string p) ∧ w'.cell? ⟨(ad.add (i * 3)).block, (ad.add (i * 3)).off + 1, none⟩ = some (.int .i64 m) ∧ w'.cell? ⟨(ad.add (i * 3)).block, (ad.add (i * 3)).off + 2, none⟩ = some (.string d))
        (first | exact z0 | exact ZZ.out _ (hb.drew.alloc hsz _) | exact z5)
        ((refine step_append_lies _ (by rfl) _ _ 32 (by rfl) w.heap.size 74 i0 (.agg #[.string ⟨#[]⟩, .int .i64 0, .int .i64 0, .string ⟨#[]⟩, .int .i64 0, .int .i64 0]) 6 64 Tryz.underlying32 hi hz0 hz1 hz2 rfl (by omega) _ i _ (by rfl) (hown.out.drew.alloc _)
            ⟨wr.heap.size, 0, none⟩ 1 1 [.string p, .int .i64 0, .int .i64 m, .string d, .int .i64 0, .int .i64 0] (by rfl) (by rfl) (World.news_of_block (cs := #[.string p, .int .i64 0, .int .i64 m, .string d, .int .i64 0, .int .i64 0]) (t := 74) (fr := (0, 0)) (heap_alloc_new wr.drew _)) (by simp [Value.oneCell'])
            (by omega) (by unfold maxLen; omega) (by omega) (by simp; omega) (wr.heap.size + 1) (by simp) ?_; intro gg cap w5 hown5 hg5 hat hlt5; have hb5 := (hb.drew.alloc hsz (.cells #[.string p, .int .i64 0, .int .i64 m, .string d, .int .i64 0, .int .i64 0] 74)).grown hg5 (by simp; omega) (fun k hk => (hown.out.lt k hk).1); have z5 := ZZ.out _ hb5))
      go_wp2
      go_roundw
      case rel => exact ⟨i + 1, by omega, by go_num, Lib.hid (by rw [take_snoc HF.out, List.map_append, List.map_cons, List.map_nil, flat_snoc]; exact hown5), hb5⟩
      case measure => simp [intOf]; omega
    · obtain rfl : i = l.length := by omega
      have HL : Hid (((l.take l.length).map toE).flatMap cE = (l.map toE).flatMap cE) := Lib.hid (by rw [List.take_length])
      go_wp2
      go_ret
      exact ⟨_, rfl, by rw [← HL.out, List.length_map]; exact hown.out, hb⟩

theorem track_mem {h : List Fl} {ix : List En} {p : ByteArray} : p ∈ trackP h ix ↔ p ∈ h.map (·.1) ∨ p ∈ ix.map (·.1) := by
  unfold trackP
  rw [nrm_mem, List.mem_append, nrm_mem]
theorem cutA_snoc {ps : List ByteArray} {i : Nat} {p : ByteArray} (w : List Fl) (h : ps[i]? = some p) : cutA (ps.take (i + 1)) w = cutF (cutA (ps.take i) w) p := by
  unfold cutA
  rw [take_snoc h, List.foldl_append]; rfl
theorem clrA_snoc {l : List Fl} {i : Nat} {x : Fl} (w : List Fl) (h : l[i]? = some x) : (l.take (i + 1)).foldl clrPut w = clrPut ((l.take i).foldl clrPut w) x := by
  rw [take_snoc h, List.foldl_append]; rfl
theorem clrPut_sized {l : List Fl} {f : Fl} (h : Sized l) (hf : f.1.size ≤ 1000000) : Sized (clrPut l f) := putF_sized (clearF_sized h _) hf
/-- What the document's Force tells. -/
def RForceTo (h t : List Fl) (ix : List En) (wk : List Fl) (w : World) (e : Ending) (w' : World) : Prop :=
  ∃ u1 u2 : Value, e = .returned (.tuple #[u1, u2]) ∧ Reads 6 cE w' u1 (t.map toE) ∧ Reads 3 cF w' u2 (forceV h t ix wk) ∧ Below w.heap.size w w'

set_option maxRecDepth 100000 in
set_option maxHeartbeats 8000000 in
theorem refForce_any (w : World) (v t ixv wv : Value) (h tl wk : List Fl) (ix : List En)
    (hv : Reads 3 cF w v h) (tv : Reads 3 cF w t tl) (iv : Reads 6 cE w ixv ix) (kv : Reads 3 cF w wv wk) (rk : RiseF wk) (rt : RiseF tl) (at_ : ApartF tl) (si : StagesOk ix)
    (lh : h.length ≤ 80) (lt : tl.length ≤ 80) (li : ix.length ≤ 80) (lk : wk.length ≤ 80) (sk : Sized wk) (st : Sized tl) :
    Calls Tryz.prog 25 #[v, t, ixv, wv] w (RForceTo h tl ix wk w) := by
  have TR := Lib.hid (refTrack_any w v ixv h ix hv iv (by omega) (by omega) si)
  have OF := Lib.hid fun W (hW : Below w.heap.size w W) => refOf_any W t tl (tv.below hW) (by omega)
  have TV := Lib.hid tv
  have KV := Lib.hid kv
  have RK := Lib.hid rk
  have SK := Lib.hid sk
  have ST := Lib.hid st
  have HF := Lib.hid (show tl.foldl clrPut (cutA (trackP h ix) wk) = forceV h tl ix wk from force_ref rk rt at_ fun p => track_mem)
  have HPL := Lib.hid (show (trackP h ix).length ≤ 160 by
    unfold trackP
    refine Nat.le_trans (nrm_len _) ?_
    rw [List.length_append, List.length_map]
    have := nrm_len (h.map fun x => x.1)
    rw [List.length_map] at this
    omega)
  obtain ⟨ps, hps⟩ : ∃ ps, ps = trackP h ix := ⟨_, rfl⟩
  rw [← hps] at TR HF HPL
  have lps : ps.length ≤ 160 := HPL.out
  obtain ⟨Ai, ci, rfl⟩ := iv.form
  obtain ⟨Ak, ck, rfl⟩ := kv.form
  obtain ⟨Ah, ch, rfl⟩ := hv.form
  obtain ⟨At, ct, rfl⟩ := tv.form
  clear hv tv iv kv rk sk st rt at_ si hps HPL
  go_enter Tryz.func25, Tryz.ntmps25
  go_wp2_with fail
  refine TR.out.mono ?_
  rintro e w1 ⟨v1, rfl, o1, b1⟩
  have B1 := Lib.hid b1
  have P1 := Lib.hid (Strs.of_own o1 rfl)
  have K1 := Lib.hid (KV.out.below b1)
  obtain ⟨A1, c1, rfl⟩ := own_form o1
  clear o1 b1 TR
  go_wp2_with fail
  go_loopw [3, 11] (fun s3 s11 wr => ∃ (i : Nat) (a : List Fl), i ≤ ps.length ∧ s11 = .int .i64 i ∧ Hid (Reads 3 cF wr s3 a) ∧ Hid (a = cutA (ps.take i) wk) ∧ Hid (RiseF a) ∧ Hid (Sized a) ∧ a.length ≤ 80 ∧ Below w1.heap.size w1 wr) (fun _ s11 _ => ps.length - (intOf s11).toNat)
  case atStart => exact ⟨0, wk, Nat.zero_le _, rfl, K1, Lib.hid rfl, RK, SK, lk, Below.refl _ _⟩
  case round =>
    clear K1
    obtain ⟨i, a, hil, rfl, RA, EA, HR, HS, la, hb⟩ := hrel
    by_cases hlt : i < ps.length
    · obtain ⟨ad, p, rfl, hp, c0⟩ := strs_at P1.out hlt
      have c0' := (hb.cell (World.block_lt_of_cell? _ _ c0)).trans c0
      have EA1 := Lib.hid (show cutA (ps.take (i + 1)) wk = cutF a p by rw [EA.out]; exact cutA_snoc wk hp)
      have CU := Lib.hid (refCut_any wr _ a p RA.out (by omega))
      have HR1 := Lib.hid (cut_rise HR.out p)
      have HS1 := Lib.hid (cutF_sized HS.out p)
      have hl1 := cut_len a p
      have k0 : (0 : Int) ≤ (i : Int) := Int.natCast_nonneg _
      have k1 : (i : Int) < (ps.length : Int) := by omega
      have hcl := World.block_lt_of_cell? _ _ c0'
      have HB := Lib.hid hb
      obtain ⟨Ax, cx, rfl⟩ := RA.out.form
      clear hp c0 hb
      go_wp2_with fail
      refine CU.out.mono ?_
      rintro e w9 ⟨v9, rfl, o9, b9⟩
      have R9 := Lib.hid (Reads.of_own cF_len o9)
      have B9 := Lib.hid (HB.out.trans (b9.mono HB.out.size))
      obtain ⟨A9, c9, rfl⟩ := own_form o9
      clear o9 b9 CU
      go_wp2_with fail
      go_roundw
      case rel => exact ⟨i + 1, _, by omega, by go_num, R9, Lib.hid EA1.out.symm, HR1, HS1, by omega, B9.out⟩
      case measure => simp [intOf]; omega
    · obtain rfl : i = ps.length := by omega
      rw [List.take_length] at EA
      have HB := Lib.hid hb
      obtain ⟨Ax, cx, rfl⟩ := RA.out.form
      have RA0 := RA
      have HR0 := HR
      have HS0 := HS
      have la0 := la
      clear hb RA HR HS la
      go_wp2_with fail
      go_loopw [3, 12] (fun s3 s12 wr => ∃ (i : Nat) (z : List Fl), i ≤ tl.length ∧ s12 = .int .i64 i ∧ Hid (Reads 3 cF wr s3 z) ∧ Hid (z = (tl.take i).foldl clrPut a) ∧ Hid (RiseF z) ∧ Hid (Sized z) ∧ z.length ≤ 80 + i ∧ Below w1.heap.size w1 wr) (fun _ s12 _ => tl.length - (intOf s12).toNat)
      case atStart => exact ⟨0, a, Nat.zero_le _, rfl, RA0, Lib.hid rfl, HR0, HS0, by omega, HB.out⟩
      case round =>
        clear RA0 HR0 HS0 la0
        obtain ⟨i, z, hil, rfl, RA, EZ, HR, HS, la, hb⟩ := hrel
        by_cases hlt : i < tl.length
        · obtain ⟨f, hf⟩ : ∃ f, tl[i]? = some f := ⟨_, List.getElem?_eq_getElem hlt⟩
          have BR := Lib.hid (B1.out.trans (hb.mono B1.out.size))
          obtain ⟨ad, rfl, c0, c1, c2⟩ := Fils.at_ (TV.out.below BR.out) hf
          have EZ1 := Lib.hid (show (tl.take (i + 1)).foldl clrPut a = clrPut z f by rw [EZ.out]; exact clrA_snoc a hf)
          have hfs := ST.out f (List.mem_of_getElem? hf)
          have HR1 := Lib.hid (clrPut_rise HR.out f)
          have HS1 := Lib.hid (clrPut_sized HS.out hfs)
          have hl1 := clrPut_len z f
          have CC := Lib.hid fun W (hW : Below wr.heap.size wr W) => refClear_any W _ z f.1 (RA.out.below hW) HS.out hfs (by omega)
          have PP := Lib.hid fun W u (hu : Reads 3 cF W u (clearF z f.1)) => refPutF_any W u (clearF z f.1) f.1 f.2.1 f.2.2 hu (clear_rise HR.out f.1) (by have := clear_len z f.1; omega)
          obtain ⟨x1, x2, x3⟩ := f
          simp only at c0 c1 c2 CC PP
          have ZZ := Lib.hid (show ∀ W, Below wr.heap.size wr W → (W.cell? (ad.add (i * 3)) = some (.string x1) ∧ W.cell? ⟨(ad.add (i * 3)).block, (ad.add (i * 3)).off + 1, none⟩ = some (.int .i64 x2) ∧ W.cell? ⟨(ad.add (i * 3)).block, (ad.add (i * 3)).off + 2, none⟩ = some (.string x3)) from fun W hW =>
            ⟨(hW.cell (World.block_lt_of_cell? _ _ c0)).trans c0, (hW.cell (World.block_lt_of_cell? _ _ c1)).trans c1, (hW.cell (World.block_lt_of_cell? _ _ c2)).trans c2⟩)
          have z0 := ZZ.out wr (Below.refl _ _)
          have d0 : Below wr.heap.size wr wr.drew := (Below.refl _ _).drew
          have k0 : (0 : Int) ≤ (i : Int) := Int.natCast_nonneg _
          have k1 : (i : Int) < (tl.length : Int) := by omega
          have hcl := World.block_lt_of_cell? _ _ c0
          have HB2 := Lib.hid hb
          obtain ⟨Ax, cx, rfl⟩ := RA.out.form
          clear hf c0 c1 c2 hb hfs
          go_upto_region 9 with fail
          go_region_held3 (fun w' => w'.cell? (ad.add (i * 3)) = some (.string x1) ∧ w'.cell? ⟨(ad.add (i * 3)).block, (ad.add (i * 3)).off + 1, none⟩ = some (.int .i64 x2) ∧ w'.cell? ⟨(ad.add (i * 3)).block, (ad.add (i * 3)).off + 2, none⟩ = some (.string x3)) (first | exact z0 | exact z7 | exact z5)
            (first
              | (go_at_call 46; refine (PP.out _ _ r5).mono ?_; rintro e w7 ⟨v7, rfl, o7, b7⟩; have b8 := Below.trans b6 (Below.mono b7 (Below.size b6)); have z7 := ZZ.out _ b8; have r7 := Reads.of_own cF_len o7)
              | (go_at_call 68; refine (CC.out _ d0).mono ?_; rintro e w5 ⟨v5, rfl, o5, b5⟩; have b6 := Below.trans d0 (Below.mono b5 (Below.size d0)); have z5 := ZZ.out _ b6; have r5 := Reads.of_own cF_len o5))
          have R9 := Lib.hid r7
          have B9 := Lib.hid (HB2.out.trans (b8.mono HB2.out.size))
          obtain ⟨A9, c9, rfl⟩ := own_form o7
          clear o7 b7 b8 b6 b5 o5 r5 r7 z0 z5 z7 d0 PP CC
          go_wp2_with fail
          go_roundw
          case rel => exact ⟨i + 1, _, by omega, by go_num, R9, Lib.hid EZ1.out.symm, HR1, HS1, by have : (putF (clearF z x1) (x1, x2, x3)).length ≤ z.length + 1 := hl1; omega, B9.out⟩
          case measure => simp [intOf]; omega
        · obtain rfl : i = tl.length := by omega
          rw [List.take_length] at EZ
          have EF : Hid (z = forceV h tl ix wk) := Lib.hid (by rw [EZ.out, EA.out, HF.out])
          have BZ := Lib.hid (B1.out.trans (hb.mono B1.out.size))
          have OF2 := Lib.hid (OF.out wr BZ.out)
          obtain ⟨Ax, cx, rfl⟩ := RA.out.form
          clear hb OF
          go_wp2_with fail
          refine OF2.out.mono ?_
          rintro e w9 ⟨v9, rfl, o9, b9⟩
          have R9 := Lib.hid (Reads.of_own cE_len o9)
          have Q9 := Lib.hid (RA.out.below b9)
          have B9 := Lib.hid (BZ.out.trans (b9.mono BZ.out.size))
          clear o9 b9 OF2
          go_wp2_with fail
          go_ret2
          exact ⟨_, _, rfl, R9.out, by rw [← EF.out]; exact Q9.out, B9.out⟩
end Go.Proofs.YtdmmjfmjohliiaaGreatDoor
namespace Go.Proofs.YtdmmjfmjohliiaaGreatDoor
open Go.RowKit

set_option maxHeartbeats 4000000 in
theorem refSame_any (w : World) (v u : Value) (a b : List Fl) (h : Reads 3 cF w v a) (g : Reads 3 cF w u b) :
    Calls Tryz.prog 19 #[v, u] w (BoolTo (decide (a = b)) w) := by
  obtain ⟨A, c, rfl⟩ := h.form
  obtain ⟨B, d, rfl⟩ := g.form
  have hn := h.len
  have gn := g.len
  have hm1 : a.length ≤ 9223372036854775807 := by have := hn.2; unfold maxLen at this; omega
  have hm2 : b.length ≤ 9223372036854775807 := by have := gn.2; unfold maxLen at this; omega
  have HA := Lib.hid h
  have HB := Lib.hid g
  clear h g hn gn
  by_cases hnm : a.length = b.length
  · have hi0 : ((a.length : Int) != (b.length : Int)) = false := by simp [hnm]
    have HN := Lib.hid hnm
    clear hnm
    go_enter Tryz.func19, Tryz.ntmps19
    go_wp2
    go_loopw [5] (fun s5 wr => ∃ k q : Nat, k ≤ a.length ∧ s5 = .int .i64 k ∧ Hid (∀ i, i < k → a[i]? = b[i]?) ∧ wr = w.drewN q) (fun s5 _ => a.length - (intOf s5).toNat)
    case atStart => exact ⟨0, 0, Nat.zero_le _, rfl, Lib.hid (fun i hi => absurd hi (Nat.not_lt_zero _)), rfl⟩
    case round =>
      obtain ⟨k, q, hk, rfl, hp, rfl⟩ := hrel
      by_cases hlt : k < a.length
      · obtain ⟨x, hx⟩ : ∃ x, a[k]? = some x := ⟨_, List.getElem?_eq_getElem hlt⟩
        obtain ⟨y, hy⟩ : ∃ y, b[k]? = some y := ⟨_, List.getElem?_eq_getElem (by rw [← HN.out]; exact hlt)⟩
        obtain ⟨ad, rfl, c0, c1, c2⟩ := Fils.at_ HA.out hx
        obtain ⟨ad2, rfl, d0, d1, d2⟩ := Fils.at_ HB.out hy
        have HX := Lib.hid hx
        have HY := Lib.hid hy
        have k0 : (0 : Int) ≤ (k : Int) := Int.natCast_nonneg _
        have k1 : (k : Int) < (a.length : Int) := by omega
        have k2 : (k : Int) < (b.length : Int) := by have := HN.out; omega
        have HNE := Lib.hid (show x ≠ y → decide (a = b) = false from fun hne => decide_eq_false fun e => by
          rw [e, hy] at hx
          exact hne (Option.some.inj hx).symm)
        clear hx hy
        by_cases hxy : x = y
        · subst hxy
          obtain ⟨p, m, s⟩ := x
          go_wp2_with fail
          go_quiet (fail)
          go_wp2
          go_roundw
          case rel => exact ⟨k + 1, _, by omega, by go_num, Lib.hid (fun i hi => by
            rcases Nat.lt_or_ge i k with h1 | h1
            · exact hp.out i h1
            · obtain rfl : i = k := by omega
              rw [HX.out, HY.out]), rfl⟩
          case measure => simp [intOf]; omega
        · have HC := Lib.hid (HNE.out hxy)
          obtain ⟨p, m, s⟩ := x
          obtain ⟨p', m', s'⟩ := y
          by_cases h1 : p = p'
          · subst h1
            by_cases h2 : m = m'
            · subst h2
              have h3 : ¬ s = s' := fun e => hxy (by rw [e])
              have e3 : ¬ s.toList = s'.toList := fun e => h3 (tl_eq e)
              have e3' : (s.toList == s'.toList) = false := by simpa using e3
              clear h3 hxy
              go_wp2_with fail
              go_quiet (fail)
              go_wp2
              go_ret
              exact ⟨by rw [HC.out]; rfl, _, drewN_two _ _ _⟩
            · have e2 : (m == m') = false := by simpa using h2
              clear hxy
              go_wp2_with fail
              go_quiet (fail)
              go_wp2
              go_ret
              exact ⟨by rw [HC.out]; rfl, _, drewN_two _ _ _⟩
          · have e1 : ¬ p.toList = p'.toList := fun e => h1 (tl_eq e)
            have e1' : (p.toList == p'.toList) = false := by simpa using e1
            clear hxy h1
            go_wp2_with fail
            go_quiet (fail)
            go_wp2
            go_ret
            exact ⟨by rw [HC.out]; rfl, _, drewN_two _ _ _⟩
      · obtain rfl : k = a.length := by omega
        have HC : Hid (decide (a = b) = true) := Lib.hid (decide_eq_true (prefix_all hp.out rfl HN.out.symm))
        go_wp2
        go_ret
        exact ⟨by rw [HC.out]; rfl, _, rfl⟩
  · have hi0 : ((a.length : Int) != (b.length : Int)) = true := by simp; omega
    have HC : Hid (decide (a = b) = false) := Lib.hid (decide_eq_false fun e => hnm (by rw [e]))
    clear hnm
    go_enter Tryz.func19, Tryz.ntmps19
    go_wp2
    go_ret
    exact ⟨by rw [HC.out]; rfl, 0, rfl⟩
end Go.Proofs.YtdmmjfmjohliiaaGreatDoor
namespace Go.Proofs.YtdmmjfmjohliiaaGreatDoor
open Go Go.RowKit

theorem cutA_len : ∀ (ps : List ByteArray) (w : List Fl), (cutA ps w).length ≤ w.length
  | [], _ => Nat.le_refl _
  | p :: ps, w => Nat.le_trans (cutA_len ps (cutF w p)) (cut_len w p)
theorem clearA_len : ∀ (ps : List ByteArray) (w : List Fl), (clearA ps w).length ≤ w.length
  | [], _ => Nat.le_refl _
  | p :: ps, w => Nat.le_trans (clearA_len ps (clearF w p)) (clear_len w p)
theorem putA_len : ∀ (t w : List Fl), (putA t w).length ≤ w.length + t.length
  | [], _ => Nat.le_refl _
  | f :: t, w => by
    have h1 := putA_len t (putF w f)
    have h2 := put_len w f
    show (putA t (putF w f)).length ≤ _
    simp only [List.length_cons]; omega
theorem forceV_len (h t : List Fl) (ix : List En) (w : List Fl) : (forceV h t ix w).length ≤ w.length + t.length := by
  unfold forceV
  refine Nat.le_trans (putA_len _ _) ?_
  have a := clearA_len (t.map (·.1)) (cutA (ix.map (·.1)) (cutA (h.map (·.1)) w))
  have b := cutA_len (ix.map (·.1)) (cutA (h.map (·.1)) w)
  have c := cutA_len (h.map (·.1)) w
  omega
theorem forceV_rise {h t w : List Fl} {ix : List En} (ht : RiseF t) (hw : RiseF w) : RiseF (forceV h t ix w) := by
  unfold forceV
  exact (putA_get t _ ht (clearA_rise _ _ (cutA_get _ _ (cutA_get _ _ hw).1).1)).1

set_option maxRecDepth 100000 in
set_option maxHeartbeats 8000000 in
theorem forces_walk (w : World) (v t ixv wv : Value) (h tl : List Fl) (ix : List En) (wk : List Fl)
    (hv : Reads 3 cF w v h) (tv : Reads 3 cF w t tl) (iv : Reads 6 cE w ixv ix) (kv : Reads 3 cF w wv wk) :
    Calls Tryz.prog 5 #[v, t, ixv, wv] w (YesTo w) := by
  have KN := Lib.hid (known20_yes w)
  have HV := Lib.hid hv
  have TV := Lib.hid tv
  have IV := Lib.hid iv
  have KV := Lib.hid kv
  obtain ⟨Ai, ci, rfl⟩ := iv.form
  obtain ⟨Ak, ck, rfl⟩ := kv.form
  obtain ⟨Ah, ch, rfl⟩ := hv.form
  obtain ⟨At, ct, rfl⟩ := tv.form
  clear hv tv iv kv
  go_enter Tryz.func5, Tryz.ntmps5
  go_wp2_with fail
  refine KN.out.mono ?_
  rintro e w1 ⟨rfl, b1⟩
  have B1 := Lib.hid b1
  have FW := Lib.hid (few20_any w1 _ _ (.slice none 0 0) (.slice none 0 0) _ _ h tl wk [] [] ix (HV.out.below b1) (TV.out.below b1) (ents_none _) (strs_none _) (IV.out.below b1) (KV.out.below b1))
  clear b1 KN
  go_wp2_with fail
  refine FW.out.mono ?_
  rintro e w2 ⟨b, rfl, hb, b2⟩
  have HB := Lib.hid hb
  have B2 := Lib.hid (B1.out.trans (b2.mono B1.out.size))
  clear hb b2 FW B1
  cases b with
  | false =>
    go_wp2_with fail
    go_ret
    exact ⟨rfl, B2.out⟩
  | true =>
  have H := Lib.hid (HB.out rfl)
  clear HB
  obtain ⟨s1, s2, _, _, s4, s5, k1, k2, k3, k4, _, _⟩ := H.out
  have FO := Lib.hid (force_any w2 _ _ _ _ h tl wk ix (HV.out.below B2.out) (TV.out.below B2.out) (IV.out.below B2.out) (KV.out.below B2.out) (chkF_rise k4) s1.1 s2.1 s4.1 s5.1 s5.sized s2.sized)
  have RF := Lib.hid fun W a b c d (ha : Reads 3 cF W a h) (hb : Reads 3 cF W b tl) (hc : Reads 6 cE W c ix) (hd : Reads 3 cF W d wk) => refForce_any W a b c d h tl wk ix ha hb hc hd (chkF_rise k4) (chkF_rise k2) (chkF_apart k2) (chk_stages k3) s1.1 s2.1 s4.1 s5.1 s5.sized s2.sized
  obtain ⟨U, hU⟩ : ∃ U, U = forceV h tl ix wk := ⟨_, rfl⟩
  have RU := Lib.hid (show RiseF U by rw [hU]; exact forceV_rise (chkF_rise k2) (chkF_rise k4))
  have HH := Lib.hid (show ∀ f ∈ tl, getF U f.1 = some f from fun f hf => by rw [hU]; exact force_has (chkF_rise k2) (chkF_rise k4) hf)
  have lh80 : h.length ≤ 80 := s1.1
  have lt80 : tl.length ≤ 80 := s2.1
  have li80 : ix.length ≤ 80 := s4.1
  have lk80 : wk.length ≤ 80 := s5.1
  have lU : U.length ≤ 160 := by rw [hU]; have := forceV_len h tl ix wk; omega
  unfold ForceTo at FO
  unfold RForceTo at RF
  rw [← hU] at FO RF
  clear s1 s2 s4 s5 k1 k2 k3 k4 H hU
  go_wp2_with fail
  refine FO.out.mono ?_
  rintro e w3 ⟨u1, u2, rfl, r1, r2, b3⟩
  have B3 := Lib.hid (B2.out.trans (b3.mono B2.out.size))
  have R1 := Lib.hid r1
  have R2 := Lib.hid r2
  have O1 := Lib.hid (lawOf_any w3 _ h (HV.out.below B3.out) (by omega))
  obtain ⟨X1, y1, hlen⟩ := r1.form
  rw [List.length_map] at hlen
  subst hlen
  obtain ⟨X2, y2, rfl⟩ := r2.form
  clear r1 r2 b3 FO B2
  go_wp2_with fail
  refine O1.out.mono ?_
  rintro e w4 ⟨v4, rfl, o4, b4⟩
  have B4 := Lib.hid (B3.out.trans (b4.mono B3.out.size))
  have D4 := Lib.hid b4
  have P4 := Lib.hid (Reads.of_own cF_len o4)
  have O2 := Lib.hid (lawOf_any w4 _ tl (TV.out.below B4.out) (by omega))
  obtain ⟨A4, c4, rfl⟩ := own_form o4
  clear o4 b4 O1
  go_wp2_with fail
  refine O2.out.mono ?_
  rintro e w5 ⟨v5, rfl, o5, b5⟩
  have B5 := Lib.hid (B4.out.trans (b5.mono B4.out.size))
  have D5 := Lib.hid (D4.out.trans (b5.mono D4.out.size))
  have P5 := Lib.hid (P4.out.below b5)
  have Q5 := Lib.hid (Reads.of_own cF_len o5)
  have O3 := Lib.hid (ofE_any w5 _ ix (IV.out.below B5.out) (by omega))
  obtain ⟨A5, c5, rfl⟩ := own_form o5
  clear o5 b5 O2 P4 D4 B4
  go_wp2_with fail
  refine O3.out.mono ?_
  rintro e w6 ⟨v6, rfl, o6, b6⟩
  have B6 := Lib.hid (B5.out.trans (b6.mono B5.out.size))
  have D6 := Lib.hid (D5.out.trans (b6.mono D5.out.size))
  have P6 := Lib.hid (P5.out.below b6)
  have Q6 := Lib.hid (Q5.out.below b6)
  have Z6 := Lib.hid (Reads.of_own cE_len o6)
  have O4 := Lib.hid (lawOf_any w6 _ wk (KV.out.below B6.out) (by omega))
  obtain ⟨A6, c6, rfl⟩ := own_form o6
  clear o6 b6 O3 P5 Q5 D5 B5
  go_wp2_with fail
  refine O4.out.mono ?_
  rintro e w7 ⟨v7, rfl, o7, b7⟩
  have B7 := Lib.hid (B6.out.trans (b7.mono B6.out.size))
  have D7 := Lib.hid (D6.out.trans (b7.mono D6.out.size))
  have F7 := Lib.hid (RF.out w7 _ _ _ _ (P6.out.below b7) (Q6.out.below b7) (Z6.out.below b7) (Reads.of_own cF_len o7))
  obtain ⟨A7, c7, rfl⟩ := own_form o7
  clear o7 b7 O4 P6 Q6 Z6 D6 B6 RF
  go_wp2_with fail
  refine F7.out.mono ?_
  rintro e w8 ⟨u3, u4, rfl, r3, r4, b8⟩
  have B8 := Lib.hid (B7.out.trans (b8.mono B7.out.size))
  have D8 := Lib.hid (D7.out.trans (b8.mono D7.out.size))
  have J8 := Lib.hid (R1.out.below D8.out)
  have U8 := Lib.hid (R2.out.below D8.out)
  have T8 := Lib.hid r4
  have A8 := Lib.hid (allE_any w8 _ u3 (tl.map toE) (tl.map toE) J8.out r3 (by rw [List.length_map]; omega))
  rw [decide_eq_true (rfl : tl.map toE = tl.map toE)] at A8
  obtain ⟨X3, y3, hlen⟩ := r3.form
  rw [List.length_map] at hlen
  subst hlen
  obtain ⟨X4, y4, rfl⟩ := r4.form
  clear r3 r4 b8 F7 B7 D7 D8 R1 R2
  go_wp2_with fail
  refine A8.out.mono ?_
  rintro e w9 ⟨rfl, b9⟩
  have B9 := Lib.hid (B8.out.trans (b9.mono B8.out.size))
  have J9 := Lib.hid (J8.out.below b9)
  have U9 := Lib.hid (U8.out.below b9)
  have T9 := Lib.hid (T8.out.below b9)
  have O5 := Lib.hid (lawOf_any w9 _ U U9.out (by omega))
  clear b9 A8 J8 U8 T8 B8
  go_wp2_with fail
  refine O5.out.mono ?_
  rintro e w10 ⟨v10, rfl, o10, b10⟩
  have B10 := Lib.hid (B9.out.trans (b10.mono B9.out.size))
  have J10 := Lib.hid (J9.out.below b10)
  have U10 := Lib.hid (U9.out.below b10)
  have SM := Lib.hid (refSame_any w10 v10 _ U U (Reads.of_own cF_len o10) (T9.out.below b10))
  rw [decide_eq_true (rfl : U = U)] at SM
  obtain ⟨A10, c10, rfl⟩ := own_form o10
  clear o10 b10 O5 J9 U9 T9 B9
  go_wp2_with fail
  refine SM.out.mono ?_
  rintro e w11' ⟨rfl, q, rfl⟩
  obtain ⟨w5', hw5⟩ : ∃ x, x = w10.drewN q := ⟨_, rfl⟩
  have B11 := Lib.hid (show Below w.heap.size w w5' by rw [hw5]; exact below_drewN B10.out q)
  have J11 := Lib.hid (show Reads 6 cE w5' _ _ by rw [hw5]; exact J10.out)
  have U11 := Lib.hid (show Reads 3 cF w5' _ _ by rw [hw5]; exact U10.out)
  rw [← hw5]
  clear hw5 SM J10 U10 B10
  go_wp2_with fail
  go_loopw [13, 14, 15] (fun s13 _ _ wr => ∃ i : Nat, i ≤ tl.length ∧ s13 = .int .i64 i ∧ Below w5'.heap.size w5' wr) (fun s13 _ _ _ => tl.length - (intOf s13).toNat)
  case atStart => exact ⟨0, Nat.zero_le _, rfl, Below.refl _ _⟩
  case round =>
    obtain ⟨i, hil, rfl, hb⟩ := hrel
    by_cases hlt : i < tl.length
    · obtain ⟨f, hf⟩ : ∃ f, tl[i]? = some f := ⟨_, List.getElem?_eq_getElem hlt⟩
      have BR := Lib.hid (B11.out.trans (hb.mono B11.out.size))
      obtain ⟨ad, rfl, c0, c1, c2⟩ := Fils.at_ (TV.out.below BR.out) hf
      have KGf := Lib.hid (HH.out f (List.mem_of_getElem? hf))
      obtain ⟨x1, x2, x3⟩ := f
      simp only at c0 c1 c2 KGf
      have GT := Lib.hid (get_any wr _ U x1 (U11.out.below hb) RU.out (by omega))
      have C3 := Lib.hid (show ∀ W, Below wr.heap.size wr W → (W.cell? (ad.add (i * 3)) = some (.string x1) ∧ W.cell? ⟨(ad.add (i * 3)).block, (ad.add (i * 3)).off + 1, none⟩ = some (.int .i64 x2) ∧ W.cell? ⟨(ad.add (i * 3)).block, (ad.add (i * 3)).off + 2, none⟩ = some (.string x3)) from fun W hW =>
        ⟨(hW.cell (World.block_lt_of_cell? _ _ c0)).trans c0, (hW.cell (World.block_lt_of_cell? _ _ c1)).trans c1, (hW.cell (World.block_lt_of_cell? _ _ c2)).trans c2⟩)
      have k0 : (0 : Int) ≤ (i : Int) := Int.natCast_nonneg _
      have k1 : (i : Int) < (tl.length : Int) := by omega
      have hcl := World.block_lt_of_cell? _ _ c0
      have HB := Lib.hid hb
      rw [KGf.out] at GT
      clear hf hb
      go_wp2_with fail
      refine GT.out.mono ?_
      rintro e w9 ⟨rfl, b9⟩
      have B9 := Lib.hid b9
      obtain ⟨W9, hW9⟩ : ∃ W9, W9 = w9.alloc (.cells #[.string x1, .int .i64 x2, .string x3] 56) := ⟨_, rfl⟩
      obtain ⟨g7, hg7⟩ : ∃ g, g = w9.heap.size := ⟨_, rfl⟩
      have k7 : W9.heap[g7]? = some (.cells #[.string x1, .int .i64 x2, .string x3] 56 (0, 0)) := by rw [hW9, hg7]; exact heap_alloc_new w9 _
      have bW9 : Below wr.heap.size wr W9 := by rw [hW9]; exact b9.alloc b9.size _
      have lg7 : g7 < W9.heap.size := (Array.getElem?_eq_some_iff.1 k7).1
      have SY := Lib.hid (show ∀ W, Below W9.heap.size W9 W → (fun w' => (w'.cell? ⟨g7, 0, none⟩ = some (.string x1) ∧ w'.cell? ⟨g7, 1, none⟩ = some (.int .i64 x2) ∧ w'.cell? ⟨g7, 2, none⟩ = some (.string x3)) ∧ w'.cell? (ad.add (i * 3)) = some (.string x1) ∧ w'.cell? ⟨(ad.add (i * 3)).block, (ad.add (i * 3)).off + 1, none⟩ = some (.int .i64 x2) ∧ w'.cell? ⟨(ad.add (i * 3)).block, (ad.add (i * 3)).off + 2, none⟩ = some (.string x3)) W from fun W hW =>
        ⟨⟨cell_of_row W g7 0 _ 56 (0, 0) ((hW.block g7 lg7).trans k7), cell_of_row W g7 1 _ 56 (0, 0) ((hW.block g7 lg7).trans k7), cell_of_row W g7 2 _ 56 (0, 0) ((hW.block g7 lg7).trans k7)⟩, C3.out W (bW9.trans (hW.mono bW9.size))⟩)
      have BW9 := Lib.hid (HB.out.trans (bW9.mono HB.out.size))
      rw [show gotV (some (x1, x2, x3)) = .tuple #[.agg #[.string x1, .int .i64 x2, .string x3], .bool true] from rfl]
      clear b9 GT k7 bW9 c0 c1 c2
      go_upto_region 13 with fail
      rw [← hW9, ← hg7]
      clear hW9 hg7
      refine wp_region_held_drew (S := fun w' => (w'.cell? ⟨g7, 0, none⟩ = some (.string x1) ∧ w'.cell? ⟨g7, 1, none⟩ = some (.int .i64 x2) ∧ w'.cell? ⟨g7, 2, none⟩ = some (.string x3)) ∧ w'.cell? (ad.add (i * 3)) = some (.string x1) ∧ w'.cell? ⟨(ad.add (i * 3)).block, (ad.add (i * 3)).off + 1, none⟩ = some (.int .i64 x2) ∧ w'.cell? ⟨(ad.add (i * 3)).block, (ad.add (i * 3)).off + 2, none⟩ = some (.string x3)) (by kernel_rfl) (SY.out _ (by first | exact Below.refl _ _ | exact (Below.refl _ _).drew | exact below_drewN (Below.refl _ _) _)) (fun hHeld => ?_)
      refine wpAnyH_take (i := 0) (oi := { dst := some 72, op := Op.move (Operand.tmp 15), type := 4, pos := "law.go:94", after := #[], guard := none }) (v := ?vm0) rfl (by kernel_rfl) (by kernel_rfl) (by kernel_rfl) (fun _ _ _ h => h) (Or.inl ⟨by rfl, ?ym0⟩) (by assumption) ?rm0
      case ym0 => (intro w' hSw; (try dsimp only at hSw); go_simp; try with_reducible rfl)
      try simp only [Act.put, List.setIfInBounds_toArray, List.set_cons_zero, List.set_cons_succ]
      refine wpAnyH_take (i := 1) (oi := { dst := some 73, op := Op.unOp UnOp.not 4 (Operand.tmp 72), type := 4, pos := "law.go:94", after := #[{ on := 0, ground := Ground.data }], guard := none }) (v := ?vm1) rfl (by kernel_rfl) (by kernel_rfl) (by kernel_rfl) (fun _ _ _ h => h) (Or.inl ⟨by rfl, ?ym1⟩) (by assumption) ?rm1
      case ym1 => (intro w' hSw; (try dsimp only at hSw); go_simp; try with_reducible rfl)
      try simp only [Act.put, List.setIfInBounds_toArray, List.set_cons_zero, List.set_cons_succ]
      refine wpAnyH_take (i := 2) (oi := { dst := some 74, op := Op.move (Operand.tmp 73), type := 4, pos := "law.go:94", after := #[{ on := 1, ground := Ground.data }], guard := none }) (v := ?vm2) rfl (by kernel_rfl) (by kernel_rfl) (by kernel_rfl) (fun _ _ _ h => h) (Or.inl ⟨by rfl, ?ym2⟩) (by assumption) ?rm2
      case ym2 => (intro w' hSw; (try dsimp only at hSw); go_simp; try with_reducible rfl)
      try simp only [Act.put, List.setIfInBounds_toArray, List.set_cons_zero, List.set_cons_succ]
      refine wpAnyH_take (i := 3) (oi := { dst := some 75, op := Op.load 56 (Operand.tmp 14), type := 56, pos := "law.go:94", after := #[{ on := 2, ground := Ground.guard }], guard := some (2, false) }) (v := ?vm3) rfl (by kernel_rfl) (by kernel_rfl) (by kernel_rfl) (fun _ _ _ h => h) (Or.inl ⟨by rfl, ?ym3⟩) (by assumption) ?rm3
      case ym3 => (intro w' hSw; (try dsimp only at hSw); go_simp; try with_reducible rfl)
      try simp only [Act.put, List.setIfInBounds_toArray, List.set_cons_zero, List.set_cons_succ]
      refine wpAnyH_take (i := 4) (oi := { dst := some 76, op := Op.move (Operand.tmp 1), type := 23, pos := "law.go:94", after := #[{ on := 2, ground := Ground.guard }], guard := some (2, false) }) (v := ?vm4) rfl (by kernel_rfl) (by kernel_rfl) (by kernel_rfl) (fun _ _ _ h => h) (Or.inl ⟨by rfl, ?ym4⟩) (by assumption) ?rm4
      case ym4 => (intro w' hSw; (try dsimp only at hSw); go_simp; try with_reducible rfl)
      try simp only [Act.put, List.setIfInBounds_toArray, List.set_cons_zero, List.set_cons_succ]
      refine wpAnyH_take (i := 5) (oi := { dst := some 77, op := Op.move (Operand.tmp 13), type := 3, pos := "law.go:94", after := #[{ on := 2, ground := Ground.guard }], guard := some (2, false) }) (v := ?vm5) rfl (by kernel_rfl) (by kernel_rfl) (by kernel_rfl) (fun _ _ _ h => h) (Or.inl ⟨by rfl, ?ym5⟩) (by assumption) ?rm5
      case ym5 => (intro w' hSw; (try dsimp only at hSw); go_simp; try with_reducible rfl)
      try simp only [Act.put, List.setIfInBounds_toArray, List.set_cons_zero, List.set_cons_succ]
      refine wpAnyH_take (i := 6) (oi := { dst := some 78, op := Op.indexAddr 23 (Operand.tmp 76) (Operand.tmp 77), type := 0, pos := "law.go:94", after := #[{ on := 4, ground := Ground.data }, { on := 5, ground := Ground.data }, { on := 2, ground := Ground.guard }], guard := some (2, false) }) (v := ?vm6) rfl (by kernel_rfl) (by kernel_rfl) (by kernel_rfl) (fun _ _ _ h => h) (Or.inl ⟨by rfl, ?ym6⟩) (by assumption) ?rm6
      case ym6 => (intro w' hSw; (try dsimp only at hSw); go_simp; try with_reducible rfl)
      try simp only [Act.put, List.setIfInBounds_toArray, List.set_cons_zero, List.set_cons_succ]
      refine wpAnyH_take (i := 7) (oi := { dst := some 79, op := Op.load 56 (Operand.tmp 78), type := 56, pos := "law.go:94", after := #[{ on := 6, ground := Ground.data }, { on := 2, ground := Ground.guard }], guard := some (2, false) }) (v := ?vm7) rfl (by kernel_rfl) (by kernel_rfl) (by kernel_rfl) (fun _ _ _ h => h) (Or.inl ⟨by rfl, ?ym7⟩) (by assumption) ?rm7
      case ym7 => (intro w' hSw; (try dsimp only at hSw); go_simp; try with_reducible rfl)
      try simp only [Act.put, List.setIfInBounds_toArray, List.set_cons_zero, List.set_cons_succ]
      refine wpAnyH_take (i := 8) (oi := { dst := some 80, op := Op.binOp BinOp.neq 56 (Operand.tmp 75) (Operand.tmp 79) 56, type := 4, pos := "law.go:94", after := #[{ on := 3, ground := Ground.data }, { on := 7, ground := Ground.data }, { on := 2, ground := Ground.guard }], guard := some (2, false) }) (v := ?vm8) rfl (by kernel_rfl) (by kernel_rfl) (by kernel_rfl) (fun _ _ _ h => h) (Or.inl ⟨by rfl, ?ym8⟩) (by assumption) ?rm8
      case ym8 => (intro w' hSw; (try dsimp only at hSw); go_simp; try with_reducible rfl)
      try simp only [Act.put, List.setIfInBounds_toArray, List.set_cons_zero, List.set_cons_succ]
      refine wpAnyH_take (i := 9) (oi := { dst := some 81, op := Op.pick (Operand.tmp 74) (Operand.const (Value.bool true)) (Operand.tmp 80), type := 4, pos := "law.go:94", after := #[{ on := 2, ground := Ground.data }, { on := 8, ground := Ground.data }], guard := none }) (v := ?vm9) rfl (by kernel_rfl) (by kernel_rfl) (by kernel_rfl) (fun _ _ _ h => h) (Or.inl ⟨by rfl, ?ym9⟩) (by assumption) ?rm9
      case ym9 => (intro w' hSw; (try dsimp only at hSw); go_simp; try with_reducible rfl)
      try simp only [Act.put, List.setIfInBounds_toArray, List.set_cons_zero, List.set_cons_succ]
      refine wpAnyH_done (by kernel_rfl) ?_ _
      go_wp2_with fail
      go_roundw
      case rel => exact ⟨i + 1, by omega, by go_num, by first | exact BW9.out | exact BW9.out.drew | exact below_drewN BW9.out _⟩
      case measure => simp [intOf]; omega
    · obtain rfl : i = tl.length := by omega
      have BZ := Lib.hid (B11.out.trans (hb.mono B11.out.size))
      have O6 := Lib.hid (of_any wr _ tl (TV.out.below BZ.out) (by omega))
      have JZ := Lib.hid (J11.out.below hb)
      clear hb
      go_wp2_with fail
      refine O6.out.mono ?_
      rintro e w12 ⟨v12, rfl, o12, b12⟩
      have B12 := Lib.hid (BZ.out.trans (b12.mono BZ.out.size))
      have S12 := Lib.hid (sameE_any w12 _ v12 (tl.map toE) (tl.map toE) (JZ.out.below b12) (Reads.of_own cE_len (by rw [List.length_map] at o12 ⊢; exact o12)))
      unfold EqTo at S12
      rw [decide_eq_true (rfl : (tl.map toE).map stillE = (tl.map toE).map stillE)] at S12
      obtain ⟨A12, c12, hlen⟩ := own_form o12
      rw [List.length_map] at hlen
      subst hlen
      clear o12 b12 O6
      go_wp2_with fail
      refine S12.out.mono ?_
      rintro e w13 ⟨rfl, b13⟩
      go_wp2_with fail
      go_ret
      exact ⟨rfl, B12.out.trans (b13.mono B12.out.size)⟩
end Go.Proofs.YtdmmjfmjohliiaaGreatDoor
