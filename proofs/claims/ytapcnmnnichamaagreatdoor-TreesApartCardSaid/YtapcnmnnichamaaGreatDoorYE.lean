/-
  rectoref14.Put: a file put into a row that rises: by paths alone.
  rectoref14.Paths: the paths of trees, rising, each once.
  rectoref14.Merge: the result as it grows.
  rectoref14.Merge: appends of the document's files and entries; three trees in a row.
-/
import Derived.Test.YtapcnmnnichamaaGreatDoorYG
import Derived.Test.YtapcnmnnichamaaGreatDoorFGen
import Derived.Test.YtapcnmnnichamaaGreatDoorSPaths
import Derived.Test.YtapcnmnnichamaaGreatDoorTB
import Derived.Test.YtapcnmnnichamaaGreatDoorTC

namespace Go.Proofs.YtapcnmnnichamaaGreatDoor
open Go.RowKit

/-- The cells of a file that is a path alone. -/
def cP (p : ByteArray) : List Value := [.string p, .int .i64 0, .string ⟨#[]⟩]
theorem cP_len (p : ByteArray) : (cP p).length = 3 := rfl
theorem Pats.at_ {w : World} {A : Option Addr} {n c : Nat} {l : List ByteArray} (h : Reads 3 cP w (.slice A n c) l) {i : Nat} {f : ByteArray} (hi : l[i]? = some f) :
    ∃ ad : Addr, A = some ad ∧ w.cell? (ad.add (i * 3)) = some (.string f) ∧ w.cell? ⟨(ad.add (i * 3)).block, (ad.add (i * 3)).off + 1, none⟩ = some (.int .i64 0) ∧ w.cell? ⟨(ad.add (i * 3)).block, (ad.add (i * 3)).off + 2, none⟩ = some (.string ⟨#[]⟩) := by
  obtain ⟨ad, ha, hc⟩ := h.at_ hi
  exact ⟨ad, ha, hc 0 _ rfl, hc 1 _ rfl, hc 2 _ rfl⟩

/-- How far a put has come. -/
def PutAt (ps : List ByteArray) (p : ByteArray) (i : Nat) : Bool → List ByteArray → Prop
  | false, acc => acc = ps.take i ∧ ∀ x ∈ ps.take i, cb x p < 0
  | true, acc => RiseP acc ∧ (∀ s, s ∈ acc ↔ s ∈ ps.take i ∨ s = p) ∧ (∃ x ∈ ps.take i, 0 ≤ cb x p) ∧ acc.length ≤ i + 1
section
variable {ps acc : List ByteArray} {p q : ByteArray} {i : Nat}
theorem PutAt.len {b : Bool} (h : PutAt ps p i b acc) : acc.length ≤ i + (if b then 1 else 0) := by
  cases b with
  | false => rw [h.1, List.length_take]; simp; omega
  | true => simpa using h.2.2.2
theorem rise_snoc (h : RiseP acc) (hq : ∀ x ∈ acc, cb x q < 0) : RiseP (acc ++ [q]) :=
  List.pairwise_append.2 ⟨h, List.pairwise_singleton _ _, fun x hx y hy => by rw [List.mem_singleton.1 hy]; exact hq x hx⟩
theorem take_rise (hr : RiseP ps) (hq : ps[i]? = some q) : ∀ x ∈ ps.take i, cb x q < 0 := fun x hx => by
  obtain ⟨t, ht, rfl⟩ := List.getElem_of_mem hx
  obtain ⟨hi, rfl⟩ := List.getElem?_eq_some_iff.1 hq
  rw [List.length_take] at ht
  rw [List.getElem_take]
  exact List.pairwise_iff_getElem.1 hr t i (by omega) hi (by omega)
theorem put_lt (h : PutAt ps p i false acc) (hq : ps[i]? = some q) (hc : cb q p < 0) : PutAt ps p (i + 1) false (acc ++ [q]) := by
  refine ⟨by rw [h.1, take_snoc hq], fun x hx => ?_⟩
  rw [take_snoc hq] at hx
  rcases List.mem_append.1 hx with hx | hx
  · exact h.2 x hx
  · rw [List.mem_singleton.1 hx]; exact hc
theorem put_eq (hr : RiseP ps) (h : PutAt ps p i false acc) (hq : ps[i]? = some p) : PutAt ps p (i + 1) true (acc ++ [p]) := by
  have hl := h.len
  obtain ⟨rfl, h2⟩ := h
  refine ⟨rise_snoc (List.Pairwise.sublist (List.take_sublist _ _) hr) h2, fun s => ?_, ⟨p, by rw [take_snoc hq]; simp, by rw [cb_self]; exact Int.le_refl _⟩, ?_⟩
  · rw [take_snoc hq]; simp
  · rw [List.length_append, List.length_singleton]; simp at hl ⊢; omega
theorem put_ge (hr : RiseP ps) (h : PutAt ps p i false acc) (hq : ps[i]? = some q) (hc : ¬ cb q p < 0) (hne : ¬ q = p) : PutAt ps p (i + 1) true (acc ++ [p] ++ [q]) := by
  have hl := h.len
  have hpq : cb p q < 0 := by
    have := cb_swap q p
    have h0 : cb q p ≠ 0 := fun e => hne (cb_zero e)
    omega
  have ht := take_rise hr hq
  obtain ⟨rfl, h2⟩ := h
  refine ⟨rise_snoc (rise_snoc (List.Pairwise.sublist (List.take_sublist _ _) hr) h2) (fun x hx => ?_), fun s => ?_, ⟨q, by rw [take_snoc hq]; simp, by omega⟩, ?_⟩
  · rcases List.mem_append.1 hx with hx | hx
    · exact ht x hx
    · rw [List.mem_singleton.1 hx]; exact hpq
  · rw [take_snoc hq]
    simp only [List.mem_append, List.mem_singleton]
    constructor
    · rintro ((h | h) | h)
      · exact .inl (.inl h)
      · exact .inr h
      · exact .inl (.inr h)
    · rintro ((h | h) | h)
      · exact .inl (.inl h)
      · exact .inr h
      · exact .inl (.inr h)
  · rw [List.length_append, List.length_append, List.length_singleton, List.length_singleton]; simp at hl ⊢; omega
theorem put_past (hr : RiseP ps) (h : PutAt ps p i true acc) (hq : ps[i]? = some q) : ¬ q = p ∧ PutAt ps p (i + 1) true (acc ++ [q]) := by
  obtain ⟨h1, h2, ⟨x, hx, hx0⟩, h4⟩ := h
  have ht := take_rise hr hq
  have hpq : cb p q < 0 := by
    have hxq := ht x hx
    by_cases e : cb x p = 0
    · rw [← cb_zero e]; exact hxq
    · have : cb p x < 0 := by have := cb_swap x p; omega
      exact cb_trans this hxq
  refine ⟨fun e => by rw [e, cb_self] at hpq; omega, rise_snoc h1 (fun y hy => ?_), fun s => ?_, ⟨x, by rw [take_snoc hq]; exact List.mem_append_left _ hx, hx0⟩, by rw [List.length_append, List.length_singleton]; omega⟩
  · rcases (h2 y).1 hy with hy | hy
    · exact ht y hy
    · rw [hy]; exact hpq
  · rw [take_snoc hq, List.mem_append, h2 s, List.mem_append, List.mem_singleton]
    constructor
    · rintro ((h | h) | h)
      · exact .inl (.inl h)
      · exact .inr h
      · exact .inl (.inr h)
    · rintro ((h | h) | h)
      · exact .inl (.inl h)
      · exact .inr h
      · exact .inl (.inr h)
theorem put_end {b : Bool} (hr : RiseP ps) (h : PutAt ps p ps.length b acc) : nrm (ps ++ [p]) = if b then acc else acc ++ [p] := by
  cases b with
  | false =>
    obtain ⟨h1, h2⟩ := h
    rw [List.take_length] at h1 h2
    subst h1
    exact nrm_of (rise_snoc hr h2) fun s => Iff.rfl
  | true =>
    obtain ⟨h1, h2, _⟩ := h
    rw [List.take_length] at h2
    exact nrm_of h1 fun s => by show s ∈ ps ++ [p] ↔ s ∈ acc; rw [h2 s]; simp
end

set_option maxRecDepth 100000 in
set_option maxHeartbeats 4000000 in
theorem refPut_any (w : World) (v : Value) (ps : List ByteArray) (p : ByteArray) (h : Reads 3 cP w v ps) (hr : RiseP ps) (hl : ps.length ≤ 100000) :
    Calls Tryz.prog 40 #[v, .agg #[.string p, .int .i64 0, .string ⟨#[]⟩]] w (OwnTo 52 3 cP (nrm (ps ++ [p])) w) := by
  obtain ⟨A, c, rfl⟩ := h.form
  have hn := h.len
  have hnm : ps.length ≤ 9223372036854775807 := by omega
  obtain ⟨W1, hW1⟩ : ∃ W1, W1 = w.alloc (.cells #[.string p, .int .i64 0, .string ⟨#[]⟩] 52) := ⟨_, rfl⟩
  have B1 : Below w.heap.size w W1 := by rw [hW1]; exact (Below.refl _ _).alloc (Nat.le_refl _) _
  obtain ⟨G, hG⟩ : ∃ G, G = w.heap.size := ⟨_, rfl⟩
  have K1 : W1.heap[G]? = some (.cells #[.string p, .int .i64 0, .string ⟨#[]⟩] 52 (0, 0)) := by rw [hW1, hG]; exact heap_alloc_new w _
  have YY := Lib.hid fun W (hW : Below W1.heap.size W1 W) => (⟨(hW.cell (World.block_lt_of_cell? _ _ (cell_of_row W1 G 0 _ 52 (0, 0) K1))).trans (cell_of_row W1 G 0 _ 52 (0, 0) K1), (hW.cell (World.block_lt_of_cell? _ _ (cell_of_row W1 G 1 _ 52 (0, 0) K1))).trans (cell_of_row W1 G 1 _ 52 (0, 0) K1), (hW.cell (World.block_lt_of_cell? _ _ (cell_of_row W1 G 2 _ 52 (0, 0) K1))).trans (cell_of_row W1 G 2 _ 52 (0, 0) K1)⟩ : W.cell? ⟨G, 0, none⟩ = some (.string p) ∧ W.cell? ⟨G, 1, none⟩ = some (.int .i64 0) ∧ W.cell? ⟨G, 2, none⟩ = some (.string ⟨#[]⟩))
  have HO := Lib.hid (h.below B1)
  have HR := Lib.hid hr
  have HB1 := Lib.hid B1
  obtain ⟨i0, hi, hz0, hz1, hz2⟩ := info_parts refFileInfo
  clear h hn hr K1 B1
  go_enter Tryz.func40, Tryz.ntmps40
  go_wp2_with fail
  rw [← hW1, ← hG]
  clear hW1 hG
  go_loopw [5, 6, 7] (fun s5 s6 s7 wr => ∃ (i : Nat) (acc : List ByteArray) (b : Bool), i ≤ ps.length ∧ s6 = .bool b ∧ s7 = .int .i64 i ∧ Hid (PutAt ps p i b acc) ∧ Hid (wr.ownsRow W1.heap.size 52 3 s5 acc.length (acc.flatMap cP)) ∧ Below W1.heap.size W1 wr) (fun _ _ s7 _ => ps.length - (intOf s7).toNat)
  case atStart => exact ⟨0, [], false, Nat.zero_le _, rfl, rfl, Lib.hid ⟨rfl, by simp⟩, Lib.hid (World.ownsRow_nil _ _ _ _), Below.refl _ _⟩
  case round =>
    obtain ⟨i, acc, b, hil, rfl, rfl, hp, hown, hb⟩ := hrel
    have HL := Lib.hid hp.out.len
    by_cases hlt : i < ps.length
    · obtain ⟨q, hq⟩ : ∃ q, ps[i]? = some q := ⟨_, List.getElem?_eq_getElem hlt⟩
      obtain ⟨ad, rfl, c0, c1, c2⟩ := Pats.at_ HO.out hq
      have HQ := Lib.hid hq
      have ZZ := Lib.hid fun W (hW : Below W1.heap.size W1 W) => (⟨(hW.cell (World.block_lt_of_cell? _ _ c0)).trans c0, (hW.cell (World.block_lt_of_cell? _ _ c1)).trans c1, (hW.cell (World.block_lt_of_cell? _ _ c2)).trans c2⟩ : FilCells ad i q 0 ⟨#[]⟩ W)
      unfold FilCells at ZZ
      have i0' : (0 : Int) ≤ (i : Int) := Int.natCast_nonneg _
      have hi1 : (i : Int) < (ps.length : Int) := by omega
      have hlc := less_cb q p
      clear hq c0 c1 c2
      cases b with
      | false =>
        by_cases hc : cb q p < 0
        · have hls : Op.bytesLess q.toList p.toList = true := by rw [hlc]; exact decide_eq_true hc
          have hne : ¬ q.toList = p.toList := fun e => by rw [tl_eq e, cb_self] at hc; omega
          have hneb : (q.toList == p.toList) = false := by simpa using hne
          have FA := Lib.hid (put_lt hp.out HQ.out hc)
          clear hlc hc
          obtain ⟨x0, x1, x2⟩ := ZZ.out _ hb
          obtain ⟨y0, y1, y2⟩ := YY.out _ hb
          go_wp2_with fail
          go_quiet (fail)
          obtain ⟨w1, hw1⟩ : ∃ w1, w1 = wr.drewN nq := ⟨_, rfl⟩
          have hb1 : Below W1.heap.size W1 w1 := by rw [hw1]; exact below_drewN hb nq
          have hown1 : Hid (w1.ownsRow W1.heap.size 52 3 u5 acc.length (acc.flatMap cP)) := by rw [hw1]; exact hown
          rw [← hw1]
          clear hw1
          obtain ⟨x0, x1, x2⟩ := ZZ.out _ hb1
          obtain ⟨y0, y1, y2⟩ := YY.out _ hb1
          clear hown
          go_wp2_with fail
          go_quiet (fail)
          obtain ⟨w2, hw2⟩ : ∃ w2, w2 = w1.drewN nq := ⟨_, rfl⟩
          have hb2 : Below W1.heap.size W1 w2 := by rw [hw2]; exact below_drewN hb1 nq
          have hown2 : Hid (w2.ownsRow W1.heap.size 52 3 u5 acc.length (acc.flatMap cP)) := by rw [hw2]; exact hown1
          rw [← hw2]
          clear hw2
          clear x0 x1 x2 y0 y1 y2
          obtain ⟨x0, x1, x2⟩ := ZZ.out _ hb2
          obtain ⟨y0, y1, y2⟩ := YY.out _ hb2
          have hsz3 := hb2.size
          have own43 := hown2.out.alloc (.cells #[.string q, .int .i64 0, .string ⟨#[]⟩] 52)
          have news3 := news_one w2 #[.string q, .int .i64 0, .string ⟨#[]⟩] 52 w2.heap.size rfl
          go_wp2_with (at_builtin; refine wpList_append_own _ rfl _ _ 34 rfl W1.heap.size 52 i0 (.agg #[.string ⟨#[]⟩, .int .i64 0, .string ⟨#[]⟩]) 3 40 Tryz.underlying34 hi hz0 hz1 hz2 rfl (by decide) _ _ _ rfl own43 ⟨w2.heap.size, 0, none⟩ 1 1 [.string q, .int .i64 0, .string ⟨#[]⟩] rfl rfl news3 (by simp [Value.oneCell']) (by unfold maxLen; (have := HL.out; simp at this; omega)) (by (have := HL.out; simp at this; omega)) (by simp; omega) ?_; intro v3 w3 ow3 hg3 _)
          have hb3 : Below W1.heap.size W1 w3 := (hb2.alloc hsz3 _).grown hg3 (by simp; omega) (fun k hk => (hown2.out.lt k hk).1)
          have hown3 : Hid (w3.ownsRow W1.heap.size 52 3 v3 (acc ++ [q]).length ((acc ++ [q]).flatMap cP)) := Lib.hid (by rw [flat_snoc, List.length_append]; exact ow3)
          clear news3 own43 hg3 ow3
          go_wp2
          go_roundw
          case rel => exact ⟨i + 1, acc ++ [q], false, by omega, rfl, by go_num, FA, hown3, hb3⟩
          case measure => simp [intOf]; omega
        · have hls : Op.bytesLess q.toList p.toList = false := by rw [hlc]; exact decide_eq_false hc
          clear hlc
          by_cases hqp : q = p
          · subst hqp
            have FA := Lib.hid (put_eq HR.out hp.out HQ.out)
            clear hc
            obtain ⟨x0, x1, x2⟩ := ZZ.out _ hb
            obtain ⟨y0, y1, y2⟩ := YY.out _ hb
            go_wp2_with fail
            go_quiet (fail)
            obtain ⟨w1, hw1⟩ : ∃ w1, w1 = wr.drewN nq := ⟨_, rfl⟩
            have hb1 : Below W1.heap.size W1 w1 := by rw [hw1]; exact below_drewN hb nq
            have hown1 : Hid (w1.ownsRow W1.heap.size 52 3 u5 acc.length (acc.flatMap cP)) := by rw [hw1]; exact hown
            rw [← hw1]
            clear hw1
            obtain ⟨x0, x1, x2⟩ := ZZ.out _ hb1
            obtain ⟨y0, y1, y2⟩ := YY.out _ hb1
            clear hown
            have hsz2 := hb1.size
            have own42 := hown1.out.alloc (.cells #[.string q, .int .i64 0, .string ⟨#[]⟩] 52)
            have news2 := news_one w1 #[.string q, .int .i64 0, .string ⟨#[]⟩] 52 w1.heap.size rfl
            go_wp2_with (at_builtin; refine wpList_append_own _ rfl _ _ 34 rfl W1.heap.size 52 i0 (.agg #[.string ⟨#[]⟩, .int .i64 0, .string ⟨#[]⟩]) 3 40 Tryz.underlying34 hi hz0 hz1 hz2 rfl (by decide) _ _ _ rfl own42 ⟨w1.heap.size, 0, none⟩ 1 1 [.string q, .int .i64 0, .string ⟨#[]⟩] rfl rfl news2 (by simp [Value.oneCell']) (by unfold maxLen; (have := HL.out; simp at this; omega)) (by (have := HL.out; simp at this; omega)) (by simp; omega) ?_; intro v2 w2 ow2 hg2 _)
            have hb2 : Below W1.heap.size W1 w2 := (hb1.alloc hsz2 _).grown hg2 (by simp; omega) (fun k hk => (hown1.out.lt k hk).1)
            have hown2 : Hid (w2.ownsRow W1.heap.size 52 3 v2 (acc ++ [q]).length ((acc ++ [q]).flatMap cP)) := Lib.hid (by rw [flat_snoc, List.length_append]; exact ow2)
            clear news2 own42 hg2 ow2
            clear x0 x1 x2 y0 y1 y2
            obtain ⟨x0, x1, x2⟩ := ZZ.out _ hb2
            obtain ⟨y0, y1, y2⟩ := YY.out _ hb2
            go_wp2_with fail
            go_quiet (fail)
            obtain ⟨w3, hw3⟩ : ∃ w3, w3 = w2.drewN nq := ⟨_, rfl⟩
            have hb3 : Below W1.heap.size W1 w3 := by rw [hw3]; exact below_drewN hb2 nq
            have hown3 : Hid (w3.ownsRow W1.heap.size 52 3 v2 (acc ++ [q]).length ((acc ++ [q]).flatMap cP)) := by rw [hw3]; exact hown2
            rw [← hw3]
            clear hw3
            clear x0 x1 x2 y0 y1 y2
            obtain ⟨x0, x1, x2⟩ := ZZ.out _ hb3
            obtain ⟨y0, y1, y2⟩ := YY.out _ hb3
            go_wp2
            go_roundw
            case rel => exact ⟨i + 1, acc ++ [q], true, by omega, rfl, by go_num, FA, hown3, hb3⟩
            case measure => simp [intOf]; omega
          · have hne : ¬ q.toList = p.toList := fun e => hqp (tl_eq e)
            have hneb : (q.toList == p.toList) = false := by simpa using hne
            have FA := Lib.hid (put_ge HR.out hp.out HQ.out hc hqp)
            clear hc hqp
            obtain ⟨x0, x1, x2⟩ := ZZ.out _ hb
            obtain ⟨y0, y1, y2⟩ := YY.out _ hb
            go_wp2_with fail
            go_quiet (fail)
            obtain ⟨w1, hw1⟩ : ∃ w1, w1 = wr.drewN nq := ⟨_, rfl⟩
            have hb1 : Below W1.heap.size W1 w1 := by rw [hw1]; exact below_drewN hb nq
            have hown1 : Hid (w1.ownsRow W1.heap.size 52 3 u5 acc.length (acc.flatMap cP)) := by rw [hw1]; exact hown
            rw [← hw1]
            clear hw1
            obtain ⟨x0, x1, x2⟩ := ZZ.out _ hb1
            obtain ⟨y0, y1, y2⟩ := YY.out _ hb1
            clear hown
            have hsz2 := hb1.size
            have own42 := hown1.out.alloc (.cells #[.string p, .int .i64 0, .string ⟨#[]⟩] 52)
            have news2 := news_one w1 #[.string p, .int .i64 0, .string ⟨#[]⟩] 52 w1.heap.size rfl
            go_wp2_with (at_builtin; refine wpList_append_own _ rfl _ _ 34 rfl W1.heap.size 52 i0 (.agg #[.string ⟨#[]⟩, .int .i64 0, .string ⟨#[]⟩]) 3 40 Tryz.underlying34 hi hz0 hz1 hz2 rfl (by decide) _ _ _ rfl own42 ⟨w1.heap.size, 0, none⟩ 1 1 [.string p, .int .i64 0, .string ⟨#[]⟩] rfl rfl news2 (by simp [Value.oneCell']) (by unfold maxLen; (have := HL.out; simp at this; omega)) (by (have := HL.out; simp at this; omega)) (by simp; omega) ?_; intro v2 w2 ow2 hg2 _)
            have hb2 : Below W1.heap.size W1 w2 := (hb1.alloc hsz2 _).grown hg2 (by simp; omega) (fun k hk => (hown1.out.lt k hk).1)
            have hown2 : Hid (w2.ownsRow W1.heap.size 52 3 v2 (acc ++ [p]).length ((acc ++ [p]).flatMap cP)) := Lib.hid (by rw [flat_snoc, List.length_append]; exact ow2)
            clear news2 own42 hg2 ow2
            clear x0 x1 x2 y0 y1 y2
            obtain ⟨x0, x1, x2⟩ := ZZ.out _ hb2
            obtain ⟨y0, y1, y2⟩ := YY.out _ hb2
            go_wp2_with fail
            go_quiet (fail)
            obtain ⟨w3, hw3⟩ : ∃ w3, w3 = w2.drewN nq := ⟨_, rfl⟩
            have hb3 : Below W1.heap.size W1 w3 := by rw [hw3]; exact below_drewN hb2 nq
            have hown3 : Hid (w3.ownsRow W1.heap.size 52 3 v2 (acc ++ [p]).length ((acc ++ [p]).flatMap cP)) := by rw [hw3]; exact hown2
            rw [← hw3]
            clear hw3
            clear x0 x1 x2 y0 y1 y2
            obtain ⟨x0, x1, x2⟩ := ZZ.out _ hb3
            obtain ⟨y0, y1, y2⟩ := YY.out _ hb3
            have hsz4 := hb3.size
            have own44 := hown3.out.alloc (.cells #[.string q, .int .i64 0, .string ⟨#[]⟩] 52)
            have news4 := news_one w3 #[.string q, .int .i64 0, .string ⟨#[]⟩] 52 w3.heap.size rfl
            go_wp2_with (at_builtin; refine wpList_append_own _ rfl _ _ 34 rfl W1.heap.size 52 i0 (.agg #[.string ⟨#[]⟩, .int .i64 0, .string ⟨#[]⟩]) 3 40 Tryz.underlying34 hi hz0 hz1 hz2 rfl (by decide) _ _ _ rfl own44 ⟨w3.heap.size, 0, none⟩ 1 1 [.string q, .int .i64 0, .string ⟨#[]⟩] rfl rfl news4 (by simp [Value.oneCell']) (by unfold maxLen; (have := HL.out; rw [List.length_append, List.length_singleton]; simp at this; omega)) (by (have := HL.out; rw [List.length_append, List.length_singleton]; simp at this; omega)) (by simp; omega) ?_; intro v4 w4 ow4 hg4 _)
            have hb4 : Below W1.heap.size W1 w4 := (hb3.alloc hsz4 _).grown hg4 (by simp; omega) (fun k hk => (hown3.out.lt k hk).1)
            have hown4 : Hid (w4.ownsRow W1.heap.size 52 3 v4 ((acc ++ [p]) ++ [q]).length (((acc ++ [p]) ++ [q]).flatMap cP)) := Lib.hid (by rw [flat_snoc, List.length_append]; exact ow4)
            clear news4 own44 hg4 ow4
            go_wp2
            go_roundw
            case rel => exact ⟨i + 1, acc ++ [p] ++ [q], true, by omega, rfl, by go_num, FA, hown4, hb4⟩
            case measure => simp [intOf]; omega
      | true =>
        have FA := Lib.hid (put_past HR.out hp.out HQ.out)
        have hne : ¬ q.toList = p.toList := fun e => FA.out.1 (tl_eq e)
        have hneb : (q.toList == p.toList) = false := by simpa using hne
        clear hlc
        obtain ⟨x0, x1, x2⟩ := ZZ.out _ hb
        obtain ⟨y0, y1, y2⟩ := YY.out _ hb
        go_wp2_with fail
        go_quiet (fail)
        obtain ⟨w1, hw1⟩ : ∃ w1, w1 = wr.drewN nq := ⟨_, rfl⟩
        have hb1 : Below W1.heap.size W1 w1 := by rw [hw1]; exact below_drewN hb nq
        have hown1 : Hid (w1.ownsRow W1.heap.size 52 3 u5 acc.length (acc.flatMap cP)) := by rw [hw1]; exact hown
        rw [← hw1]
        clear hw1
        obtain ⟨x0, x1, x2⟩ := ZZ.out _ hb1
        obtain ⟨y0, y1, y2⟩ := YY.out _ hb1
        clear hown
        go_wp2_with fail
        go_quiet (fail)
        obtain ⟨w2, hw2⟩ : ∃ w2, w2 = w1.drewN nq := ⟨_, rfl⟩
        have hb2 : Below W1.heap.size W1 w2 := by rw [hw2]; exact below_drewN hb1 nq
        have hown2 : Hid (w2.ownsRow W1.heap.size 52 3 u5 acc.length (acc.flatMap cP)) := by rw [hw2]; exact hown1
        rw [← hw2]
        clear hw2
        clear x0 x1 x2 y0 y1 y2
        obtain ⟨x0, x1, x2⟩ := ZZ.out _ hb2
        obtain ⟨y0, y1, y2⟩ := YY.out _ hb2
        have hsz3 := hb2.size
        have own43 := hown2.out.alloc (.cells #[.string q, .int .i64 0, .string ⟨#[]⟩] 52)
        have news3 := news_one w2 #[.string q, .int .i64 0, .string ⟨#[]⟩] 52 w2.heap.size rfl
        go_wp2_with (at_builtin; refine wpList_append_own _ rfl _ _ 34 rfl W1.heap.size 52 i0 (.agg #[.string ⟨#[]⟩, .int .i64 0, .string ⟨#[]⟩]) 3 40 Tryz.underlying34 hi hz0 hz1 hz2 rfl (by decide) _ _ _ rfl own43 ⟨w2.heap.size, 0, none⟩ 1 1 [.string q, .int .i64 0, .string ⟨#[]⟩] rfl rfl news3 (by simp [Value.oneCell']) (by unfold maxLen; (have := HL.out; simp at this; omega)) (by (have := HL.out; simp at this; omega)) (by simp; omega) ?_; intro v3 w3 ow3 hg3 _)
        have hb3 : Below W1.heap.size W1 w3 := (hb2.alloc hsz3 _).grown hg3 (by simp; omega) (fun k hk => (hown2.out.lt k hk).1)
        have hown3 : Hid (w3.ownsRow W1.heap.size 52 3 v3 (acc ++ [q]).length ((acc ++ [q]).flatMap cP)) := Lib.hid (by rw [flat_snoc, List.length_append]; exact ow3)
        clear news3 own43 hg3 ow3
        go_wp2
        go_roundw
        case rel => exact ⟨i + 1, acc ++ [q], true, by omega, rfl, by go_num, Lib.hid FA.out.2, hown3, hb3⟩
        case measure => simp [intOf]; omega
    · obtain rfl : i = ps.length := by omega
      have HE := Lib.hid (put_end HR.out hp.out)
      cases b with
      | true =>
        have HE2 : Hid (nrm (ps ++ [p]) = acc) := Lib.hid HE.out
        go_wp2
        go_ret
        exact ⟨_, rfl, by rw [HE2.out]; exact own_base hown.out HB1.out.size, HB1.out.trans (hb.mono HB1.out.size)⟩
      | false =>
        have HE2 : Hid (nrm (ps ++ [p]) = acc ++ [p]) := Lib.hid HE.out
        obtain ⟨y0, y1, y2⟩ := YY.out _ hb
        have hsz3 := hb.size
        have own43 := hown.out.alloc (.cells #[.string p, .int .i64 0, .string ⟨#[]⟩] 52)
        have news3 := news_one wr #[.string p, .int .i64 0, .string ⟨#[]⟩] 52 wr.heap.size rfl
        go_wp2_with (at_builtin; refine wpList_append_own _ rfl _ _ 34 rfl W1.heap.size 52 i0 (.agg #[.string ⟨#[]⟩, .int .i64 0, .string ⟨#[]⟩]) 3 40 Tryz.underlying34 hi hz0 hz1 hz2 rfl (by decide) _ _ _ rfl own43 ⟨wr.heap.size, 0, none⟩ 1 1 [.string p, .int .i64 0, .string ⟨#[]⟩] rfl rfl news3 (by simp [Value.oneCell']) (by unfold maxLen; (have := HL.out; simp at this; omega)) (by (have := HL.out; simp at this; omega)) (by simp; omega) ?_; intro v3 w3 ow3 hg3 _)
        have hb3 : Below W1.heap.size W1 w3 := (hb.alloc hsz3 _).grown hg3 (by simp; omega) (fun k hk => (hown.out.lt k hk).1)
        have hown3 : Hid (w3.ownsRow W1.heap.size 52 3 v3 (acc ++ [p]).length ((acc ++ [p]).flatMap cP)) := Lib.hid (by rw [flat_snoc, List.length_append]; exact ow3)
        clear news3 own43 hg3 ow3
        go_wp2
        go_ret
        exact ⟨_, rfl, by rw [HE2.out]; exact own_base hown3.out HB1.out.size, HB1.out.trans (hb3.mono HB1.out.size)⟩
end Go.Proofs.YtapcnmnnichamaaGreatDoor

namespace Go.Proofs.YtapcnmnnichamaaGreatDoor
open Go.RowKit

theorem nrm_nil2 : nrm [] = [] := nrm_of List.Pairwise.nil fun s => by simp
theorem nrm_app (a : List ByteArray) (p : ByteArray) : nrm (nrm a ++ [p]) = nrm (a ++ [p]) := nrm_of (nrm_rise _) fun s => by
  rw [nrm_mem, List.mem_append, List.mem_append, nrm_mem]
theorem nrm_id {a : List ByteArray} (h : RiseP a) : nrm a = a := nrm_of h fun _ => Iff.rfl

set_option maxRecDepth 100000 in
set_option maxHeartbeats 4000000 in
theorem refPaths_any (w : World) (ad : Addr) (c : Nat) (rs : List (Value × List Fl)) (h : Trees w ad rs) (hl : rs.length ≤ 1000) (hp : (pathsR rs).length ≤ 100000) :
    Calls Tryz.prog 19 #[.slice (some ad) rs.length c] w (TextsTo (nrm (pathsR rs)) w) := by
  have hnm : rs.length ≤ 9223372036854775807 := by omega
  have HO := Lib.hid h
  have HP := Lib.hid hp
  obtain ⟨i0, hi, hz0, hz1, hz2⟩ := info_parts strInfo
  clear h hp
  go_enter Tryz.func19, Tryz.ntmps19
  go_wp2
  go_loopw [3, 4] (fun s3 s4 wr => ∃ (i : Nat) (cur : List ByteArray), i ≤ rs.length ∧ s4 = .int .i64 i ∧ Hid (cur = nrm (pathsR (rs.take i))) ∧ Hid (wr.ownsRow w.heap.size 52 3 s3 cur.length (cur.flatMap cP)) ∧ Below w.heap.size w wr) (fun _ s4 _ => rs.length - (intOf s4).toNat)
  case atStart => exact ⟨0, [], Nat.zero_le _, rfl, Lib.hid nrm_nil2.symm, Lib.hid (World.ownsRow_nil _ _ _ _), Below.refl _ _⟩
  case round =>
    obtain ⟨i, cur, hil, rfl, HC, hown, hb⟩ := hrel
    by_cases hlt : i < rs.length
    · obtain ⟨r, hr⟩ : ∃ r, rs[i]? = some r := ⟨_, List.getElem?_eq_getElem hlt⟩
      have HT := Lib.hid (show pathsR (rs.take (i + 1)) = pathsR (rs.take i) ++ r.2.map (·.1) by rw [take_snoc hr, pathsR_snoc])
      have hle := pathsR_take rs (i + 1)
      rw [HT.out, List.length_append, List.length_map] at hle
      have CC := Lib.hid fun W (hW : Below w.heap.size w W) => (HO.out.below hW i r hr).1
      have hrd := (HO.out i r hr).2
      obtain ⟨rv, l⟩ := r
      obtain ⟨B, d, hrv⟩ := hrd.form
      simp only at hrv
      subst hrv
      have HR := Lib.hid hrd
      have i0' : (0 : Int) ≤ (i : Int) := Int.natCast_nonneg _
      have hi1 : (i : Int) < (rs.length : Int) := by omega
      have hlm : l.length ≤ 9223372036854775807 := by have := HP.out; simp only at hle; omega
      obtain ⟨acc, hacc⟩ : ∃ acc, acc = pathsR (rs.take i) := ⟨_, rfl⟩
      rw [← hacc] at HC HT hle
      have HLE := Lib.hid hle
      clear hr hrd hacc hle
      go_wp2
      go_loopw [3, 5] (fun s3 s5 wq => ∃ (j : Nat) (cur : List ByteArray), j ≤ l.length ∧ s5 = .int .i64 j ∧ Hid (cur = nrm (acc ++ (l.take j).map (·.1))) ∧ Hid (wq.ownsRow w.heap.size 52 3 s3 cur.length (cur.flatMap cP)) ∧ Below w.heap.size w wq) (fun _ s5 _ => l.length - (intOf s5).toNat)
      case atStart => exact ⟨0, cur, Nat.zero_le _, rfl, Lib.hid (by rw [List.take_zero, List.map_nil, List.append_nil]; exact HC.out), hown, hb⟩
      case round =>
        clear HC hown hb
        obtain ⟨j, cur, hjl, rfl, HC, hown, hb⟩ := hrel
        have cc := CC.out _ hb
        by_cases hjt : j < l.length
        · obtain ⟨f, hf⟩ : ∃ f, l[j]? = some f := ⟨_, List.getElem?_eq_getElem hjt⟩
          obtain ⟨ad2, rfl, c0, c1, c2⟩ := Fils.at_ (HR.out.below hb) hf
          obtain ⟨p, m, dd⟩ := f
          have HE := Lib.hid (show nrm (acc ++ (l.take (j + 1)).map (fun x => x.1)) = nrm (cur ++ [p]) by rw [HC.out, nrm_app, take_snoc hf]; simp)
          have hcl : cur.length ≤ 100000 := by
            have h1 := HLE.out
            have h2 := HP.out
            rw [HC.out]
            refine Nat.le_trans (nrm_len _) ?_
            rw [List.length_append, List.length_map, List.length_take]
            omega
          have j0' : (0 : Int) ≤ (j : Int) := Int.natCast_nonneg _
          have hj1 : (j : Int) < (l.length : Int) := by omega
          have hrise : RiseP cur := by rw [HC.out]; exact nrm_rise _
          obtain ⟨A3, c3, rfl⟩ := own_form hown.out
          have PT := Lib.hid (refPut_any wr _ cur p (Reads.of_own cP_len hown.out) hrise hcl)
          obtain ⟨nx, hnx⟩ : ∃ nx, nx = nrm (cur ++ [p]) := ⟨_, rfl⟩
          rw [← hnx] at PT HE
          have hsz := hb.size
          clear hf hrise hnx
          go_wp2_with fail
          refine PT.out.mono ?_
          rintro e w5 ⟨v5, rfl, o5, b5⟩
          have HB5 := hb.trans (b5.mono hsz)
          have HO5 := Lib.hid (own_base o5 hsz)
          clear o5 b5
          go_wp2
          go_roundw
          case rel => exact ⟨j + 1, nx, by omega, by go_num, Lib.hid HE.out.symm, HO5, HB5⟩
          case measure => simp [intOf]; omega
        · obtain rfl : j = l.length := by omega
          go_wp2
          go_roundw
          case rel => exact ⟨i + 1, cur, by omega, by go_num, Lib.hid (by rw [HT.out, HC.out, List.take_length]), hown, hb⟩
          case measure => simp [intOf]; omega
    · obtain rfl : i = rs.length := by omega
      rw [List.take_length] at HC
      have hcl : cur.length ≤ 100000 := by rw [HC.out]; exact Nat.le_trans (nrm_len _) HP.out
      obtain ⟨A3, c3, rfl⟩ := own_form hown.out
      have RR := Lib.hid (Reads.of_own cP_len hown.out)
      have hB := Lib.hid hb
      have hsz0 := hb.size
      have HCE : Hid (nrm (pathsR rs) = cur) := Lib.hid HC.out.symm
      clear hown HC hb
      obtain ⟨wo, hwo⟩ : ∃ wo, wo = wr := ⟨_, rfl⟩
      subst hwo
      go_wp2
      go_loopw [6, 7] (fun s6 s7 wq => ∃ k : Nat, k ≤ cur.length ∧ s7 = .int .i64 k ∧ Hid (wq.ownsRow wo.heap.size 9 1 s6 k ((cur.take k).map Value.string)) ∧ Below wo.heap.size wo wq) (fun _ s7 _ => cur.length - (intOf s7).toNat)
      case atStart => exact ⟨0, Nat.zero_le _, rfl, Lib.hid (World.ownsRow_nil _ _ _ _), Below.refl _ _⟩
      case round =>
        obtain ⟨k, hk, rfl, hown, hb⟩ := hrel
        by_cases hkt : k < cur.length
        · obtain ⟨p, hp⟩ : ∃ p, cur[k]? = some p := ⟨_, List.getElem?_eq_getElem hkt⟩
          obtain ⟨ad2, rfl, c0, c1, c2⟩ := Pats.at_ (RR.out.below hb) hp
          have HE := Lib.hid (show cur.take (k + 1) = cur.take k ++ [p] from take_snoc hp)
          have k0' : (0 : Int) ≤ (k : Int) := Int.natCast_nonneg _
          have hk1 : (k : Int) < (cur.length : Int) := by omega
          have hsz := hb.size
          have hown4 := hown.out.alloc (.cells #[.string p] 9)
          have hnews := news_one wr #[.string p] 9 wr.heap.size rfl
          clear hp
          go_wp2_with (at_builtin; refine wpList_append_own _ rfl _ _ 27 rfl wo.heap.size 9 i0 (.string { data := #[] }) 1 16 Tryz.underlying27 hi hz0 hz1 hz2 rfl (by decide) _ _ _ rfl hown4 ⟨wr.heap.size, 0, none⟩ 1 1 [.string p] rfl rfl hnews (by simp [Value.oneCell']) (by unfold maxLen; omega) (by omega) (by simp; omega) ?_; intro v5 w5 hown5 hg5 _)
          have hb5 : Below wo.heap.size wo w5 := (hb.alloc hsz _).grown hg5 (by simp; omega) (fun k hk => (hown.out.lt k hk).1)
          clear hnews hown4 hg5
          go_roundw
          case rel => exact ⟨k + 1, by omega, by go_num, Lib.hid (by rw [HE.out, str_snoc]; exact hown5), hb5⟩
          case measure => simp [intOf]; omega
        · obtain rfl : k = cur.length := by omega
          have HE : Hid (cur.take cur.length = cur) := Lib.hid (List.take_length)
          go_wp2
          go_ret
          exact ⟨_, rfl, by rw [HCE.out]; exact own_base (by have := hown.out; rw [HE.out] at this; exact this) hsz0, hB.out.trans (hb.mono hsz0)⟩
end Go.Proofs.YtapcnmnnichamaaGreatDoor

namespace Go.Proofs.YtapcnmnnichamaaGreatDoor
open Go Go.RowKit

/-! ### The result as it grows -/
structure MStR (w wM wr : World) (gB M : Nat) (vf ve vc : Value) (fs : List Fl) (es : List En) (cs : List ByteArray) : Prop where
  x : Blk wr gB 37 #[vf, ve, vc]
  f : wr.ownsRow M 52 3 vf fs.length (fs.flatMap cF)
  e : wr.ownsRow M 69 6 ve es.length (es.flatMap cE)
  c : wr.ownsRow M 9 1 vc cs.length (cs.map Value.string)
  b : Below w.heap.size w wr
  k : ∀ j, j < M → j ≠ gB → wr.heap[j]? = wM.heap[j]?
  s : M ≤ wr.heap.size
  g : gB < M
  wg : w.heap.size ≤ gB
section
variable {w wM wr w' w5 : World} {gB M : Nat} {vf ve vc : Value} {fs : List Fl} {es : List En} {cs : List ByteArray}
theorem MStR.below (h : MStR w wM wr gB M vf ve vc fs es cs) (hb : Below wr.heap.size wr w') : MStR w wM w' gB M vf ve vc fs es cs :=
  ⟨h.x.below hb h.x.lt, own_keep h.f hb, own_keep h.e hb, own_keep h.c hb, h.b.trans (hb.mono h.b.size), fun j hj hne => (hb.block j (by have := h.s; omega)).trans (h.k j hj hne), Nat.le_trans h.s hb.size, h.g, h.wg⟩
theorem MStR.alloc (h : MStR w wM wr gB M vf ve vc fs es cs) (o : Obj) : MStR w wM (wr.alloc o) gB M vf ve vc fs es cs := h.below ((Below.refl _ wr).alloc (Nat.le_refl _) o)
theorem MStR.putF (h : MStR w wM wr gB M vf ve vc fs es cs) {v' : Value} {l' : List Fl} (ho : w5.ownsRow M 52 3 v' l'.length (l'.flatMap cF)) (hb : Below M wr w5) (hg : wr.grownBy w5 vf.ownBlock) : MStR w wM (w5.setCell ⟨gB, 0, none⟩ v') gB M v' ve vc l' es cs := by
  have x5 : Blk w5 gB 37 #[vf, ve, vc] := (hb.block gB h.g).trans h.x
  have hM : w.heap.size ≤ M := Nat.le_trans h.wg (Nat.le_of_lt h.g)
  exact ⟨by simpa using x5.set_ 0 v', own_set ho h.g 0 v', own_set (h.e.kept hg (own_own_ne h.e h.f (by decide))) h.g 0 v', own_set (h.c.kept hg (own_own_ne h.c h.f (by decide))) h.g 0 v', (h.b.trans (hb.mono hM)).setCell (p := ⟨gB, 0, none⟩) h.wg v', fun j hj hne => (Below.heap_setCell w5 ⟨gB, 0, none⟩ v' j hne).trans ((hb.block j hj).trans (h.k j hj hne)), by simpa using Nat.le_trans h.s hb.size, h.g, h.wg⟩
theorem MStR.putE (h : MStR w wM wr gB M vf ve vc fs es cs) {v' : Value} {l' : List En} (ho : w5.ownsRow M 69 6 v' l'.length (l'.flatMap cE)) (hb : Below M wr w5) (hg : wr.grownBy w5 ve.ownBlock) : MStR w wM (w5.setCell ⟨gB, 1, none⟩ v') gB M vf v' vc fs l' cs := by
  have x5 : Blk w5 gB 37 #[vf, ve, vc] := (hb.block gB h.g).trans h.x
  have hM : w.heap.size ≤ M := Nat.le_trans h.wg (Nat.le_of_lt h.g)
  exact ⟨by simpa using x5.set_ 1 v', own_set (h.f.kept hg (own_own_ne h.f h.e (by decide))) h.g 1 v', own_set ho h.g 1 v', own_set (h.c.kept hg (own_own_ne h.c h.e (by decide))) h.g 1 v', (h.b.trans (hb.mono hM)).setCell (p := ⟨gB, 1, none⟩) h.wg v', fun j hj hne => (Below.heap_setCell w5 ⟨gB, 1, none⟩ v' j hne).trans ((hb.block j hj).trans (h.k j hj hne)), by simpa using Nat.le_trans h.s hb.size, h.g, h.wg⟩
theorem MStR.putC (h : MStR w wM wr gB M vf ve vc fs es cs) {v' : Value} {l' : List ByteArray} (ho : w5.ownsRow M 9 1 v' l'.length (l'.map Value.string)) (hb : Below M wr w5) (hg : wr.grownBy w5 vc.ownBlock) : MStR w wM (w5.setCell ⟨gB, 2, none⟩ v') gB M vf ve v' fs es l' := by
  have x5 : Blk w5 gB 37 #[vf, ve, vc] := (hb.block gB h.g).trans h.x
  have hM : w.heap.size ≤ M := Nat.le_trans h.wg (Nat.le_of_lt h.g)
  exact ⟨by simpa using x5.set_ 2 v', own_set (h.f.kept hg (own_own_ne h.f h.c (by decide))) h.g 2 v', own_set (h.e.kept hg (own_own_ne h.e h.c (by decide))) h.g 2 v', own_set ho h.g 2 v', (h.b.trans (hb.mono hM)).setCell (p := ⟨gB, 2, none⟩) h.wg v', fun j hj hne => (Below.heap_setCell w5 ⟨gB, 2, none⟩ v' j hne).trans ((hb.block j hj).trans (h.k j hj hne)), by simpa using Nat.le_trans h.s hb.size, h.g, h.wg⟩
end
theorem reads_one_file52 {w : World} {g : Nat} (x : Fl) (z : Blk w g 52 #[.string x.1, .int .i64 x.2.1, .string x.2.2]) : Reads 3 cF w (.slice (some ⟨g, 0, none⟩) 1 1) [x] := by
  refine ⟨some ⟨g, 0, none⟩, 1, rfl, Nat.le_refl _, by decide, by simp, fun ad hA i y hy j u hu => ?_⟩
  obtain rfl := Option.some.inj hA
  match i, hy with
  | 0, hy =>
    simp at hy
    subst hy
    match j, hu with
    | 0, hu => simp [cF] at hu; subst hu; exact z.cell 0
    | 1, hu => simp [cF] at hu; subst hu; exact z.cell 1
    | 2, hu => simp [cF] at hu; subst hu; exact z.cell 2
    | j + 3, hu => simp [cF] at hu
  | i + 1, hy => simp at hy
end Go.Proofs.YtapcnmnnichamaaGreatDoor

namespace Go.Proofs.YtapcnmnnichamaaGreatDoor
open Go Go.RowKit

theorem refEntryInfo : (Tryz.prog.info? 69).map (fun i => (i.zero, i.size, i.bytes)) = some (some (.agg #[.string ⟨#[]⟩, .int .i64 0, .int .i64 0, .string ⟨#[]⟩, .int .i64 0, .int .i64 0]), 6, 64) := by kernel_rfl
theorem run_append_filesR (w : World) (ty : TypeId) (base : Nat) (v : Value) (xs ys : List Fl) (hown : w.ownsRow base 52 3 v xs.length (xs.flatMap cF)) (A : Option Addr) (m c : Nat) (h : Reads 3 cF w (.slice A m c) ys) (hl : xs.length + ys.length ≤ 1000000) (hbase : base ≤ w.heap.size) :
    ∃ A' c' w', (Builtin.append_ #[34, 34] ty #[v, .slice A m c]).run Tryz.prog w = .ok (.slice A' (xs ++ ys).length c') w' ∧ w'.ownsRow base 52 3 (.slice A' (xs ++ ys).length c') (xs ++ ys).length ((xs ++ ys).flatMap cF) ∧ Below base w w' ∧ w.grownBy w' v.ownBlock := by
  obtain ⟨i0, hi, hz0, hz1, hz2⟩ := info_parts refFileInfo
  obtain ⟨hm, hmc, hcm⟩ := h.len
  cases A with
  | none =>
    obtain ⟨A', c', hv, h1, h2, h3, h4⟩ := h
    injection hv with e1 e2 e3
    subst e1; subst e3
    have hc := h3 rfl
    subst hc
    have hm0 : m = 0 := by omega
    subst hm0
    have : ys = [] := List.eq_nil_of_length_eq_zero (by omega)
    subst this
    obtain ⟨A', c', rfl⟩ := own_form hown
    have hr := run_append_owned_none (P := Tryz.prog) (w := w) base 34 ty 52 i0 3 Tryz.underlying34 hi _ _ _ hown
    rw [List.append_nil]
    exact ⟨A', c', w, hr, hown, Below.refl _ _, World.grownBy.refl _ _⟩
  | some ad =>
    obtain ⟨v', w', hr, ho, hg, _⟩ := run_append_own (P := Tryz.prog) w base 34 ty 52 i0 (.agg #[.string ⟨#[]⟩, .int .i64 0, .string ⟨#[]⟩]) 3 40 Tryz.underlying34 hi hz0 hz1 hz2 rfl (by decide) v xs.length (xs.flatMap cF) hown ad m c (ys.flatMap cF) (by rw [flat_len cF_len, hm]) (reads_flat cF_len (by decide) h) (cF_one ys) (by unfold maxLen; omega) (by omega) hbase
    have ho2 : w'.ownsRow base 52 3 v' (xs ++ ys).length ((xs ++ ys).flatMap cF) := by rw [List.length_append, List.flatMap_append, ← hm]; exact ho
    obtain ⟨A', c', rfl⟩ := own_form ho2
    exact ⟨A', c', w', hr, ho2, (Below.refl base w).grown hg hbase fun k hk => (hown.lt k hk).1, hg⟩

theorem wpList_append_filesR (w : World) {ops : Array Oper} {rest : List Oper} {o : Oper} {a : Act} {Q : Exit → Act → World → Prop} (hgd : o.guard = none) (s x : Operand)
    (ho : o.op = .call { callee := .builtin .append, args := #[s, x], argTypes := #[34, 34] })
    (base : Nat) (v : Value) (xs ys : List Fl) (hs : a.eval s = v) (hown : w.ownsRow base 52 3 v xs.length (xs.flatMap cF)) (A : Option Addr) (m c : Nat) (hx : a.eval x = .slice A m c) (h : Reads 3 cF w (.slice A m c) ys) (hl : xs.length + ys.length ≤ 1000000) (hbase : base ≤ w.heap.size)
    (hk : ∀ A' c' w', w'.ownsRow base 52 3 (.slice A' (xs ++ ys).length c') (xs ++ ys).length ((xs ++ ys).flatMap cF) → Below base w w' → w.grownBy w' v.ownBlock → wpList Tryz.prog ops Q rest (a.put o.dst (.slice A' (xs ++ ys).length c')) w') : wpList Tryz.prog ops Q (o :: rest) a w := by
  obtain ⟨A', c', w', hr, h2, h3, h4⟩ := run_append_filesR w o.type base v xs ys hown A m c h hl hbase
  exact Lib.wpList_append_run w hgd s x _ _ ho _ _ hs hx _ _ hr (hk A' c' w' h2 h3 h4)

theorem run_append_entsR (w : World) (ty : TypeId) (base : Nat) (v : Value) (xs ys : List En) (hown : w.ownsRow base 69 6 v xs.length (xs.flatMap cE)) (A : Option Addr) (m c : Nat) (h : Reads 6 cE w (.slice A m c) ys) (hl : xs.length + ys.length ≤ 1000000) (hbase : base ≤ w.heap.size) :
    ∃ A' c' w', (Builtin.append_ #[35, 35] ty #[v, .slice A m c]).run Tryz.prog w = .ok (.slice A' (xs ++ ys).length c') w' ∧ w'.ownsRow base 69 6 (.slice A' (xs ++ ys).length c') (xs ++ ys).length ((xs ++ ys).flatMap cE) ∧ Below base w w' ∧ w.grownBy w' v.ownBlock := by
  obtain ⟨i0, hi, hz0, hz1, hz2⟩ := info_parts refEntryInfo
  obtain ⟨hm, hmc, hcm⟩ := h.len
  cases A with
  | none =>
    obtain ⟨A', c', hv, h1, h2, h3, h4⟩ := h
    injection hv with e1 e2 e3
    subst e1; subst e3
    have hc := h3 rfl
    subst hc
    have hm0 : m = 0 := by omega
    subst hm0
    have : ys = [] := List.eq_nil_of_length_eq_zero (by omega)
    subst this
    obtain ⟨A', c', rfl⟩ := own_form hown
    have hr := run_append_owned_none (P := Tryz.prog) (w := w) base 35 ty 69 i0 6 Tryz.underlying35 hi _ _ _ hown
    rw [List.append_nil]
    exact ⟨A', c', w, hr, hown, Below.refl _ _, World.grownBy.refl _ _⟩
  | some ad =>
    obtain ⟨v', w', hr, ho, hg, _⟩ := run_append_own (P := Tryz.prog) w base 35 ty 69 i0 (.agg #[.string ⟨#[]⟩, .int .i64 0, .int .i64 0, .string ⟨#[]⟩, .int .i64 0, .int .i64 0]) 6 64 Tryz.underlying35 hi hz0 hz1 hz2 rfl (by decide) v xs.length (xs.flatMap cE) hown ad m c (ys.flatMap cE) (by rw [flat_len cE_len, hm]) (reads_flat cE_len (by decide) h) (cE_one ys) (by unfold maxLen; omega) (by omega) hbase
    have ho2 : w'.ownsRow base 69 6 v' (xs ++ ys).length ((xs ++ ys).flatMap cE) := by rw [List.length_append, List.flatMap_append, ← hm]; exact ho
    obtain ⟨A', c', rfl⟩ := own_form ho2
    exact ⟨A', c', w', hr, ho2, (Below.refl base w).grown hg hbase fun k hk => (hown.lt k hk).1, hg⟩

theorem wpList_append_entsR (w : World) {ops : Array Oper} {rest : List Oper} {o : Oper} {a : Act} {Q : Exit → Act → World → Prop} (hgd : o.guard = none) (s x : Operand)
    (ho : o.op = .call { callee := .builtin .append, args := #[s, x], argTypes := #[35, 35] })
    (base : Nat) (v : Value) (xs ys : List En) (hs : a.eval s = v) (hown : w.ownsRow base 69 6 v xs.length (xs.flatMap cE)) (A : Option Addr) (m c : Nat) (hx : a.eval x = .slice A m c) (h : Reads 6 cE w (.slice A m c) ys) (hl : xs.length + ys.length ≤ 1000000) (hbase : base ≤ w.heap.size)
    (hk : ∀ A' c' w', w'.ownsRow base 69 6 (.slice A' (xs ++ ys).length c') (xs ++ ys).length ((xs ++ ys).flatMap cE) → Below base w w' → w.grownBy w' v.ownBlock → wpList Tryz.prog ops Q rest (a.put o.dst (.slice A' (xs ++ ys).length c')) w') : wpList Tryz.prog ops Q (o :: rest) a w := by
  obtain ⟨A', c', w', hr, h2, h3, h4⟩ := run_append_entsR w o.type base v xs ys hown A m c h hl hbase
  exact Lib.wpList_append_run w hgd s x _ _ ho _ _ hs hx _ _ hr (hk A' c' w' h2 h3 h4)


theorem trees3R (w : World) (vb vo vt : Value) (b o t : List Fl) (hb : Reads 3 cF w vb b) (ho : Reads 3 cF w vo o) (ht : Reads 3 cF w vt t) :
    Trees (w.alloc (.cells #[vb, vo, vt] 34)) ⟨w.heap.size, 0, none⟩ [(vb, b), (vo, o), (vt, t)] := fun i r hr => by
  have hh := heap_alloc_new w (.cells #[vb, vo, vt] 34)
  match i, hr with
  | 0, hr => simp at hr; subst hr; exact ⟨cell_of_row _ _ 0 _ 34 (0, 0) hh, hb.alloc _⟩
  | 1, hr => simp at hr; subst hr; exact ⟨cell_of_row _ _ 1 _ 34 (0, 0) hh, ho.alloc _⟩
  | 2, hr => simp at hr; subst hr; exact ⟨cell_of_row _ _ 2 _ 34 (0, 0) hh, ht.alloc _⟩
  | i + 3, hr => simp at hr
set_option maxRecDepth 100000 in
set_option maxHeartbeats 4000000 in
theorem reads_one_ent69 {w : World} {g : Nat} (x : En) (z : Blk w g 69 (cE x).toArray) : Reads 6 cE w (.slice (some ⟨g, 0, none⟩) 1 1) [x] := by
  refine ⟨some ⟨g, 0, none⟩, 1, rfl, Nat.le_refl _, by decide, by simp, fun ad hA i y hy j u hu => ?_⟩
  obtain rfl := Option.some.inj hA
  match i, hy with
  | 0, hy =>
    simp at hy
    subst hy
    match j, hu with
    | 0, hu => simp [cE] at hu; subst hu; exact z.cell 0
    | 1, hu => simp [cE] at hu; subst hu; exact z.cell 1
    | 2, hu => simp [cE] at hu; subst hu; exact z.cell 2
    | 3, hu => simp [cE] at hu; subst hu; exact z.cell 3
    | 4, hu => simp [cE] at hu; subst hu; exact z.cell 4
    | 5, hu => simp [cE] at hu; subst hu; exact z.cell 5
    | j + 6, hu => simp [cE] at hu
  | i + 1, hy => simp at hy
end Go.Proofs.YtapcnmnnichamaaGreatDoor
