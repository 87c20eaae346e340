/-
  rectoref14.Put: a file put into a row that rises: by paths alone.
-/
import Derived.Test.YtplleaimmmanhaaDoorSRefA
import Derived.Test.YtplleaimmmanhaaDoorFRefC
import Derived.Test.YtplleaimmmanhaaDoorFRises
namespace Go.Proofs.YtplleaimmmanhaaDoor
open Go.RowKit

/-- The cells of a file that is a path alone. -/
def cP (p : ByteArray) : List Value := [.string p, .int .i64 0, .string ⟨#[]⟩]
theorem cP_len (p : ByteArray) : (cP p).length = 3 := rfl
theorem Pats.at_ {w : World} {A : Option Addr} {n c : Nat} {l : List ByteArray} (h : Reads 3 cP w (.slice A n c) l) {i : Nat} {f : ByteArray} (hi : l[i]? = some f) :
    ∃ ad : Addr, A = some ad ∧ w.cell? (ad.add (i * 3)) = some (.string f) ∧ w.cell? ⟨(ad.add (i * 3)).block, (ad.add (i * 3)).off + 1, none⟩ = some (.int .i64 0) ∧ w.cell? ⟨(ad.add (i * 3)).block, (ad.add (i * 3)).off + 2, none⟩ = some (.string ⟨#[]⟩) := by
  obtain ⟨ad, ha, hc⟩ := h.at_ hi
  exact ⟨ad, ha, hc 0 _ rfl, hc 1 _ rfl, hc 2 _ rfl⟩

/-- How far a put has come. -/
def PutAt (ps : List ByteArray) (p : ByteArray) (i : Nat) : Bool → List ByteArray → Prop
  | false, acc => acc = ps.take i ∧ ∀ x ∈ ps.take i, cb x p < 0
  | true, acc => RiseP acc ∧ (∀ s, s ∈ acc ↔ s ∈ ps.take i ∨ s = p) ∧ (∃ x ∈ ps.take i, 0 ≤ cb x p) ∧ acc.length ≤ i + 1
section
variable {ps acc : List ByteArray} {p q : ByteArray} {i : Nat}
theorem PutAt.len {b : Bool} (h : PutAt ps p i b acc) : acc.length ≤ i + (if b then 1 else 0) := by
  cases b with
  | false => rw [h.1, List.length_take]; simp; omega
  | true => simpa using h.2.2.2
theorem rise_snoc (h : RiseP acc) (hq : ∀ x ∈ acc, cb x q < 0) : RiseP (acc ++ [q]) :=
  List.pairwise_append.2 ⟨h, List.pairwise_singleton _ _, fun x hx y hy => by rw [List.mem_singleton.1 hy]; exact hq x hx⟩
theorem take_rise (hr : RiseP ps) (hq : ps[i]? = some q) : ∀ x ∈ ps.take i, cb x q < 0 := fun x hx => by
  obtain ⟨t, ht, rfl⟩ := List.getElem_of_mem hx
  obtain ⟨hi, rfl⟩ := List.getElem?_eq_some_iff.1 hq
  rw [List.length_take] at ht
  rw [List.getElem_take]
  exact List.pairwise_iff_getElem.1 hr t i (by omega) hi (by omega)
theorem put_lt (h : PutAt ps p i false acc) (hq : ps[i]? = some q) (hc : cb q p < 0) : PutAt ps p (i + 1) false (acc ++ [q]) := by
  refine ⟨by rw [h.1, take_snoc hq], fun x hx => ?_⟩
  rw [take_snoc hq] at hx
  rcases List.mem_append.1 hx with hx | hx
  · exact h.2 x hx
  · rw [List.mem_singleton.1 hx]; exact hc
theorem put_eq (hr : RiseP ps) (h : PutAt ps p i false acc) (hq : ps[i]? = some p) : PutAt ps p (i + 1) true (acc ++ [p]) := by
  have hl := h.len
  obtain ⟨rfl, h2⟩ := h
  refine ⟨rise_snoc (List.Pairwise.sublist (List.take_sublist _ _) hr) h2, fun s => ?_, ⟨p, by rw [take_snoc hq]; simp, by rw [cb_self]; exact Int.le_refl _⟩, ?_⟩
  · rw [take_snoc hq]; simp
  · rw [List.length_append, List.length_singleton]; simp at hl ⊢; omega
theorem put_ge (hr : RiseP ps) (h : PutAt ps p i false acc) (hq : ps[i]? = some q) (hc : ¬ cb q p < 0) (hne : ¬ q = p) : PutAt ps p (i + 1) true (acc ++ [p] ++ [q]) := by
  have hl := h.len
  have hpq : cb p q < 0 := by
    have := cb_swap q p
    have h0 : cb q p ≠ 0 := fun e => hne (cb_zero e)
    omega
  have ht := take_rise hr hq
  obtain ⟨rfl, h2⟩ := h
  refine ⟨rise_snoc (rise_snoc (List.Pairwise.sublist (List.take_sublist _ _) hr) h2) (fun x hx => ?_), fun s => ?_, ⟨q, by rw [take_snoc hq]; simp, by omega⟩, ?_⟩
  · rcases List.mem_append.1 hx with hx | hx
    · exact ht x hx
    · rw [List.mem_singleton.1 hx]; exact hpq
  · rw [take_snoc hq]
    simp only [List.mem_append, List.mem_singleton]
    constructor
    · rintro ((h | h) | h)
      · exact .inl (.inl h)
      · exact .inr h
      · exact .inl (.inr h)
    · rintro ((h | h) | h)
      · exact .inl (.inl h)
      · exact .inr h
      · exact .inl (.inr h)
  · rw [List.length_append, List.length_append, List.length_singleton, List.length_singleton]; simp at hl ⊢; omega
theorem put_past (hr : RiseP ps) (h : PutAt ps p i true acc) (hq : ps[i]? = some q) : ¬ q = p ∧ PutAt ps p (i + 1) true (acc ++ [q]) := by
  obtain ⟨h1, h2, ⟨x, hx, hx0⟩, h4⟩ := h
  have ht := take_rise hr hq
  have hpq : cb p q < 0 := by
    have hxq := ht x hx
    by_cases e : cb x p = 0
    · rw [← cb_zero e]; exact hxq
    · have : cb p x < 0 := by have := cb_swap x p; omega
      exact cb_trans this hxq
  refine ⟨fun e => by rw [e, cb_self] at hpq; omega, rise_snoc h1 (fun y hy => ?_), fun s => ?_, ⟨x, by rw [take_snoc hq]; exact List.mem_append_left _ hx, hx0⟩, by rw [List.length_append, List.length_singleton]; omega⟩
  · rcases (h2 y).1 hy with hy | hy
    · exact ht y hy
    · rw [hy]; exact hpq
  · rw [take_snoc hq, List.mem_append, h2 s, List.mem_append, List.mem_singleton]
    constructor
    · rintro ((h | h) | h)
      · exact .inl (.inl h)
      · exact .inr h
      · exact .inl (.inr h)
    · rintro ((h | h) | h)
      · exact .inl (.inl h)
      · exact .inr h
      · exact .inl (.inr h)
theorem put_end {b : Bool} (hr : RiseP ps) (h : PutAt ps p ps.length b acc) : nrm (ps ++ [p]) = if b then acc else acc ++ [p] := by
  cases b with
  | false =>
    obtain ⟨h1, h2⟩ := h
    rw [List.take_length] at h1 h2
    subst h1
    exact nrm_of (rise_snoc hr h2) fun s => Iff.rfl
  | true =>
    obtain ⟨h1, h2, _⟩ := h
    rw [List.take_length] at h2
    exact nrm_of h1 fun s => by show s ∈ ps ++ [p] ↔ s ∈ acc; rw [h2 s]; simp
end

set_option maxRecDepth 100000 in
set_option maxHeartbeats 4000000 in
theorem refPut_any (w : World) (v : Value) (ps : List ByteArray) (p : ByteArray) (h : Reads 3 cP w v ps) (hr : RiseP ps) (hl : ps.length ≤ 100000) :
    Calls Tryd.prog 30 #[v, .agg #[.string p, .int .i64 0, .string ⟨#[]⟩]] w (OwnTo 47 3 cP (nrm (ps ++ [p])) w) := by
  obtain ⟨A, c, rfl⟩ := h.form
  have hn := h.len
  have hnm : ps.length ≤ 9223372036854775807 := by omega
  obtain ⟨W1, hW1⟩ : ∃ W1, W1 = w.alloc (.cells #[.string p, .int .i64 0, .string ⟨#[]⟩] 47) := ⟨_, rfl⟩
  have B1 : Below w.heap.size w W1 := by rw [hW1]; exact (Below.refl _ _).alloc (Nat.le_refl _) _
  obtain ⟨G, hG⟩ : ∃ G, G = w.heap.size := ⟨_, rfl⟩
  have K1 : W1.heap[G]? = some (.cells #[.string p, .int .i64 0, .string ⟨#[]⟩] 47 (0, 0)) := by rw [hW1, hG]; exact heap_alloc_new w _
  have YY := Lib.hid fun W (hW : Below W1.heap.size W1 W) => (⟨(hW.cell (World.block_lt_of_cell? _ _ (cell_of_row W1 G 0 _ 47 (0, 0) K1))).trans (cell_of_row W1 G 0 _ 47 (0, 0) K1), (hW.cell (World.block_lt_of_cell? _ _ (cell_of_row W1 G 1 _ 47 (0, 0) K1))).trans (cell_of_row W1 G 1 _ 47 (0, 0) K1), (hW.cell (World.block_lt_of_cell? _ _ (cell_of_row W1 G 2 _ 47 (0, 0) K1))).trans (cell_of_row W1 G 2 _ 47 (0, 0) K1)⟩ : W.cell? ⟨G, 0, none⟩ = some (.string p) ∧ W.cell? ⟨G, 1, none⟩ = some (.int .i64 0) ∧ W.cell? ⟨G, 2, none⟩ = some (.string ⟨#[]⟩))
  have HO := Lib.hid (h.below B1)
  have HR := Lib.hid hr
  have HB1 := Lib.hid B1
  obtain ⟨i0, hi, hz0, hz1, hz2⟩ := info_parts refFileInfo
  clear h hn hr K1 B1
  go_enter Tryd.func30, Tryd.ntmps30
  go_wp2_with fail
  rw [← hW1, ← hG]
  clear hW1 hG
  go_loopw [5, 6, 7] (fun s5 s6 s7 wr => ∃ (i : Nat) (acc : List ByteArray) (b : Bool), i ≤ ps.length ∧ s6 = .bool b ∧ s7 = .int .i64 i ∧ Hid (PutAt ps p i b acc) ∧ Hid (wr.ownsRow W1.heap.size 47 3 s5 acc.length (acc.flatMap cP)) ∧ Below W1.heap.size W1 wr) (fun _ _ s7 _ => ps.length - (intOf s7).toNat)
  case atStart => exact ⟨0, [], false, Nat.zero_le _, rfl, rfl, Lib.hid ⟨rfl, by simp⟩, Lib.hid (World.ownsRow_nil _ _ _ _), Below.refl _ _⟩
  case round =>
    obtain ⟨i, acc, b, hil, rfl, rfl, hp, hown, hb⟩ := hrel
    have HL := Lib.hid hp.out.len
    by_cases hlt : i < ps.length
    · obtain ⟨q, hq⟩ : ∃ q, ps[i]? = some q := ⟨_, List.getElem?_eq_getElem hlt⟩
      obtain ⟨ad, rfl, c0, c1, c2⟩ := Pats.at_ HO.out hq
      have HQ := Lib.hid hq
      have ZZ := Lib.hid fun W (hW : Below W1.heap.size W1 W) => (⟨(hW.cell (World.block_lt_of_cell? _ _ c0)).trans c0, (hW.cell (World.block_lt_of_cell? _ _ c1)).trans c1, (hW.cell (World.block_lt_of_cell? _ _ c2)).trans c2⟩ : FilCells ad i q 0 ⟨#[]⟩ W)
      unfold FilCells at ZZ
      have i0' : (0 : Int) ≤ (i : Int) := Int.natCast_nonneg _
      have hi1 : (i : Int) < (ps.length : Int) := by omega
      have hlc := less_cb q p
      clear hq c0 c1 c2
      cases b with
      | false =>
        by_cases hc : cb q p < 0
        · have hls : Op.bytesLess q.toList p.toList = true := by rw [hlc]; exact decide_eq_true hc
          have hne : ¬ q.toList = p.toList := fun e => by rw [tl_eq e, cb_self] at hc; omega
          have hneb : (q.toList == p.toList) = false := by simpa using hne
          have FA := Lib.hid (put_lt hp.out HQ.out hc)
          clear hlc hc
          obtain ⟨x0, x1, x2⟩ := ZZ.out _ hb
          obtain ⟨y0, y1, y2⟩ := YY.out _ hb
          go_wp2_with fail
          go_quiet (fail)
          obtain ⟨w1, hw1⟩ : ∃ w1, w1 = wr.drewN nq := ⟨_, rfl⟩
          have hb1 : Below W1.heap.size W1 w1 := by rw [hw1]; exact below_drewN hb nq
          have hown1 : Hid (w1.ownsRow W1.heap.size 47 3 u5 acc.length (acc.flatMap cP)) := by rw [hw1]; exact hown
          rw [← hw1]
          clear hw1
          obtain ⟨x0, x1, x2⟩ := ZZ.out _ hb1
          obtain ⟨y0, y1, y2⟩ := YY.out _ hb1
          clear hown
          go_wp2_with fail
          go_quiet (fail)
          obtain ⟨w2, hw2⟩ : ∃ w2, w2 = w1.drewN nq := ⟨_, rfl⟩
          have hb2 : Below W1.heap.size W1 w2 := by rw [hw2]; exact below_drewN hb1 nq
          have hown2 : Hid (w2.ownsRow W1.heap.size 47 3 u5 acc.length (acc.flatMap cP)) := by rw [hw2]; exact hown1
          rw [← hw2]
          clear hw2
          clear x0 x1 x2 y0 y1 y2
          obtain ⟨x0, x1, x2⟩ := ZZ.out _ hb2
          obtain ⟨y0, y1, y2⟩ := YY.out _ hb2
          have hsz3 := hb2.size
          have own43 := hown2.out.alloc (.cells #[.string q, .int .i64 0, .string ⟨#[]⟩] 47)
          have news3 := news_one w2 #[.string q, .int .i64 0, .string ⟨#[]⟩] 47 w2.heap.size rfl
          go_wp2_with (at_builtin; refine wpList_append_own _ rfl _ _ 26 rfl W1.heap.size 47 i0 (.agg #[.string ⟨#[]⟩, .int .i64 0, .string ⟨#[]⟩]) 3 40 Tryd.underlying26 hi hz0 hz1 hz2 rfl (by decide) _ _ _ rfl own43 ⟨w2.heap.size, 0, none⟩ 1 1 [.string q, .int .i64 0, .string ⟨#[]⟩] rfl rfl news3 (by simp [Value.oneCell']) (by unfold maxLen; (have := HL.out; simp at this; omega)) (by (have := HL.out; simp at this; omega)) (by simp; omega) ?_; intro v3 w3 ow3 hg3 _)
          have hb3 : Below W1.heap.size W1 w3 := (hb2.alloc hsz3 _).grown hg3 (by simp; omega) (fun k hk => (hown2.out.lt k hk).1)
          have hown3 : Hid (w3.ownsRow W1.heap.size 47 3 v3 (acc ++ [q]).length ((acc ++ [q]).flatMap cP)) := Lib.hid (by rw [flat_snoc, List.length_append]; exact ow3)
          clear news3 own43 hg3 ow3
          go_wp2
          go_roundw
          case rel => exact ⟨i + 1, acc ++ [q], false, by omega, rfl, by go_num, FA, hown3, hb3⟩
          case measure => simp [intOf]; omega
        · have hls : Op.bytesLess q.toList p.toList = false := by rw [hlc]; exact decide_eq_false hc
          clear hlc
          by_cases hqp : q = p
          · subst hqp
            have FA := Lib.hid (put_eq HR.out hp.out HQ.out)
            clear hc
            obtain ⟨x0, x1, x2⟩ := ZZ.out _ hb
            obtain ⟨y0, y1, y2⟩ := YY.out _ hb
            go_wp2_with fail
            go_quiet (fail)
            obtain ⟨w1, hw1⟩ : ∃ w1, w1 = wr.drewN nq := ⟨_, rfl⟩
            have hb1 : Below W1.heap.size W1 w1 := by rw [hw1]; exact below_drewN hb nq
            have hown1 : Hid (w1.ownsRow W1.heap.size 47 3 u5 acc.length (acc.flatMap cP)) := by rw [hw1]; exact hown
            rw [← hw1]
            clear hw1
            obtain ⟨x0, x1, x2⟩ := ZZ.out _ hb1
            obtain ⟨y0, y1, y2⟩ := YY.out _ hb1
            clear hown
            have hsz2 := hb1.size
            have own42 := hown1.out.alloc (.cells #[.string q, .int .i64 0, .string ⟨#[]⟩] 47)
            have news2 := news_one w1 #[.string q, .int .i64 0, .string ⟨#[]⟩] 47 w1.heap.size rfl
            go_wp2_with (at_builtin; refine wpList_append_own _ rfl _ _ 26 rfl W1.heap.size 47 i0 (.agg #[.string ⟨#[]⟩, .int .i64 0, .string ⟨#[]⟩]) 3 40 Tryd.underlying26 hi hz0 hz1 hz2 rfl (by decide) _ _ _ rfl own42 ⟨w1.heap.size, 0, none⟩ 1 1 [.string q, .int .i64 0, .string ⟨#[]⟩] rfl rfl news2 (by simp [Value.oneCell']) (by unfold maxLen; (have := HL.out; simp at this; omega)) (by (have := HL.out; simp at this; omega)) (by simp; omega) ?_; intro v2 w2 ow2 hg2 _)
            have hb2 : Below W1.heap.size W1 w2 := (hb1.alloc hsz2 _).grown hg2 (by simp; omega) (fun k hk => (hown1.out.lt k hk).1)
            have hown2 : Hid (w2.ownsRow W1.heap.size 47 3 v2 (acc ++ [q]).length ((acc ++ [q]).flatMap cP)) := Lib.hid (by rw [flat_snoc, List.length_append]; exact ow2)
            clear news2 own42 hg2 ow2
            clear x0 x1 x2 y0 y1 y2
            obtain ⟨x0, x1, x2⟩ := ZZ.out _ hb2
            obtain ⟨y0, y1, y2⟩ := YY.out _ hb2
            go_wp2_with fail
            go_quiet (fail)
            obtain ⟨w3, hw3⟩ : ∃ w3, w3 = w2.drewN nq := ⟨_, rfl⟩
            have hb3 : Below W1.heap.size W1 w3 := by rw [hw3]; exact below_drewN hb2 nq
            have hown3 : Hid (w3.ownsRow W1.heap.size 47 3 v2 (acc ++ [q]).length ((acc ++ [q]).flatMap cP)) := by rw [hw3]; exact hown2
            rw [← hw3]
            clear hw3
            clear x0 x1 x2 y0 y1 y2
            obtain ⟨x0, x1, x2⟩ := ZZ.out _ hb3
            obtain ⟨y0, y1, y2⟩ := YY.out _ hb3
            go_wp2
            go_roundw
            case rel => exact ⟨i + 1, acc ++ [q], true, by omega, rfl, by go_num, FA, hown3, hb3⟩
            case measure => simp [intOf]; omega
          · have hne : ¬ q.toList = p.toList := fun e => hqp (tl_eq e)
            have hneb : (q.toList == p.toList) = false := by simpa using hne
            have FA := Lib.hid (put_ge HR.out hp.out HQ.out hc hqp)
            clear hc hqp
            obtain ⟨x0, x1, x2⟩ := ZZ.out _ hb
            obtain ⟨y0, y1, y2⟩ := YY.out _ hb
            go_wp2_with fail
            go_quiet (fail)
            obtain ⟨w1, hw1⟩ : ∃ w1, w1 = wr.drewN nq := ⟨_, rfl⟩
            have hb1 : Below W1.heap.size W1 w1 := by rw [hw1]; exact below_drewN hb nq
            have hown1 : Hid (w1.ownsRow W1.heap.size 47 3 u5 acc.length (acc.flatMap cP)) := by rw [hw1]; exact hown
            rw [← hw1]
            clear hw1
            obtain ⟨x0, x1, x2⟩ := ZZ.out _ hb1
            obtain ⟨y0, y1, y2⟩ := YY.out _ hb1
            clear hown
            have hsz2 := hb1.size
            have own42 := hown1.out.alloc (.cells #[.string p, .int .i64 0, .string ⟨#[]⟩] 47)
            have news2 := news_one w1 #[.string p, .int .i64 0, .string ⟨#[]⟩] 47 w1.heap.size rfl
            go_wp2_with (at_builtin; refine wpList_append_own _ rfl _ _ 26 rfl W1.heap.size 47 i0 (.agg #[.string ⟨#[]⟩, .int .i64 0, .string ⟨#[]⟩]) 3 40 Tryd.underlying26 hi hz0 hz1 hz2 rfl (by decide) _ _ _ rfl own42 ⟨w1.heap.size, 0, none⟩ 1 1 [.string p, .int .i64 0, .string ⟨#[]⟩] rfl rfl news2 (by simp [Value.oneCell']) (by unfold maxLen; (have := HL.out; simp at this; omega)) (by (have := HL.out; simp at this; omega)) (by simp; omega) ?_; intro v2 w2 ow2 hg2 _)
            have hb2 : Below W1.heap.size W1 w2 := (hb1.alloc hsz2 _).grown hg2 (by simp; omega) (fun k hk => (hown1.out.lt k hk).1)
            have hown2 : Hid (w2.ownsRow W1.heap.size 47 3 v2 (acc ++ [p]).length ((acc ++ [p]).flatMap cP)) := Lib.hid (by rw [flat_snoc, List.length_append]; exact ow2)
            clear news2 own42 hg2 ow2
            clear x0 x1 x2 y0 y1 y2
            obtain ⟨x0, x1, x2⟩ := ZZ.out _ hb2
            obtain ⟨y0, y1, y2⟩ := YY.out _ hb2
            go_wp2_with fail
            go_quiet (fail)
            obtain ⟨w3, hw3⟩ : ∃ w3, w3 = w2.drewN nq := ⟨_, rfl⟩
            have hb3 : Below W1.heap.size W1 w3 := by rw [hw3]; exact below_drewN hb2 nq
            have hown3 : Hid (w3.ownsRow W1.heap.size 47 3 v2 (acc ++ [p]).length ((acc ++ [p]).flatMap cP)) := by rw [hw3]; exact hown2
            rw [← hw3]
            clear hw3
            clear x0 x1 x2 y0 y1 y2
            obtain ⟨x0, x1, x2⟩ := ZZ.out _ hb3
            obtain ⟨y0, y1, y2⟩ := YY.out _ hb3
            have hsz4 := hb3.size
            have own44 := hown3.out.alloc (.cells #[.string q, .int .i64 0, .string ⟨#[]⟩] 47)
            have news4 := news_one w3 #[.string q, .int .i64 0, .string ⟨#[]⟩] 47 w3.heap.size rfl
            go_wp2_with (at_builtin; refine wpList_append_own _ rfl _ _ 26 rfl W1.heap.size 47 i0 (.agg #[.string ⟨#[]⟩, .int .i64 0, .string ⟨#[]⟩]) 3 40 Tryd.underlying26 hi hz0 hz1 hz2 rfl (by decide) _ _ _ rfl own44 ⟨w3.heap.size, 0, none⟩ 1 1 [.string q, .int .i64 0, .string ⟨#[]⟩] rfl rfl news4 (by simp [Value.oneCell']) (by unfold maxLen; (have := HL.out; rw [List.length_append, List.length_singleton]; simp at this; omega)) (by (have := HL.out; rw [List.length_append, List.length_singleton]; simp at this; omega)) (by simp; omega) ?_; intro v4 w4 ow4 hg4 _)
            have hb4 : Below W1.heap.size W1 w4 := (hb3.alloc hsz4 _).grown hg4 (by simp; omega) (fun k hk => (hown3.out.lt k hk).1)
            have hown4 : Hid (w4.ownsRow W1.heap.size 47 3 v4 ((acc ++ [p]) ++ [q]).length (((acc ++ [p]) ++ [q]).flatMap cP)) := Lib.hid (by rw [flat_snoc, List.length_append]; exact ow4)
            clear news4 own44 hg4 ow4
            go_wp2
            go_roundw
            case rel => exact ⟨i + 1, acc ++ [p] ++ [q], true, by omega, rfl, by go_num, FA, hown4, hb4⟩
            case measure => simp [intOf]; omega
      | true =>
        have FA := Lib.hid (put_past HR.out hp.out HQ.out)
        have hne : ¬ q.toList = p.toList := fun e => FA.out.1 (tl_eq e)
        have hneb : (q.toList == p.toList) = false := by simpa using hne
        clear hlc
        obtain ⟨x0, x1, x2⟩ := ZZ.out _ hb
        obtain ⟨y0, y1, y2⟩ := YY.out _ hb
        go_wp2_with fail
        go_quiet (fail)
        obtain ⟨w1, hw1⟩ : ∃ w1, w1 = wr.drewN nq := ⟨_, rfl⟩
        have hb1 : Below W1.heap.size W1 w1 := by rw [hw1]; exact below_drewN hb nq
        have hown1 : Hid (w1.ownsRow W1.heap.size 47 3 u5 acc.length (acc.flatMap cP)) := by rw [hw1]; exact hown
        rw [← hw1]
        clear hw1
        obtain ⟨x0, x1, x2⟩ := ZZ.out _ hb1
        obtain ⟨y0, y1, y2⟩ := YY.out _ hb1
        clear hown
        go_wp2_with fail
        go_quiet (fail)
        obtain ⟨w2, hw2⟩ : ∃ w2, w2 = w1.drewN nq := ⟨_, rfl⟩
        have hb2 : Below W1.heap.size W1 w2 := by rw [hw2]; exact below_drewN hb1 nq
        have hown2 : Hid (w2.ownsRow W1.heap.size 47 3 u5 acc.length (acc.flatMap cP)) := by rw [hw2]; exact hown1
        rw [← hw2]
        clear hw2
        clear x0 x1 x2 y0 y1 y2
        obtain ⟨x0, x1, x2⟩ := ZZ.out _ hb2
        obtain ⟨y0, y1, y2⟩ := YY.out _ hb2
        have hsz3 := hb2.size
        have own43 := hown2.out.alloc (.cells #[.string q, .int .i64 0, .string ⟨#[]⟩] 47)
        have news3 := news_one w2 #[.string q, .int .i64 0, .string ⟨#[]⟩] 47 w2.heap.size rfl
        go_wp2_with (at_builtin; refine wpList_append_own _ rfl _ _ 26 rfl W1.heap.size 47 i0 (.agg #[.string ⟨#[]⟩, .int .i64 0, .string ⟨#[]⟩]) 3 40 Tryd.underlying26 hi hz0 hz1 hz2 rfl (by decide) _ _ _ rfl own43 ⟨w2.heap.size, 0, none⟩ 1 1 [.string q, .int .i64 0, .string ⟨#[]⟩] rfl rfl news3 (by simp [Value.oneCell']) (by unfold maxLen; (have := HL.out; simp at this; omega)) (by (have := HL.out; simp at this; omega)) (by simp; omega) ?_; intro v3 w3 ow3 hg3 _)
        have hb3 : Below W1.heap.size W1 w3 := (hb2.alloc hsz3 _).grown hg3 (by simp; omega) (fun k hk => (hown2.out.lt k hk).1)
        have hown3 : Hid (w3.ownsRow W1.heap.size 47 3 v3 (acc ++ [q]).length ((acc ++ [q]).flatMap cP)) := Lib.hid (by rw [flat_snoc, List.length_append]; exact ow3)
        clear news3 own43 hg3 ow3
        go_wp2
        go_roundw
        case rel => exact ⟨i + 1, acc ++ [q], true, by omega, rfl, by go_num, Lib.hid FA.out.2, hown3, hb3⟩
        case measure => simp [intOf]; omega
    · obtain rfl : i = ps.length := by omega
      have HE := Lib.hid (put_end HR.out hp.out)
      cases b with
      | true =>
        have HE2 : Hid (nrm (ps ++ [p]) = acc) := Lib.hid HE.out
        go_wp2
        go_ret
        exact ⟨_, rfl, by rw [HE2.out]; exact own_base hown.out HB1.out.size, HB1.out.trans (hb.mono HB1.out.size)⟩
      | false =>
        have HE2 : Hid (nrm (ps ++ [p]) = acc ++ [p]) := Lib.hid HE.out
        obtain ⟨y0, y1, y2⟩ := YY.out _ hb
        have hsz3 := hb.size
        have own43 := hown.out.alloc (.cells #[.string p, .int .i64 0, .string ⟨#[]⟩] 47)
        have news3 := news_one wr #[.string p, .int .i64 0, .string ⟨#[]⟩] 47 wr.heap.size rfl
        go_wp2_with (at_builtin; refine wpList_append_own _ rfl _ _ 26 rfl W1.heap.size 47 i0 (.agg #[.string ⟨#[]⟩, .int .i64 0, .string ⟨#[]⟩]) 3 40 Tryd.underlying26 hi hz0 hz1 hz2 rfl (by decide) _ _ _ rfl own43 ⟨wr.heap.size, 0, none⟩ 1 1 [.string p, .int .i64 0, .string ⟨#[]⟩] rfl rfl news3 (by simp [Value.oneCell']) (by unfold maxLen; (have := HL.out; simp at this; omega)) (by (have := HL.out; simp at this; omega)) (by simp; omega) ?_; intro v3 w3 ow3 hg3 _)
        have hb3 : Below W1.heap.size W1 w3 := (hb.alloc hsz3 _).grown hg3 (by simp; omega) (fun k hk => (hown.out.lt k hk).1)
        have hown3 : Hid (w3.ownsRow W1.heap.size 47 3 v3 (acc ++ [p]).length ((acc ++ [p]).flatMap cP)) := Lib.hid (by rw [flat_snoc, List.length_append]; exact ow3)
        clear news3 own43 hg3 ow3
        go_wp2
        go_ret
        exact ⟨_, rfl, by rw [HE2.out]; exact own_base hown3.out HB1.out.size, HB1.out.trans (hb3.mono HB1.out.size)⟩
end Go.Proofs.YtplleaimmmanhaaDoor
