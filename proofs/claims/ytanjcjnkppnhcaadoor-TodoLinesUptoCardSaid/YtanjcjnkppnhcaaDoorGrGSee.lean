/-
  reach's own function 'see': what can be seen is marked, and waits.
-/
import Derived.Test.YtanjcjnkppnhcaaDoorGrGWords
import Derived.Outline
namespace Go.Proofs.YtanjcjnkppnhcaaDoor.G
open Go.RowKit

theorem seeL_take (n : Nat) (l : List Int) (s : List Bool × List Int) {k : Nat} {x : Int} (h : l[k]? = some x) : seeL n (l.take (k + 1)) s = see1 n (seeL n (l.take k) s) x := by
  unfold seeL
  rw [List.take_add_one, h]
  simp
theorem seen_seeL {n : Nat} {S : List Bool} {W : List Int} (hS : S.length = n + 1) (l : List Int) : Seen n l S W (seeL n l (S, W)).1 (seeL n l (S, W)).2 := by
  have h : ∀ k, k ≤ l.length → Seen n (l.take k) S W (seeL n (l.take k) (S, W)).1 (seeL n (l.take k) (S, W)).2 := by
    intro k
    induction k with
    | zero => intro _; exact seen_nil
    | succ k ih =>
      intro hk
      have hx : l[k]? = some l[k] := List.getElem?_eq_getElem (by omega)
      have := seen_snoc hS (ih (by omega)) l[k]
      rw [seeL_take n l (S, W) hx, List.take_add_one, hx]
      exact this
  have := h l.length (Nat.le_refl _)
  rwa [List.take_length] at this

/-- What see works on: its captured blocks. -/
structure Sq (wb w : World) (b2 b5 b6 bs n : Nat) (vg vw : Value) (S : List Bool) (W : List Int) : Prop where
  g : Blk w b2 23 #[vg]
  s : Blk w b5 63 #[sl bs n]
  q : Blk w b6 42 #[vw]
  os : w.ownsRow wb.heap.size 4 1 (sl bs n) n (bv S)
  ow : w.ownsRow wb.heap.size 3 1 vw W.length (ivs W)
  b : Below wb.heap.size wb w
  l6 : wb.heap.size ≤ b6

section
variable {wb w w' : World} {b2 b5 b6 bs n : Nat} {vg vw : Value} {S : List Bool} {W : List Int}
theorem Sq.below (h : Sq wb w b2 b5 b6 bs n vg vw S W) (hb : Below w.heap.size w w') : Sq wb w' b2 b5 b6 bs n vg vw S W :=
  ⟨h.g.below hb h.g.lt, h.s.below hb h.s.lt, h.q.below hb h.q.lt, own_keep h.os hb, own_keep h.ow hb, h.b.trans (hb.mono h.b.size), h.l6⟩
theorem Sq.mark (h : Sq wb w b2 b5 b6 bs n vg vw S W) (i : Nat) : Sq wb (w.setCell ⟨bs, i, none⟩ (.bool true)) b2 b5 b6 bs n vg vw (S.set i true) W := by
  obtain ⟨ho, hg⟩ := h.os.stored i (.bool true)
  have hs : (bv S).set i (.bool true) = bv (S.set i true) := by unfold bv; rw [List.map_set]
  rw [hs] at ho
  have n2 := own_blk_ne h.os h.g (by decide)
  have n5 := own_blk_ne h.os h.s (by decide)
  have n6 := own_blk_ne h.os h.q (by decide)
  have nw := own_own_ne h.ow h.os (by decide)
  have hl := (h.os.lt bs rfl).1
  exact ⟨h.g.grown hg (Ne.symm n2), h.s.grown hg (Ne.symm n5), h.q.grown hg (Ne.symm n6), ho, h.ow.kept hg nw, h.b.setCell hl _, h.l6⟩
/-- Behind the append: the box of the waiting row stands still. -/
theorem Sq.box {w1 : World} (h : Sq wb w b2 b5 b6 bs n vg vw S W) (hB : Below w.heap.size w w1) (hg : w1.grownBy w' vw.ownBlock) : Blk w' b6 42 #[vw] := by
  have h1 := h.below hB
  exact h1.q.grown hg (Ne.symm (own_blk_ne h1.ow h1.q (by decide)))
/-- Behind the append, and the store of the waiting row. -/
theorem Sq.push {w1 : World} (h : Sq wb w b2 b5 b6 bs n vg vw S W) (hB : Below w.heap.size w w1) (hg : w1.grownBy w' vw.ownBlock) {v' : Value} {W' : List Int} (ho : w'.ownsRow wb.heap.size 3 1 v' W'.length (ivs W')) : Sq wb (w'.setCell ⟨b6, 0, none⟩ v') b2 b5 b6 bs n vg v' S W' := by
  have h1 := h.below hB
  have n2 := own_blk_ne h1.ow h1.g (by decide)
  have n5 := own_blk_ne h1.ow h1.s (by decide)
  have nw := own_own_ne h1.os h1.ow (by decide)
  have g2 := h1.g.grown hg (Ne.symm n2)
  have g5 := h1.s.grown hg (Ne.symm n5)
  have g6 := h.box hB hg
  have gs := h1.os.kept hg nw
  have gb := h1.b.grown hg h1.b.size (fun k hk => (h1.ow.lt k hk).1)
  have hst := grown_store w' b6 0 v'
  exact ⟨g2.far (Blk.ne_ g2 g6 (by decide)) _, g5.far (Blk.ne_ g5 g6 (by decide)) _, g6.set_ 0 v', gs.kept hst (.inr (own_blk_ne gs g6 (by decide))), ho.kept hst (.inr (own_blk_ne ho g6 (by decide))), gb.setCell h.l6 _, h.l6⟩
end

def SeeQ (wb : World) (b2 b5 b6 bs n : Nat) (vg : Value) (s : List Bool × List Int) (e : Ending) (w' : World) : Prop := e = .returned (.tuple #[]) ∧ ∃ vw, Sq wb w' b2 b5 b6 bs n vg vw s.1 s.2

set_option maxHeartbeats 2000000 in
theorem see_any (wb w : World) (b2 b5 b6 bs N cg : Nat) (Ag : Option Addr) (v vw : Value) (l : List Int) (S : List Bool) (W : List Int) (hN : N ≤ 2000) (hL : Ints wb v l) (hS : S.length = N + 1) (hroom : W.length + cf S ≤ N + 1)
    (h : Sq wb w b2 b5 b6 bs (N + 1) (.slice Ag N cg) vw S W) :
    Calls Tryd.prog 32 #[v, .pointer (some ⟨b2, 0, none⟩), .pointer (some ⟨b5, 0, none⟩), .pointer (some ⟨b6, 0, none⟩)] w (SeeQ wb b2 b5 b6 bs (N + 1) (.slice Ag N cg) (seeL N l (S, W))) := by
  obtain ⟨i0, hi, hz0, hz1, hz2⟩ := info_parts intInfo
  obtain ⟨A, c, rfl⟩ := hL.form
  have hlen := hL.len
  have hl63 : l.length ≤ 9223372036854775807 := by have := hlen.2.2; unfold maxLen at this; omega
  have HL := Lib.hid hL
  have HS := Lib.hid hS
  clear hL hlen hS
  go_enter Tryd.func32, Tryd.ntmps32
  go_wp2
  go_loopw [9] (fun s9 wr => ∃ (k : Nat) (vw' : Value), k ≤ l.length ∧ s9 = .int .i64 k ∧ Sq wb wr b2 b5 b6 bs (N + 1) (.slice Ag N cg) vw' (seeL N (l.take k) (S, W)).1 (seeL N (l.take k) (S, W)).2) (fun s9 _ => l.length - (intOf s9).toNat)
  case atStart => exact ⟨0, _, Nat.zero_le _, rfl, h⟩
  case round =>
    clear h
    obtain ⟨k, vk, hk, rfl, hq⟩ := hrel
    have k0 : (0 : Int) ≤ (k : Int) := Int.natCast_nonneg _
    by_cases hlt : k < l.length
    · have k1 : (k : Int) < (l.length : Int) := by omega
      obtain ⟨x, hx⟩ : ∃ x, l[k]? = some x := ⟨_, List.getElem?_eq_getElem hlt⟩
      have hseen := seen_seeL (W := W) HS.out (l.take k)
      have hr := hseen.room
      have hl1 := hseen.len
      have HN := Lib.hid (seeL_take N l (S, W) hx)
      obtain ⟨ad, rfl, c0⟩ := (HL.out.below hq.b).cell hx
      have c1 := hq.g.cell 0
      have c2 := hq.s.cell 0
      have c3 := hq.q.cell 0
      simp only [List.getElem?_toArray, List.getElem?_cons_zero] at c1 c2 c3
      generalize (seeL N (l.take k) (S, W)) = st at *
      obtain ⟨S1, W1⟩ := st
      simp only at hq hr hl1 HN
      have hs1 : S1.length = N + 1 := by have := HS.out; omega
      have Hs1 := Lib.hid hs1
      have Hhx := Lib.hid hx
      have hwl : W1.length ≤ 2001 := by omega
      clear hs1 hx hseen hr hl1
      by_cases h1 : 1 ≤ x
      · by_cases h2 : x ≤ (N : Int)
        · have x0 : (0 : Int) ≤ x := by omega
          have x1 : x < (N : Int) + 1 := by omega
          obtain ⟨b, hb⟩ : ∃ b, S1[x.toNat]? = some b := ⟨_, List.getElem?_eq_getElem (by have := Hs1.out; omega)⟩
          have c4 := hq.os.cellAt x.toNat (by omega)
          have hc4 : (bv S1)[x.toNat]? = some (.bool b) := by simp [hb]
          rw [hc4] at c4
          have f4 := hq.os.frozenAt x.toNat
          cases b with
          | true =>
            have HE : Hid (see1 N (S1, W1) x = (S1, W1)) := Lib.hid (by unfold see1; rw [if_neg (fun h => by have := h.2.2; rw [List.getD_eq_getElem?_getD] at this; simp [hb] at this)])
            clear hb hc4
            go_wp2
            go_roundw
            case rel => exact ⟨k + 1, vk, by omega, by go_num, by rw [HN.out, HE.out]; exact hq⟩
            case measure => simp [intOf]; omega
          | false =>
            have HE : Hid (see1 N (S1, W1) x = (S1.set x.toNat true, W1 ++ [x])) := Lib.hid (by unfold see1; rw [if_pos ⟨h1, h2, by rw [List.getD_eq_getElem?_getD]; simp [hb]⟩])
            clear hb hc4
            have hm := hq.mark x.toNat
            obtain ⟨Aw, cw, rfl⟩ := own_form hm.ow
            have d3 := hm.q.cell 0
            simp only [List.getElem?_toArray, List.getElem?_cons_zero] at d3
            have hB := (Below.refl _ (wr.setCell ⟨bs, x.toNat, none⟩ (.bool true))).alloc (Nat.le_refl _) (.cells #[.int .i64 x] 3)
            have hnews := World.news_of_block (cs := #[.int .i64 x]) (t := 3) (fr := (0, 0)) (heap_alloc_new (wr.setCell ⟨bs, x.toNat, none⟩ (.bool true)) (.cells #[.int .i64 x] 3))
            rw [show (wr.setCell ⟨bs, x.toNat, none⟩ (.bool true)).heap.size = wr.heap.size from by simp [World.setCell]] at hnews
            have HB := Lib.hid hB
            have HM := Lib.hid hm
            have hbase : wb.heap.size ≤ ((wr.setCell ⟨bs, x.toNat, none⟩ (.bool true)).alloc (.cells #[.int .i64 x] 3)).heap.size := by have := hm.b.size; simp at this ⊢; omega
            have hown := hm.ow.alloc (.cells #[.int .i64 x] 3)
            clear hB hm hq
            go_wp2_with (at_builtin; refine wpList_append_lies _ rfl _ _ 42 rfl wb.heap.size 3 i0 (.int .i64 0) 1 8 Tryd.underlying42 hi hz0 hz1 hz2 rfl (by omega) _ _ _ rfl hown ⟨wr.heap.size, 0, none⟩ 1 1 [.int .i64 x] rfl rfl hnews (by simp [Value.oneCell']) (by omega) (by unfold maxLen; omega) (by omega) hbase (wr.heap.size + 1) (by simp [World.setCell]) ?_; intro gg cap w1 hown1 hgrow hat hlt1; have hx6 := HM.out.box HB.out hgrow; have e6 := hx6.cell 0; have z6 := hx6.frozen 0; simp only [List.getElem?_toArray, List.getElem?_cons_zero] at e6)
            go_roundw
            case rel => exact ⟨k + 1, _, by omega, by go_num, by rw [HN.out, HE.out]; exact HM.out.push HB.out hgrow (W' := W1 ++ [x]) (by simpa [ivs] using hown1)⟩
            case measure => simp [intOf]; omega
        · have h2' : decide (x ≤ (N : Int)) = false := by simpa using h2
          have HE : Hid (see1 N (S1, W1) x = (S1, W1)) := Lib.hid (by unfold see1; rw [if_neg (fun h => h2 h.2.1)])
          go_wp2
          go_roundw
          case rel => exact ⟨k + 1, vk, by omega, by go_num, by rw [HN.out, HE.out]; exact hq⟩
          case measure => simp [intOf]; omega
      · have h1' : decide (1 ≤ x) = false := by simpa using h1
        have HE : Hid (see1 N (S1, W1) x = (S1, W1)) := Lib.hid (by unfold see1; rw [if_neg (fun h => h1 h.1)])
        go_wp2
        go_roundw
        case rel => exact ⟨k + 1, vk, by omega, by go_num, by rw [HN.out, HE.out]; exact hq⟩
        case measure => simp [intOf]; omega
    · obtain rfl : k = l.length := by omega
      rw [List.take_length] at hq
      go_wp2
      go_end0
      exact ⟨rfl, vk, hq⟩

end Go.Proofs.YtanjcjnkppnhcaaDoor.G
