/-
  reach: the marks of all that is reached.
-/
import Derived.Test.YtanjcjnkppnhcaaDoorGrGSee
import Derived.Deep.LoopGhost
import Derived.Outline
namespace Go.Proofs.YtanjcjnkppnhcaaDoor.G
open Go.RowKit

/-- The marks come back in a row of the call's own. -/
def Reached (w : World) (gs : List (List Int)) (cs : List Int) (e : Ending) (w' : World) : Prop :=
  ∃ bs, e = .returned (sl bs (gs.length + 1)) ∧ w'.ownsRow w.heap.size 4 1 (sl bs (gs.length + 1)) (gs.length + 1) (bv (mkL (gs.length + 1) (anc gs cs))) ∧ Below w.heap.size w w'

theorem snoc_cases {α : Type} (l : List α) : l = [] ∨ ∃ l' y, l = l' ++ [y] := by
  rcases List.eq_nil_or_concat l with h | ⟨l', y, h⟩
  · exact .inl h
  · exact .inr ⟨l', y, by rw [h, List.concat_eq_append]⟩

/-- The last one waits no more. -/
theorem Sq.pop {wb w : World} {b2 b5 b6 bs n gw cw : Nat} {vg : Value} {S : List Bool} {W : List Int} {y : Int} (h : Sq wb w b2 b5 b6 bs n vg (.slice (some ⟨gw, 0, none⟩) (W.length + 1) cw) S (W ++ [y])) :
    Sq wb (w.setCell ⟨b6, 0, none⟩ (.slice (some ⟨gw, 0, none⟩) W.length cw)) b2 b5 b6 bs n vg (.slice (some ⟨gw, 0, none⟩) W.length cw) S W := by
  have hst := grown_store w b6 0 (.slice (some ⟨gw, 0, none⟩) W.length cw)
  have ho : w.ownsRow wb.heap.size 3 1 (.slice (some ⟨gw, 0, none⟩) W.length cw) W.length (ivs W) := by
    have h1 := h.ow
    rw [List.length_append, List.length_singleton] at h1
    have h2 : ivs (W ++ [y]) = ivs W ++ [Value.int .i64 y] := by simp [ivs]
    rw [h2] at h1
    exact ownsRow_pop (by simp [ivs]) h1
  exact ⟨h.g.far (Blk.ne_ h.g h.q (by decide)) _, h.s.far (Blk.ne_ h.s h.q (by decide)) _, h.q.set_ 0 _, h.os.kept hst (.inr (own_blk_ne h.os h.q (by decide))), ho.kept hst (.inr (own_blk_ne ho h.q (by decide))), h.b.setCell h.l6 _, h.l6⟩

theorem own_cap {w : World} {base size : Nat} {e : TypeId} {A : Option Addr} {n c : Nat} {xs : List Value} (h : w.ownsRow base e size (.slice A n c) n xs) : n ≤ c := by
  rcases h.2 with ⟨h1, rfl⟩ | ⟨g, cap, cur, h1, _, _, h2, _⟩
  · omega
  · injection h1 with _ _ e
    rw [e]; exact h2

/-- What stands at each round's head. -/
structure Rd (wb w : World) (b2 b5 b6 bs : Nat) (vg vw : Value) (gs : List (List Int)) (cs : List Int) (S : List Bool) (W : List Int) : Prop where
  q : Sq wb w b2 b5 b6 bs (gs.length + 1) vg vw S W
  i : Inv gs cs S W
  c : ∀ c ∈ cs, 1 ≤ c → c ≤ gs.length → S[c.toNat]? = some true

theorem rd_first {wb w : World} {b2 b5 b6 bs : Nat} {vg : Value} {gs : List (List Int)} {cs : List Int} {e : Ending} (h : SeeQ wb b2 b5 b6 bs (gs.length + 1) vg (seeL gs.length cs (List.replicate (gs.length + 1) false, [])) e w) :
    e = .returned (.tuple #[]) ∧ ∃ S W vw, Rd wb w b2 b5 b6 bs vg vw gs cs S W := by
  obtain ⟨he, vw, hq⟩ := h
  have hs := seen_seeL (n := gs.length) (S := List.replicate (gs.length + 1) false) (W := []) (by simp) cs
  exact ⟨he, _, _, vw, hq, inv_start hs, hs.now⟩
theorem rd_next {wb w0 w : World} {b2 b5 b6 bs : Nat} {vg v0 : Value} {gs : List (List Int)} {cs : List Int} {S : List Bool} {W : List Int} {y : Int} {e : Ending} (r : Rd wb w0 b2 b5 b6 bs vg v0 gs cs S (W ++ [y])) (h : SeeQ wb b2 b5 b6 bs (gs.length + 1) vg (seeL gs.length (par gs y) (S, W)) e w) :
    e = .returned (.tuple #[]) ∧ ∃ S' W' vw, Rd wb w b2 b5 b6 bs vg vw gs cs S' W' ∧ 2 * cf S' + W'.length < 2 * cf S + (W ++ [y]).length := by
  obtain ⟨he, vw, hq⟩ := h
  have hs := seen_seeL (n := gs.length) (S := S) (W := W) r.i.len (par gs y)
  have := hs.room
  have := hs.le
  exact ⟨he, _, _, vw, ⟨hq, inv_step r.i hs, fun c hc a b => hs.old _ (r.c c hc a b)⟩, by simp; omega⟩

set_option maxHeartbeats 2000000 in
theorem reach_any (w : World) (v u : Value) (gs : List (List Int)) (cs : List Int) (hG : Rows w v gs) (hC : Ints w u cs) (hN : gs.length ≤ 2000) :
    Calls Tryd.prog 21 #[v, u] w (Reached w gs cs) := by
  obtain ⟨i0, hi, hz0, hz1, hz2⟩ := info_parts boolInfo
  obtain ⟨A, c, rfl⟩ := hG.form
  obtain ⟨B, d, rfl⟩ := hC.form
  have hmk : ∀ W : World, (Instr.makeSlice 63 (.int .i64 ((gs.length : Int) + 1)) (.int .i64 ((gs.length : Int) + 1))).run Tryd.prog W = .ok (sl W.heap.size (gs.length + 1)) (W.alloc (.cells (madeCells #[Value.bool false] (gs.length + 1)) 4)) := fun W => by
    have := run_make_rowN (P := Tryd.prog) 63 4 i0 (.bool false) Tryd.underlying63 hi hz0 .i64 .i64 (gs.length + 1) (gs.length + 1) (Nat.le_refl _) (by rw [hz2]; omega) (by omega) W
    simp only [hz1, Nat.mul_one] at this
    rw [show ((gs.length + 1 : Nat) : Int) = (gs.length : Int) + 1 from by omega] at this
    exact this
  have Q0 : Sq w ((((w.alloc (.cells #[.slice A gs.length c] 23)).alloc (.cells (madeCells #[Value.bool false] (gs.length + 1)) 4)).alloc (.cells #[sl (w.heap.size + 1) (gs.length + 1)] 63)).alloc (.cells #[.slice none 0 0] 42)) w.heap.size (w.heap.size + 2) (w.heap.size + 3) (w.heap.size + 1) (gs.length + 1) (.slice A gs.length c) (.slice none 0 0) (List.replicate (gs.length + 1) false) [] := by
    have o1 := made_bools (w.alloc (.cells #[.slice A gs.length c] 23)) w.heap.size (gs.length + 1) (by simp) (by unfold maxLen; omega)
    rw [show (w.alloc (.cells #[.slice A gs.length c] 23)).heap.size = w.heap.size + 1 from by simp] at o1
    have k2 := Blk.new ((w.alloc (.cells #[.slice A gs.length c] 23)).alloc (.cells (madeCells #[Value.bool false] (gs.length + 1)) 4)) 63 #[sl (w.heap.size + 1) (gs.length + 1)]
    have k3 := Blk.new (((w.alloc (.cells #[.slice A gs.length c] 23)).alloc (.cells (madeCells #[Value.bool false] (gs.length + 1)) 4)).alloc (.cells #[sl (w.heap.size + 1) (gs.length + 1)] 63)) 42 #[.slice none 0 0]
    have e2 : ∀ (X : World) (o : Obj), (X.alloc o).heap.size = X.heap.size + 1 := fun X o => by simp
    rw [e2, e2] at k2
    rw [e2, e2, e2] at k3
    exact ⟨(((Blk.new w _ _).alloc _).alloc _).alloc _, k2.alloc _, k3, (o1.alloc _).alloc _, World.ownsRow_nil _ _ _ _, ((((Below.refl _ _).alloc (Nat.le_refl _) _).alloc (by simp) _).alloc (by simp; omega) _).alloc (by simp; omega) _, by omega⟩
  have HG := Lib.hid hG
  have HC := Lib.hid hC
  clear hG hC
  go_enter Tryd.func21, Tryd.ntmps21
  go_wp2_with fail
  refine (see_any w _ _ _ _ _ gs.length c A _ _ cs _ _ hN HC.out (by simp) (by simp [cf, List.countP_replicate]) Q0).mono ?_
  clear Q0
  intro e w1 hs
  obtain ⟨rfl, S, W, vw, R0⟩ := rd_first hs
  clear hs
  go_wp2_with fail
  go_loopg [8] (2 * cf S + W.length) (fun n _ wr => ∃ S W vw, n = 2 * cf S + W.length ∧ Rd w wr w.heap.size (w.heap.size + 2) (w.heap.size + 3) (w.heap.size + 1) (.slice A gs.length c) vw gs cs S W)
  case atStart => exact ⟨S, W, vw, rfl, R0⟩
  case round =>
    clear R0
    obtain ⟨S, W, vw, hn, R⟩ := hrel
    have Hn := Lib.hid hn
    clear hn
    have c1 := R.q.g.cell 0
    have c2 := R.q.s.cell 0
    have c3 := R.q.q.cell 0
    simp only [List.getElem?_toArray, List.getElem?_cons_zero] at c1 c2 c3
    rcases snoc_cases W with rfl | ⟨W, y, rfl⟩
    · obtain ⟨Aw, cw, rfl⟩ := own_form R.q.ow
      have HE := Lib.hid (inv_end R.i R.c)
      have HQ := Lib.hid R.q
      clear R
      go_wp2_with fail
      go_ret
      have ho := HQ.out.os
      rw [HE.out] at ho
      exact ⟨_, rfl, ho, HQ.out.b⟩
    · obtain ⟨gw, cw, rfl, _, _⟩ := World.ownsRow.form R.q.ow (by simp)
      obtain ⟨y1, y2, _⟩ := R.i.wait y (by simp)
      have hwl := R.i.room
      have hown := R.q.ow
      have HR := Lib.hid R
      clear R
      have el : (W ++ [y]).length = W.length + 1 := by simp
      have hcy : (ivs (W ++ [y]))[W.length]? = some (.int .i64 y) := by simp [ivs]
      have R1 : Sq w wr w.heap.size (w.heap.size + 2) (w.heap.size + 3) (w.heap.size + 1) (gs.length + 1) (.slice A gs.length c) (.slice (some ⟨gw, 0, none⟩) (W.length + 1) cw) S (W ++ [y]) := by rw [← el]; exact HR.out.q
      rw [el] at c3 hown hwl
      have c5 := hown.cellAt W.length (by omega)
      rw [hcy] at c5
      have z6 := R1.q.frozen 0
      have SP := R1.pop
      have d1 := SP.g.cell 0
      have d2 := SP.q.cell 0
      simp only [List.getElem?_toArray, List.getElem?_cons_zero] at d1 d2
      obtain ⟨l, hl⟩ : ∃ l, gs[y.toNat - 1]? = some l := ⟨_, List.getElem?_eq_getElem (by omega)⟩
      have HP : Hid (par gs y = l) := Lib.hid (by unfold par; rw [List.getD_eq_getElem?_getD, hl]; rfl)
      obtain ⟨ad, u, rfl, hcu, hu⟩ := HG.out.cell hl
      have c6 := (SP.b.cell (World.block_lt_of_cell? w _ hcu)).trans hcu
      have HSP := Lib.hid SP
      have HU := Lib.hid hu
      have wl0 : (0 : Int) ≤ (W.length : Int) := by omega
      have wl1 : W.length ≤ 2001 := by omega
      have wl2 : (W.length : Int) ≤ (cw : Int) := by have := own_cap hown; omega
      have y3 : (0 : Int) ≤ y - 1 := by omega
      have y4 : y - 1 < (gs.length : Int) := by omega
      clear el hcy R1 hown hl hcu SP hu
      go_wp2_with fail
      refine (see_any w _ _ _ _ _ gs.length c _ u _ l S W hN HU.out HR.out.i.len (by omega) HSP.out).mono ?_
      intro e w2 hs
      rw [← HP.out] at hs
      obtain ⟨rfl, S', W', vw', R', hlt⟩ := rd_next HR.out hs
      clear hs
      go_wp2_with fail
      go_roundg (2 * cf S' + W'.length)
      case measure => have := Hn.out; omega
      case rel => exact ⟨S', W', vw', rfl, R'⟩

end Go.Proofs.YtanjcjnkppnhcaaDoor.G
