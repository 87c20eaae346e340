/-
  Clone of any slice of texts; whole; what a chunk decides.
  decide: what one side changed, or both alike.
  take, the plain part: what stands while the chunk is laid.
  The cutter's row of chunks, and what stands between two steps.
  Behind take and decide, the plain part.
  take: the chunk's three texts, each in a row of its own.
  between: what lies ahead of the next kept line.
  Behind take in kept, the plain part.
  kept: the row of kept lines that begins here: how far it goes.
  diff.Common, diff.Cost.
  The rows of lines that are kept, by plain lists.
  diff.Matches: the rows of lines that are kept.
-/
import Derived.Test.YtdpoeagmeiedcaaDoorG2
import Derived.BigQuiet
import Derived.Deep.AppendLies
import Derived.Deep.RegionLaw
import Derived.Deep.DeepCutAuto
import Derived.Deep.CutBlock
import Derived.Deep.RegionHeld3
import Derived.IntWalk
import Derived.Deep.DrawnRows
namespace Go.Proofs.YtdpoeagmeiedcaaDoor
open Go.RowKit

def Cloned (w : World) (xs : List ByteArray) (e : Ending) (w' : World) : Prop := ∃ v, e = .returned v ∧ w'.ownsRow w.heap.size 9 1 v xs.length (xs.map Value.string) ∧ Below w.heap.size w w'

theorem clone_any (w : World) (v : Value) (xs : List ByteArray) (h : Strs w v xs) (hl : xs.length ≤ 1000000) : Calls Tryd.prog 90 #[v] w (Cloned w xs) := by
  obtain ⟨A, c, rfl, h1, h2, h3, h4⟩ := h
  cases A with
  | none =>
    have : xs = [] := List.eq_nil_of_length_eq_zero (by have := h3 rfl; omega)
    subst this
    exact (Tryd.slices_Clone_string_nil _ _ _).mono fun e w' ⟨he, hw⟩ => ⟨_, he, by rw [hw]; exact World.ownsRow_nil _ _ _ _, by rw [hw]; exact Below.refl _ _⟩
  | some ad =>
    by_cases h0 : xs.length = 0
    · have : xs = [] := List.eq_nil_of_length_eq_zero h0
      subst this
      exact (Tryd.slices_Clone_string_zero _ _ _).mono fun e w' ⟨v', he, ho, _, hb⟩ => ⟨v', he, ho, hb⟩
    · obtain ⟨g, o, spot⟩ := ad
      have hc0 := h4 _ rfl 0 xs[0] (List.getElem?_eq_getElem (by omega))
      have hspot : spot = none := by simpa [Addr.add] using World.cell?_spot hc0
      subst hspot
      have J := Tryd.slices_Clone_string g o xs.length c xs w (Nat.le_refl _) (by omega) (fun j hj => by
        have := h4 _ rfl j xs[j] (List.getElem?_eq_getElem hj)
        rw [Go.WideShapes.add_plain] at this
        rw [this, List.getD, List.getElem?_eq_getElem hj]
        rfl)
      rw [List.take_length] at J
      exact J.mono fun e w' ⟨v', he, ho, _, hb⟩ => ⟨v', he, ho, hb⟩

/-- A text whose last line has its end. -/
def endL (l : List UInt8) : List UInt8 := if wholeL l = true then l else l ++ [10]

set_option maxHeartbeats 1000000 in
theorem wholeText_any (w : World) (v : Value) (xs : List ByteArray) (h : Strs w v xs) (hl : (cat xs).length ≤ 900000) (hc : xs.length ≤ 1000000) :
    Calls Tryd.prog 85 #[v] w fun e w' => e = .returned (.string (mk (endL (cat xs)))) ∧ Below w.heap.size w w' := by
  have J := Lib.hid (join_any w v xs h (by omega) (by omega))
  have hsz : (mk (cat xs)).size ≤ 1000000 := by show (cat xs).toArray.size ≤ _; simp; omega
  have W := fun w1 => whole_any w1 (mk (cat xs)) hsz
  have hd : (mk (cat xs)).data.toList = cat xs := by simp [mk]
  rw [hd] at W
  have hadd : mk (cat xs) ++ (⟨#[10]⟩ : ByteArray) = mk (cat xs ++ [10]) := by apply ByteArray.ext; apply Array.toList_inj.1; simp [mk]
  cases hw : wholeL (cat xs) with
  | true =>
    have he : endL (cat xs) = cat xs := by unfold endL; rw [if_pos hw]
    rw [he]
    rw [hw] at W
    have HW := Lib.hid W
    clear W hw he h hd hadd
    generalize mk (cat xs) = s at *
    go_enter Tryd.func85, Tryd.ntmps85
    go_wp2_with fail
    refine J.out.mono ?_
    rintro e w1 ⟨rfl, hb1⟩
    go_wp2_with fail
    refine (HW.out w1).mono ?_
    rintro e w2 ⟨rfl, rfl⟩
    go_wp2
    go_ret
    exact ⟨rfl, hb1⟩
  | false =>
    have he : endL (cat xs) = cat xs ++ [10] := by unfold endL; rw [if_neg (by simp [hw])]
    rw [he, ← hadd]
    rw [hw] at W
    have HW := Lib.hid W
    clear W hw he h hd hadd
    generalize mk (cat xs) = s at *
    go_enter Tryd.func85, Tryd.ntmps85
    go_wp2_with fail
    refine J.out.mono ?_
    rintro e w1 ⟨rfl, hb1⟩
    go_wp2_with fail
    refine (HW.out w1).mono ?_
    rintro e w2 ⟨rfl, rfl⟩
    go_wp2
    go_ret
    exact ⟨rfl, hb1⟩

theorem row_set {w : World} {g : Nat} {cur : Array Value} {t : TypeId} (h : w.heap[g]? = some (.cells cur t (0, 0))) (k : Nat) (v : Value) : (w.setCell ⟨g, k, none⟩ v).heap[g]? = some (.cells (cur.setIfInBounds k v) t (0, 0)) := by
  simp [World.setCell, Array.getElem?_modify, h]

/-- A chunk's five cells. -/
structure Five (w : World) (X : Nat) (v0 v1 v2 v3 v4 : Value) : Prop where
  c0 : w.cell? ⟨X, 0, none⟩ = some v0
  c1 : w.cell? ⟨X, 1, none⟩ = some v1
  c2 : w.cell? ⟨X, 2, none⟩ = some v2
  c3 : w.cell? ⟨X, 3, none⟩ = some v3
  c4 : w.cell? ⟨X, 4, none⟩ = some v4
  z : ∀ k : Nat, w.frozen? ⟨X, k, none⟩ = false
  row : w.heap[X]? = some (.cells #[v0, v1, v2, v3, v4] 79 (0, 0))

theorem Five.lt {w : World} {X : Nat} {v0 v1 v2 v3 v4 : Value} (h : Five w X v0 v1 v2 v3 v4) : X < w.heap.size := World.block_lt_of_cell? w _ h.c0
theorem Five.ty {w : World} {X : Nat} {v0 v1 v2 v3 v4 : Value} (h : Five w X v0 v1 v2 v3 v4) : Ty w X 79 := ⟨_, h.row⟩
theorem Five.same {w w' : World} {X : Nat} {v0 v1 v2 v3 v4 : Value} (h : Five w X v0 v1 v2 v3 v4) (hc : w'.heap[X]? = w.heap[X]?) : Five w' X v0 v1 v2 v3 v4 := by
  have cc : ∀ k : Nat, w'.cell? ⟨X, k, none⟩ = w.cell? ⟨X, k, none⟩ := fun k => World.cell?_of_block (w := w) hc
  exact ⟨(cc 0).trans h.c0, (cc 1).trans h.c1, (cc 2).trans h.c2, (cc 3).trans h.c3, (cc 4).trans h.c4, fun k => (World.frozen?_of_block (w := w) hc).trans (h.z k), hc.trans h.row⟩
theorem Five.below {w w' : World} {X : Nat} {v0 v1 v2 v3 v4 : Value} (h : Five w X v0 v1 v2 v3 v4) (hb : Below w.heap.size w w') : Five w' X v0 v1 v2 v3 v4 := h.same (hb.block X h.lt)
theorem Five.new (w : World) (v0 v1 v2 v3 v4 : Value) : Five (w.alloc (.cells #[v0, v1, v2, v3, v4] 79)) w.heap.size v0 v1 v2 v3 v4 := by
  have hh := heap_alloc_new w (.cells #[v0, v1, v2, v3, v4] 79)
  exact ⟨cell_of_row _ _ 0 _ 79 (0, 0) hh, cell_of_row _ _ 1 _ 79 (0, 0) hh, cell_of_row _ _ 2 _ 79 (0, 0) hh, cell_of_row _ _ 3 _ 79 (0, 0) hh, cell_of_row _ _ 4 _ 79 (0, 0) hh, fun k => by unfold World.frozen?; rw [hh]; rfl, hh⟩

end Go.Proofs.YtdpoeagmeiedcaaDoor
namespace Go.Proofs.YtdpoeagmeiedcaaDoor
open Go.RowKit

/-- What a chunk has decided: its clash and its Out stand in its cells. -/
def Decided (w : World) (X : Nat) (v0 v1 v2 : Value) (d : Ck ByteArray) (e : Ending) (w' : World) : Prop :=
  ∃ v4, e = .returned (.tuple #[]) ∧ Five w' X v0 v1 v2 (.bool d.clash) v4 ∧ w'.ownsRow w.heap.size 9 1 v4 d.out.length (d.out.map Value.string) ∧ w.grownBy w' (some X)

theorem Five.drewN {w : World} {X : Nat} {v0 v1 v2 v3 v4 : Value} (h : Five w X v0 v1 v2 v3 v4) (n : Nat) : Five (w.drewN n) X v0 v1 v2 v3 v4 := ⟨h.c0, h.c1, h.c2, h.c3, h.c4, h.z, h.row⟩

theorem flag_quiet {f : FuncId} {args : Array Value} {w : World} {n : Nat} {b : Bool} (h : Calls Tryd.prog f args (w.drewN n) (Flag b (w.drewN n))) : Calls Tryd.prog f args (w.drewN n) fun e w'' => e = .returned (.bool b) ∧ ∃ m, w'' = w.drewN m :=
  Calls.quiet_of (h.mono fun _ _ ⟨q, he, hw⟩ => ⟨he, q, hw⟩)

theorem grown_drewN (w : World) (n : Nat) (b : Option Nat) : w.grownBy (w.drewN n) b := ⟨rfl, rfl, rfl, Nat.le_refl _, fun _ _ _ => rfl⟩

theorem grown_store (w : World) (X k : Nat) (v : Value) : w.grownBy (w.setCell ⟨X, k, none⟩ v) (some X) :=
  ⟨rfl, rfl, rfl, by simp [World.setCell], fun j _ hne => Below.heap_setCell _ _ _ _ (fun e : j = X => hne (by rw [e]))⟩

theorem Five.out {w : World} {X : Nat} {v0 v1 v2 v3 v4 : Value} (h : Five w X v0 v1 v2 v3 v4) (v : Value) : Five (w.setCell ⟨X, 4, none⟩ v) X v0 v1 v2 v3 v := by
  have o : ∀ k : Nat, k ≠ 4 → (w.setCell ⟨X, 4, none⟩ v).cell? ⟨X, k, none⟩ = w.cell? ⟨X, k, none⟩ := fun k hk => World.cell?_setCell_other w _ _ v (by simp)
  exact ⟨(o 0 (by omega)).trans h.c0, (o 1 (by omega)).trans h.c1, (o 2 (by omega)).trans h.c2, (o 3 (by omega)).trans h.c3, set_same h.c4, fun k => (World.frozen?_setCell w _ _ _).trans (h.z k), row_set h.row _ _⟩

theorem grown_below {w w' : World} (h : Below w.heap.size w w') (b : Option Nat) : w.grownBy w' b := ⟨h.os, h.tape, h.output, h.size, fun k hk _ => h.block k hk⟩

theorem decided_store {w wq w2 : World} {X : Nat} {v0 v1 v2 v4 : Value} {xs ys zs out : List ByteArray} (hG : w.grownBy wq (some X)) (hs : w.heap.size ≤ wq.heap.size) (hB : Below wq.heap.size wq w2) (hX : Five w2 X v0 v1 v2 (.bool false) (.slice none 0 0)) (hO : w2.ownsRow wq.heap.size 9 1 v4 out.length (out.map Value.string)) :
    Decided w X v0 v1 v2 ⟨xs, ys, zs, false, out⟩ (.returned (.tuple #[])) (w2.setCell ⟨X, 4, none⟩ v4) :=
  ⟨v4, rfl, hX.out v4, own_le (hO.kept (grown_store w2 X 4 v4) (.inr (own_apart hO hX.ty (by decide)))) hs, (hG.trans (grown_below hB _)).trans (grown_store w2 X 4 v4)⟩

/-- What stands while it decides. -/
structure De (w0 w : World) (X : Nat) (v0 v1 v2 : Value) (xs ys zs : List ByteArray) : Prop where
  x : Five w X v0 v1 v2 (.bool false) (.slice none 0 0)
  g : w0.grownBy w (some X)
  s0 : Strs w v0 xs
  s1 : Strs w v1 ys
  s2 : Strs w v2 zs

theorem De.drewN {w0 w : World} {X : Nat} {v0 v1 v2 : Value} {xs ys zs : List ByteArray} (h : De w0 w X v0 v1 v2 xs ys zs) (n : Nat) : De w0 (w.drewN n) X v0 v1 v2 xs ys zs :=
  ⟨h.x.drewN n, h.g.trans (grown_drewN w n _), h.s0.drewN n, h.s1.drewN n, h.s2.drewN n⟩

theorem De.clash {w0 w : World} {X : Nat} {v0 v1 v2 : Value} {xs ys zs : List ByteArray} (h : De w0 w X v0 v1 v2 xs ys zs) : Decided w0 X v0 v1 v2 ⟨xs, ys, zs, true, []⟩ (.returned (.tuple #[])) (w.setCell ⟨X, 3, none⟩ (.bool true)) := by
  have o : ∀ k : Nat, k ≠ 3 → (w.setCell ⟨X, 3, none⟩ (.bool true)).cell? ⟨X, k, none⟩ = w.cell? ⟨X, k, none⟩ := fun k hk => World.cell?_setCell_other w _ _ _ (by simp)
  exact ⟨.slice none 0 0, rfl, ⟨(o 0 (by omega)).trans h.x.c0, (o 1 (by omega)).trans h.x.c1, (o 2 (by omega)).trans h.x.c2, set_same h.x.c3, (o 4 (by omega)).trans h.x.c4, fun k => (World.frozen?_setCell w _ _ _).trans (h.x.z k), row_set h.x.row _ _⟩,
    World.ownsRow_nil _ _ _ _, h.g.trans (grown_store w X 3 _)⟩

set_option maxHeartbeats 2000000 in
theorem decide_any (w : World) (X : Nat) (v0 v1 v2 : Value) (xs ys zs : List ByteArray) (h : Five w X v0 v1 v2 (.bool false) (.slice none 0 0)) (h0 : Strs w v0 xs) (h1 : Strs w v1 ys) (h2 : Strs w v2 zs)
    (ly : ys.length ≤ 1000) (lz : zs.length ≤ 1000) :
    Calls Tryd.prog 88 #[.pointer (some ⟨X, 0, none⟩)] w (Decided w X v0 v1 v2 (decideC xs ys zs)) := by
  have hDe : Hid (De w w X v0 v1 v2 xs ys zs) := Lib.hid ⟨h, grown_drewN w 0 _, h0, h1, h2⟩
  clear h h0 h1 h2
  have t0 := hDe.out.x.c0
  have t1 := hDe.out.x.c1
  have t2 := hDe.out.x.c2
  have t3 := hDe.out.x.c3
  have z3 := hDe.out.x.z 3
  go_enter Tryd.func88, Tryd.ntmps88
  by_cases e1 : ys = xs
  · have HD : Hid (decideC xs ys zs = ⟨xs, ys, zs, false, zs⟩) := by unfold decideC; rw [if_pos e1]; rfl
    have E1 := Lib.hid (decide_eq_true e1)
    clear e1
    go_wp2_with fail
    go_quiet ((go_at_call 99; exact flag_quiet (E1.out ▸ linesEqual_any _ _ _ _ _ (hDe.out.s1.drewN _) (hDe.out.s0.drewN _))))
    obtain ⟨wq, hwq⟩ : ∃ x, x = w.drewN nq := ⟨_, rfl⟩
    rw [← hwq]
    have hDe : Hid (De w wq X v0 v1 v2 xs ys zs) := Lib.hid (hwq ▸ hDe.out.drewN nq)
    clear hwq t0 t1 t2 t3 z3
    have t0 := hDe.out.x.c0
    have t1 := hDe.out.x.c1
    have t2 := hDe.out.x.c2
    have t3 := hDe.out.x.c3
    have z3 := hDe.out.x.z 3
    go_wp2_with fail
    refine (clone_any wq v2 zs hDe.out.s2 (by omega)).mono ?_
    rintro e w2 ⟨v4, rfl, hO, hB⟩
    obtain ⟨A4, m4, d4, rfl⟩ := own_form hO
    have hX2 := hDe.out.x.below hB
    have z4 := hX2.z 4
    have t4 := hX2.c4
    have hX2 := Lib.hid hX2
    have hO := Lib.hid hO
    go_wp2_with fail
    go_end0
    rw [HD.out]
    exact decided_store hDe.out.g hDe.out.g.size hB hX2.out hO.out
  · have E1 := Lib.hid (decide_eq_false e1)
    by_cases e2 : zs = xs
    · have HD : Hid (decideC xs ys zs = ⟨xs, ys, zs, false, ys⟩) := by unfold decideC; rw [if_neg e1, if_pos (.inl e2)]; rfl
      have E2 := Lib.hid (decide_eq_true e2)
      clear e1 e2
      go_wp2_with fail
      go_quiet ((go_at_call 99; exact flag_quiet (E1.out ▸ linesEqual_any _ _ _ _ _ (hDe.out.s1.drewN _) (hDe.out.s0.drewN _))))
      obtain ⟨wq, hwq⟩ : ∃ x, x = w.drewN nq := ⟨_, rfl⟩
      rw [← hwq]
      have hDe : Hid (De w wq X v0 v1 v2 xs ys zs) := Lib.hid (hwq ▸ hDe.out.drewN nq)
      clear hwq t0 t1 t2 t3 z3
      have t0 := hDe.out.x.c0
      have t1 := hDe.out.x.c1
      have t2 := hDe.out.x.c2
      have t3 := hDe.out.x.c3
      have z3 := hDe.out.x.z 3
      go_wp2_with fail
      go_quiet ((go_at_call 99; exact flag_quiet (E2.out ▸ linesEqual_any _ _ _ _ _ (hDe.out.s2.drewN _) (hDe.out.s0.drewN _))))
      obtain ⟨wq, hwq⟩ : ∃ x, x = wq.drewN nq := ⟨_, rfl⟩
      rw [← hwq]
      have hDe : Hid (De w wq X v0 v1 v2 xs ys zs) := Lib.hid (hwq ▸ hDe.out.drewN nq)
      clear hwq t0 t1 t2 t3 z3
      have t0 := hDe.out.x.c0
      have t1 := hDe.out.x.c1
      have t2 := hDe.out.x.c2
      have t3 := hDe.out.x.c3
      have z3 := hDe.out.x.z 3
      go_wp2_with fail
      refine (clone_any wq v1 ys hDe.out.s1 (by omega)).mono ?_
      rintro e w2 ⟨v4, rfl, hO, hB⟩
      obtain ⟨A4, m4, d4, rfl⟩ := own_form hO
      have hX2 := hDe.out.x.below hB
      have z4 := hX2.z 4
      have t4 := hX2.c4
      have hX2 := Lib.hid hX2
      have hO := Lib.hid hO
      go_wp2_with fail
      go_end0
      rw [HD.out]
      exact decided_store hDe.out.g hDe.out.g.size hB hX2.out hO.out
    · have E2 := Lib.hid (decide_eq_false e2)
      by_cases e3 : ys = zs
      · have HD : Hid (decideC xs ys zs = ⟨xs, ys, zs, false, ys⟩) := by unfold decideC; rw [if_neg e1, if_pos (.inr e3)]; rfl
        have E3 := Lib.hid (decide_eq_true e3)
        clear e1 e2 e3
        go_wp2_with fail
        go_quiet ((go_at_call 99; exact flag_quiet (E1.out ▸ linesEqual_any _ _ _ _ _ (hDe.out.s1.drewN _) (hDe.out.s0.drewN _))))
        obtain ⟨wq, hwq⟩ : ∃ x, x = w.drewN nq := ⟨_, rfl⟩
        rw [← hwq]
        have hDe : Hid (De w wq X v0 v1 v2 xs ys zs) := Lib.hid (hwq ▸ hDe.out.drewN nq)
        clear hwq t0 t1 t2 t3 z3
        have t0 := hDe.out.x.c0
        have t1 := hDe.out.x.c1
        have t2 := hDe.out.x.c2
        have t3 := hDe.out.x.c3
        have z3 := hDe.out.x.z 3
        go_wp2_with fail
        go_quiet ((go_at_call 99; exact flag_quiet (E2.out ▸ linesEqual_any _ _ _ _ _ (hDe.out.s2.drewN _) (hDe.out.s0.drewN _))))
        obtain ⟨wq, hwq⟩ : ∃ x, x = wq.drewN nq := ⟨_, rfl⟩
        rw [← hwq]
        have hDe : Hid (De w wq X v0 v1 v2 xs ys zs) := Lib.hid (hwq ▸ hDe.out.drewN nq)
        clear hwq t0 t1 t2 t3 z3
        have t0 := hDe.out.x.c0
        have t1 := hDe.out.x.c1
        have t2 := hDe.out.x.c2
        have t3 := hDe.out.x.c3
        have z3 := hDe.out.x.z 3
        go_wp2_with fail
        go_quiet ((go_at_call 99; exact flag_quiet (E3.out ▸ linesEqual_any _ _ _ _ _ (hDe.out.s1.drewN _) (hDe.out.s2.drewN _))))
        obtain ⟨wq, hwq⟩ : ∃ x, x = wq.drewN nq := ⟨_, rfl⟩
        rw [← hwq]
        have hDe : Hid (De w wq X v0 v1 v2 xs ys zs) := Lib.hid (hwq ▸ hDe.out.drewN nq)
        clear hwq t0 t1 t2 t3 z3
        have t0 := hDe.out.x.c0
        have t1 := hDe.out.x.c1
        have t2 := hDe.out.x.c2
        have t3 := hDe.out.x.c3
        have z3 := hDe.out.x.z 3
        go_wp2_with fail
        refine (clone_any wq v1 ys hDe.out.s1 (by omega)).mono ?_
        rintro e w2 ⟨v4, rfl, hO, hB⟩
        obtain ⟨A4, m4, d4, rfl⟩ := own_form hO
        have hX2 := hDe.out.x.below hB
        have z4 := hX2.z 4
        have t4 := hX2.c4
        have hX2 := Lib.hid hX2
        have hO := Lib.hid hO
        go_wp2_with fail
        go_end0
        rw [HD.out]
        exact decided_store hDe.out.g hDe.out.g.size hB hX2.out hO.out
      · have HD : Hid (decideC xs ys zs = ⟨xs, ys, zs, true, []⟩) := by unfold decideC; rw [if_neg e1, if_neg (fun h => h.elim e2 e3)]; rfl
        have E3 := Lib.hid (decide_eq_false e3)
        clear e1 e2 e3
        go_wp2_with fail
        go_quiet ((go_at_call 99; exact flag_quiet (E1.out ▸ linesEqual_any _ _ _ _ _ (hDe.out.s1.drewN _) (hDe.out.s0.drewN _))))
        obtain ⟨wq, hwq⟩ : ∃ x, x = w.drewN nq := ⟨_, rfl⟩
        rw [← hwq]
        have hDe : Hid (De w wq X v0 v1 v2 xs ys zs) := Lib.hid (hwq ▸ hDe.out.drewN nq)
        clear hwq t0 t1 t2 t3 z3
        have t0 := hDe.out.x.c0
        have t1 := hDe.out.x.c1
        have t2 := hDe.out.x.c2
        have t3 := hDe.out.x.c3
        have z3 := hDe.out.x.z 3
        go_wp2_with fail
        go_quiet ((go_at_call 99; exact flag_quiet (E2.out ▸ linesEqual_any _ _ _ _ _ (hDe.out.s2.drewN _) (hDe.out.s0.drewN _))))
        obtain ⟨wq, hwq⟩ : ∃ x, x = wq.drewN nq := ⟨_, rfl⟩
        rw [← hwq]
        have hDe : Hid (De w wq X v0 v1 v2 xs ys zs) := Lib.hid (hwq ▸ hDe.out.drewN nq)
        clear hwq t0 t1 t2 t3 z3
        have t0 := hDe.out.x.c0
        have t1 := hDe.out.x.c1
        have t2 := hDe.out.x.c2
        have t3 := hDe.out.x.c3
        have z3 := hDe.out.x.z 3
        go_wp2_with fail
        go_quiet ((go_at_call 99; exact flag_quiet (E3.out ▸ linesEqual_any _ _ _ _ _ (hDe.out.s1.drewN _) (hDe.out.s2.drewN _))))
        obtain ⟨wq, hwq⟩ : ∃ x, x = wq.drewN nq := ⟨_, rfl⟩
        rw [← hwq]
        have hDe : Hid (De w wq X v0 v1 v2 xs ys zs) := Lib.hid (hwq ▸ hDe.out.drewN nq)
        clear hwq t0 t1 t2 t3 z3
        have t0 := hDe.out.x.c0
        have t1 := hDe.out.x.c1
        have t2 := hDe.out.x.c2
        have t3 := hDe.out.x.c3
        have z3 := hDe.out.x.z 3
        go_wp2_with fail
        go_end0
        rw [HD.out]
        exact hDe.out.clash

end Go.Proofs.YtdpoeagmeiedcaaDoor
namespace Go.Proofs.YtdpoeagmeiedcaaDoor
open Go.RowKit

abbrev nilv : Value := .slice none 0 0

/-- The five cells written anew. -/
theorem five_fill {w : World} {X : Nat} {v0 v1 v2 v3 v4 : Value} (h : Five w X v0 v1 v2 v3 v4) (a b c d e : Value) : Five (((((w.setCell ⟨X, 0, none⟩ a).setCell ⟨X, 1, none⟩ b).setCell ⟨X, 2, none⟩ c).setCell ⟨X, 3, none⟩ d).setCell ⟨X, 4, none⟩ e) X a b c d e := by
  refine ⟨?_, ?_, ?_, ?_, set_same (u := v4) ?_, fun k => ?_, ?_⟩
  · rw [World.cell?_setCell_other _ _ _ _ (by simp), World.cell?_setCell_other _ _ _ _ (by simp), World.cell?_setCell_other _ _ _ _ (by simp), World.cell?_setCell_other _ _ _ _ (by simp)]; exact set_same h.c0
  · rw [World.cell?_setCell_other _ _ _ _ (by simp), World.cell?_setCell_other _ _ _ _ (by simp), World.cell?_setCell_other _ _ _ _ (by simp)]; exact set_same (by rw [World.cell?_setCell_other _ _ _ _ (by simp)]; exact h.c1)
  · rw [World.cell?_setCell_other _ _ _ _ (by simp), World.cell?_setCell_other _ _ _ _ (by simp)]; exact set_same (by rw [World.cell?_setCell_other _ _ _ _ (by simp), World.cell?_setCell_other _ _ _ _ (by simp)]; exact h.c2)
  · rw [World.cell?_setCell_other _ _ _ _ (by simp)]; exact set_same (by rw [World.cell?_setCell_other _ _ _ _ (by simp), World.cell?_setCell_other _ _ _ _ (by simp), World.cell?_setCell_other _ _ _ _ (by simp)]; exact h.c3)
  · rw [World.cell?_setCell_other _ _ _ _ (by simp), World.cell?_setCell_other _ _ _ _ (by simp), World.cell?_setCell_other _ _ _ _ (by simp), World.cell?_setCell_other _ _ _ _ (by simp)]; exact h.c4
  · simp [h.z k]
  · exact row_set (row_set (row_set (row_set (row_set h.row _ _) _ _) _ _) _ _) _ _

theorem fill_grown (w : World) (X : Nat) (a b c d e : Value) : w.grownBy (((((w.setCell ⟨X, 0, none⟩ a).setCell ⟨X, 1, none⟩ b).setCell ⟨X, 2, none⟩ c).setCell ⟨X, 3, none⟩ d).setCell ⟨X, 4, none⟩ e) (some X) :=
  ((((grown_store w X 0 a).trans (grown_store _ X 1 b)).trans (grown_store _ X 2 c)).trans (grown_store _ X 3 d)).trans (grown_store _ X 4 e)

theorem Five.apart {w w' : World} {X Y : Nat} {v0 v1 v2 v3 v4 : Value} (h : Five w X v0 v1 v2 v3 v4) (hg : w.grownBy w' (some Y)) (hne : X ≠ Y) : Five w' X v0 v1 v2 v3 v4 :=
  h.same (hg.block X h.lt (fun e => hne (Option.some.inj e)))
theorem Cutr.apart {w w' : World} {C Y : Nat} {v0 v1 v2 v3 v4 v5 v6 v7 v8 : Value} (h : Cutr w C v0 v1 v2 v3 v4 v5 v6 v7 v8) (hg : w.grownBy w' (some Y)) (hne : C ≠ Y) : Cutr w' C v0 v1 v2 v3 v4 v5 v6 v7 v8 := by
  have hb := hg.block C h.lt (fun e => hne (Option.some.inj e))
  have hc : ∀ k : Nat, w'.cell? ⟨C, k, none⟩ = w.cell? ⟨C, k, none⟩ := fun k => World.cell?_of_block (w := w) hb
  exact ⟨(hc 0).trans h.c0, (hc 1).trans h.c1, (hc 2).trans h.c2, (hc 3).trans h.c3, (hc 4).trans h.c4, (hc 5).trans h.c5, (hc 6).trans h.c6, (hc 7).trans h.c7, (hc 8).trans h.c8, fun k => (World.frozen?_of_block (w := w) hb).trans (h.z k), h.ty.same hb⟩

/-- What stands while the chunk is laid: the cutter, the three pieces, the copies so far, the block so far. -/
structure Tk (w0 w : World) (T C : Nat) (v0 v1 v2 v3 v4 v5 v6 v7 v8 u1 u2 u3 : Value) (l1 l2 l3 : List ByteArray) (o1 o2 o3 : Option Value) (oX : Option Nat) : Prop where
  q : Cutr w C v0 v1 v2 v3 v4 v5 v6 v7 v8
  a : Strs w u1 l1
  b : Strs w u2 l2
  d : Strs w u3 l3
  g : Below w0.heap.size w0 w
  cl : C < w0.heap.size
  tl : w0.heap.size ≤ T
  t : Five w T (.slice none 0 0) (.slice none 0 0) (.slice none 0 0) (.bool false) (.slice none 0 0)
  r1 : ∀ v, o1 = some v → w.ownsRow w0.heap.size 9 1 v l1.length (l1.map Value.string)
  r2 : ∀ v, o2 = some v → w.ownsRow w0.heap.size 9 1 v l2.length (l2.map Value.string)
  r3 : ∀ v, o3 = some v → w.ownsRow w0.heap.size 9 1 v l3.length (l3.map Value.string)
  x : ∀ X, oX = some X → w0.heap.size ≤ X ∧ T ≠ X ∧ Five w X (.slice none 0 0) (.slice none 0 0) (.slice none 0 0) (.bool false) (.slice none 0 0)

theorem tk_start {w : World} {C : Nat} {v0 v1 v2 v3 v4 v5 v6 v7 v8 u1 u2 u3 : Value} {l1 l2 l3 : List ByteArray} (h : Cutr w C v0 v1 v2 v3 v4 v5 v6 v7 v8) (a : Strs w u1 l1) (b : Strs w u2 l2) (d : Strs w u3 l3) :
    Tk w (w.alloc (.cells #[.slice none 0 0, .slice none 0 0, .slice none 0 0, .bool false, .slice none 0 0] 79)) w.heap.size C v0 v1 v2 v3 v4 v5 v6 v7 v8 u1 u2 u3 l1 l2 l3 none none none none := by
  have hb := (Below.refl w.heap.size w).alloc (Nat.le_refl _) (.cells #[.slice none 0 0, .slice none 0 0, .slice none 0 0, .bool false, .slice none 0 0] 79)
  exact ⟨h.below hb, a.below hb, b.below hb, d.below hb, hb, h.lt, Nat.le_refl _, Five.new w _ _ _ _ _, (fun v hv => by cases hv), (fun v hv => by cases hv), (fun v hv => by cases hv), (fun v hv => by cases hv)⟩

/-- The chunk is laid in a block of its own. -/
def TkMid (w0 : World) (T C : Nat) (v0 v1 v2 v3 v4 v5 v6 v7 v8 : Value) (l1 l2 l3 : List ByteArray) (v : Value) (w : World) : Prop :=
  ∃ (X : Nat) (A1 A2 A3 : Option Addr) (n1 n2 n3 c1 c2 c3 : Nat), v = .pointer (some ⟨X, 0, none⟩) ∧ w0.heap.size ≤ X ∧ T ≠ X ∧ Five w X (.slice A1 n1 c1) (.slice A2 n2 c2) (.slice A3 n3 c3) (.bool false) (.slice none 0 0) ∧
    w.ownsRow w0.heap.size 9 1 (.slice A1 n1 c1) l1.length (l1.map Value.string) ∧ w.ownsRow w0.heap.size 9 1 (.slice A2 n2 c2) l2.length (l2.map Value.string) ∧ w.ownsRow w0.heap.size 9 1 (.slice A3 n3 c3) l3.length (l3.map Value.string) ∧ Cutr w C v0 v1 v2 v3 v4 v5 v6 v7 v8 ∧ Below w0.heap.size w0 w ∧ C < w0.heap.size ∧ w0.heap.size ≤ T ∧ Five w T (.slice none 0 0) (.slice none 0 0) (.slice none 0 0) (.bool false) (.slice none 0 0)

section
variable {w0 w : World} {T C : Nat} {v0 v1 v2 v3 v4 v5 v6 v7 v8 u1 u2 u3 : Value} {l1 l2 l3 : List ByteArray} {o1 o2 o3 : Option Value} {oX : Option Nat}

theorem Tk.below {w' : World} (h : Tk w0 w T C v0 v1 v2 v3 v4 v5 v6 v7 v8 u1 u2 u3 l1 l2 l3 o1 o2 o3 oX) (hb : Below w.heap.size w w') : Tk w0 w' T C v0 v1 v2 v3 v4 v5 v6 v7 v8 u1 u2 u3 l1 l2 l3 o1 o2 o3 oX :=
  ⟨h.q.below hb, h.a.below hb, h.b.below hb, h.d.below hb, h.g.trans (hb.mono h.g.size), h.cl, h.tl, h.t.below hb, fun v hv => own_keep (h.r1 v hv) hb, fun v hv => own_keep (h.r2 v hv) hb, fun v hv => own_keep (h.r3 v hv) hb, fun X hX => ⟨(h.x X hX).1, (h.x X hX).2.1, (h.x X hX).2.2.below hb⟩⟩
theorem Tk.drew (h : Tk w0 w T C v0 v1 v2 v3 v4 v5 v6 v7 v8 u1 u2 u3 l1 l2 l3 o1 o2 o3 oX) : Tk w0 w.drew T C v0 v1 v2 v3 v4 v5 v6 v7 v8 u1 u2 u3 l1 l2 l3 o1 o2 o3 oX := h.below (Below.refl _ w).drew
theorem Tk.lay (h : Tk w0 w T C v0 v1 v2 v3 v4 v5 v6 v7 v8 u1 u2 u3 l1 l2 l3 o1 o2 o3 none) : Tk w0 (w.alloc (.cells #[.slice none 0 0, .slice none 0 0, .slice none 0 0, .bool false, .slice none 0 0] 79)) T C v0 v1 v2 v3 v4 v5 v6 v7 v8 u1 u2 u3 l1 l2 l3 o1 o2 o3 (some w.heap.size) := by
  have h1 := h.below ((Below.refl w.heap.size w).alloc (Nat.le_refl _) (.cells #[.slice none 0 0, .slice none 0 0, .slice none 0 0, .bool false, .slice none 0 0] 79))
  exact ⟨h1.q, h1.a, h1.b, h1.d, h1.g, h1.cl, h1.tl, h1.t, h1.r1, h1.r2, h1.r3, fun X hX => by obtain rfl := Option.some.inj hX; exact ⟨h.g.size, Nat.ne_of_lt h.t.lt, Five.new w _ _ _ _ _⟩⟩
theorem tk_call1 (h : Tk w0 w T C v0 v1 v2 v3 v4 v5 v6 v7 v8 u1 u2 u3 l1 l2 l3 none o2 o3 oX) (hl : l1.length ≤ 1000) : Calls Tryd.prog 90 #[u1] w fun e w' => ∃ v, e = .returned v ∧ Tk w0 w' T C v0 v1 v2 v3 v4 v5 v6 v7 v8 u1 u2 u3 l1 l2 l3 (some v) o2 o3 oX :=
  (clone_any w u1 l1 h.a (by omega)).mono fun e w' ⟨v, he, ho, hb⟩ => by
    have h1 := h.below hb
    exact ⟨v, he, h1.q, h1.a, h1.b, h1.d, h1.g, h1.cl, h1.tl, h1.t, fun u hu => by obtain rfl := Option.some.inj hu; exact own_le ho h.g.size, h1.r2, h1.r3, h1.x⟩
theorem tk_call2 (h : Tk w0 w T C v0 v1 v2 v3 v4 v5 v6 v7 v8 u1 u2 u3 l1 l2 l3 o1 none o3 oX) (hl : l2.length ≤ 1000) : Calls Tryd.prog 90 #[u2] w fun e w' => ∃ v, e = .returned v ∧ Tk w0 w' T C v0 v1 v2 v3 v4 v5 v6 v7 v8 u1 u2 u3 l1 l2 l3 o1 (some v) o3 oX :=
  (clone_any w u2 l2 h.b (by omega)).mono fun e w' ⟨v, he, ho, hb⟩ => by
    have h1 := h.below hb
    exact ⟨v, he, h1.q, h1.a, h1.b, h1.d, h1.g, h1.cl, h1.tl, h1.t, h1.r1, fun u hu => by obtain rfl := Option.some.inj hu; exact own_le ho h.g.size, h1.r3, h1.x⟩
theorem tk_call3 (h : Tk w0 w T C v0 v1 v2 v3 v4 v5 v6 v7 v8 u1 u2 u3 l1 l2 l3 o1 o2 none oX) (hl : l3.length ≤ 1000) : Calls Tryd.prog 90 #[u3] w fun e w' => ∃ v, e = .returned v ∧ Tk w0 w' T C v0 v1 v2 v3 v4 v5 v6 v7 v8 u1 u2 u3 l1 l2 l3 o1 o2 (some v) oX :=
  (clone_any w u3 l3 h.d (by omega)).mono fun e w' ⟨v, he, ho, hb⟩ => by
    have h1 := h.below hb
    exact ⟨v, he, h1.q, h1.a, h1.b, h1.d, h1.g, h1.cl, h1.tl, h1.t, h1.r1, h1.r2, fun u hu => by obtain rfl := Option.some.inj hu; exact own_le ho h.g.size, h1.x⟩

theorem Tk.sq (h : Tk w0 w T C v0 v1 v2 v3 v4 v5 v6 v7 v8 u1 u2 u3 l1 l2 l3 o1 o2 o3 oX) : w.cell? ⟨C, 0, none⟩ = some v0 ∧ w.cell? ⟨C, 1, none⟩ = some v1 ∧ w.cell? ⟨C, 2, none⟩ = some v2 ∧ w.cell? ⟨C, 5, none⟩ = some v5 ∧ w.cell? ⟨C, 6, none⟩ = some v6 ∧ w.cell? ⟨C, 7, none⟩ = some v7 := ⟨h.q.c0, h.q.c1, h.q.c2, h.q.c5, h.q.c6, h.q.c7⟩
theorem mid_sq {v : Value} (h : TkMid w0 T C v0 v1 v2 v3 v4 v5 v6 v7 v8 l1 l2 l3 v w) : w.cell? ⟨C, 0, none⟩ = some v0 ∧ w.cell? ⟨C, 1, none⟩ = some v1 ∧ w.cell? ⟨C, 2, none⟩ = some v2 ∧ w.cell? ⟨C, 5, none⟩ = some v5 ∧ w.cell? ⟨C, 6, none⟩ = some v6 ∧ w.cell? ⟨C, 7, none⟩ = some v7 := by
  obtain ⟨_, _, _, _, _, _, _, _, _, _, _, _, _, _, _, _, _, q, _⟩ := h
  exact ⟨q.c0, q.c1, q.c2, q.c5, q.c6, q.c7⟩

variable {A1 A2 A3 : Option Addr} {n1 n2 n3 c1 c2 c3 X : Nat}
theorem tk_close (h : Tk w0 w T C v0 v1 v2 v3 v4 v5 v6 v7 v8 u1 u2 u3 l1 l2 l3 (some (.slice A1 n1 c1)) (some (.slice A2 n2 c2)) (some (.slice A3 n3 c3)) (some X)) :
    TkMid w0 T C v0 v1 v2 v3 v4 v5 v6 v7 v8 l1 l2 l3 (.pointer (some ⟨X, 0, none⟩)) (((((w.setCell ⟨X, 0, none⟩ (.slice A1 n1 c1)).setCell ⟨X, 1, none⟩ (.slice A2 n2 c2)).setCell ⟨X, 2, none⟩ (.slice A3 n3 c3)).setCell ⟨X, 3, none⟩ (.bool false)).setCell ⟨X, 4, none⟩ (.slice none 0 0)) := by
  obtain ⟨x1, x2, x3⟩ := h.x X rfl
  have hg := fill_grown w X (.slice A1 n1 c1) (.slice A2 n2 c2) (.slice A3 n3 c3) (.bool false) (.slice none 0 0)
  exact ⟨X, A1, A2, A3, n1, n2, n3, c1, c2, c3, rfl, x1, x2, five_fill x3 _ _ _ _ _, (h.r1 _ rfl).kept hg (.inr (own_apart (h.r1 _ rfl) x3.ty (by decide))), (h.r2 _ rfl).kept hg (.inr (own_apart (h.r2 _ rfl) x3.ty (by decide))), (h.r3 _ rfl).kept hg (.inr (own_apart (h.r3 _ rfl) x3.ty (by decide))), h.q.apart hg (by have := h.cl; omega), h.g.grown hg h.g.size (fun k hk => by injection hk with hk; omega), h.cl, h.tl, h.t.apart hg x2⟩
theorem tk_close_whole (h : Tk w0 w T C v0 v1 v2 v3 v4 v5 v6 v7 v8 u1 u2 u3 l1 l2 l3 (some (.slice A1 n1 c1)) (some (.slice A2 n2 c2)) (some (.slice A3 n3 c3)) none) :
    TkMid w0 T C v0 v1 v2 v3 v4 v5 v6 v7 v8 l1 l2 l3 (.pointer (some ⟨w.heap.size, 0, none⟩)) (w.alloc (.cells #[.slice A1 n1 c1, .slice A2 n2 c2, .slice A3 n3 c3, .bool false, .slice none 0 0] 79)) := by
  have h1 := h.below ((Below.refl w.heap.size w).alloc (Nat.le_refl _) (.cells #[.slice A1 n1 c1, .slice A2 n2 c2, .slice A3 n3 c3, .bool false, .slice none 0 0] 79))
  exact ⟨w.heap.size, A1, A2, A3, n1, n2, n3, c1, c2, c3, rfl, h.g.size, Nat.ne_of_lt h.t.lt, Five.new w _ _ _ _ _, h1.r1 _ rfl, h1.r2 _ rfl, h1.r3 _ rfl, h1.q, h1.g, h1.cl, h1.tl, h1.t⟩
end

/-- The cutter goes on. -/
theorem Cutr.move {w : World} {C : Nat} {v0 v1 v2 v3 v4 v5 v6 v7 v8 : Value} (h : Cutr w C v0 v1 v2 v3 v4 v5 v6 v7 v8) (a b c : Value) : Cutr (((w.setCell ⟨C, 5, none⟩ a).setCell ⟨C, 6, none⟩ b).setCell ⟨C, 7, none⟩ c) C v0 v1 v2 v3 v4 a b c v8 := by
  have o : ∀ k : Nat, k ≠ 5 → k ≠ 6 → k ≠ 7 → (((w.setCell ⟨C, 5, none⟩ a).setCell ⟨C, 6, none⟩ b).setCell ⟨C, 7, none⟩ c).cell? ⟨C, k, none⟩ = w.cell? ⟨C, k, none⟩ := fun k h5 h6 h7 => by
    rw [World.cell?_setCell_other _ _ _ _ (by simp), World.cell?_setCell_other _ _ _ _ (by simp), World.cell?_setCell_other _ _ _ _ (by simp)]
  refine ⟨(o 0 (by omega) (by omega) (by omega)).trans h.c0, (o 1 (by omega) (by omega) (by omega)).trans h.c1, (o 2 (by omega) (by omega) (by omega)).trans h.c2, (o 3 (by omega) (by omega) (by omega)).trans h.c3, (o 4 (by omega) (by omega) (by omega)).trans h.c4, ?_, ?_, set_same (u := v7) ?_, (o 8 (by omega) (by omega) (by omega)).trans h.c8, fun k => by simp [h.z k], ((h.ty.set _ _ _).set _ _ _).set _ _ _⟩
  · rw [World.cell?_setCell_other _ _ _ _ (by simp), World.cell?_setCell_other _ _ _ _ (by simp)]; exact set_same h.c5
  · rw [World.cell?_setCell_other _ _ _ _ (by simp)]; exact set_same (u := v6) (by rw [World.cell?_setCell_other _ _ _ _ (by simp)]; exact h.c6)
  · rw [World.cell?_setCell_other _ _ _ _ (by simp), World.cell?_setCell_other _ _ _ _ (by simp)]; exact h.c7

/-- What take answers: the chunk, undecided; the cutter stands behind it. -/
def Taken (w : World) (C : Nat) (v0 v1 v2 v3 v4 v8 : Value) (i2 j2 k2 : Nat) (l1 l2 l3 : List ByteArray) (e : Ending) (w' : World) : Prop :=
  ∃ (A1 A2 A3 : Option Addr) (n1 n2 n3 c1 c2 c3 : Nat), e = .returned (.agg #[.slice A1 n1 c1, .slice A2 n2 c2, .slice A3 n3 c3, .bool false, .slice none 0 0]) ∧
    w'.ownsRow w.heap.size 9 1 (.slice A1 n1 c1) l1.length (l1.map Value.string) ∧ w'.ownsRow w.heap.size 9 1 (.slice A2 n2 c2) l2.length (l2.map Value.string) ∧ w'.ownsRow w.heap.size 9 1 (.slice A3 n3 c3) l3.length (l3.map Value.string) ∧
    Cutr w' C v0 v1 v2 v3 v4 (.int .i64 (i2 : Int)) (.int .i64 (j2 : Int)) (.int .i64 (k2 : Int)) v8 ∧ w.grownBy w' (some C)

theorem fill_row {w : World} {T : Nat} {v0 v1 v2 v3 v4 a b c d e : Value} (h : Five w T v0 v1 v2 v3 v4) : (((((w.setCell ⟨T, 0, none⟩ a).setCell ⟨T, 1, none⟩ b).setCell ⟨T, 2, none⟩ c).setCell ⟨T, 3, none⟩ d).setCell ⟨T, 4, none⟩ e).heap[T]? = some (.cells #[a, b, c, d, e] 79 (0, 0)) :=
  row_set (row_set (row_set (row_set (row_set h.row _ _) _ _) _ _) _ _) _ _

theorem taken_close {w wx : World} {T C : Nat} {v0 v1 v2 v3 v4 v5 v6 v7 v8 : Value} {l1 l2 l3 : List ByteArray} {A1 A2 A3 : Option Addr} {n1 n2 n3 c1 c2 c3 : Nat} (i2 j2 k2 : Nat)
    (o1 : wx.ownsRow w.heap.size 9 1 (.slice A1 n1 c1) l1.length (l1.map Value.string)) (o2 : wx.ownsRow w.heap.size 9 1 (.slice A2 n2 c2) l2.length (l2.map Value.string)) (o3 : wx.ownsRow w.heap.size 9 1 (.slice A3 n3 c3) l3.length (l3.map Value.string))
    (q : Cutr wx C v0 v1 v2 v3 v4 v5 v6 v7 v8) (g : Below w.heap.size w wx) (hC : C < w.heap.size) (hT : w.heap.size ≤ T) (t : Five wx T (.slice none 0 0) (.slice none 0 0) (.slice none 0 0) (.bool false) (.slice none 0 0)) :
    Taken w C v0 v1 v2 v3 v4 v8 i2 j2 k2 l1 l2 l3 (.returned (.agg #[.slice A1 n1 c1, .slice A2 n2 c2, .slice A3 n3 c3, .bool false, .slice none 0 0]))
      ((((((((wx.setCell ⟨C, 5, none⟩ (.int .i64 (i2 : Int))).setCell ⟨C, 6, none⟩ (.int .i64 (j2 : Int))).setCell ⟨C, 7, none⟩ (.int .i64 (k2 : Int))).setCell ⟨T, 0, none⟩ (.slice A1 n1 c1)).setCell ⟨T, 1, none⟩ (.slice A2 n2 c2)).setCell ⟨T, 2, none⟩ (.slice A3 n3 c3)).setCell ⟨T, 3, none⟩ (.bool false)).setCell ⟨T, 4, none⟩ (.slice none 0 0)) := by
  have q1 := q.move (.int .i64 (i2 : Int)) (.int .i64 (j2 : Int)) (.int .i64 (k2 : Int))
  have g1 : wx.grownBy (((wx.setCell ⟨C, 5, none⟩ (.int .i64 (i2 : Int))).setCell ⟨C, 6, none⟩ (.int .i64 (j2 : Int))).setCell ⟨C, 7, none⟩ (.int .i64 (k2 : Int))) (some C) := ((grown_store wx C 5 _).trans (grown_store _ C 6 _)).trans (grown_store _ C 7 _)
  have t1 := t.apart g1 (by omega)
  have a1 := o1.kept g1 (.inr (own_apart o1 q.ty (by decide)))
  have a2 := o2.kept g1 (.inr (own_apart o2 q.ty (by decide)))
  have a3 := o3.kept g1 (.inr (own_apart o3 q.ty (by decide)))
  have hs := g.size
  generalize (((wx.setCell ⟨C, 5, none⟩ (.int .i64 (i2 : Int))).setCell ⟨C, 6, none⟩ (.int .i64 (j2 : Int))).setCell ⟨C, 7, none⟩ (.int .i64 (k2 : Int))) = w1 at *
  have g2 := fill_grown w1 T (.slice A1 n1 c1) (.slice A2 n2 c2) (.slice A3 n3 c3) (.bool false) (.slice none 0 0)
  refine ⟨A1, A2, A3, n1, n2, n3, c1, c2, c3, rfl, a1.kept g2 (.inr (own_apart a1 t1.ty (by decide))), a2.kept g2 (.inr (own_apart a2 t1.ty (by decide))), a3.kept g2 (.inr (own_apart a3 t1.ty (by decide))), q1.apart g2 (by omega), ?_⟩
  have g3 := (grown_below g (some C)).trans g1
  exact ⟨g2.os.trans g3.os, g2.tape.trans g3.tape, g2.output.trans g3.output, Nat.le_trans g3.size g2.size, fun k hk hne => (g2.block k (Nat.lt_of_lt_of_le hk g3.size) (fun e => by injection e with e; omega)).trans (g3.block k hk hne)⟩

end Go.Proofs.YtdpoeagmeiedcaaDoor
namespace Go.Proofs.YtdpoeagmeiedcaaDoor
open Go.RowKit

abbrev Tx (w : World) (B : Nat) (v : Value) (ss : List ByteArray) : Prop := w.ownsRow B 9 1 v ss.length (ss.map Value.string)

/-- Five values a chunk. -/
def CkV (w : World) (B : Nat) : List Value → List (Ck ByteArray) → Prop
  | vals, [] => vals = []
  | vals, c :: cs => ∃ a b d e rest, vals = a :: b :: d :: .bool c.clash :: e :: rest ∧ Tx w B a c.base ∧ Tx w B b c.ours ∧ Tx w B d c.theirs ∧ Tx w B e c.out ∧ CkV w B rest cs

theorem CkV.keep {w w' : World} {B : Nat} (hk : ∀ v ss, Tx w B v ss → Tx w' B v ss) : ∀ {cs : List (Ck ByteArray)} {vals : List Value}, CkV w B vals cs → CkV w' B vals cs
  | [], _, h => h
  | _ :: _, _, ⟨a, b, d, e, rest, hv, h1, h2, h3, h4, h5⟩ => ⟨a, b, d, e, rest, hv, hk _ _ h1, hk _ _ h2, hk _ _ h3, hk _ _ h4, h5.keep hk⟩

theorem CkV.snoc {w : World} {B : Nat} {c : Ck ByteArray} {a b d e : Value} (h1 : Tx w B a c.base) (h2 : Tx w B b c.ours) (h3 : Tx w B d c.theirs) (h4 : Tx w B e c.out) : ∀ {cs : List (Ck ByteArray)} {vals : List Value}, CkV w B vals cs → CkV w B (vals ++ [a, b, d, .bool c.clash, e]) (cs ++ [c])
  | [], _, h => by rw [show _ = [] from h]; exact ⟨a, b, d, e, [], rfl, h1, h2, h3, h4, rfl⟩
  | _ :: _, _, ⟨a', b', d', e', rest, hv, g1, g2, g3, g4, g5⟩ => ⟨a', b', d', e', _, by rw [hv]; rfl, g1, g2, g3, g4, CkV.snoc h1 h2 h3 h4 g5⟩

theorem CkV.len {w : World} {B : Nat} : ∀ {cs : List (Ck ByteArray)} {vals : List Value}, CkV w B vals cs → vals.length = cs.length * 5
  | [], _, h => by rw [show _ = [] from h]; rfl
  | _ :: cs, _, ⟨_, _, _, _, rest, hv, _, _, _, _, g5⟩ => by rw [hv]; have := g5.len; simp only [List.length_cons]; omega

theorem CkV.at {w : World} {B : Nat} : ∀ {cs : List (Ck ByteArray)} {vals : List Value} {i : Nat} {c : Ck ByteArray}, CkV w B vals cs → cs[i]? = some c →
    ∃ a b d e, vals[i * 5]? = some a ∧ vals[i * 5 + 1]? = some b ∧ vals[i * 5 + 2]? = some d ∧ vals[i * 5 + 3]? = some (.bool c.clash) ∧ vals[i * 5 + 4]? = some e ∧ Tx w B a c.base ∧ Tx w B b c.ours ∧ Tx w B d c.theirs ∧ Tx w B e c.out
  | [], _, _, _, _, hi => by simp at hi
  | c0 :: cs, _, 0, c, ⟨a, b, d, e, rest, hv, g1, g2, g3, g4, _⟩, hi => by
    simp at hi
    subst hi
    rw [hv]
    exact ⟨a, b, d, e, rfl, rfl, rfl, rfl, rfl, g1, g2, g3, g4⟩
  | c0 :: cs, _, i + 1, c, ⟨a, b, d, e, rest, hv, _, _, _, _, g5⟩, hi => by
    rw [List.getElem?_cons_succ] at hi
    obtain ⟨a', b', d', e', k0, k1, k2, k3, k4, r⟩ := g5.at hi
    rw [hv]
    refine ⟨a', b', d', e', ?_, ?_, ?_, ?_, ?_, r⟩
    · rw [show (i + 1) * 5 = i * 5 + 5 by omega]; exact k0
    · rw [show (i + 1) * 5 + 1 = i * 5 + 1 + 5 by omega]; exact k1
    · rw [show (i + 1) * 5 + 2 = i * 5 + 2 + 5 by omega]; exact k2
    · rw [show (i + 1) * 5 + 3 = i * 5 + 3 + 5 by omega]; exact k3
    · rw [show (i + 1) * 5 + 4 = i * 5 + 4 + 5 by omega]; exact k4

/-- The row of chunks. -/
def OutR (w : World) (B : Nat) (v : Value) (cs : List (Ck ByteArray)) : Prop := ∃ vals, w.ownsRow B 79 5 v cs.length vals ∧ CkV w B vals cs

theorem OutR.kept {w w' : World} {B g : Nat} {t : TypeId} {v : Value} {cs : List (Ck ByteArray)} (h : OutR w B v cs) (hg : w.grownBy w' (some g)) (ty : Ty w g t) (h9 : t ≠ 9) (hne : v.ownBlock ≠ some g) : OutR w' B v cs := by
  obtain ⟨vals, h1, h2⟩ := h
  exact ⟨vals, h1.kept hg (.inr hne), h2.keep fun v ss ho => ho.kept hg (.inr (own_apart ho ty (Ne.symm h9)))⟩
theorem OutR.below {w w' : World} {B : Nat} {v : Value} {cs : List (Ck ByteArray)} (h : OutR w B v cs) (hb : Below w.heap.size w w') : OutR w' B v cs := by
  obtain ⟨vals, h1, h2⟩ := h
  exact ⟨vals, own2_keep h1 hb, h2.keep fun v ss ho => own_keep ho hb⟩
theorem OutR.ne {w : World} {B g : Nat} {t : TypeId} {v : Value} {cs : List (Ck ByteArray)} (h : OutR w B v cs) (ty : Ty w g t) (hne : t ≠ 79) : v.ownBlock ≠ some g := by
  obtain ⟨vals, h1, _⟩ := h
  exact own_apart h1 ty (Ne.symm hne)

/-- What stands between two steps of the cutter. -/
structure Cs (w0 w : World) (C : Nat) (v0 v1 v2 vp vq : Value) (xs ys zs : List ByteArray) (p q : List (Option Nat)) (i j k : Nat) (cs : List (Ck ByteArray)) : Prop where
  c : ∃ v8, Cutr w C v0 v1 v2 vp vq (.int .i64 (i : Int)) (.int .i64 (j : Int)) (.int .i64 (k : Int)) v8 ∧ OutR w w0.heap.size v8 cs
  a : Strs w0 v0 xs
  b : Strs w0 v1 ys
  d : Strs w0 v2 zs
  p1 : Pl w vp p
  p2 : Pl w vq q
  g : Below w0.heap.size w0 w
  cb : w0.heap.size ≤ C

end Go.Proofs.YtdpoeagmeiedcaaDoor
namespace Go.Proofs.YtdpoeagmeiedcaaDoor
open Go.RowKit

theorem Cs.below {w0 w w' : World} {C : Nat} {v0 v1 v2 vp vq : Value} {xs ys zs : List ByteArray} {p q : List (Option Nat)} {i j k : Nat} {cs : List (Ck ByteArray)} (h : Cs w0 w C v0 v1 v2 vp vq xs ys zs p q i j k cs) (hb : Below w.heap.size w w') : Cs w0 w' C v0 v1 v2 vp vq xs ys zs p q i j k cs := by
  obtain ⟨v8, h1, h2⟩ := h.c
  exact ⟨⟨v8, h1.below hb, h2.below hb⟩, h.a, h.b, h.d, h.p1.below hb, h.p2.below hb, h.g.trans (hb.mono h.g.size), h.cb⟩

/-- Behind take and decide: the chunk in a block of its own. -/
structure Bt (w0 w : World) (C X : Nat) (v0 v1 v2 vp vq v8 a b d e : Value) (xs ys zs : List ByteArray) (p q : List (Option Nat)) (i j k : Nat) (cs : List (Ck ByteArray)) (ck : Ck ByteArray) : Prop where
  c : Cutr w C v0 v1 v2 vp vq (.int .i64 (i : Int)) (.int .i64 (j : Int)) (.int .i64 (k : Int)) v8
  o : OutR w w0.heap.size v8 cs
  x : Five w X a b d (.bool ck.clash) e
  nx : v8.ownBlock ≠ some X
  o1 : Tx w w0.heap.size a ck.base
  o2 : Tx w w0.heap.size b ck.ours
  o3 : Tx w w0.heap.size d ck.theirs
  o4 : Tx w w0.heap.size e ck.out
  a : Strs w0 v0 xs
  b : Strs w0 v1 ys
  d : Strs w0 v2 zs
  p1 : Pl w vp p
  p2 : Pl w vq q
  g : Below w0.heap.size w0 w
  cb : w0.heap.size ≤ C

theorem bt_of {w0 w w1 w2 : World} {C : Nat} {v0 v1 v2 vp vq v8 : Value} {A1 A2 A3 : Option Addr} {n1 n2 n3 c1 c2 c3 : Nat} {xs ys zs l1 l2 l3 : List ByteArray} {p q : List (Option Nat)} {i j k i2 j2 k2 : Nat} {cs : List (Ck ByteArray)} {e : Ending}
    (h : Cs w0 w C v0 v1 v2 vp vq xs ys zs p q i j k cs) (hv : Cutr w C v0 v1 v2 vp vq (.int .i64 (i : Int)) (.int .i64 (j : Int)) (.int .i64 (k : Int)) v8) (ho : OutR w w0.heap.size v8 cs)
    (o1 : Tx w1 w.heap.size (.slice A1 n1 c1) l1) (o2 : Tx w1 w.heap.size (.slice A2 n2 c2) l2) (o3 : Tx w1 w.heap.size (.slice A3 n3 c3) l3)
    (hq : Cutr w1 C v0 v1 v2 vp vq (.int .i64 (i2 : Int)) (.int .i64 (j2 : Int)) (.int .i64 (k2 : Int)) v8) (hg : w.grownBy w1 (some C))
    (hd : Decided (w1.alloc (.cells #[.slice A1 n1 c1, .slice A2 n2 c2, .slice A3 n3 c3, .bool false, .slice none 0 0] 79)) w1.heap.size (.slice A1 n1 c1) (.slice A2 n2 c2) (.slice A3 n3 c3) (decideC l1 l2 l3) e w2) :
    ∃ v4, e = .returned (.tuple #[]) ∧ Bt w0 w2 C w1.heap.size v0 v1 v2 vp vq v8 (.slice A1 n1 c1) (.slice A2 n2 c2) (.slice A3 n3 c3) v4 xs ys zs p q i2 j2 k2 cs (decideC l1 l2 l3) := by
  obtain ⟨v4, he, hx, h4, hgx⟩ := hd
  have hle := h.g.size
  have hB1 : Below w1.heap.size w1 (w1.alloc (.cells #[.slice A1 n1 c1, .slice A2 n2 c2, .slice A3 n3 c3, .bool false, .slice none 0 0] 79)) := (Below.refl _ _).alloc (Nat.le_refl _) _
  have hB : Below w1.heap.size w1 w2 := hB1.grown hgx (by simp) (fun k hk => by injection hk with hk; omega)
  have e1 : (decideC l1 l2 l3).base = l1 := by
    unfold decideC
    split
    · rfl
    · split <;> rfl
  have e2 : (decideC l1 l2 l3).ours = l2 := by
    unfold decideC
    split
    · rfl
    · split <;> rfl
  have e3 : (decideC l1 l2 l3).theirs = l3 := by
    unfold decideC
    split
    · rfl
    · split <;> rfl
  have ho1 : OutR w1 w0.heap.size v8 cs := ho.kept hg hv.ty (by decide) (ho.ne hv.ty (by decide))
  refine ⟨v4, he, hq.below hB, ho1.below hB, hx, ?_, ?_, ?_, ?_, ?_, h.a, h.b, h.d, (own_keep (h.p1.kept hg (.inr (own_apart h.p1 hv.ty (by decide)))) hB), (own_keep (h.p2.kept hg (.inr (own_apart h.p2 hv.ty (by decide)))) hB), ?_, h.cb⟩
  · intro hc
    obtain ⟨vals, g1, _⟩ := ho1
    have := (g1.lt _ hc).2
    omega
  · rw [e1]; exact own_le (own_keep o1 hB) hle
  · rw [e2]; exact own_le (own_keep o2 hB) hle
  · rw [e3]; exact own_le (own_keep o3 hB) hle
  · exact own_le h4 (by have := hg.size; simp; omega)
  · exact (h.g.grown hg hle (fun k hk => by injection hk with hk; have := h.cb; omega)).trans (hB.mono (Nat.le_trans hle hg.size))

theorem chunkInfo : (Tryd.prog.info? 79).map (fun i => (i.zero, i.size, i.bytes)) = some (some (.agg #[.slice none 0 0, .slice none 0 0, .slice none 0 0, .bool false, .slice none 0 0]), 5, 104) := by kernel_rfl

section
variable {w0 w w1 : World} {C X : Nat} {v0 v1 v2 vp vq v8 a b d e v9 : Value} {xs ys zs : List ByteArray} {p q : List (Option Nat)} {i j k : Nat} {cs : List (Ck ByteArray)} {ck : Ck ByteArray} {vals : List Value} {us : Array Value}

/-- Behind the append: what the store needs; the chunk's cells. -/
theorem bt_grown (h : Bt w0 w C X v0 v1 v2 vp vq v8 a b d e xs ys zs p q i j k cs ck) (hg : (w.alloc (.cells us 79)).drew.grownBy w1 v8.ownBlock) :
    w1.cell? ⟨C, 8, none⟩ = some v8 ∧ w1.frozen? ⟨C, 8, none⟩ = false ∧ Five w1 X a b d (.bool ck.clash) e := by
  have hB : Below w.heap.size w (w.alloc (.cells us 79)).drew := ((Below.refl _ _).alloc (Nat.le_refl _) _).drew
  have hc := h.c.below hB
  have hb := hg.block C hc.lt (Ne.symm (h.o.ne h.c.ty (by decide)))
  exact ⟨(World.cell?_of_block (w := (w.alloc (.cells us 79)).drew) (a := ⟨C, 8, none⟩) hb).trans hc.c8, (World.frozen?_of_block (w := (w.alloc (.cells us 79)).drew) (a := ⟨C, 8, none⟩) hb).trans (hc.z 8), (h.x.below hB).same (hg.block X (h.x.below hB).lt (Ne.symm h.nx))⟩

theorem bt_close (h : Bt w0 w C X v0 v1 v2 vp vq v8 a b d e xs ys zs p q i j k cs ck) (ho : w.ownsRow w0.heap.size 79 5 v8 cs.length vals) (hv : CkV w w0.heap.size vals cs) (hg : (w.alloc (.cells us 79)).drew.grownBy w1 v8.ownBlock)
    (h9 : w1.ownsRow w0.heap.size 79 5 v9 (cs.length + 1) (vals ++ [a, b, d, .bool ck.clash, e])) : Cs w0 (w1.setCell ⟨C, 8, none⟩ v9) C v0 v1 v2 vp vq xs ys zs p q i j k (cs ++ [ck]) := by
  have hB : Below w.heap.size w (w.alloc (.cells us 79)).drew := ((Below.refl _ _).alloc (Nat.le_refl _) _).drew
  have hne : ∀ {t : TypeId} {g : Nat}, Ty w g t → t ≠ 79 → some g ≠ v8.ownBlock := fun ty hn => Ne.symm (h.o.ne ty hn)
  have hc1 : Cutr w1 C v0 v1 v2 vp vq (.int .i64 (i : Int)) (.int .i64 (j : Int)) (.int .i64 (k : Int)) v8 := by
    have hc := h.c.below hB
    have hb := hg.block C hc.lt (hne h.c.ty (by decide))
    have cc : ∀ k : Nat, w1.cell? ⟨C, k, none⟩ = (w.alloc (.cells us 79)).drew.cell? ⟨C, k, none⟩ := fun k => World.cell?_of_block (w := (w.alloc (.cells us 79)).drew) hb
    exact ⟨(cc 0).trans hc.c0, (cc 1).trans hc.c1, (cc 2).trans hc.c2, (cc 3).trans hc.c3, (cc 4).trans hc.c4, (cc 5).trans hc.c5, (cc 6).trans hc.c6, (cc 7).trans hc.c7, (cc 8).trans hc.c8, fun k => (World.frozen?_of_block (w := (w.alloc (.cells us 79)).drew) hb).trans (hc.z k), hc.ty.same hb⟩
  have gs := grown_store w1 C 8 v9
  have own9 : ∀ {ve : Value} {bs n : Nat} {et : TypeId} {vs : List Value}, et ≠ 79 → et ≠ 135 → w.ownsRow bs et 1 ve n vs → (w1.setCell ⟨C, 8, none⟩ v9).ownsRow bs et 1 ve n vs := fun {ve bs n et vs} h34 h54 hr => by
    have r1 := own_keep hr hB
    have r2 : w1.ownsRow bs et 1 ve n vs := r1.kept hg (by
      cases hve : ve.ownBlock with
      | none => exact .inl rfl
      | some g =>
        refine .inr fun hh => ?_
        obtain ⟨_, o1, _⟩ := h.o
        have ty := own_ty o1 hh.symm
        exact own_apart r1 (ty.same (hB.block g ty.lt)) h34 hve)
    exact r2.kept gs (.inr (own_apart r2 hc1.ty h54))
  have tx9 : ∀ v ss, Tx w w0.heap.size v ss → Tx (w1.setCell ⟨C, 8, none⟩ v9) w0.heap.size v ss := fun v ss hr => own9 (by decide) (by decide) hr
  have o : ∀ k : Nat, k ≠ 8 → (w1.setCell ⟨C, 8, none⟩ v9).cell? ⟨C, k, none⟩ = w1.cell? ⟨C, k, none⟩ := fun k hk => World.cell?_setCell_other w1 _ _ v9 (by simp)
  refine ⟨⟨v9, ⟨(o 0 (by omega)).trans hc1.c0, (o 1 (by omega)).trans hc1.c1, (o 2 (by omega)).trans hc1.c2, (o 3 (by omega)).trans hc1.c3, (o 4 (by omega)).trans hc1.c4, (o 5 (by omega)).trans hc1.c5, (o 6 (by omega)).trans hc1.c6, (o 7 (by omega)).trans hc1.c7, set_same hc1.c8, fun k => by simp [hc1.z k], hc1.ty.set _ _ _⟩, ?_⟩, h.a, h.b, h.d, own9 (by decide) (by decide) h.p1, own9 (by decide) (by decide) h.p2, ?_, h.cb⟩
  · exact ⟨_, by rw [List.length_append]; exact h9.kept gs (.inr (own_apart h9 hc1.ty (by decide))), CkV.snoc (tx9 _ _ h.o1) (tx9 _ _ h.o2) (tx9 _ _ h.o3) (tx9 _ _ h.o4) (hv.keep tx9)⟩
  · exact (((h.g.trans (hB.mono h.g.size)).grown hg (by have := h.g.size; have := hB.size; omega) (fun k hk => (ho.lt k hk).1))).setCell h.cb v9
end

end Go.Proofs.YtdpoeagmeiedcaaDoor
namespace Go.Proofs.YtdpoeagmeiedcaaDoor
open Go.RowKit

set_option maxRecDepth 100000 in
set_option maxHeartbeats 6000000 in
theorem take_any (w : World) (C n c m d r f i j k i2 j2 k2 : Nat) (A B D : Option Addr) (vp vq v8 : Value) (xs ys zs : List ByteArray) (h : Cutr w C (.slice A n c) (.slice B m d) (.slice D r f) vp vq (.int .i64 (i : Int)) (.int .i64 (j : Int)) (.int .i64 (k : Int)) v8)
    (h0 : Strs w (.slice A n c) xs) (h1 : Strs w (.slice B m d) ys) (h2 : Strs w (.slice D r f) zs) (hi : i ≤ i2) (hj : j ≤ j2) (hk : k ≤ k2) (ji : i2 ≤ n) (jj : j2 ≤ m) (jk : k2 ≤ r) (nl : n ≤ 1000) (ml : m ≤ 1000) (rl : r ≤ 1000) :
    Calls Tryd.prog 87 #[.pointer (some ⟨C, 0, none⟩), .int .i64 i2, .int .i64 j2, .int .i64 k2] w (Taken w C (.slice A n c) (.slice B m d) (.slice D r f) vp vq v8 i2 j2 k2 (cutL2 xs i i2) (cutL2 ys j j2) (cutL2 zs k k2)) := by
  have ca := h0.len.2.1
  have cb := h1.len.2.1
  have cd := h2.len.2.1
  have b1 : (0 : Int) ≤ (i : Int) := by omega
  have b2 : (0 : Int) ≤ (j : Int) := by omega
  have b3 : (0 : Int) ≤ (k : Int) := by omega
  have b4 : (i : Int) ≤ (i2 : Int) := by omega
  have b5 : (j : Int) ≤ (j2 : Int) := by omega
  have b6 : (k : Int) ≤ (k2 : Int) := by omega
  have b7 : (i2 : Int) ≤ (c : Int) := by omega
  have b8 : (j2 : Int) ≤ (d : Int) := by omega
  have b9 : (k2 : Int) ≤ (f : Int) := by omega
  have hS := And.intro h.c0 (And.intro h.c1 (And.intro h.c2 (And.intro h.c5 (And.intro h.c6 h.c7))))
  have hl1 : (cutL2 xs i i2).length ≤ 1000 := by unfold cutL2; rw [List.length_take]; omega
  have hl2 : (cutL2 ys j j2).length ≤ 1000 := by unfold cutL2; rw [List.length_take]; omega
  have hl3 : (cutL2 zs k k2).length ≤ 1000 := by unfold cutL2; rw [List.length_take]; omega
  have S0 : Tk w (w.alloc (.cells #[.slice none 0 0, .slice none 0 0, .slice none 0 0, .bool false, .slice none 0 0] 79)) w.heap.size C (.slice A n c) (.slice B m d) (.slice D r f) vp vq (.int .i64 (i : Int)) (.int .i64 (j : Int)) (.int .i64 (k : Int)) v8 (.slice (if c = i then A else Option.map (fun x => x.add i) A) (i2 - i) (c - i)) (.slice (if d = j then B else Option.map (fun x => x.add j) B) (j2 - j) (d - j)) (.slice (if f = k then D else Option.map (fun x => x.add k) D) (k2 - k) (f - k)) (cutL2 xs i i2) (cutL2 ys j j2) (cutL2 zs k k2) none none none none := tk_start h ((h0.cut (by omega)).take (by omega)) ((h1.cut (by omega)).take (by omega)) ((h2.cut (by omega)).take (by omega))
  clear h h0 h1 h2
  obtain ⟨P1, hP1⟩ : ∃ P, (if c = i then A else Option.map (fun x => x.add i) A) = P := ⟨_, rfl⟩
  obtain ⟨P2, hP2⟩ : ∃ P, (if d = j then B else Option.map (fun x => x.add j) B) = P := ⟨_, rfl⟩
  obtain ⟨P3, hP3⟩ : ∃ P, (if f = k then D else Option.map (fun x => x.add k) D) = P := ⟨_, rfl⟩
  rw [hP1, hP2, hP3] at S0
  go_enter Tryd.func87, Tryd.ntmps87
  go_upto_region 1 with fail
  have hS1 := S0.sq
  generalize (w.alloc (.cells #[.slice none 0 0, .slice none 0 0, .slice none 0 0, .bool false, .slice none 0 0] 79)) = W0 at *
  obtain ⟨T, hT⟩ : ∃ T, T = w.heap.size := ⟨_, rfl⟩
  rw [← hT] at S0 ⊢
  have HT := Lib.hid hT
  clear hT
  go_cut [9] (fun x9 wx => TkMid w T C (.slice A n c) (.slice B m d) (.slice D r f) vp vq (.int .i64 (i : Int)) (.int .i64 (j : Int)) (.int .i64 (k : Int)) v8 (cutL2 xs i i2) (cutL2 ys j j2) (cutL2 zs k k2) x9 wx)
  case first =>
    go_region_held3 (fun w' => w'.cell? ⟨C, 0, none⟩ = some (.slice A n c) ∧ w'.cell? ⟨C, 1, none⟩ = some (.slice B m d) ∧ w'.cell? ⟨C, 2, none⟩ = some (.slice D r f) ∧ w'.cell? ⟨C, 5, none⟩ = some (.int .i64 (i : Int)) ∧ w'.cell? ⟨C, 6, none⟩ = some (.int .i64 (j : Int)) ∧ w'.cell? ⟨C, 7, none⟩ = some (.int .i64 (k : Int))) (with_reducible first | exact S3.sq | exact S3.lay.sq | exact S2.sq | exact S2.lay.sq | exact S1.sq | exact S1.lay.sq | exact S0.sq | exact S0.drew.sq | exact S0.lay.sq | exact S0.lay.drew.sq | exact mid_sq (tk_close S3) | exact mid_sq (tk_close_whole S3) | exact mid_sq (tk_close S3.lay)) (first
      | (go_at_call 90; (first | (with_reducible refine (tk_call3 S2 hl3).mono ?_) | (with_reducible refine (tk_call3 S2.lay hl3).mono ?_) | (with_reducible refine (tk_call3 S2.drew hl3).mono ?_) | (with_reducible refine (tk_call3 S2.lay.drew hl3).mono ?_) | (with_reducible refine (tk_call3 S2.drew.drew hl3).mono ?_) | (with_reducible refine (tk_call3 S2.lay.drew.drew hl3).mono ?_) | (with_reducible refine (tk_call3 S2.drew.drew.drew hl3).mono ?_) | (with_reducible refine (tk_call3 S2.lay.drew.drew.drew hl3).mono ?_)); rintro e w3 ⟨s3, rfl, S3⟩; obtain ⟨A3, n3, c3, rfl⟩ := own_form (S3.r3 _ rfl); try (have F3 := (S3.x _ rfl).2.2; have f0 := F3.c0; have f1 := F3.c1; have f2 := F3.c2; have f3 := F3.c3; have f4 := F3.c4; have y0 := F3.z 0; have y1 := F3.z 1; have y2 := F3.z 2; have y3 := F3.z 3; have y4 := F3.z 4; have fl := F3.lt; clear F3))
      | (go_at_call 90; (first | (with_reducible refine (tk_call2 S1 hl2).mono ?_) | (with_reducible refine (tk_call2 S1.lay hl2).mono ?_) | (with_reducible refine (tk_call2 S1.drew hl2).mono ?_) | (with_reducible refine (tk_call2 S1.lay.drew hl2).mono ?_) | (with_reducible refine (tk_call2 S1.drew.drew hl2).mono ?_) | (with_reducible refine (tk_call2 S1.lay.drew.drew hl2).mono ?_) | (with_reducible refine (tk_call2 S1.drew.drew.drew hl2).mono ?_) | (with_reducible refine (tk_call2 S1.lay.drew.drew.drew hl2).mono ?_)); rintro e w2 ⟨s2, rfl, S2⟩; obtain ⟨A2, n2, c2, rfl⟩ := own_form (S2.r2 _ rfl); try (have F2 := (S2.x _ rfl).2.2; have f0 := F2.c0; have f1 := F2.c1; have f2 := F2.c2; have f3 := F2.c3; have f4 := F2.c4; have y0 := F2.z 0; have y1 := F2.z 1; have y2 := F2.z 2; have y3 := F2.z 3; have y4 := F2.z 4; have fl := F2.lt; clear F2))
      | (go_at_call 90; (first | (with_reducible refine (tk_call1 S0 hl1).mono ?_) | (with_reducible refine (tk_call1 S0.lay hl1).mono ?_) | (with_reducible refine (tk_call1 S0.drew hl1).mono ?_) | (with_reducible refine (tk_call1 S0.lay.drew hl1).mono ?_) | (with_reducible refine (tk_call1 S0.drew.drew hl1).mono ?_) | (with_reducible refine (tk_call1 S0.lay.drew.drew hl1).mono ?_) | (with_reducible refine (tk_call1 S0.drew.drew.drew hl1).mono ?_) | (with_reducible refine (tk_call1 S0.lay.drew.drew.drew hl1).mono ?_)); rintro e w1 ⟨s1, rfl, S1⟩; obtain ⟨A1, n1, c1, rfl⟩ := own_form (S1.r1 _ rfl); try (have F1 := (S1.x _ rfl).2.2; have f0 := F1.c0; have f1 := F1.c1; have f2 := F1.c2; have f3 := F1.c3; have f4 := F1.c4; have y0 := F1.z 0; have y1 := F1.z 1; have y2 := F1.z 2; have y3 := F1.z 3; have y4 := F1.z 4; have fl := F1.lt; clear F1)))
    all_goals (go_wp2_with fail; go_meet)
    all_goals (with_reducible first | exact tk_close S3 | exact tk_close_whole S3 | exact tk_close S3.lay)
  clear hS hS1 S0 hP1 hP2 hP3 hl1 hl2 hl3
  obtain ⟨X, A1, A2, A3, n1, n2, n3, c1, c2, c3, rfl, x1, x2, x3, o1, o2, o3, q, g, cl, tl, t⟩ := hcut
  have e5 := q.c5
  have e6 := q.c6
  have e7 := q.c7
  have z5 := q.z 5
  have z6 := q.z 6
  have z7 := q.z 7
  have f0 := x3.c0
  have f1 := x3.c1
  have f2 := x3.c2
  have f3 := x3.c3
  have f4 := x3.c4
  have y0 := t.c0
  have y1 := t.c1
  have y2 := t.c2
  have y3 := t.c3
  have y4 := t.c4
  have r0 := t.z 0
  have r1 := t.z 1
  have r2 := t.z 2
  have r3 := t.z 3
  have r4 := t.z 4
  have xl := x3.lt
  have tl' := t.lt
  have cl' := q.lt
  have n1 : C ≠ X := by omega
  have n2 : X ≠ C := by omega
  have n3 : C ≠ T := by omega
  have n4 : T ≠ C := by omega
  have n5 : X ≠ T := Ne.symm x2
  have HC := Lib.hid (taken_close i2 j2 k2 o1 o2 o3 q g cl tl t)
  have HR := fun a b c d e => Lib.hid (fill_row (a := a) (b := b) (c := c) (d := d) (e := e) ((t.apart (((grown_store wc C 5 (.int .i64 (i2 : Int))).trans (grown_store _ C 6 (.int .i64 (j2 : Int)))).trans (grown_store _ C 7 (.int .i64 (k2 : Int)))) n4)))
  clear x3 o1 o2 o3 q g t
  go_wp2_with fail
  refine bodyPost_ret (results_cell_row rfl _ _ T 79 _ (0, 0) _ rfl (HR _ _ _ _ _).out Tryd.underlying79 rfl rfl) rfl ?_
  exact HC.out

end Go.Proofs.YtdpoeagmeiedcaaDoor
namespace Go.Proofs.YtdpoeagmeiedcaaDoor
open Go.RowKit

theorem firstC_yes {xs ys zs : List ByteArray} {i j k i2 j2 k2 : Nat} (h : i < i2 ∨ j < j2 ∨ k < k2) : firstC xs ys zs i j k i2 j2 k2 = [decideC (cutL2 xs i i2) (cutL2 ys j j2) (cutL2 zs k k2)] := by
  unfold firstC
  rw [if_pos h]
theorem firstC_no {xs ys zs : List ByteArray} {i j k i2 j2 k2 : Nat} (h : ¬(i < i2 ∨ j < j2 ∨ k < k2)) : firstC xs ys zs i j k i2 j2 k2 = [] := by
  unfold firstC
  rw [if_neg h]

set_option maxRecDepth 100000 in
set_option maxHeartbeats 4000000 in
theorem between_any (w0 w : World) (C n c m d r f i j k i2 j2 k2 : Nat) (A B D : Option Addr) (vp vq : Value) (xs ys zs : List ByteArray) (p q : List (Option Nat)) (cs : List (Ck ByteArray))
    (h : Cs w0 w C (.slice A n c) (.slice B m d) (.slice D r f) vp vq xs ys zs p q i j k cs) (lp : p.length = n) (lq : q.length = n) (hn : n ≤ 256) (hm : m ≤ 256) (hr : r ≤ 256)
    (hi : i ≤ i2) (hj : j ≤ j2) (hk : k ≤ k2) (ji : i2 ≤ n) (jj : j2 ≤ m) (jk : k2 ≤ r) (hy : i2 < n → p[i2]? = some (some j2) ∧ q[i2]? = some (some k2)) (hf : i2 = n → j2 = m ∧ k2 = r) (lcs : cs.length ≤ 2000) :
    Calls Tryd.prog 66 #[.pointer (some ⟨C, 0, none⟩), .int .i64 i2] w fun e w' => e = .returned (.tuple #[]) ∧ Cs w0 w' C (.slice A n c) (.slice B m d) (.slice D r f) vp vq xs ys zs p q i2 j2 k2 (cs ++ firstC xs ys zs i j k i2 j2 k2) := by
  obtain ⟨i0, hi0, hz0, hz1, hz2⟩ := info_parts chunkInfo
  obtain ⟨v8, hc, ho⟩ := h.c
  have t0 := hc.c0
  have t1 := hc.c1
  have t2 := hc.c2
  have t3 := hc.c3
  have t4 := hc.c4
  have HC := Lib.hid h
  have HY := Lib.hid hy
  have HF := Lib.hid hf
  have LP := Lib.hid lp
  have LQ := Lib.hid lq
  clear h hc ho hy hf lp lq
  go_enter Tryd.func66, Tryd.ntmps66
  go_wp2_with fail
  go_quiet (fail)
  go_upto_if 23 with (fail)
  have hw := HC.out.below (below_drewN (Below.refl _ w) nq)
  have t0' : (w.drewN nq).cell? ⟨C, 0, none⟩ = some (.slice A n c) := t0
  have t3' : (w.drewN nq).cell? ⟨C, 3, none⟩ = some vp := t3
  have t4' : (w.drewN nq).cell? ⟨C, 4, none⟩ = some vq := t4
  clear t0 t1 t2 t3 t4 HC
  generalize w.drewN nq = wd at *
  go_cut [4, 5] (fun x4 x5 wx => x4 = .int .i64 (j2 : Int) ∧ x5 = .int .i64 (k2 : Int) ∧ Cs w0 wx C (.slice A n c) (.slice B m d) (.slice D r f) vp vq xs ys zs p q i j k cs)
  case first =>
    by_cases hlt : i2 < n
    · have i9 : (i2 : Int) < (n : Int) := by omega
      obtain ⟨hx, hy⟩ := HY.out hlt
      obtain ⟨g1, d1, rfl, k1⟩ := hw.p1.cell hx
      obtain ⟨g2, d2, rfl, k2'⟩ := hw.p2.cell hy
      simp only [pz] at k1 k2'
      have i1 : (0 : Int) ≤ (i2 : Int) := by omega
      have i3 : (i2 : Int) < (p.length : Int) := by have := LP.out; omega
      have i4 : (i2 : Int) < (q.length : Int) := by have := LQ.out; omega
      clear hx hy
      go_wp2_with fail
      go_quiet (fail)
      go_wp2_with fail
      go_meet
      exact ⟨rfl, rfl, hw.below (below_drewN (Below.refl _ wd) _)⟩
    · obtain ⟨rfl, rfl⟩ := HF.out (by omega)
      have i9 : ¬ (i2 : Int) < (n : Int) := by omega
      go_wp2_with fail
      go_meet
      exact ⟨rfl, rfl, hw⟩
  clear hw t0' t3' t4'
  obtain ⟨rfl, rfl, hw⟩ := hcut
  obtain ⟨V8, hv, ho⟩ := hw.c
  have t5 := hv.c5
  have t6 := hv.c6
  have t7 := hv.c7
  go_upto_region 3 with (fail)
  go_cut [59] (fun x59 wx => x59 = .bool (decide (i < i2 ∨ j < j2 ∨ k < k2)) ∧ wx = wc)
  case first =>
    by_cases e1 : i < i2
    · have f1 : (i : Int) < (i2 : Int) := by omega
      have HD := Lib.hid (decide_eq_true (show i < i2 ∨ j < j2 ∨ k < k2 from .inl e1))
      clear e1
      go_wp2_with fail
      go_meet
      exact ⟨by rw [HD.out], rfl⟩
    · have f1 : ¬ (i : Int) < (i2 : Int) := by omega
      by_cases e2 : j < j2
      · have f2 : (j : Int) < (j2 : Int) := by omega
        have HD := Lib.hid (decide_eq_true (show i < i2 ∨ j < j2 ∨ k < k2 from .inr (.inl e2)))
        clear e1 e2
        go_wp2_with fail
        go_meet
        exact ⟨by rw [HD.out], rfl⟩
      · have f2 : ¬ (j : Int) < (j2 : Int) := by omega
        by_cases e3 : k < k2
        · have f3 : (k : Int) < (k2 : Int) := by omega
          have HD := Lib.hid (decide_eq_true (show i < i2 ∨ j < j2 ∨ k < k2 from .inr (.inr e3)))
          clear e1 e2 e3
          go_wp2_with fail
          go_meet
          exact ⟨by rw [HD.out], rfl⟩
        · have f3 : ¬ (k : Int) < (k2 : Int) := by omega
          have HD := Lib.hid (decide_eq_false (show ¬(i < i2 ∨ j < j2 ∨ k < k2) from fun h => h.elim e1 (fun h => h.elim e2 e3)))
          clear e1 e2 e3
          go_wp2_with fail
          go_meet
          exact ⟨by rw [HD.out], rfl⟩
  obtain ⟨rfl, hwc⟩ := hcut
  subst hwc
  clear t5 t6 t7
  by_cases hD : i < i2 ∨ j < j2 ∨ k < k2
  · have HD := Lib.hid (firstC_yes (xs := xs) (ys := ys) (zs := zs) hD)
    rw [decide_eq_true hD]
    clear hD
    have HW := Lib.hid hw
    have HV := Lib.hid hv
    have HO := Lib.hid ho
    clear hw hv ho
    go_wp2_with fail
    refine (take_any _ C _ _ _ _ _ _ i j k i2 j2 k2 _ _ _ _ _ V8 xs ys zs HV.out (HW.out.a.below HW.out.g) (HW.out.b.below HW.out.g) (HW.out.d.below HW.out.g) hi hj hk ji jj jk (by omega) (by omega) (by omega)).mono ?_
    rintro e w1 ⟨A1, A2, A3, m1, m2, m3, c1, c2, c3, rfl, o1, o2, o3, hq, hg⟩
    have O1 := Lib.hid o1
    have O2 := Lib.hid o2
    have O3 := Lib.hid o3
    have HQ := Lib.hid hq
    have HG := Lib.hid hg
    clear o1 o2 o3 hq hg
    go_wp2_with fail
    refine (decide_any _ w1.heap.size _ _ _ (cutL2 xs i i2) (cutL2 ys j j2) (cutL2 zs k k2) (Five.new _ _ _ _ _ _) ((Strs.of_own O1.out rfl).alloc _) ((Strs.of_own O2.out rfl).alloc _) ((Strs.of_own O3.out rfl).alloc _) (by unfold cutL2; rw [List.length_take]; omega) (by unfold cutL2; rw [List.length_take]; omega)).mono ?_
    rintro e w2 hd
    obtain ⟨v4, rfl, bt⟩ := bt_of HW.out HV.out HO.out O1.out O2.out O3.out HQ.out HG.out hd
    clear HW HV HO O1 O2 O3 HQ HG hd
    generalize w1.heap.size = X at *
    obtain ⟨A4, m4, c4, rfl⟩ := own_form bt.o4
    have BT := Lib.hid bt
    have t8 := bt.c.c8
    have z8 := bt.c.z 8
    have f0 := bt.x.c0
    have f1 := bt.x.c1
    have f2 := bt.x.c2
    have f3 := bt.x.c3
    have f4 := bt.x.c4
    obtain ⟨vals, hvals, hck⟩ := bt.o
    have xl := bt.x.lt
    have cl := bt.c.lt
    have hXC : X ≠ C := bt.x.ty.ne bt.c.ty (by decide)
    have hCX : C ≠ X := Ne.symm hXC
    have hCK := Lib.hid hck
    have hbase := (Nat.le_trans bt.g.size (by simp) : w0.heap.size ≤ ((w2.alloc (.cells #[.slice A1 m1 c1, .slice A2 m2 c2, .slice A3 m3 c3, .bool (decideC (cutL2 xs i i2) (cutL2 ys j j2) (cutL2 zs k k2)).clash, .slice A4 m4 c4] 79)).drew).heap.size)
    clear bt hck
    generalize hdk : decideC (cutL2 xs i i2) (cutL2 ys j j2) (cutL2 zs k k2) = dk at *
    clear hdk
    go_wp2_with fail
    go_region_law
      ((refine step_append_lies _ (by rfl) _ _ _ (by rfl) w0.heap.size 79 i0 _ 5 104 Tryd.underlying72 hi0 hz0 hz1 hz2 rfl (by omega) V8 cs.length vals (by rfl) ((hvals.alloc _).drew)
            ⟨w2.heap.size, 0, none⟩ 1 1 [.slice A1 m1 c1, .slice A2 m2 c2, .slice A3 m3 c3, .bool dk.clash, .slice A4 m4 c4] (by rfl) (by rfl) (World.news_of_block (cs := #[.slice A1 m1 c1, .slice A2 m2 c2, .slice A3 m3 c3, .bool dk.clash, .slice A4 m4 c4]) (t := 79) (fr := (0, 0)) (heap_alloc_new w2 _)) (by simp [Value.oneCell'])
            (by omega) (by unfold maxLen; omega) (by omega) hbase (w2.heap.size + 1) (by simp) ?_; intro gg cap w3 hown1 hgrow hat hlt; have BG := bt_grown BT.out hgrow; have kc := BG.1; have kz := BG.2.1))
    all_goals (go_wp2_with fail)
    all_goals go_end0
    all_goals (rw [HD.out]; exact ⟨rfl, bt_close BT.out hvals hCK.out hgrow hown1⟩)
  · have HD := Lib.hid (firstC_no (xs := xs) (ys := ys) (zs := zs) hD)
    rw [decide_eq_false hD]
    obtain rfl : i = i2 := by omega
    obtain rfl : j = j2 := by omega
    obtain rfl : k = k2 := by omega
    clear hD
    go_wp2_with fail
    go_end0
    rw [HD.out, List.append_nil]
    exact ⟨rfl, hw⟩

end Go.Proofs.YtdpoeagmeiedcaaDoor
namespace Go.Proofs.YtdpoeagmeiedcaaDoor
open Go.RowKit

/-- Behind take: the three pieces, each in a row of its own; the cutter stands behind them. -/
structure Tn (w0 w : World) (C : Nat) (v0 v1 v2 vp vq v8 a b d : Value) (xs ys zs l1 l2 l3 : List ByteArray) (p q : List (Option Nat)) (i j k : Nat) (cs : List (Ck ByteArray)) : Prop where
  c : Cutr w C v0 v1 v2 vp vq (.int .i64 (i : Int)) (.int .i64 (j : Int)) (.int .i64 (k : Int)) v8
  o : OutR w w0.heap.size v8 cs
  o1 : Tx w w0.heap.size a l1
  o2 : Tx w w0.heap.size b l2
  o3 : Tx w w0.heap.size d l3
  a : Strs w0 v0 xs
  b : Strs w0 v1 ys
  d : Strs w0 v2 zs
  p1 : Pl w vp p
  p2 : Pl w vq q
  g : Below w0.heap.size w0 w
  cb : w0.heap.size ≤ C

abbrev ck0 (l1 l2 l3 : List ByteArray) : Ck ByteArray := ⟨l1, l2, l3, false, []⟩

section
variable {w0 w w1 : World} {C X : Nat} {v0 v1 v2 vp vq v8 a b d e : Value} {xs ys zs l1 l2 l3 : List ByteArray} {p q : List (Option Nat)} {i j k i2 j2 k2 : Nat} {cs : List (Ck ByteArray)}

theorem tn_of (h : Cs w0 w C v0 v1 v2 vp vq xs ys zs p q i j k cs) (hv : Cutr w C v0 v1 v2 vp vq (.int .i64 (i : Int)) (.int .i64 (j : Int)) (.int .i64 (k : Int)) v8) (ho : OutR w w0.heap.size v8 cs)
    (o1 : Tx w1 w.heap.size a l1) (o2 : Tx w1 w.heap.size b l2) (o3 : Tx w1 w.heap.size d l3)
    (hq : Cutr w1 C v0 v1 v2 vp vq (.int .i64 (i2 : Int)) (.int .i64 (j2 : Int)) (.int .i64 (k2 : Int)) v8) (hg : w.grownBy w1 (some C)) :
    Tn w0 w1 C v0 v1 v2 vp vq v8 a b d xs ys zs l1 l2 l3 p q i2 j2 k2 cs := by
  have hle := h.g.size
  exact ⟨hq, ho.kept hg hv.ty (by decide) (ho.ne hv.ty (by decide)), own_le o1 hle, own_le o2 hle, own_le o3 hle, h.a, h.b, h.d, h.p1.kept hg (.inr (own_apart h.p1 hv.ty (by decide))), h.p2.kept hg (.inr (own_apart h.p2 hv.ty (by decide))),
    h.g.grown hg hle (fun k hk => by injection hk with hk; have := h.cb; omega), h.cb⟩

theorem Tn.below (h : Tn w0 w C v0 v1 v2 vp vq v8 a b d xs ys zs l1 l2 l3 p q i j k cs) (hb : Below w.heap.size w w1) : Tn w0 w1 C v0 v1 v2 vp vq v8 a b d xs ys zs l1 l2 l3 p q i j k cs :=
  ⟨h.c.below hb, h.o.below hb, own_keep h.o1 hb, own_keep h.o2 hb, own_keep h.o3 hb, h.a, h.b, h.d, own_keep h.p1 hb, own_keep h.p2 hb, h.g.trans (hb.mono h.g.size), h.cb⟩

/-- The chunk's block is laid behind it. -/
theorem Tn.lay (h : Tn w0 w C v0 v1 v2 vp vq v8 a b d xs ys zs l1 l2 l3 p q i j k cs) :
    Bt w0 (w.alloc (.cells #[a, b, d, .bool false, .slice none 0 0] 79)) C w.heap.size v0 v1 v2 vp vq v8 a b d (.slice none 0 0) xs ys zs p q i j k cs (ck0 l1 l2 l3) := by
  have h1 := h.below ((Below.refl w.heap.size w).alloc (Nat.le_refl _) (.cells #[a, b, d, .bool false, .slice none 0 0] 79))
  refine ⟨h1.c, h1.o, Five.new w _ _ _ _ _, fun hc => ?_, h1.o1, h1.o2, h1.o3, World.ownsRow_nil _ _ _ _, h.a, h.b, h.d, h1.p1, h1.p2, h1.g, h.cb⟩
  obtain ⟨vals, g1, _⟩ := h.o
  have := (g1.lt _ hc).2
  omega

/-- The chunk's block was laid ahead of it. -/
theorem Tn.fill (h : Tn w0 w C v0 v1 v2 vp vq v8 a b d xs ys zs l1 l2 l3 p q i j k cs) {u0 u1 u2 u3 u4 : Value} (hx : Five w X u0 u1 u2 u3 u4) (nx : v8.ownBlock ≠ some X) (hX : w0.heap.size ≤ X) :
    Bt w0 (((((w.setCell ⟨X, 0, none⟩ a).setCell ⟨X, 1, none⟩ b).setCell ⟨X, 2, none⟩ d).setCell ⟨X, 3, none⟩ (.bool false)).setCell ⟨X, 4, none⟩ (.slice none 0 0)) C X v0 v1 v2 vp vq v8 a b d (.slice none 0 0) xs ys zs p q i j k cs (ck0 l1 l2 l3) := by
  have hg := fill_grown w X a b d (.bool false) (.slice none 0 0)
  have hXC : X ≠ C := hx.ty.ne h.c.ty (by decide)
  exact ⟨h.c.apart hg (Ne.symm hXC), h.o.kept hg hx.ty (by decide) nx, five_fill hx _ _ _ _ _, nx, h.o1.kept hg (.inr (own_apart h.o1 hx.ty (by decide))), h.o2.kept hg (.inr (own_apart h.o2 hx.ty (by decide))), h.o3.kept hg (.inr (own_apart h.o3 hx.ty (by decide))), World.ownsRow_nil _ _ _ _, h.a, h.b, h.d,
    h.p1.kept hg (.inr (own_apart h.p1 hx.ty (by decide))), h.p2.kept hg (.inr (own_apart h.p2 hx.ty (by decide))), h.g.grown hg h.g.size (fun k hk => by injection hk with hk; omega), h.cb⟩

theorem Bt.below {ck : Ck ByteArray} (h : Bt w0 w C X v0 v1 v2 vp vq v8 a b d e xs ys zs p q i j k cs ck) (hb : Below w.heap.size w w1) : Bt w0 w1 C X v0 v1 v2 vp vq v8 a b d e xs ys zs p q i j k cs ck :=
  ⟨h.c.below hb, h.o.below hb, h.x.below hb, h.nx, own_keep h.o1 hb, own_keep h.o2 hb, own_keep h.o3 hb, own_keep h.o4 hb, h.a, h.b, h.d, own_keep h.p1 hb, own_keep h.p2 hb, h.g.trans (hb.mono h.g.size), h.cb⟩

/-- What comes of it is written. -/
theorem Bt.out {v : Value} (h : Bt w0 w C X v0 v1 v2 vp vq v8 a b d e xs ys zs p q i j k cs (ck0 l1 l2 l3)) (hX : w0.heap.size ≤ X) (ho : Tx w w0.heap.size v l1) :
    Bt w0 (w.setCell ⟨X, 4, none⟩ v) C X v0 v1 v2 vp vq v8 a b d v xs ys zs p q i j k cs ⟨l1, l2, l3, false, l1⟩ := by
  have hg := grown_store w X 4 v
  have hXC : X ≠ C := h.x.ty.ne h.c.ty (by decide)
  have cc : ∀ k : Nat, k ≠ 4 → (w.setCell ⟨X, 4, none⟩ v).cell? ⟨X, k, none⟩ = w.cell? ⟨X, k, none⟩ := fun k hk => World.cell?_setCell_other w _ _ v (by simp)
  have hx : Five (w.setCell ⟨X, 4, none⟩ v) X a b d (.bool false) v :=
    ⟨(cc 0 (by omega)).trans h.x.c0, (cc 1 (by omega)).trans h.x.c1, (cc 2 (by omega)).trans h.x.c2, (cc 3 (by omega)).trans h.x.c3, set_same h.x.c4, fun k => by simp [h.x.z k], row_set h.x.row 4 v⟩
  exact ⟨h.c.apart hg (Ne.symm hXC), h.o.kept hg h.x.ty (by decide) h.nx, hx, h.nx, h.o1.kept hg (.inr (own_apart h.o1 h.x.ty (by decide))), h.o2.kept hg (.inr (own_apart h.o2 h.x.ty (by decide))), h.o3.kept hg (.inr (own_apart h.o3 h.x.ty (by decide))), ho.kept hg (.inr (own_apart ho h.x.ty (by decide))), h.a, h.b, h.d,
    h.p1.kept hg (.inr (own_apart h.p1 h.x.ty (by decide))), h.p2.kept hg (.inr (own_apart h.p2 h.x.ty (by decide))), h.g.grown hg h.g.size (fun k hk => by injection hk with hk; omega), h.cb⟩

/-- Behind the region that takes it: the chunk lies in a block of its own. -/
def KtMid (w0 : World) (C : Nat) (v0 v1 v2 vp vq : Value) (xs ys zs l1 l2 l3 : List ByteArray) (p q : List (Option Nat)) (i j k : Nat) (cs : List (Ck ByteArray)) (v : Value) (w : World) : Prop :=
  ∃ (X : Nat) (A1 A2 A3 : Option Addr) (n1 n2 n3 c1 c2 c3 : Nat) (v8 : Value), v = .pointer (some ⟨X, 0, none⟩) ∧ w0.heap.size ≤ X ∧ Bt w0 w C X v0 v1 v2 vp vq v8 (.slice A1 n1 c1) (.slice A2 n2 c2) (.slice A3 n3 c3) (.slice none 0 0) xs ys zs p q i j k cs (ck0 l1 l2 l3)

/-- What take answers here, the chunk's block not laid yet. -/
def Kt1 (w0 : World) (C : Nat) (v0 v1 v2 vp vq v8 : Value) (xs ys zs l1 l2 l3 : List ByteArray) (p q : List (Option Nat)) (i j k : Nat) (cs : List (Ck ByteArray)) (e : Ending) (w : World) : Prop :=
  ∃ (A1 A2 A3 : Option Addr) (n1 n2 n3 c1 c2 c3 : Nat), e = .returned (.agg #[.slice A1 n1 c1, .slice A2 n2 c2, .slice A3 n3 c3, .bool false, .slice none 0 0]) ∧ Tn w0 w C v0 v1 v2 vp vq v8 (.slice A1 n1 c1) (.slice A2 n2 c2) (.slice A3 n3 c3) xs ys zs l1 l2 l3 p q i j k cs
/-- Or laid ahead of it. -/
def Kt2 (w0 : World) (C X : Nat) (v0 v1 v2 vp vq v8 : Value) (xs ys zs l1 l2 l3 : List ByteArray) (p q : List (Option Nat)) (i j k : Nat) (cs : List (Ck ByteArray)) (e : Ending) (w : World) : Prop :=
  ∃ (A1 A2 A3 : Option Addr) (n1 n2 n3 c1 c2 c3 : Nat), e = .returned (.agg #[.slice A1 n1 c1, .slice A2 n2 c2, .slice A3 n3 c3, .bool false, .slice none 0 0]) ∧ Tn w0 w C v0 v1 v2 vp vq v8 (.slice A1 n1 c1) (.slice A2 n2 c2) (.slice A3 n3 c3) xs ys zs l1 l2 l3 p q i j k cs ∧
    Five w X (.slice none 0 0) (.slice none 0 0) (.slice none 0 0) (.bool false) (.slice none 0 0) ∧ v8.ownBlock ≠ some X ∧ w0.heap.size ≤ X

variable {n c m d' r f s : Nat} {A B D : Option Addr}
theorem kt_call1 (h : Cs w0 w C (.slice A n c) (.slice B m d') (.slice D r f) vp vq xs ys zs p q i j k cs) (hv : Cutr w C (.slice A n c) (.slice B m d') (.slice D r f) vp vq (.int .i64 (i : Int)) (.int .i64 (j : Int)) (.int .i64 (k : Int)) v8) (ho : OutR w w0.heap.size v8 cs)
    (hn : n ≤ 256) (hm : m ≤ 256) (hr : r ≤ 256) (hi : i + s ≤ n) (hj : j + s ≤ m) (hk : k + s ≤ r) :
    Calls Tryd.prog 87 #[.pointer (some ⟨C, 0, none⟩), .int .i64 ((i : Int) + (s : Int)), .int .i64 ((j : Int) + (s : Int)), .int .i64 ((k : Int) + (s : Int))] w (Kt1 w0 C (.slice A n c) (.slice B m d') (.slice D r f) vp vq v8 xs ys zs (cutL2 xs i (i + s)) (cutL2 ys j (j + s)) (cutL2 zs k (k + s)) p q (i + s) (j + s) (k + s) cs) := by
  have T := take_any w C _ _ _ _ _ _ i j k (i + s) (j + s) (k + s) _ _ _ _ _ v8 xs ys zs hv (h.a.below h.g) (h.b.below h.g) (h.d.below h.g) (by omega) (by omega) (by omega) hi hj hk (by omega) (by omega) (by omega)
  rw [show ((i + s : Nat) : Int) = (i : Int) + (s : Int) from by omega, show ((j + s : Nat) : Int) = (j : Int) + (s : Int) from by omega, show ((k + s : Nat) : Int) = (k : Int) + (s : Int) from by omega] at T
  refine T.mono ?_
  rintro e w1 ⟨A1, A2, A3, m1, m2, m3, c1, c2, c3, rfl, o1, o2, o3, hq, hg⟩
  exact ⟨A1, A2, A3, m1, m2, m3, c1, c2, c3, rfl, tn_of h hv ho o1 o2 o3 hq hg⟩

theorem kt_call2 (h : Cs w0 w C (.slice A n c) (.slice B m d') (.slice D r f) vp vq xs ys zs p q i j k cs) (hv : Cutr w C (.slice A n c) (.slice B m d') (.slice D r f) vp vq (.int .i64 (i : Int)) (.int .i64 (j : Int)) (.int .i64 (k : Int)) v8) (ho : OutR w w0.heap.size v8 cs)
    (hn : n ≤ 256) (hm : m ≤ 256) (hr : r ≤ 256) (hi : i + s ≤ n) (hj : j + s ≤ m) (hk : k + s ≤ r) :
    Calls Tryd.prog 87 #[.pointer (some ⟨C, 0, none⟩), .int .i64 ((i : Int) + (s : Int)), .int .i64 ((j : Int) + (s : Int)), .int .i64 ((k : Int) + (s : Int))] (w.alloc (.cells #[.slice none 0 0, .slice none 0 0, .slice none 0 0, .bool false, .slice none 0 0] 79)).drew (Kt2 w0 C w.heap.size (.slice A n c) (.slice B m d') (.slice D r f) vp vq v8 xs ys zs (cutL2 xs i (i + s)) (cutL2 ys j (j + s)) (cutL2 zs k (k + s)) p q (i + s) (j + s) (k + s) cs) := by
  have hB := ((Below.refl w.heap.size w).alloc (Nat.le_refl _) (.cells #[.slice none 0 0, .slice none 0 0, .slice none 0 0, .bool false, .slice none 0 0] 79)).drew
  have F := (Five.new w (.slice none 0 0) (.slice none 0 0) (.slice none 0 0) (.bool false) (.slice none 0 0)).below (Below.refl _ _).drew
  have T := take_any _ C _ _ _ _ _ _ i j k (i + s) (j + s) (k + s) _ _ _ _ _ v8 xs ys zs (hv.below hB) ((h.a.below h.g).below hB) ((h.b.below h.g).below hB) ((h.d.below h.g).below hB) (by omega) (by omega) (by omega) hi hj hk (by omega) (by omega) (by omega)
  rw [show ((i + s : Nat) : Int) = (i : Int) + (s : Int) from by omega, show ((j + s : Nat) : Int) = (j : Int) + (s : Int) from by omega, show ((k + s : Nat) : Int) = (k : Int) + (s : Int) from by omega] at T
  refine T.mono ?_
  rintro e w1 ⟨A1, A2, A3, m1, m2, m3, c1, c2, c3, rfl, o1, o2, o3, hq, hg⟩
  refine ⟨A1, A2, A3, m1, m2, m3, c1, c2, c3, rfl, tn_of (h.below hB) (hv.below hB) (ho.below hB) o1 o2 o3 hq hg, F.apart hg (by have := hv.lt; omega), fun hc => ?_, h.g.size⟩
  obtain ⟨vals, g1, _⟩ := ho
  have := (g1.lt _ hc).2
  omega

theorem kt_late {A1 A2 A3 : Option Addr} {n1 n2 n3 c1 c2 c3 : Nat} (t : Tn w0 w C v0 v1 v2 vp vq v8 (.slice A1 n1 c1) (.slice A2 n2 c2) (.slice A3 n3 c3) xs ys zs l1 l2 l3 p q i j k cs) :
    KtMid w0 C v0 v1 v2 vp vq xs ys zs l1 l2 l3 p q i j k cs (.pointer (some ⟨w.heap.size, 0, none⟩)) (w.alloc (.cells #[.slice A1 n1 c1, .slice A2 n2 c2, .slice A3 n3 c3, .bool false, .slice none 0 0] 79)) :=
  ⟨_, _, _, _, _, _, _, _, _, _, _, rfl, t.g.size, t.lay⟩
theorem kt_early {A1 A2 A3 : Option Addr} {n1 n2 n3 c1 c2 c3 : Nat} (t : Tn w0 w C v0 v1 v2 vp vq v8 (.slice A1 n1 c1) (.slice A2 n2 c2) (.slice A3 n3 c3) xs ys zs l1 l2 l3 p q i j k cs) (hx : Five w X (.slice none 0 0) (.slice none 0 0) (.slice none 0 0) (.bool false) (.slice none 0 0)) (nx : v8.ownBlock ≠ some X) (hX : w0.heap.size ≤ X) :
    KtMid w0 C v0 v1 v2 vp vq xs ys zs l1 l2 l3 p q i j k cs (.pointer (some ⟨X, 0, none⟩)) (((((w.setCell ⟨X, 0, none⟩ (.slice A1 n1 c1)).setCell ⟨X, 1, none⟩ (.slice A2 n2 c2)).setCell ⟨X, 2, none⟩ (.slice A3 n3 c3)).setCell ⟨X, 3, none⟩ (.bool false)).setCell ⟨X, 4, none⟩ (.slice none 0 0)) :=
  ⟨_, _, _, _, _, _, _, _, _, _, _, rfl, hX, t.fill hx nx hX⟩
end

end Go.Proofs.YtdpoeagmeiedcaaDoor
namespace Go.Proofs.YtdpoeagmeiedcaaDoor
open Go.RowKit

theorem rn_fix (k : Nat → Bool) (f n : Nat) (h : k n = false) : rn k f n = n := by
  cases f with
  | zero => rfl
  | succ f => rw [rn, if_neg (by simp [h])]
theorem rn_next (k : Nat → Bool) (f n : Nat) (h : k n = true) (hf : 0 < f) : rn k f n = rn k (f - 1) (n + 1) := by
  obtain ⟨f, rfl⟩ : ∃ g, f = g + 1 := ⟨f - 1, by omega⟩
  rw [rn, if_pos h]
  rfl

theorem keptC_yes {xs ys zs : List ByteArray} {i j k s : Nat} (h : 0 < s) : keptC xs ys zs i j k s = [⟨cutL2 xs i (i + s), cutL2 ys j (j + s), cutL2 zs k (k + s), false, cutL2 xs i (i + s)⟩] := by
  unfold keptC
  rw [if_pos h]
theorem keptC_no {xs ys zs : List ByteArray} {i j k s : Nat} (h : ¬ 0 < s) : keptC xs ys zs i j k s = [] := by
  unfold keptC
  rw [if_neg h]

theorem isK_some {p q : List (Option Nat)} {i : Nat} (h : isK p q i = true) : ∃ a b : Nat, p[i]? = some (some a) ∧ q[i]? = some (some b) := by
  unfold isK at h
  rw [Bool.and_eq_true, isSome2_iff, isSome2_iff] at h
  obtain ⟨⟨x, hx⟩, y, hy⟩ := h
  exact ⟨x, y, hx, hy⟩
theorem isRun_no {p q : List (Option Nat)} {i j k t : Nat} (h : isK p q (i + t) = false) : isRun p q i j k t = false := by
  cases hr : isRun p q i j k t with
  | false => rfl
  | true =>
    unfold isRun at hr
    rw [Bool.and_eq_true, decide_eq_true_iff, decide_eq_true_iff] at hr
    have : isK p q (i + t) = true := by unfold isK; rw [hr.1, hr.2]; rfl
    rw [this] at h
    cases h
theorem isRun_at {p q : List (Option Nat)} {i j k t a b : Nat} (hp : p[i + t]? = some (some a)) (hq : q[i + t]? = some (some b)) : isRun p q i j k t = (decide (a = j + t) && decide (b = k + t)) := by
  unfold isRun
  rw [hp, hq]
  simp

/-- The cutter's cells, as a load finds them. -/
noncomputable def cellC (C n : Nat) (w : World) : Value := (w.cell? ⟨C, n, none⟩).getD undef
theorem cellC_of {C n : Nat} {w : World} {v : Value} (h : w.cell? ⟨C, n, none⟩ = some v) : cellC C n w = v := by unfold cellC; rw [h]; rfl
def Has3 (C : Nat) (w : World) : Prop := w.cell? ⟨C, 5, none⟩ = some (cellC C 5 w) ∧ w.cell? ⟨C, 6, none⟩ = some (cellC C 6 w) ∧ w.cell? ⟨C, 7, none⟩ = some (cellC C 7 w)
theorem has3 {w : World} {C : Nat} {v5 v6 v7 : Value} (h5 : w.cell? ⟨C, 5, none⟩ = some v5) (h6 : w.cell? ⟨C, 6, none⟩ = some v6) (h7 : w.cell? ⟨C, 7, none⟩ = some v7) :
    w.cell? ⟨C, 5, none⟩ = some (cellC C 5 w) ∧ w.cell? ⟨C, 6, none⟩ = some (cellC C 6 w) ∧ w.cell? ⟨C, 7, none⟩ = some (cellC C 7 w) := by
  rw [cellC_of h5, cellC_of h6, cellC_of h7]
  exact ⟨h5, h6, h7⟩

attribute [local go_sem ↓] Go.wp_at_zero Go.wp_at_succ

set_option maxRecDepth 100000 in
set_option maxHeartbeats 8000000 in
theorem kept_any (w0 w : World) (C n c m d r f i j k : Nat) (A B D : Option Addr) (vp vq : Value) (xs ys zs : List ByteArray) (p q : List (Option Nat)) (cs : List (Ck ByteArray)) (s : Nat)
    (h : Cs w0 w C (.slice A n c) (.slice B m d) (.slice D r f) vp vq xs ys zs p q i j k cs) (lp : p.length = n) (lq : q.length = n) (hn : n ≤ 256) (hm : m ≤ 256) (hr : r ≤ 256) (hi : i ≤ n) (hj : j ≤ m) (hk : k ≤ r)
    (hs : s = rn (isRun p q i j k) (n - i) 0) (hsi : i + s ≤ n) (hsj : j + s ≤ m) (hsk : k + s ≤ r) (lcs : cs.length ≤ 2000) :
    Calls Tryd.prog 68 #[.pointer (some ⟨C, 0, none⟩)] w fun e w' => e = .returned (.tuple #[]) ∧ Cs w0 w' C (.slice A n c) (.slice B m d) (.slice D r f) vp vq xs ys zs p q (i + s) (j + s) (k + s) (cs ++ keptC xs ys zs i j k s) := by
  obtain ⟨i0, hi0, hz0, hz1, hz2⟩ := info_parts chunkInfo
  have HC := Lib.hid h
  have IK := fun w1 (m1 : Nat) (h1 : Cs w0 w1 C (.slice A n c) (.slice B m d) (.slice D r f) vp vq xs ys zs p q i j k cs) =>
    let ⟨u8, hv, _⟩ := h1.c
    isKept_any w1 C n c m1 A _ _ vp vq _ _ _ u8 p q hv h1.p1 h1.p2 lp lq
  have HIK := Lib.hid IK
  clear IK h
  have i0' : (0 : Int) ≤ (i : Int) := by omega
  have LP := Lib.hid lp
  have LQ := Lib.hid lq
  have HS := Lib.hid hs
  clear lp lq hs
  go_enter Tryd.func68, Tryd.ntmps68
  go_upto_block 0 with fail
  go_cut [2] (fun x2 wx => x2 = .int .i64 (s : Int) ∧ Cs w0 wx C (.slice A n c) (.slice B m d) (.slice D r f) vp vq xs ys zs p q i j k cs)
  case first =>
    go_wp2_with fail
    go_loopw [2] (fun s2 wr => ∃ t : Nat, t ≤ n - i ∧ s2 = .int .i64 t ∧ Hid (rn (isRun p q i j k) (n - i - t) t = s) ∧ Cs w0 wr C (.slice A n c) (.slice B m d) (.slice D r f) vp vq xs ys zs p q i j k cs) (fun s2 _ => n - i - (intOf s2).toNat)
    case atStart => exact ⟨0, Nat.zero_le _, rfl, Lib.hid HS.out.symm, HC.out⟩
    case round =>
      clear HC
      obtain ⟨t, ht, rfl, hx, hw⟩ := hrel
      have t0 : (0 : Int) ≤ (t : Int) := by omega
      have hti : i + t ≤ 256 := by omega
      go_upto_region 1 with (fail)
      go_cut [53] (fun x53 wx => x53 = .bool (isRun p q i j k t) ∧ Cs w0 wx C (.slice A n c) (.slice B m d) (.slice D r f) vp vq xs ys zs p q i j k cs)
      case first =>
        obtain ⟨v8, hc, ho⟩ := hw.c
        have t3 := hc.c3
        have t4 := hc.c4
        have t5 := hc.c5
        have t6 := hc.c6
        have t7 := hc.c7
        have HW := Lib.hid hw
        have KK : Hid (∀ nq : Nat, Calls Tryd.prog 89 #[.pointer (some ⟨C, 0, none⟩), .int .i64 ((i : Int) + (t : Int))] (wr.drewN nq) fun e w'' => e = .returned (.bool (isK p q (i + t))) ∧ ∃ m, w'' = wr.drewN m) := Lib.hid fun nq => by
          have K := HIK.out (wr.drewN nq) (i + t) (HW.out.below (below_drewN (Below.refl _ wr) nq))
          rw [show ((i + t : Nat) : Int) = (i : Int) + (t : Int) from by omega] at K
          exact K.mono fun e w'' ⟨h1, h2⟩ => ⟨h1, nq, h2.symm⟩
        clear hw hc ho
        have s5 : IntKind.i64.wrap ((i : Int) + (t : Int)) = (i : Int) + (t : Int) := IntWalk.i64_in _ (by omega)
        have s6 : IntKind.i64.wrap ((j : Int) + (t : Int)) = (j : Int) + (t : Int) := IntWalk.i64_in _ (by omega)
        have s7 : IntKind.i64.wrap ((k : Int) + (t : Int)) = (k : Int) + (t : Int) := IntWalk.i64_in _ (by omega)
        by_cases hK : isK p q (i + t) = true
        · obtain ⟨a, b, hp, hq⟩ := isK_some hK
          have HR := Lib.hid (isRun_at (j := j) (k := k) hp hq)
          rw [hK] at KK
          obtain ⟨g1, d1, rfl, k1⟩ := HW.out.p1.cell hp
          obtain ⟨g2, d2, rfl, k2⟩ := HW.out.p2.cell hq
          have l1 := (List.getElem?_eq_some_iff.1 hp).1
          have l2 := (List.getElem?_eq_some_iff.1 hq).1
          simp only [pz] at k1 k2
          have s1 : (i : Int) + (t : Int) < (p.length : Int) := by omega
          have s2 : (i : Int) + (t : Int) < (q.length : Int) := by omega
          have s3 : (0 : Int) ≤ (i : Int) + (t : Int) := by omega
          have s4 : ((i : Int) + (t : Int)).toNat = i + t := by omega
          clear hp hq hK l1 l2
          by_cases ea : a = j + t
          · have e1 : ((a : Int) == (j : Int) + (t : Int)) = true := by rw [beq_iff_eq]; omega
            by_cases eb : b = k + t
            · have e2 : ((b : Int) == (k : Int) + (t : Int)) = true := by rw [beq_iff_eq]; omega
              have HR2 : Hid (isRun p q i j k t = true) := Lib.hid (by rw [HR.out, decide_eq_true ea, decide_eq_true eb]; rfl)
              clear ea eb HR
              go_wp2_with fail
              go_quiet ((go_at_call 89; exact KK.out _))
              go_wp2_with fail
              go_meet
              exact ⟨by rw [HR2.out], HW.out.below (below_drewN (Below.refl _ wr) _)⟩
            · have e2 : ((b : Int) == (k : Int) + (t : Int)) = false := by rw [beq_eq_false_iff_ne]; omega
              have HR2 : Hid (isRun p q i j k t = false) := Lib.hid (by rw [HR.out, decide_eq_true ea, decide_eq_false eb]; rfl)
              clear ea eb HR
              go_wp2_with fail
              go_quiet ((go_at_call 89; exact KK.out _))
              go_wp2_with fail
              go_meet
              exact ⟨by rw [HR2.out], HW.out.below (below_drewN (Below.refl _ wr) _)⟩
          · have e1 : ((a : Int) == (j : Int) + (t : Int)) = false := by rw [beq_eq_false_iff_ne]; omega
            have HR2 : Hid (isRun p q i j k t = false) := Lib.hid (by rw [HR.out, decide_eq_false ea]; rfl)
            clear ea HR
            go_wp2_with fail
            go_quiet ((go_at_call 89; exact KK.out _))
            go_wp2_with fail
            go_meet
            exact ⟨by rw [HR2.out], HW.out.below (below_drewN (Below.refl _ wr) _)⟩
        · rw [Bool.not_eq_true] at hK
          have HR2 := Lib.hid (isRun_no (j := j) (k := k) hK)
          rw [hK] at KK
          clear hK
          go_wp2_with fail
          go_quiet ((go_at_call 89; exact KK.out _))
          go_wp2_with fail
          go_meet
          exact ⟨by rw [HR2.out], HW.out.below (below_drewN (Below.refl _ wr) _)⟩
      obtain ⟨rfl, hw1⟩ := hcut
      clear hw
      have HW := Lib.hid hw1
      clear hw1
      by_cases hrun : isRun p q i j k t = true
      · have hlt : t < n - i := by
          unfold isRun at hrun
          rw [Bool.and_eq_true, decide_eq_true_iff, decide_eq_true_iff] at hrun
          have := (List.getElem?_eq_some_iff.1 hrun.1).1
          have := LP.out
          omega
        have HF := Lib.hid (rn_next (isRun p q i j k) (n - i - t) t hrun (by omega))
        rw [hrun]
        clear hrun
        go_wp2_with fail
        go_roundw
        case rel => exact ⟨t + 1, by omega, by go_num, by have := HF.out.symm.trans hx.out; rw [show n - i - t - 1 = n - i - (t + 1) by omega] at this; exact Lib.hid this, HW.out⟩
        case measure => simp [intOf]; omega
      · rw [Bool.not_eq_true] at hrun
        have HF := Lib.hid ((rn_fix (isRun p q i j k) (n - i - t) t hrun).symm.trans hx.out)
        rw [hrun]
        clear hrun
        go_wp2_with fail
        go_meet
        exact ⟨by rw [HF.out], HW.out⟩
  clear HC HIK HS
  obtain ⟨rfl, hw⟩ := hcut
  by_cases hs0 : 0 < s
  · have HK := Lib.hid (keptC_yes (xs := xs) (ys := ys) (zs := zs) (i := i) (j := j) (k := k) hs0)
    have s0 : (0 : Int) < (s : Int) := by omega
    clear hs0
    go_upto_region 4 with (fail)
    go_cut [3] (fun x3 wx => KtMid w0 C (.slice A n c) (.slice B m d) (.slice D r f) vp vq xs ys zs (cutL2 xs i (i + s)) (cutL2 ys j (j + s)) (cutL2 zs k (k + s)) p q (i + s) (j + s) (k + s) cs x3 wx)
    case first =>
      obtain ⟨V8, hv, ho⟩ := hw.c
      have hD := (Below.refl wc.heap.size wc).drew
      have hvd := hv.below hD
      have T1 := Lib.hid (kt_call1 (hw.below hD) hvd (ho.below hD) hn hm hr hsi hsj hsk)
      have T2 := Lib.hid (kt_call2 hw hv ho hn hm hr hsi hsj hsk)
      have t5 := hv.c5
      have t6 := hv.c6
      have t7 := hv.c7
      have d5 := hvd.c5
      have d6 := hvd.c6
      have d7 := hvd.c7
      have e5 := cellC_of d5
      have e6 := cellC_of d6
      have e7 := cellC_of d7
      have hva := hvd.below ((Below.refl wc.drew.heap.size wc.drew).alloc (Nat.le_refl _) (.cells #[.slice none 0 0, .slice none 0 0, .slice none 0 0, .bool false, .slice none 0 0] 79))
      have a5 := hva.c5
      have a6 := hva.c6
      have a7 := hva.c7
      have s5 : IntKind.i64.wrap ((i : Int) + (s : Int)) = (i : Int) + (s : Int) := IntWalk.i64_in _ (by omega)
      have s6 : IntKind.i64.wrap ((j : Int) + (s : Int)) = (j : Int) + (s : Int) := IntWalk.i64_in _ (by omega)
      have s7 : IntKind.i64.wrap ((k : Int) + (s : Int)) = (k : Int) + (s : Int) := IntWalk.i64_in _ (by omega)
      clear hv ho hvd hva hD hw
      have hCl := World.block_lt_of_cell? wc _ t5
      simp only at hCl
      clear e5 e6 e7 d5 d6 d7 a5 a6 a7
      go_region_with (first
          | (go_at_call 87; (with_reducible refine T1.out.mono ?_); rintro e w1 ⟨A1, A2, A3, n1, n2, n3, c1, c2, c3, rfl, TN⟩)
          | (go_at_call 87; (with_reducible refine T2.out.mono ?_); rintro e w1 ⟨A1, A2, A3, n1, n2, n3, c1, c2, c3, rfl, TN, F3, nx, hX⟩; have f0 := F3.c0; have f1 := F3.c1; have f2 := F3.c2; have f3 := F3.c3; have f4 := F3.c4; have y0 := F3.z 0; have y1 := F3.z 1; have y2 := F3.z 2; have y3 := F3.z 3; have y4 := F3.z 4; have fl := F3.lt))
      all_goals (go_wp2_with fail; go_meet)
      all_goals (with_reducible first | exact kt_late TN | exact kt_early TN F3 nx hX)
    clear hw
    obtain ⟨X, A1, A2, A3, n1, n2, n3, c1, c2, c3, V8, rfl, hX, bt⟩ := hcut
    have hl1 : (cutL2 xs i (i + s)).length ≤ 1000000 := by unfold cutL2; rw [List.length_take]; omega
    generalize cutL2 xs i (i + s) = l1 at *
    generalize cutL2 ys j (j + s) = l2 at *
    generalize cutL2 zs k (k + s) = l3 at *
    have f0 := bt.x.c0
    have CL := Lib.hid (clone_any wc _ l1 (Strs.of_own bt.o1 rfl) hl1)
    have HB := Lib.hid bt
    clear bt
    go_wp2_with fail
    refine CL.out.mono ?_
    rintro e w3 ⟨v, rfl, o, hb⟩
    have b1 := HB.out.below hb
    have o4 := own_le o HB.out.g.size
    have b2 := b1.out hX o4
    obtain ⟨A4, m4, c4, rfl⟩ := own_form o4
    have g4 := b1.x.c4
    have y4 := b1.x.z 4
    have B2 := Lib.hid b2
    clear b1 b2 o o4 hb HB CL f0
    go_upto_region 6 with (fail)
    clear g4 y4
    generalize w3.setCell ⟨X, 4, none⟩ (.slice A4 m4 c4) = w2 at *
    have bt := B2.out
    have t8 := bt.c.c8
    have z8 := bt.c.z 8
    have f0 := bt.x.c0
    have f1 := bt.x.c1
    have f2 := bt.x.c2
    have f3 := bt.x.c3
    have f4 := bt.x.c4
    obtain ⟨vals, hvals, hck⟩ := bt.o
    have xl := bt.x.lt
    have cl := bt.c.lt
    have hXC : X ≠ C := bt.x.ty.ne bt.c.ty (by decide)
    have hCX : C ≠ X := Ne.symm hXC
    have hCK := Lib.hid hck
    have hbase := (Nat.le_trans bt.g.size (by simp) : w0.heap.size ≤ ((w2.alloc (.cells #[.slice A1 n1 c1, .slice A2 n2 c2, .slice A3 n3 c3, .bool false, .slice A4 m4 c4] 79)).drew).heap.size)
    clear bt hck
    go_region_law
      ((refine step_append_lies _ (by rfl) _ _ _ (by rfl) w0.heap.size 79 i0 _ 5 104 Tryd.underlying72 hi0 hz0 hz1 hz2 rfl (by omega) V8 cs.length vals (by rfl) ((hvals.alloc _).drew)
            ⟨w2.heap.size, 0, none⟩ 1 1 [.slice A1 n1 c1, .slice A2 n2 c2, .slice A3 n3 c3, .bool false, .slice A4 m4 c4] (by rfl) (by rfl) (World.news_of_block (cs := #[.slice A1 n1 c1, .slice A2 n2 c2, .slice A3 n3 c3, .bool false, .slice A4 m4 c4]) (t := 79) (fr := (0, 0)) (heap_alloc_new w2 _)) (by simp [Value.oneCell'])
            (by omega) (by unfold maxLen; omega) (by omega) hbase (w2.heap.size + 1) (by simp) ?_; intro gg cap w5 hown1 hgrow hat hlt; have BG := bt_grown B2.out hgrow; have kc := BG.1; have kz := BG.2.1))
    all_goals (go_wp2_with fail)
    all_goals go_end0
    all_goals (rw [HK.out]; exact ⟨rfl, bt_close B2.out hvals hCK.out hgrow hown1⟩)
  · have HK := Lib.hid (keptC_no (xs := xs) (ys := ys) (zs := zs) (i := i) (j := j) (k := k) hs0)
    obtain rfl : s = 0 := by omega
    clear hs0
    go_wp2_with fail
    go_end0
    rw [HK.out, List.append_nil]
    exact ⟨rfl, hw⟩

end Go.Proofs.YtdpoeagmeiedcaaDoor
namespace Go.Proofs.YtdpoeagmeiedcaaDoor
open Go.RowKit

/-- How much is the same. -/
def Counted (w : World) (n : Nat) (e : Ending) (w' : World) : Prop := e = .returned (.tuple #[.int .i64 (n : Int), .nilIface]) ∧ Below w.heap.size w w'

set_option maxRecDepth 100000 in
set_option maxHeartbeats 1000000 in
theorem common_good (w : World) (v u : Value) (xs ys : List ByteArray) (h : Strs w v xs) (g : Strs w u ys) (hx : ∀ s ∈ xs, s.size ≤ maxLen) (hy : ∀ s ∈ ys, s.size ≤ maxLen) (hxl : xs.length ≤ 256) (hyl : ys.length ≤ 256) :
    Calls Tryd.prog 13 #[v, u] w (Counted w (lc xs ys)) := by
  obtain ⟨A, n, c, rfl⟩ := h.form
  obtain ⟨B, m, d, rfl⟩ := g.form
  obtain rfl := h.len.1
  obtain rfl := g.len.1
  have E1 := (Below.refl w.heap.size w).alloc (Nat.le_refl _) (.cells #[.slice A xs.length c, .slice B ys.length d] 22)
  have h1 := h.below E1
  have g1 := g.below E1
  have hh := heap_alloc_new w (.cells #[.slice A xs.length c, .slice B ys.length d] 22)
  have CK := Lib.hid (check_good w.heap.size xs.length c ys.length d A B hxl hyl (w.alloc (.cells #[.slice A xs.length c, .slice B ys.length d] 22)) (cell_of_row _ _ 0 _ 22 (0, 0) hh) (cell_of_row _ _ 1 _ 22 (0, 0) hh))
  have CM := Lib.hid (measure_any (w.alloc (.cells #[.slice A xs.length c, .slice B ys.length d] 22)) _ _ xs ys h1 g1 hx hy hxl hyl)
  have hz1' : (w.alloc (.cells #[.slice A xs.length c, .slice B ys.length d] 22)).heap.size = w.heap.size + 1 := by simp
  clear hx hy h g h1 g1 hh
  go_enter Tryd.func13, Tryd.ntmps13
  go_wp2_with fail
  refine CK.out.mono ?_
  rintro e w' ⟨rfl, rfl⟩
  go_wp2_with fail
  refine CM.out.mono ?_
  rintro e w2 ⟨ga, gb, gr, R, zs, us, cs, D, rfl, hR, hG, hNa, hNb, ra, rb, rr, hT, hb2⟩
  have E2 := E1.trans (hb2.mono (by rw [hz1']; omega))
  have hp : pl ys.length 0 0 < R := by rw [hR]; exact plc_lt (by omega) (by omega)
  have q : cs[pl ys.length 0 0]? = some (lc xs ys) := hT.at (i := 0) (j := 0) (by omega) (by omega)
  have b1 := lc_le_left xs ys
  have rr0 := own_le rr (Nat.zero_le _)
  have LG := Lib.hid (longest_any ga gb gr xs.length ys.length R 0 0 ((lc xs ys : Nat) : Int) (by omega) (by omega) (by omega) hp w2 (own_at rr0 (by simp [u16s, q])))
  clear CK CM E1 hb2 hz1' hR hG hNa hNb ra rb rr hT hp q rr0
  generalize lc xs ys = k at *
  go_wp2_with fail
  refine LG.out.mono ?_
  rintro e w3 ⟨rfl, hb3⟩
  have E3 := E2.trans (hb3.mono E2.size)
  go_wp2
  go_ret2
  exact ⟨rfl, E3⟩

theorem edCells_at {l : List (Nat × ByteArray)} : ∀ {i k : Nat} {s : ByteArray}, l[i]? = some (k, s) → (edCells l)[i * 2]? = some (.int .i64 (k : Int)) ∧ (edCells l)[i * 2 + 1]? = some (.string s) := by
  induction l with
  | nil => intro i k s h; simp at h
  | cons x l ih =>
    intro i k s h
    have hc : edCells (x :: l) = .int .i64 (x.1 : Int) :: .string x.2 :: edCells l := rfl
    rw [hc]
    cases i with
    | zero => simp at h; subst h; exact ⟨rfl, rfl⟩
    | succ i =>
      rw [show (i + 1) * 2 = i * 2 + 1 + 1 by omega]
      simp only [List.getElem?_cons_succ] at h ⊢
      exact ih h

/-- Edits in a row of the call's own. -/
theorem own2_at {w : World} {base g cap : Nat} {e : TypeId} {n : Nat} {xs : List Value} (h : w.ownsRow base e 2 (.slice (some ⟨g, 0, none⟩) n cap) n xs) {i : Nat} {x : Value} (hi : xs[i]? = some x) : w.cell? ⟨g, i, none⟩ = some x := by
  rw [h.cellAt i (by rw [← h.1]; exact (List.getElem?_eq_some_iff.1 hi).1)]
  exact hi

/-- An int; what was there stands. -/
def Costs (w : World) (n : Nat) (e : Ending) (w' : World) : Prop := e = .returned (.int .i64 (n : Int)) ∧ Below w.heap.size w w'

theorem edCost_take (l : List (Nat × ByteArray)) (k : Nat) {op : Nat} {s : ByteArray} (h : l[k]? = some (op, s)) : edCost (l.take (k + 1)) = edCost (l.take k) + (if op = 1 then 0 else 1) := by
  rw [List.take_add_one, h]
  unfold edCost
  rw [List.filter_append, List.length_append]
  congr 1
  by_cases e : op = 1 <;> simp [e]

set_option maxHeartbeats 1000000 in
theorem cost_any (w : World) (base : Nat) (v : Value) (l : List (Nat × ByteArray)) (h : w.ownsRow base 66 2 v l.length (edCells l)) (hl : l.length ≤ 1000) :
    Calls Tryd.prog 18 #[v] w (Costs w (edCost l)) := by
  have HH := Lib.hid h
  obtain ⟨A, m, c, rfl⟩ : ∃ A m c, v = .slice A m c := by
    rcases h.2 with ⟨rfl, _⟩ | ⟨g, cap, cur, rfl, _⟩
    · exact ⟨_, _, _, rfl⟩
    · exact ⟨_, _, _, rfl⟩
  obtain rfl : m = l.length := by
    rcases h.2 with ⟨e, e2⟩ | ⟨g, cap, cur, e, _⟩
    · cases e; exact e2.symm
    · cases e; rfl
  clear h
  go_enter Tryd.func18, Tryd.ntmps18
  go_wp2
  go_loopw [3, 8] (fun s3 s8 wr => ∃ k : Nat, k ≤ l.length ∧ s8 = .int .i64 k ∧ s3 = .int .i64 (edCost (l.take k) : Nat) ∧ Below w.heap.size w wr) (fun _ s8 _ => l.length - (intOf s8).toNat)
  case atStart => exact ⟨0, Nat.zero_le _, rfl, rfl, Below.refl _ _⟩
  case round =>
    obtain ⟨k, hk, rfl, rfl, hb⟩ := hrel
    have k0 : (0 : Int) ≤ (k : Int) := Int.natCast_nonneg _
    have hcost : edCost (l.take k) ≤ 1000 := by
      unfold edCost
      have := List.length_filter_le (fun e : Nat × ByteArray => e.1 != 1) (l.take k)
      rw [List.length_take] at this
      omega
    by_cases hlt : k < l.length
    · obtain ⟨⟨op, s⟩, hs⟩ : ∃ x, l[k]? = some x := ⟨_, List.getElem?_eq_getElem hlt⟩
      have ho := own2_keep HH.out hb
      obtain ⟨g, rfl⟩ : ∃ g, A = some ⟨g, 0, none⟩ := by
        rcases ho.2 with ⟨_, e2⟩ | ⟨g, cap, cur, e, _⟩
        · omega
        · cases e; exact ⟨_, rfl⟩
      have k1 : (k : Int) < (l.length : Int) := by omega
      obtain ⟨x1, x2⟩ := edCells_at hs
      have c1 := own2_at ho x1
      have c2 := own2_at ho x2
      have e1 := Lib.hid (edCost_take l k hs)
      clear ho x1 x2 hs
      generalize edCost (l.take k) = q at *
      by_cases h1 : op = 1
      · subst h1
        go_wp2
        go_roundw
        case rel => exact ⟨k + 1, by omega, by go_num, by rw [e1.out]; simp, hb.alloc hb.size _⟩
        case measure => simp [intOf]; omega
      · have hne : ((op : Int) != 1) = true := by rw [bne_iff_ne]; omega
        go_wp2
        go_roundw
        case rel => exact ⟨k + 1, by omega, by go_num, by rw [e1.out, if_neg h1]; go_num, hb.alloc hb.size _⟩
        case measure => simp [intOf]; omega
    · obtain rfl : k = l.length := by omega
      have e1 := Lib.hid (show edCost (l.take l.length) = edCost l by rw [List.take_length])
      generalize edCost (l.take l.length) = q at *
      go_wp2
      go_ret
      exact ⟨congrArg (fun z : Nat => Ending.returned (.int .i64 (z : Int))) e1.out, hb⟩

end Go.Proofs.YtdpoeagmeiedcaaDoor
namespace Go.Proofs.YtdpoeagmeiedcaaDoor
open Go.RowKit

abbrev Mt := Nat × Nat × Nat
def bump (l : List Mt) : List Mt := match l.getLast? with
  | none => l
  | some x => l.dropLast ++ [(x.1, x.2.1, x.2.2 + 1)]
theorem bump_snoc (l : List Mt) (x : Mt) : bump (l ++ [x]) = l ++ [(x.1, x.2.1, x.2.2 + 1)] := by simp [bump]

/-- One edit more: the matches so far, both places, whether a row goes on. -/
def mstep (st : List Mt × Nat × Nat × Bool) (op : Nat) : List Mt × Nat × Nat × Bool :=
  (if op = 1 then (if st.2.2.2 = true then bump st.1 else st.1 ++ [(st.2.1, st.2.2.1, 1)]) else st.1, if op = 3 then st.2.1 else st.2.1 + 1, if op = 2 then st.2.2.1 else st.2.2.1 + 1, op == 1)
def mrun (l : List (Nat × ByteArray)) : List Mt × Nat × Nat × Bool := (l.map (·.1)).foldl mstep ([], 0, 0, false)

theorem mrun_take (l : List (Nat × ByteArray)) (k : Nat) {op : Nat} {s : ByteArray} (h : l[k]? = some (op, s)) : mrun (l.take (k + 1)) = mstep (mrun (l.take k)) op := by
  rw [List.take_add_one, h]
  simp [mrun]

/-- What holds of the state behind k edits. -/
structure MGood (k : Nat) (st : List Mt × Nat × Nat × Bool) : Prop where
  i : st.2.1 ≤ k
  j : st.2.2.1 ≤ k
  l : st.1.length ≤ k
  n : ∀ x ∈ st.1, x.2.2 ≤ k
  r : st.2.2.2 = true → st.1 ≠ []

theorem MGood.step {k : Nat} {st : List Mt × Nat × Nat × Bool} (h : MGood k st) (op : Nat) : MGood (k + 1) (mstep st op) := by
  obtain ⟨out, i, j, b⟩ := st
  obtain ⟨h1, h2, h3, h4, h5⟩ := h
  simp only at h1 h2 h3 h4 h5
  by_cases e : op = 1
  · cases b with
    | true =>
      obtain ⟨pre, x, rfl⟩ : ∃ p x, out = p ++ [x] := ⟨out.dropLast, out.getLast (h5 rfl), (List.dropLast_concat_getLast (h5 rfl)).symm⟩
      refine ⟨?_, ?_, ?_, ?_, ?_⟩ <;> simp only [mstep, e, if_true, bump_snoc]
      · simp; omega
      · simp; omega
      · simp at h3 ⊢; omega
      · intro y hy
        rw [List.mem_append, List.mem_singleton] at hy
        rcases hy with hy | rfl
        · have := h4 y (by simp [hy]); omega
        · have := h4 x (by simp); simp; omega
      · intro _; simp
    | false =>
      refine ⟨?_, ?_, ?_, ?_, ?_⟩ <;> simp only [mstep, e, if_true]
      · simp; omega
      · simp; omega
      · simp; omega
      · intro y hy
        rw [if_neg (by simp), List.mem_append, List.mem_singleton] at hy
        rcases hy with hy | rfl
        · have := h4 y hy; omega
        · simp
      · intro _; simp
  · refine ⟨?_, ?_, ?_, ?_, ?_⟩ <;> simp only [mstep, if_neg e]
    · split <;> omega
    · split <;> omega
    · omega
    · intro y hy; have := h4 y hy; omega
    · intro hh; simp [e] at hh

theorem MGood.run (l : List (Nat × ByteArray)) (k : Nat) (hk : k ≤ l.length) : MGood k (mrun (l.take k)) := by
  induction k with
  | zero => exact ⟨by simp [mrun], by simp [mrun], by simp [mrun], by simp [mrun], by simp [mrun]⟩
  | succ k ih =>
    obtain ⟨⟨op, s⟩, hs⟩ : ∃ x, l[k]? = some x := ⟨_, List.getElem?_eq_getElem (by omega)⟩
    rw [mrun_take l k hs]
    exact (ih (by omega)).step op

def mcells (l : List Mt) : List Value := l.flatMap fun x => [.int .i64 (x.1 : Int), .int .i64 (x.2.1 : Int), .int .i64 (x.2.2 : Int)]
theorem mcells_snoc (l : List Mt) (a b n : Nat) : mcells (l ++ [(a, b, n)]) = mcells l ++ [.int .i64 (a : Int), .int .i64 (b : Int), .int .i64 (n : Int)] := by simp [mcells]
theorem mcells_len (l : List Mt) : (mcells l).length = l.length * 3 := by
  induction l with
  | nil => rfl
  | cons x l ih => rw [show mcells (x :: l) = .int .i64 (x.1 : Int) :: .int .i64 (x.2.1 : Int) :: .int .i64 (x.2.2 : Int) :: mcells l from rfl]; simp only [List.length_cons, ih]; omega
theorem mcells_last (l : List Mt) (a b n : Nat) : (mcells (l ++ [(a, b, n)]))[l.length * 3 + 2]? = some (.int .i64 (n : Int)) := by
  rw [mcells_snoc, List.getElem?_append_right (by rw [mcells_len]; omega), mcells_len, Nat.add_sub_cancel_left]
  rfl
theorem mcells_set (l : List Mt) (a b n m : Nat) : (mcells (l ++ [(a, b, n)])).set (l.length * 3 + 2) (.int .i64 (m : Int)) = mcells (l ++ [(a, b, m)]) := by
  rw [mcells_snoc, mcells_snoc, List.set_append_right _ _ (by rw [mcells_len]; omega), mcells_len, Nat.add_sub_cancel_left]
  rfl

theorem ed_ops {α : Type} [DecidableEq α] (xs : List α) : ∀ ys : List α, ∀ e ∈ ed xs ys, e.1 = 1 ∨ e.1 = 2 ∨ e.1 = 3 := by
  induction xs with
  | nil => intro ys e he; simp [ed] at he; obtain ⟨_, _, rfl⟩ := he; exact .inr (.inr rfl)
  | cons x xs ih =>
    intro ys
    induction ys with
    | nil =>
      intro e he
      rw [ed_cons_nil, List.mem_cons] at he
      rcases he with rfl | he
      · exact .inr (.inl rfl)
      · exact ih [] e he
    | cons y ys ih2 =>
      intro e he
      rw [ed_cons] at he
      split at he
      · rw [List.mem_cons] at he
        rcases he with rfl | he
        · exact .inl rfl
        · exact ih ys e he
      · split at he
        · rw [List.mem_cons] at he
          rcases he with rfl | he
          · exact .inr (.inl rfl)
          · exact ih _ e he
        · rw [List.mem_cons] at he
          rcases he with rfl | he
          · exact .inr (.inr rfl)
          · exact ih2 e he

end Go.Proofs.YtdpoeagmeiedcaaDoor
namespace Go.Proofs.YtdpoeagmeiedcaaDoor
open Go.RowKit

theorem matchInfo : (Tryd.prog.info? 48).map (fun i => (i.zero, i.size, i.bytes)) = some (some (.agg #[.int .i64 0, .int .i64 0, .int .i64 0]), 3, 24) := by kernel_rfl

/-- The matches come back in a row of the call's own. -/
def Matched (w : World) (l : List Mt) (e : Ending) (w' : World) : Prop :=
  ∃ v, e = .returned (.tuple #[v, .nilIface]) ∧ w'.ownsRow w.heap.size 48 3 v l.length (mcells l) ∧ Below w.heap.size w w'

set_option maxRecDepth 100000 in
set_option maxHeartbeats 4000000 in
theorem matches_good (w : World) (v u : Value) (xs ys : List ByteArray) (h : Strs w v xs) (g : Strs w u ys) (hx : ∀ s ∈ xs, s.size ≤ maxLen) (hy : ∀ s ∈ ys, s.size ≤ maxLen) (hxl : xs.length ≤ 256) (hyl : ys.length ≤ 256) :
    Calls Tryd.prog 12 #[v, u] w (Matched w (mrun (ed xs ys)).1) := by
  obtain ⟨i0, hi, hz0, hz1, hz2⟩ := info_parts matchInfo
  have CL := Lib.hid (lines_good w v u xs ys h g hx hy hxl hyl)
  have hops := Lib.hid (ed_ops xs ys)
  have hel := ed_len xs ys
  clear h g hx hy
  generalize ed xs ys = l at *
  go_enter Tryd.func12, Tryd.ntmps12
  go_wp2_with fail
  refine CL.out.mono ?_
  rintro e w2 ⟨v2, rfl, how, hb2⟩
  have HO := Lib.hid how
  obtain ⟨A, m, c, rfl⟩ : ∃ A m c, v2 = .slice A m c := by
    rcases how.2 with ⟨rfl, _⟩ | ⟨g, cap, cur, rfl, _⟩
    · exact ⟨_, _, _, rfl⟩
    · exact ⟨_, _, _, rfl⟩
  obtain rfl : m = l.length := by
    rcases how.2 with ⟨e, e2⟩ | ⟨g, cap, cur, e, _⟩
    · cases e; exact e2.symm
    · cases e; rfl
  clear how CL
  go_wp2_with fail
  go_loopw [8, 9, 10, 11, 25] (fun s8 s9 s10 s11 s25 wr => ∃ (k i j : Nat) (b : Bool) (out : List Mt), k ≤ l.length ∧ s25 = .int .i64 k ∧ s9 = .int .i64 i ∧ s10 = .int .i64 j ∧ s11 = .bool b ∧ Hid (mrun (l.take k) = (out, i, j, b)) ∧
      wr.ownsRow w2.heap.size 48 3 s8 out.length (mcells out) ∧ Below w2.heap.size w2 wr) (fun _ _ _ _ s25 _ => l.length - (intOf s25).toNat)
  case atStart => exact ⟨0, 0, 0, false, [], Nat.zero_le _, rfl, rfl, rfl, rfl, rfl, World.ownsRow_nil _ _ _ _, Below.refl _ _⟩
  case round =>
    obtain ⟨k, i, j, b, out, hk, rfl, rfl, rfl, rfl, hm, hown, hb⟩ := hrel
    have k0 : (0 : Int) ≤ (k : Int) := Int.natCast_nonneg _
    have hgood := MGood.run l k hk
    rw [hm.out] at hgood
    obtain ⟨gi, gj, gl, gn, gr⟩ := hgood
    simp only at gi gj gl gn gr
    by_cases hlt : k < l.length
    · obtain ⟨⟨op, s⟩, hs⟩ : ∃ x, l[k]? = some x := ⟨_, List.getElem?_eq_getElem hlt⟩
      have ho := own2_keep HO.out hb
      obtain ⟨g, rfl⟩ : ∃ g, A = some ⟨g, 0, none⟩ := by
        rcases ho.2 with ⟨_, e2⟩ | ⟨g, cap, cur, e, _⟩
        · omega
        · cases e; exact ⟨_, rfl⟩
      have k1 : (k : Int) < (l.length : Int) := by omega
      obtain ⟨x1, x2⟩ := edCells_at hs
      have c1 := own2_at ho x1
      have c2 := own2_at ho x2
      have hst := mrun_take l k hs
      rw [hm.out] at hst
      have hop := hops.out _ (List.mem_of_getElem? hs)
      simp only at hop
      clear ho x1 x2 hs
      rcases hop with rfl | rfl | rfl
      · cases b with
        | true =>
          obtain ⟨pre, ⟨a1, a2, a3⟩, rfl⟩ : ∃ p x, out = p ++ [x] := ⟨out.dropLast, out.getLast (gr rfl), (List.dropLast_concat_getLast (gr rfl)).symm⟩
          rw [List.length_append, List.length_singleton] at hown gl
          obtain ⟨gg, cap, rfl⟩ : ∃ gg cap, u8 = .slice (some ⟨gg, 0, none⟩) (pre.length + 1) cap := by
            rcases hown.2 with ⟨_, e2⟩ | ⟨gg, cap, cur, e, _⟩
            · omega
            · exact ⟨_, _, e⟩
          have hgl := (hown.lt gg rfl).2
          have hne : (gg = wr.heap.size) = False := eq_false (by omega)
          have hne2 : (wr.heap.size = gg) = False := eq_false (by omega)
          have hgb := (hown.lt gg rfl).1
          have hcl := hown.cellAt (pre.length * 3 + 2) (by omega)
          rw [mcells_last] at hcl
          have hfz := hown.frozenAt (pre.length * 3 + 2)
          have hst2 := hown.stored (pre.length * 3 + 2) (.int .i64 ((a3 : Int) + 1))
          have hset := mcells_set pre a1 a2 a3 (a3 + 1)
          rw [show ((a3 + 1 : Nat) : Int) = (a3 : Int) + 1 from by omega] at hset
          rw [hset] at hst2
          have hlen : (pre ++ [(a1, a2, a3 + 1)]).length = pre.length + 1 := by simp
          have hst3 := hst2.1.alloc (.cells #[.int .i64 1, .string s] 66)
          have hbs0 := hb.setCell (p := ⟨gg, pre.length * 3 + 2, none⟩) hgb (.int .i64 ((a3 : Int) + 1))
          have hbs := hbs0.alloc hbs0.size (.cells #[.int .i64 1, .string s] 66)
          rw [← hlen] at hst3
          have HST := Lib.hid hst
          have HS3 := Lib.hid hst3
          have HL := Lib.hid hlen
          have a3k : a3 ≤ k := gn (a1, a2, a3) (by simp)
          have HBS := Lib.hid hbs
          have hmst : mrun (l.take (k + 1)) = (pre ++ [(a1, a2, a3 + 1)], i + 1, j + 1, true) := by rw [hst]; simp [mstep, bump_snoc]
          have HM := Lib.hid hmst
          clear hst hst2 hst3 hset hlen gn gr hbs hbs0 hmst HST
          generalize pre.length = p at *
          have p0 : (0 : Int) ≤ (p : Int) := Int.natCast_nonneg _
          go_wp2
          go_roundw
          case rel => exact ⟨k + 1, i + 1, j + 1, true, _, by omega, by go_num, by go_num, by go_num, rfl, HM.out, by rw [← HL.out]; exact HS3.out, HBS.out⟩
          case measure => simp [intOf]; omega
        | false =>
          have hgl := fun z hz => (hown.lt z hz).2
          have hown4 := (hown.alloc (.cells #[.int .i64 1, .string s] 66)).alloc (.cells #[.int .i64 i, .int .i64 j, .int .i64 1] 48)
          have hnews := World.news_of_block (cs := #[.int .i64 i, .int .i64 j, .int .i64 1]) (t := 48) (fr := (0, 0)) (heap_alloc_new (wr.alloc (.cells #[.int .i64 1, .string s] 66)) (.cells #[.int .i64 i, .int .i64 j, .int .i64 1] 48))
          have hb4 := (hb.alloc hb.size (.cells #[.int .i64 1, .string s] 66)).alloc (by have := hb.size; simp; omega) (.cells #[.int .i64 i, .int .i64 j, .int .i64 1] 48)
          have hsz4 := hb4.size
          rw [show (wr.alloc (.cells #[.int .i64 1, .string s] 66)).heap.size = wr.heap.size + 1 from by simp] at hnews
          have heb : ((wr.alloc (.cells #[.int .i64 1, .string s] 66)).alloc (.cells #[.int .i64 i, .int .i64 j, .int .i64 1] 48)).heap[wr.heap.size]? = some (.cells #[.int .i64 1, .string s] 66) :=
            (Below.heap_alloc _ _ _ (by simp)).trans (heap_alloc_new wr _)
          have HEB := Lib.hid heb
          have HGL := Lib.hid hgl
          have HST := Lib.hid hst
          clear hst heb hgl
          go_wp2_with (at_builtin; refine wpList_append_own _ rfl _ _ 36 rfl w2.heap.size 48 i0 (.agg #[.int .i64 0, .int .i64 0, .int .i64 0]) 3 24 Tryd.underlying36 hi hz0 hz1 hz2 rfl (by decide) _ _ _ rfl hown4 ⟨wr.heap.size + 1, 0, none⟩ 1 1 [.int .i64 i, .int .i64 j, .int .i64 1] rfl rfl hnews (by simp [Value.oneCell']) (by unfold maxLen; omega) (by omega) hsz4 ?_; intro v5 w5 hown5 hg5 _; have hb5 : Below w2.heap.size w2 w5 := hb4.grown hg5 hsz4 (fun z hz => (hown.lt z hz).1); have heb5 : w5.heap[wr.heap.size]? = some (.cells #[.int .i64 1, .string s] 66) := (hg5.block wr.heap.size (by simp; omega) (fun e => by have := HGL.out _ e.symm; omega)).trans HEB.out; have q1 := cell_of_row w5 wr.heap.size 0 _ _ _ heb5; have q2 := cell_of_row w5 wr.heap.size 1 _ _ _ heb5; clear heb5 hnews hown4 hg5 hb4)
          go_roundw
          case rel => exact ⟨k + 1, i + 1, j + 1, true, out ++ [(i, j, 1)], by omega, by go_num, by go_num, by go_num, rfl, HST.out, by rw [mcells_snoc, List.length_append]; exact hown5, hb5⟩
          case measure => simp [intOf]; omega
      · have HST := Lib.hid hst
        clear hst
        go_wp2
        go_roundw
        case rel => exact ⟨k + 1, i + 1, j, false, out, by omega, by go_num, by go_num, rfl, rfl, HST.out, own2_keep hown ((Below.refl _ _).alloc (Nat.le_refl _) _), hb.alloc hb.size _⟩
        case measure => simp [intOf]; omega
      · have HST := Lib.hid hst
        clear hst
        go_wp2
        go_roundw
        case rel => exact ⟨k + 1, i, j + 1, false, out, by omega, by go_num, rfl, by go_num, rfl, HST.out, own2_keep hown ((Below.refl _ _).alloc (Nat.le_refl _) _), hb.alloc hb.size _⟩
        case measure => simp [intOf]; omega
    · obtain rfl : k = l.length := by omega
      have e1 := Lib.hid (show (mrun l).1 = out by have := hm.out; rw [List.take_length] at this; rw [this])
      go_wp2
      go_ret2
      refine ⟨u8, rfl, ?_, hb2.trans (hb.mono hb2.size)⟩
      rw [e1.out]
      exact own2_le hown hb2.size

end Go.Proofs.YtdpoeagmeiedcaaDoor
