/-
  Clone of any slice of texts; whole; what a chunk decides.
-/
import Derived.Test.YtiefenfogjlnoaaPlaces

namespace Go.Proofs.Ytiefenfogjlnoaa
open Go.RowKit

def Cloned (w : World) (xs : List ByteArray) (e : Ending) (w' : World) : Prop := ∃ v, e = .returned v ∧ w'.ownsRow w.heap.size 9 1 v xs.length (xs.map Value.string) ∧ Below w.heap.size w w'

theorem clone_any (w : World) (v : Value) (xs : List ByteArray) (h : Strs w v xs) (hl : xs.length ≤ 1000000) : Calls Try.prog 37 #[v] w (Cloned w xs) := by
  obtain ⟨A, c, rfl, h1, h2, h3, h4⟩ := h
  cases A with
  | none =>
    have : xs = [] := List.eq_nil_of_length_eq_zero (by have := h3 rfl; omega)
    subst this
    exact (Try.slices_Clone_string_nil _ _ _).mono fun e w' ⟨he, hw⟩ => ⟨_, he, by rw [hw]; exact World.ownsRow_nil _ _ _ _, by rw [hw]; exact Below.refl _ _⟩
  | some ad =>
    by_cases h0 : xs.length = 0
    · have : xs = [] := List.eq_nil_of_length_eq_zero h0
      subst this
      exact (Try.slices_Clone_string_zero _ _ _).mono fun e w' ⟨v', he, ho, _, hb⟩ => ⟨v', he, ho, hb⟩
    · obtain ⟨g, o, spot⟩ := ad
      have hc0 := h4 _ rfl 0 xs[0] (List.getElem?_eq_getElem (by omega))
      have hspot : spot = none := by simpa [Addr.add] using World.cell?_spot hc0
      subst hspot
      have J := Try.slices_Clone_string g o xs.length c xs w (Nat.le_refl _) (by omega) (fun j hj => by
        have := h4 _ rfl j xs[j] (List.getElem?_eq_getElem hj)
        rw [Go.WideShapes.add_plain] at this
        rw [this, List.getD, List.getElem?_eq_getElem hj]
        rfl)
      rw [List.take_length] at J
      exact J.mono fun e w' ⟨v', he, ho, _, hb⟩ => ⟨v', he, ho, hb⟩

/-- A text whose last line has its end. -/
def endL (l : List UInt8) : List UInt8 := if wholeL l = true then l else l ++ [10]

set_option maxHeartbeats 1000000 in
theorem wholeText_any (w : World) (v : Value) (xs : List ByteArray) (h : Strs w v xs) (hl : (cat xs).length ≤ 900000) (hc : xs.length ≤ 1000000) :
    Calls Try.prog 19 #[v] w fun e w' => e = .returned (.string (mk (endL (cat xs)))) ∧ Below w.heap.size w w' := by
  have J := Lib.hid (join_any w v xs h (by omega) (by omega))
  have hsz : (mk (cat xs)).size ≤ 1000000 := by show (cat xs).toArray.size ≤ _; simp; omega
  have W := fun w1 => whole_any w1 (mk (cat xs)) hsz
  have hd : (mk (cat xs)).data.toList = cat xs := by simp [mk]
  rw [hd] at W
  have hadd : mk (cat xs) ++ (⟨#[10]⟩ : ByteArray) = mk (cat xs ++ [10]) := by apply ByteArray.ext; apply Array.toList_inj.1; simp [mk]
  cases hw : wholeL (cat xs) with
  | true =>
    have he : endL (cat xs) = cat xs := by unfold endL; rw [if_pos hw]
    rw [he]
    rw [hw] at W
    have HW := Lib.hid W
    clear W hw he h hd hadd
    generalize mk (cat xs) = s at *
    go_enter Try.func19, Try.ntmps19
    go_wp2_with fail
    refine J.out.mono ?_
    rintro e w1 ⟨rfl, hb1⟩
    go_wp2_with fail
    refine (HW.out w1).mono ?_
    rintro e w2 ⟨rfl, rfl⟩
    go_wp2
    go_ret
    exact ⟨rfl, hb1⟩
  | false =>
    have he : endL (cat xs) = cat xs ++ [10] := by unfold endL; rw [if_neg (by simp [hw])]
    rw [he, ← hadd]
    rw [hw] at W
    have HW := Lib.hid W
    clear W hw he h hd hadd
    generalize mk (cat xs) = s at *
    go_enter Try.func19, Try.ntmps19
    go_wp2_with fail
    refine J.out.mono ?_
    rintro e w1 ⟨rfl, hb1⟩
    go_wp2_with fail
    refine (HW.out w1).mono ?_
    rintro e w2 ⟨rfl, rfl⟩
    go_wp2
    go_ret
    exact ⟨rfl, hb1⟩

theorem row_set {w : World} {g : Nat} {cur : Array Value} {t : TypeId} (h : w.heap[g]? = some (.cells cur t (0, 0))) (k : Nat) (v : Value) : (w.setCell ⟨g, k, none⟩ v).heap[g]? = some (.cells (cur.setIfInBounds k v) t (0, 0)) := by
  simp [World.setCell, Array.getElem?_modify, h]

/-- A chunk's five cells. -/
structure Five (w : World) (X : Nat) (v0 v1 v2 v3 v4 : Value) : Prop where
  c0 : w.cell? ⟨X, 0, none⟩ = some v0
  c1 : w.cell? ⟨X, 1, none⟩ = some v1
  c2 : w.cell? ⟨X, 2, none⟩ = some v2
  c3 : w.cell? ⟨X, 3, none⟩ = some v3
  c4 : w.cell? ⟨X, 4, none⟩ = some v4
  z : ∀ k : Nat, w.frozen? ⟨X, k, none⟩ = false
  row : w.heap[X]? = some (.cells #[v0, v1, v2, v3, v4] 34 (0, 0))

theorem Five.lt {w : World} {X : Nat} {v0 v1 v2 v3 v4 : Value} (h : Five w X v0 v1 v2 v3 v4) : X < w.heap.size := World.block_lt_of_cell? w _ h.c0
theorem Five.ty {w : World} {X : Nat} {v0 v1 v2 v3 v4 : Value} (h : Five w X v0 v1 v2 v3 v4) : Ty w X 34 := ⟨_, h.row⟩
theorem Five.same {w w' : World} {X : Nat} {v0 v1 v2 v3 v4 : Value} (h : Five w X v0 v1 v2 v3 v4) (hc : w'.heap[X]? = w.heap[X]?) : Five w' X v0 v1 v2 v3 v4 := by
  have cc : ∀ k : Nat, w'.cell? ⟨X, k, none⟩ = w.cell? ⟨X, k, none⟩ := fun k => World.cell?_of_block (w := w) hc
  exact ⟨(cc 0).trans h.c0, (cc 1).trans h.c1, (cc 2).trans h.c2, (cc 3).trans h.c3, (cc 4).trans h.c4, fun k => (World.frozen?_of_block (w := w) hc).trans (h.z k), hc.trans h.row⟩
theorem Five.below {w w' : World} {X : Nat} {v0 v1 v2 v3 v4 : Value} (h : Five w X v0 v1 v2 v3 v4) (hb : Below w.heap.size w w') : Five w' X v0 v1 v2 v3 v4 := h.same (hb.block X h.lt)
theorem Five.new (w : World) (v0 v1 v2 v3 v4 : Value) : Five (w.alloc (.cells #[v0, v1, v2, v3, v4] 34)) w.heap.size v0 v1 v2 v3 v4 := by
  have hh := heap_alloc_new w (.cells #[v0, v1, v2, v3, v4] 34)
  exact ⟨cell_of_row _ _ 0 _ 34 (0, 0) hh, cell_of_row _ _ 1 _ 34 (0, 0) hh, cell_of_row _ _ 2 _ 34 (0, 0) hh, cell_of_row _ _ 3 _ 34 (0, 0) hh, cell_of_row _ _ 4 _ 34 (0, 0) hh, fun k => by unfold World.frozen?; rw [hh]; rfl, hh⟩

end Go.Proofs.Ytiefenfogjlnoaa
