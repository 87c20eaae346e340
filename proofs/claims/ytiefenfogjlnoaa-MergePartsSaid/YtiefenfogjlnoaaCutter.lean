/-
  The cutter of three texts: what it is in memory; the contracts of its readers.
-/
import Derived.Test.YtiefenfogjlnoaaEdits
import Derived.Test.YtiefenfogjlnoaaRefJoin
import Derived.Test.YtiefenfogjlnoaaCutMore
namespace Go.Proofs.Ytiefenfogjlnoaa
open Go.RowKit

def pz : Option Nat → Value
  | some j => .int .i64 (j : Int)
  | none => .int .i64 (-1)
def Pl (w : World) (v : Value) (p : List (Option Nat)) : Prop := w.ownsRow 0 3 1 v p.length (p.map pz)

theorem Pl.cell {w : World} {v : Value} {p : List (Option Nat)} (h : Pl w v p) {i : Nat} {x : Option Nat} (hi : p[i]? = some x) : ∃ g c, v = .slice (some ⟨g, 0, none⟩) p.length c ∧ w.cell? ⟨g, i, none⟩ = some (pz x) := by
  have hl := (List.getElem?_eq_some_iff.1 hi).1
  rcases id h.2 with ⟨_, h0⟩ | ⟨g, cap, cur, rfl, _⟩
  · omega
  · refine ⟨g, cap, rfl, ?_⟩
    rw [World.ownsRow.cellAt h i (by omega)]
    simp [hi]
theorem Pl.below {w w' : World} {v : Value} {p : List (Option Nat)} (h : Pl w v p) (hb : Below w.heap.size w w') : Pl w' v p := own_keep h hb

/-- The type of a block's cells. -/
def Ty (w : World) (g : Nat) (t : TypeId) : Prop := ∃ cur, w.heap[g]? = some (.cells cur t (0, 0))
theorem Ty.same {w w' : World} {g : Nat} {t : TypeId} (h : Ty w g t) (hb : w'.heap[g]? = w.heap[g]?) : Ty w' g t := by
  obtain ⟨cur, hc⟩ := h
  exact ⟨cur, hb.trans hc⟩
theorem Ty.lt {w : World} {g : Nat} {t : TypeId} (h : Ty w g t) : g < w.heap.size := by
  obtain ⟨cur, hc⟩ := h
  exact (Array.getElem?_eq_some_iff.1 hc).1
theorem Ty.ne {w : World} {a b : Nat} {s t : TypeId} (h : Ty w a s) (k : Ty w b t) (hne : s ≠ t) : a ≠ b := by
  obtain ⟨cur, hc⟩ := h
  obtain ⟨cur', hc'⟩ := k
  rintro rfl
  rw [hc] at hc'
  injection hc' with e
  injection e with _ e2
  exact hne e2
theorem Ty.set {w : World} {g : Nat} {t : TypeId} (h : Ty w g t) (b k : Nat) (v : Value) : Ty (w.setCell ⟨b, k, none⟩ v) g t := by
  obtain ⟨cur, hc⟩ := h
  by_cases e : g = b
  · subst e
    exact ⟨cur.setIfInBounds k v, by simp [World.setCell, Array.getElem?_modify, hc]⟩
  · exact ⟨cur, (Below.heap_setCell _ _ _ _ e).trans hc⟩
theorem own_ty {w : World} {base : Nat} {e : TypeId} {size n : Nat} {v : Value} {xs : List Value} (h : w.ownsRow base e size v n xs) {g : Nat} (hg : v.ownBlock = some g) : Ty w g e := by
  rcases h.2 with ⟨rfl, _⟩ | ⟨g', cap, cur, rfl, _, hgg, _⟩
  · simp [Value.ownBlock] at hg
  · simp [Value.ownBlock] at hg
    subst hg
    exact ⟨cur, hgg⟩
theorem own_apart {w : World} {base : Nat} {e t : TypeId} {size n : Nat} {v : Value} {xs : List Value} (h : w.ownsRow base e size v n xs) {g : Nat} (k : Ty w g t) (hne : e ≠ t) : v.ownBlock ≠ some g := fun hg => (own_ty h hg).ne k hne rfl

/-- The cutter's nine cells. -/
structure Cutr (w : World) (C : Nat) (v0 v1 v2 v3 v4 v5 v6 v7 v8 : Value) : Prop where
  c0 : w.cell? ⟨C, 0, none⟩ = some v0
  c1 : w.cell? ⟨C, 1, none⟩ = some v1
  c2 : w.cell? ⟨C, 2, none⟩ = some v2
  c3 : w.cell? ⟨C, 3, none⟩ = some v3
  c4 : w.cell? ⟨C, 4, none⟩ = some v4
  c5 : w.cell? ⟨C, 5, none⟩ = some v5
  c6 : w.cell? ⟨C, 6, none⟩ = some v6
  c7 : w.cell? ⟨C, 7, none⟩ = some v7
  c8 : w.cell? ⟨C, 8, none⟩ = some v8
  z : ∀ k : Nat, w.frozen? ⟨C, k, none⟩ = false
  ty : Ty w C 54

theorem Cutr.lt {w : World} {C : Nat} {v0 v1 v2 v3 v4 v5 v6 v7 v8 : Value} (h : Cutr w C v0 v1 v2 v3 v4 v5 v6 v7 v8) : C < w.heap.size := World.block_lt_of_cell? w _ h.c0
theorem Cutr.below {w w' : World} {C : Nat} {v0 v1 v2 v3 v4 v5 v6 v7 v8 : Value} (h : Cutr w C v0 v1 v2 v3 v4 v5 v6 v7 v8) (hb : Below w.heap.size w w') : Cutr w' C v0 v1 v2 v3 v4 v5 v6 v7 v8 := by
  have hc : ∀ k : Nat, w'.cell? ⟨C, k, none⟩ = w.cell? ⟨C, k, none⟩ := fun k => hb.cell (p := ⟨C, k, none⟩) h.lt
  exact ⟨(hc 0).trans h.c0, (hc 1).trans h.c1, (hc 2).trans h.c2, (hc 3).trans h.c3, (hc 4).trans h.c4, (hc 5).trans h.c5, (hc 6).trans h.c6, (hc 7).trans h.c7, (hc 8).trans h.c8, fun k => (hb.frozen (p := ⟨C, k, none⟩) h.lt).trans (h.z k), h.ty.same (hb.block C h.lt)⟩

theorem pz_nowhere (x : Option Nat) : ∃ z : Int, pz x = .int .i64 z ∧ (z != -1) = isSome2 (some x) := by
  cases x with
  | none => exact ⟨-1, rfl, rfl⟩
  | some j => exact ⟨j, rfl, by rw [show isSome2 (some (some j)) = true from rfl, bne_iff_ne]; omega⟩

set_option maxHeartbeats 1000000 in
theorem isKept_any (w : World) (C n c i : Nat) (A : Option Addr) (vo vt vp vq v5 v6 v7 v8 : Value) (p q : List (Option Nat)) (h : Cutr w C (.slice A n c) vo vt vp vq v5 v6 v7 v8) (hp : Pl w vp p) (hq : Pl w vq q) (lp : p.length = n) (lq : q.length = n) :
    Calls Try.prog 36 #[.pointer (some ⟨C, 0, none⟩), .int .i64 i] w fun e w' => e = .returned (.bool (isK p q i)) ∧ w = w' := by
  have t0 := h.c0
  have t3 := h.c3
  have t4 := h.c4
  have i0 : (0 : Int) ≤ (i : Int) := Int.natCast_nonneg _
  clear h
  by_cases hi : i < n
  · obtain ⟨x, hx⟩ : ∃ x, p[i]? = some x := ⟨_, List.getElem?_eq_getElem (by omega)⟩
    obtain ⟨y, hy⟩ : ∃ y, q[i]? = some y := ⟨_, List.getElem?_eq_getElem (by omega)⟩
    obtain ⟨g1, d1, rfl, k1⟩ := hp.cell hx
    obtain ⟨g2, d2, rfl, k2⟩ := hq.cell hy
    have i1 : (i : Int) < (n : Int) := by omega
    have i2 : (i : Int) < (p.length : Int) := by omega
    have i3 : (i : Int) < (q.length : Int) := by omega
    obtain ⟨zx, ex, fx⟩ := pz_nowhere x
    obtain ⟨zy, ey, fy⟩ := pz_nowhere y
    rw [ex] at k1
    rw [ey] at k2
    have HK : Hid (isK p q i = (isSome2 (some x) && isSome2 (some y))) := by unfold isK; rw [hx, hy]; rfl
    have LP := Lib.hid lp
    have LQ := Lib.hid lq
    clear hx hy hp hq ex ey lp lq
    cases h1 : isSome2 (some x) with
    | false =>
      rw [h1] at fx HK
      clear h1 fy
      go_enter Try.func36, Try.ntmps36
      go_wp2
      go_ret
      exact ⟨by rw [HK.out]; rfl, rfl⟩
    | true =>
      rw [h1] at fx HK
      cases h2 : isSome2 (some y) with
      | false =>
        rw [h2] at fy HK
        clear h1 h2
        go_enter Try.func36, Try.ntmps36
        go_wp2
        go_ret
        exact ⟨by rw [HK.out]; rfl, rfl⟩
      | true =>
        rw [h2] at fy HK
        clear h1 h2
        go_enter Try.func36, Try.ntmps36
        go_wp2
        go_ret
        exact ⟨by rw [HK.out]; rfl, rfl⟩
  · have HK : Hid (isK p q i = false) := by
      unfold isK
      rw [List.getElem?_eq_none (by omega)]
      rfl
    clear hp hq lp lq
    go_enter Try.func36, Try.ntmps36
    go_wp2
    go_ret
    exact ⟨by rw [HK.out]; rfl, rfl⟩

end Go.Proofs.Ytiefenfogjlnoaa
