/-
  Bits of the rounds; the adding of a state to a state, cell by cell; stores of eight.
-/
import Derived.Test.YtpkikibcfkdodaaHSpec
namespace Go.Proofs.Ytpkikibcfkdodaa
open Go Go.RowKit
theorem not32 {e : Nat} (h : e < M32) : 4294967295 ^^^ e = 4294967295 - e := by
  have h1 := congrArg BitVec.toNat (BitVec.allOnes_xor (x := BitVec.ofNat 32 e))
  rw [BitVec.toNat_xor, BitVec.toNat_allOnes, BitVec.toNat_not, BitVec.toNat_ofNat, Nat.mod_eq_of_lt h] at h1
  exact h1
theorem u32_not {e : Nat} (h : e < M32) : bits .xor .u32 IntKind.u32.max (e : Int) = ((4294967295 - e : Nat) : Int) := by
  have := u32_xor_nat 4294967295 e (by omega) h
  rw [not32 h] at this; exact this
theorem and_lt32 {a b : Nat} (hb : b < M32) : a &&& b < M32 := Nat.lt_of_le_of_lt Nat.and_le_right hb
def St8.list (s : St8) : List Nat := [s.a, s.b, s.c, s.d, s.e, s.f, s.g, s.h]
theorem St8.cells_list (s : St8) : s.cells = arr 8 s.list := rfl
/-- The first i words of p, the others of s. -/
def mix (p s : St8) (i : Nat) : List Nat := p.list.take i ++ s.list.drop i
theorem mix_at (p s : St8) : ∀ i, i < 8 → (arr 8 (mix p s i))[i]? = some (.int .u32 (at0 s.list i))
  | 0, _ => rfl
  | 1, _ => rfl
  | 2, _ => rfl
  | 3, _ => rfl
  | 4, _ => rfl
  | 5, _ => rfl
  | 6, _ => rfl
  | 7, _ => rfl
  | n + 8, h => absurd h (by omega)
theorem cells_at (s : St8) : ∀ i, i < 8 → s.cells[i]? = some (.int .u32 (at0 s.list i))
  | 0, _ => rfl
  | 1, _ => rfl
  | 2, _ => rfl
  | 3, _ => rfl
  | 4, _ => rfl
  | 5, _ => rfl
  | 6, _ => rfl
  | 7, _ => rfl
  | n + 8, h => absurd h (by omega)
theorem mix_set (p s : St8) : ∀ i, i < 8 → (arr 8 (mix p s i)).setIfInBounds i (.int .u32 (at0 p.list i)) = arr 8 (mix p s (i + 1))
  | 0, _ => rfl
  | 1, _ => rfl
  | 2, _ => rfl
  | 3, _ => rfl
  | 4, _ => rfl
  | 5, _ => rfl
  | 6, _ => rfl
  | 7, _ => rfl
  | n + 8, h => absurd h (by omega)
theorem plus_at (s t : St8) : ∀ i, i < 8 → at0 (plus8 s t).list i = (at0 s.list i + at0 t.list i) % M32
  | 0, _ => rfl
  | 1, _ => rfl
  | 2, _ => rfl
  | 3, _ => rfl
  | 4, _ => rfl
  | 5, _ => rfl
  | 6, _ => rfl
  | 7, _ => rfl
  | n + 8, h => absurd h (by omega)
theorem mix_none (p s : St8) : arr 8 (mix p s 0) = s.cells := rfl
theorem mix_all (p s : St8) : arr 8 (mix p s 8) = p.cells := rfl
/-- Eight cells stored. -/
def put8 (w : World) (V : Nat) (x0 x1 x2 x3 x4 x5 x6 x7 : Value) : World :=
  (((((((w.setCell ⟨V, 0, none⟩ x0).setCell ⟨V, 1, none⟩ x1).setCell ⟨V, 2, none⟩ x2).setCell ⟨V, 3, none⟩ x3).setCell ⟨V, 4, none⟩ x4).setCell ⟨V, 5, none⟩ x5).setCell ⟨V, 6, none⟩ x6).setCell ⟨V, 7, none⟩ x7
variable {w : World} {V : Nat} {x0 x1 x2 x3 x4 x5 x6 x7 : Value}
theorem put8_blk {t : TypeId} {y0 y1 y2 y3 y4 y5 y6 y7 : Value} (h : Blk w V t #[y0, y1, y2, y3, y4, y5, y6, y7]) : Blk (put8 w V x0 x1 x2 x3 x4 x5 x6 x7) V t #[x0, x1, x2, x3, x4, x5, x6, x7] := by
  unfold put8
  have e : (#[y0, y1, y2, y3, y4, y5, y6, y7] : Array Value).setIfInBounds 0 x0 = #[x0, y1, y2, y3, y4, y5, y6, y7] := by simp
  have h := h.set_ 0 x0
  rw [e] at h; clear e
  have e : (#[x0, y1, y2, y3, y4, y5, y6, y7] : Array Value).setIfInBounds 1 x1 = #[x0, x1, y2, y3, y4, y5, y6, y7] := by simp
  have h := h.set_ 1 x1
  rw [e] at h; clear e
  have e : (#[x0, x1, y2, y3, y4, y5, y6, y7] : Array Value).setIfInBounds 2 x2 = #[x0, x1, x2, y3, y4, y5, y6, y7] := by simp
  have h := h.set_ 2 x2
  rw [e] at h; clear e
  have e : (#[x0, x1, x2, y3, y4, y5, y6, y7] : Array Value).setIfInBounds 3 x3 = #[x0, x1, x2, x3, y4, y5, y6, y7] := by simp
  have h := h.set_ 3 x3
  rw [e] at h; clear e
  have e : (#[x0, x1, x2, x3, y4, y5, y6, y7] : Array Value).setIfInBounds 4 x4 = #[x0, x1, x2, x3, x4, y5, y6, y7] := by simp
  have h := h.set_ 4 x4
  rw [e] at h; clear e
  have e : (#[x0, x1, x2, x3, x4, y5, y6, y7] : Array Value).setIfInBounds 5 x5 = #[x0, x1, x2, x3, x4, x5, y6, y7] := by simp
  have h := h.set_ 5 x5
  rw [e] at h; clear e
  have e : (#[x0, x1, x2, x3, x4, x5, y6, y7] : Array Value).setIfInBounds 6 x6 = #[x0, x1, x2, x3, x4, x5, x6, y7] := by simp
  have h := h.set_ 6 x6
  rw [e] at h; clear e
  have e : (#[x0, x1, x2, x3, x4, x5, x6, y7] : Array Value).setIfInBounds 7 x7 = #[x0, x1, x2, x3, x4, x5, x6, x7] := by simp
  have h := h.set_ 7 x7
  rw [e] at h; clear e
  exact h
theorem put8_far {g : Nat} {t : TypeId} {cs : Array Value} (h : Blk w g t cs) (hg : g ≠ V) : Blk (put8 w V x0 x1 x2 x3 x4 x5 x6 x7) g t cs := by
  unfold put8
  have h := h.far (p := ⟨V, 0, none⟩) hg x0
  have h := h.far (p := ⟨V, 1, none⟩) hg x1
  have h := h.far (p := ⟨V, 2, none⟩) hg x2
  have h := h.far (p := ⟨V, 3, none⟩) hg x3
  have h := h.far (p := ⟨V, 4, none⟩) hg x4
  have h := h.far (p := ⟨V, 5, none⟩) hg x5
  have h := h.far (p := ⟨V, 6, none⟩) hg x6
  exact h.far (p := ⟨V, 7, none⟩) hg x7
theorem put8_below {w0 : World} {B : Nat} (h : Below B w0 w) (hV : B ≤ V) : Below B w0 (put8 w V x0 x1 x2 x3 x4 x5 x6 x7) := by
  unfold put8
  have h := h.setCell (p := ⟨V, 0, none⟩) hV x0
  have h := h.setCell (p := ⟨V, 1, none⟩) hV x1
  have h := h.setCell (p := ⟨V, 2, none⟩) hV x2
  have h := h.setCell (p := ⟨V, 3, none⟩) hV x3
  have h := h.setCell (p := ⟨V, 4, none⟩) hV x4
  have h := h.setCell (p := ⟨V, 5, none⟩) hV x5
  have h := h.setCell (p := ⟨V, 6, none⟩) hV x6
  exact h.setCell (p := ⟨V, 7, none⟩) hV x7
theorem Blk.of_heap {w W : World} {g : Nat} {t : TypeId} {cs : Array Value} (h : Blk w g t cs) (e : W.heap = w.heap) : Blk W g t cs := by unfold Blk at h ⊢; rw [e]; exact h
theorem Blk.drew3 {w : World} {g : Nat} {t : TypeId} {cs : Array Value} (h : Blk w g t cs) : Blk w.drew.drew.drew g t cs := Blk.of_heap h rfl
theorem Touch.drew {w w' : World} {E : Nat} {r : Option Nat} (h : Touch w w' E r) : Touch w w'.drew E r := ⟨h.os, h.tape, h.output, h.size, h.block⟩
theorem Touch.set_ {w w' : World} {E : Nat} {r : Option Nat} (h : Touch w w' E r) (i : Nat) (u : Value) : Touch w (w'.setCell ⟨E, i, none⟩ u) E r :=
  ⟨h.os, h.tape, h.output, by simpa [World.setCell] using h.size, fun k hk hE hn => (Below.heap_setCell w' ⟨E, i, none⟩ u k hE).trans (h.block k hk hE hn)⟩
#print axioms u32_not
end Go.Proofs.Ytpkikibcfkdodaa
