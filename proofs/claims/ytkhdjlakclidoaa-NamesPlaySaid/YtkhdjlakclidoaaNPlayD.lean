/-
  A call on the elder table, a twin beside it.
-/
import Derived.Test.YtkhdjlakclidoaaNPlayC
namespace Go.Proofs.Ytkhdjlakclidoaa
open Go Go.RowKit

theorem twin_on {B C : Nat} {w w' : World} {T D T' : Nat} {v v' u : Value} {c : Int} {l l' l2 lx : List Rf} {br br' br2 brx : ByteArray} {d d' d2 dx : Int} {e : Ending} (h : Both B w T D v u l br d l2 br2 d2) (ht : Tab w C T' v' lx brx dx) (hne : T ≠ T') (ha : ∀ g, v.ownBlock = some g → v'.ownBlock ≠ some g) (hd : Did w B T v c l' br' d' e w') :
    e = .returned (.int .i64 c) ∧ ∃ v1, Both B w' T D v1 u l' br' d' l2 br2 d2 ∧ Tab w' C T' v' lx brx dx ∧ (∀ g, v1.ownBlock = some g → v'.ownBlock ≠ some g) ∧ Below B w w' := by
  have t2 := did_far h.tab hd ht hne ha
  obtain ⟨he, v1, t', k, cm⟩ := hd
  refine ⟨he, v1, ⟨t', doc_two h.tab h.doc k h.ne h.apart, h.ne, fun g hg e => ?_, Nat.le_trans h.base k.size⟩, t2, fun g hg e => ?_, k.below h.tab.lo (own_le_block h.tab.own) h.base⟩
  · have hu := (World.ownsRow.lt h.doc.own g e).2
    rcases cm with e1 | ⟨g1, e1, h1⟩
    · exact h.apart g (by rw [← e1]; exact hg) e
    · rw [hg] at e1
      have := Option.some.inj e1
      omega
  · have hu := (World.ownsRow.lt ht.own g e).2
    rcases cm with e1 | ⟨g1, e1, h1⟩
    · exact ha g (by rw [← e1]; exact hg) e
    · rw [hg] at e1
      have := Option.some.inj e1
      omega
/-- The twin in the elder table's place. -/
theorem twin_in {B C : Nat} {w w' : World} {T D T' : Nat} {v v' v1 u : Value} {l l' l2 : List Rf} {br br' br2 : ByteArray} {d d' d2 : Int} (h0 : Both B w T D v u l br d l2 br2 d2) (h : Both B w' T D v1 u l' br' d' l2 br2 d2) (ht : Tab w' C T' v' l br d) (hC : C = w.heap.size) : Both B w' T' D v' u l br d l2 br2 d2 := by
  have hD := h0.doc.blk.lt
  have hlo := ht.lo
  refine ⟨ht.base_ (by rw [hC]; exact h0.base), h.doc, by omega, fun g hg e => ?_, h.base⟩
  have h1 := (World.ownsRow.lt h0.doc.own g e).2
  have h2 := (World.ownsRow.lt ht.own g hg).1
  omega
theorem twin_apart {B C : Nat} {w w1 : World} {T D T' : Nat} {v v' u : Value} {l l2 : List Rf} {br br2 : ByteArray} {d d2 : Int} (h0 : Both B w T D v u l br d l2 br2 d2) (ht : Tab w1 C T' v' l br d) (hC : C = w.heap.size) : T ≠ T' ∧ ∀ g, v.ownBlock = some g → v'.ownBlock ≠ some g := by
  have hT := h0.tab.blk.lt
  have hlo := ht.lo
  refine ⟨by omega, fun g hg e => ?_⟩
  have h1 := (World.ownsRow.lt h0.tab.own g hg).2
  have h2 := (World.ownsRow.lt ht.own g e).1
  omega
#print axioms twin_in
end Go.Proofs.Ytkhdjlakclidoaa
