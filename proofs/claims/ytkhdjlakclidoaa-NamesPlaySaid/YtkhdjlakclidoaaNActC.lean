/-
  Behind a setting of a name, in a world that keeps what was there.
-/
import Derived.Test.YtkhdjlakclidoaaNActB
import Derived.Test.YtkhdjlakclidoaaNDo2
namespace Go.Proofs.Ytkhdjlakclidoaa
open Go Go.RowKit

theorem gix_has {l : List Rf} {s : ByteArray} (h : hasB l s = true) : gix l s = ((pos l s : Nat) : Int) := by unfold gix; rw [h]; rfl
theorem acted_set2 {w w1 w' : World} {B T : Nat} {v : Value} {l l' : List Rf} {br : ByteArray} {d : Int} {e : Ending} (h : Doc w B T v l br d) (hb : Below w.heap.size w w1) (hs : SetS w1 B T v l' br d e w') : e = .returned (.tuple #[]) ∧ Acted w B T v 0 l' br d (.returned (.int .i64 0)) w' := by
  obtain ⟨he, v', o', b', t', hB⟩ := hs
  have hsz := hb.size
  refine ⟨he, rfl, v', ?_, b', hB, (Two.of_below hb _ _).trans t' (.inl rfl), fun g hg => .inr ?_⟩
  · obtain ⟨h1, h2⟩ := o'
    refine ⟨h1, h2.imp id ?_⟩
    rintro ⟨g, cap, cur, hv, hg, r⟩
    refine ⟨g, cap, cur, hv, ?_, r⟩
    have h3 := h.blk.lt
    have h4 := h.lo
    omega
  · have := (World.ownsRow.lt o' g hg).1
    omega
end Go.Proofs.Ytkhdjlakclidoaa
