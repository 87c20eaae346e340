/-
  Twin: a table that is as this one, and apart from it.
-/
import Derived.Test.YtkhdjlakclidoaaNDoW
import Derived.Deep.RegionHeld3
import Derived.Deep.RegionWith
import Derived.WalkLawsBesides
namespace Go.Proofs.Ytkhdjlakclidoaa
open Go Go.RowKit

def Twins (w : World) (l : List Rf) (br : ByteArray) (d : Int) (e : Ending) (w' : World) : Prop :=
  ∃ T' v', e = .returned (.pointer (some ⟨T', 0, none⟩)) ∧ Tab w' w.heap.size T' v' l br d ∧ Below w.heap.size w w'

theorem twin_made {w w1 : World} {l : List Rf} {br : ByteArray} {d : Int} {v' : Value} (hb : Below w.heap.size w w1) (ho : Own w1 w.heap.size v' l) (hf : l.length ≤ 64) (hu : Rising l) :
    Twins w l br d (.returned (.pointer (some ⟨w1.heap.size, 0, none⟩))) (w1.alloc (.cells #[v', .string br, .int .i64 d] 53)) :=
  ⟨w1.heap.size, v', rfl, ⟨Blk.new _ _ _, own_keep ho ((Below.refl _ _).alloc (Nat.le_refl _) _), hb.size, hf, hu⟩, hb.alloc hb.size _⟩

set_option maxHeartbeats 2000000 in
theorem twin_any (w : World) (B T : Nat) (v : Value) (l : List Rf) (br : ByteArray) (d : Int) (h : Tab w B T v l br d) :
    Calls Try.prog 15 #[.pointer (some ⟨T, 0, none⟩)] w (Twins w l br d) := by
  have hfew := h.few
  have HU := Lib.hid h.up
  obtain ⟨A, cap, rfl⟩ := own_form h.own
  obtain ⟨c0, c1, c2, _, _, _⟩ := h.cells
  have hlt := h.blk.lt
  have C : ∀ W, Below w.heap.size w W → Calls Try.prog 27 #[.slice A l.length cap] W fun e w' => ∃ v', e = .returned v' ∧ Own w' W.heap.size v' l ∧ Below W.heap.size W w' := fun W hb => clone_any W B _ l (h.below hb).own (by omega)
  have HC := Lib.hid C
  clear C h
  go_enter Try.func15, Try.ntmps15
  go_wp2_with fail
  have hb0 : Below w.heap.size w w.drew := (Below.refl _ _).drew
  go_region_held3 (fun w' => w'.cell? ⟨T, 0, none⟩ = some (.slice A l.length cap) ∧ w'.cell? ⟨T, 1, none⟩ = some (.string br) ∧ w'.cell? ⟨T, 2, none⟩ = some (.int .i64 d)) (first | exact ⟨c0, c1, c2⟩ | exact ⟨d0, d1, d2⟩ | go_keep | exact ⟨(World.cell?_alloc_lt _ _ _ (World.block_lt_of_cell? _ _ d0)).trans d0, (World.cell?_alloc_lt _ _ _ (World.block_lt_of_cell? _ _ d1)).trans d1, (World.cell?_alloc_lt _ _ _ (World.block_lt_of_cell? _ _ d2)).trans d2⟩)
    (first | (go_at_call 27; refine (HC.out _ hb0).mono ?_; rintro e w1 ⟨v', rfl, hown1, hb1'⟩; have hb1 := hb0.trans (hb1'.mono hb0.size); obtain ⟨A', cap', rfl⟩ := own_form hown1; have d0 := (hb1.cell (p := ⟨T, 0, none⟩) hlt).trans c0; have d1 := (hb1.cell (p := ⟨T, 1, none⟩) hlt).trans c1; have d2 := (hb1.cell (p := ⟨T, 2, none⟩) hlt).trans c2))
  all_goals go_wp2_with fail
  all_goals go_ret
  all_goals exact twin_made hb1 hown1 hfew HU.out
#print axioms twin_any
end Go.Proofs.Ytkhdjlakclidoaa
