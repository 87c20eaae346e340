/-
  The document's words of an error of one part.
-/
import Derived.Test.YtanjcjnkppnhcaaGreatDoorQAJ

namespace Go.Proofs.YtanjcjnkppnhcaaGreatDoor
open Go Go.RowKit

structure WA (w0 w : World) (B1 g n : Nat) : Prop where
  box : Blk w B1 31 #[.slice (some ⟨g, 0, none⟩) 1 1, .int .i64 3]
  part : Blk w g 91 #[.string bByte, .int .i64 n]
  bel : Below w0.heap.size w0 w
theorem WA.below {w0 w w' : World} {B1 g n : Nat} (h : WA w0 w B1 g n) (hb : Below w.heap.size w w') : WA w0 w' B1 g n :=
  ⟨h.box.below hb h.box.lt, h.part.below hb h.part.lt, h.bel.trans (hb.mono h.bel.size)⟩
theorem WA.drew {w0 w w' : World} {B1 g n : Nat} (h : WA w0 w B1 g n) (hb : Below w.drew.heap.size w.drew w') : WA w0 w' B1 g n := (h.below (below_drewN (Below.refl _ w) 1)).below hb
theorem WA.cells {w0 w : World} {B1 g n : Nat} (h : WA w0 w B1 g n) : w.cell? ⟨B1, 0, none⟩ = some (.slice (some ⟨g, 0, none⟩) 1 1) ∧ w.cell? ⟨g, 0, none⟩ = some (.string bByte) ∧ w.cell? ⟨g, 1, none⟩ = some (.int .i64 n) := ⟨h.box.cell 0, h.part.cell 0, h.part.cell 1⟩

attribute [-go_sem] run_string_add_if
end Go.Proofs.YtanjcjnkppnhcaaGreatDoor
