/-
  The first state.
-/
import Derived.Test.YtpkikibcfkdodaaHNot
import Derived.Deep.DeepCutAuto
import Derived.Laws.Rows
namespace Go.Proofs.Ytpkikibcfkdodaa
open Go Go.RowKit
def iv : St8 := ⟨0x6a09e667, 0xbb67ae85, 0x3c6ef372, 0xa54ff53a, 0x510e527f, 0x9b05688c, 0x1f83d9ab, 0x5be0cd19⟩
theorem iv_ok : iv.ok := by unfold iv St8.ok; decide
set_option maxRecDepth 100000 in
set_option maxHeartbeats 4000000 in
theorem start_any (w : World) : Calls Try.prog 28 #[] w fun e w' => e = .returned (.agg iv.cells) ∧ Below w.heap.size w w' := by
  go_enter Try.func28, Try.ntmps28
  go_wp2_with fail
  refine bodyPost_ret (results_cell_row (fn := Try.f28) rfl _ _ w.heap.size 60 iv.cells (0, 0) _ rfl (Blk.new w 60 iv.cells) Try.underlying60 rfl rfl) rfl ⟨rfl, ?_⟩
  exact (Below.refl w.heap.size w).alloc (Nat.le_refl _) (.cells iv.cells 60)
end Go.Proofs.Ytpkikibcfkdodaa
