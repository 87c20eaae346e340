/-
  index.Stage: the files of a stage.
-/
import Derived.Test.YtapcnmnnichamaaGreatDoorSRow
namespace Go.Proofs.YtapcnmnnichamaaGreatDoor
open Go.RowKit

theorem stageE_snoc (l : List En) (e : En) (n : Int) : stageE (l ++ [e]) n = stageE l n ++ (if e.2.1 = n then [toF e] else []) := by
  unfold stageE
  rw [List.filter_append, List.map_append]
  congr 1
  by_cases h : e.2.1 = n <;> simp [h]
theorem stageE_len (l : List En) (n : Int) : (stageE l n).length ≤ l.length := by
  unfold stageE
  rw [List.length_map]
  exact List.length_filter_le _ _

end Go.Proofs.YtapcnmnnichamaaGreatDoor
