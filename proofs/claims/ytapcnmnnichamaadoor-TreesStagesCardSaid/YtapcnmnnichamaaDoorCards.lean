/-
  DERIVED. GIVEN WITH THE SEED: THE CARDS: each row of YtapcnmnnichamaaDoorRows.lean that lists a variable, with what it lists TIED to the program's text (the seventh form; the later family's looks); each row that meets fmt, with fmt's text TOLD by the authors' own Lean function (tested against real Go, not proved from fmt's source: count such statements apart). THE CARD IS WHAT COUNTS. Prove the row's statement (the work); the ties are given (YtapcnmnnichamaaDoorTie.lean); close each card by the builder's one call (the guide's Derived/Test/ToyasCard.lean, 'card_holds'). Laid BY PROGRAM, IN A SANDBOX (cutbox-door.mjs). By AI agents, Wed Nov 11 2026. No macro, syntax, notation, axiom, sorry.
-/
import Derived.Test.YtapcnmnnichamaaDoorRows
import GoSem.ClaimSeven
namespace Go.Proofs.YtapcnmnnichamaaDoor
namespace Rows

/-- THE TIED CARD OF 'rectolaw16.TreesStages'. -/
def treesStagesCard : Claim7 := { stood := { row := treesStagesRow, standIns := [], harness := (true, "d575443eadb7a9ea40247fe7b0f845c60fbe45595f1d90e1d8807b12c01be908"), looks := false }, kinds := [], alts := [], laidByText := true, laidKinds := [.data, .pinned], laidTests := true, laidLooks := .later }
def TreesStagesCardSaid : Prop := Claim7.holds Tryd.pinned (.plain (OpenSpec.ofChange treesStagesSpec)) treesStagesCard

/-- THE SECOND FORM's CARD OF 'rectolaw16.TreesStages'. -/
def treesStagesUptoCard : Claim7 := { stood := { row := treesStagesUptoRow, standIns := [], harness := (true, "d575443eadb7a9ea40247fe7b0f845c60fbe45595f1d90e1d8807b12c01be908"), looks := false }, kinds := [], alts := [], laidByText := true, laidKinds := [.data, .pinned], laidTests := true, laidLooks := .later }
def TreesStagesUptoCardSaid : Prop := Claim7.holds Tryd.pinned (.plain (OpenSpec.upto treesStagesSpec)) treesStagesUptoCard
end Rows
end Go.Proofs.YtapcnmnnichamaaDoor
