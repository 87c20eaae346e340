/-
  DERIVED. GIVEN WITH THE SEED: THE CARDS: each row of YtdmmjfmjohliiaaGreatDoorRows.lean that lists a variable, with what it lists TIED to the program's text (the seventh form; the later family's looks); each row that meets fmt, with fmt's text TOLD by the authors' own Lean function (tested against real Go, not proved from fmt's source: count such statements apart). THE CARD IS WHAT COUNTS. Prove the row's statement (the work); the ties are given (YtdmmjfmjohliiaaGreatDoorTie.lean); close each card by the builder's one call (the guide's Derived/Test/ToyasCard.lean, 'card_holds'). Laid BY PROGRAM, IN A SANDBOX (cutbox-door.mjs). By AI agents, Wed Nov 11 2026. No macro, syntax, notation, axiom, sorry.
-/
import Derived.Test.YtdmmjfmjohliiaaGreatDoorRows
import GoSem.ClaimSeven
namespace Go.Proofs.YtdmmjfmjohliiaaGreatDoor
namespace Rows

/-- THE TIED CARD OF 'rectolaw20.PlanApplies'. -/
def planAppliesCard : Claim7 := { stood := { row := planAppliesRow, standIns := [], harness := (true, "dc949b861cce8a754339b7966248394445107c152d326d461953f9e077f27fc9"), looks := true }, kinds := [], alts := [], laidByText := true, laidKinds := [.data, .handle, .pinned], laidTests := true, laidLooks := .later }
def PlanAppliesCardSaid : Prop := Claim7.holds Tryz.pinned (.plain (OpenSpec.ofChange planAppliesSpec)) planAppliesCard

/-- THE TIED CARD OF 'rectolaw20.PlanKeeps'. -/
def planKeepsCard : Claim7 := { stood := { row := planKeepsRow, standIns := [], harness := (true, "dc949b861cce8a754339b7966248394445107c152d326d461953f9e077f27fc9"), looks := true }, kinds := [], alts := [], laidByText := true, laidKinds := [.data, .pinned], laidTests := true, laidLooks := .later }
def PlanKeepsCardSaid : Prop := Claim7.holds Tryz.pinned (.plain (OpenSpec.ofChange planKeepsSpec)) planKeepsCard

/-- THE TIED CARD OF 'rectolaw20.PlanForces'. -/
def planForcesCard : Claim7 := { stood := { row := planForcesRow, standIns := [], harness := (true, "dc949b861cce8a754339b7966248394445107c152d326d461953f9e077f27fc9"), looks := true }, kinds := [], alts := [], laidByText := true, laidKinds := [.data, .pinned], laidTests := true, laidLooks := .later }
def PlanForcesCardSaid : Prop := Claim7.holds Tryz.pinned (.plain (OpenSpec.ofChange planForcesSpec)) planForcesCard

/-- THE TIED CARD OF 'rectolaw20.PlanClean'. -/
def planCleanCard : Claim7 := { stood := { row := planCleanRow, standIns := [], harness := (true, "dc949b861cce8a754339b7966248394445107c152d326d461953f9e077f27fc9"), looks := true }, kinds := [], alts := [], laidByText := true, laidKinds := [.data, .pinned], laidTests := true, laidLooks := .later }
def PlanCleanCardSaid : Prop := Claim7.holds Tryz.pinned (.plain (OpenSpec.ofChange planCleanSpec)) planCleanCard

/-- THE SECOND FORM's CARD OF 'rectolaw20.PlanApplies'. -/
def planAppliesUptoCard : Claim7 := { stood := { row := planAppliesUptoRow, standIns := [], harness := (true, "dc949b861cce8a754339b7966248394445107c152d326d461953f9e077f27fc9"), looks := true }, kinds := [], alts := [], laidByText := true, laidKinds := [.data, .handle, .pinned], laidTests := true, laidLooks := .later }
def PlanAppliesUptoCardSaid : Prop := Claim7.holds Tryz.pinned (.plain (OpenSpec.upto planAppliesSpec)) planAppliesUptoCard

/-- THE SECOND FORM's CARD OF 'rectolaw20.PlanKeeps'. -/
def planKeepsUptoCard : Claim7 := { stood := { row := planKeepsUptoRow, standIns := [], harness := (true, "dc949b861cce8a754339b7966248394445107c152d326d461953f9e077f27fc9"), looks := true }, kinds := [], alts := [], laidByText := true, laidKinds := [.data, .pinned], laidTests := true, laidLooks := .later }
def PlanKeepsUptoCardSaid : Prop := Claim7.holds Tryz.pinned (.plain (OpenSpec.upto planKeepsSpec)) planKeepsUptoCard

/-- THE SECOND FORM's CARD OF 'rectolaw20.PlanForces'. -/
def planForcesUptoCard : Claim7 := { stood := { row := planForcesUptoRow, standIns := [], harness := (true, "dc949b861cce8a754339b7966248394445107c152d326d461953f9e077f27fc9"), looks := true }, kinds := [], alts := [], laidByText := true, laidKinds := [.data, .pinned], laidTests := true, laidLooks := .later }
def PlanForcesUptoCardSaid : Prop := Claim7.holds Tryz.pinned (.plain (OpenSpec.upto planForcesSpec)) planForcesUptoCard

/-- THE SECOND FORM's CARD OF 'rectolaw20.PlanClean'. -/
def planCleanUptoCard : Claim7 := { stood := { row := planCleanUptoRow, standIns := [], harness := (true, "dc949b861cce8a754339b7966248394445107c152d326d461953f9e077f27fc9"), looks := true }, kinds := [], alts := [], laidByText := true, laidKinds := [.data, .pinned], laidTests := true, laidLooks := .later }
def PlanCleanUptoCardSaid : Prop := Claim7.holds Tryz.pinned (.plain (OpenSpec.upto planCleanSpec)) planCleanUptoCard
end Rows
end Go.Proofs.YtdmmjfmjohliiaaGreatDoor
