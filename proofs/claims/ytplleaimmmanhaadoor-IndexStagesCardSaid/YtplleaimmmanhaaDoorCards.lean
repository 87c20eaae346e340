/-
  DERIVED. GIVEN WITH THE SEED: THE CARDS: each row of YtplleaimmmanhaaDoorRows.lean that lists a variable, with what it lists TIED to the program's text (the seventh form; the later family's looks); each row that meets fmt, with fmt's text TOLD by the authors' own Lean function (tested against real Go, not proved from fmt's source: count such statements apart). THE CARD IS WHAT COUNTS. Prove the row's statement (the work); the ties are given (YtplleaimmmanhaaDoorTie.lean); close each card by the builder's one call (the guide's Derived/Test/ToyasCard.lean, 'card_holds'). Laid BY PROGRAM, IN A SANDBOX (cutbox-door.mjs). By AI agents, Wed Nov 11 2026. No macro, syntax, notation, axiom, sorry.
-/
import Derived.Test.YtplleaimmmanhaaDoorRows
import GoSem.ClaimSeven
namespace Go.Proofs.YtplleaimmmanhaaDoor
namespace Rows

/-- THE TIED CARD OF 'rectolaw14.RowTwo'. -/
def rowTwoCard : Claim7 := { stood := { row := rowTwoRow, standIns := [], harness := (true, "8465e0305606e0dfe9e8ad0e118b9c884b090f4c0ae1c4c46a4e634b8ded0cea"), looks := false }, kinds := [], alts := [], laidByText := true, laidKinds := [.data, .pinned], laidTests := true, laidLooks := .later }
def RowTwoCardSaid : Prop := Claim7.holds Tryd.pinned (.plain (OpenSpec.ofChange rowTwoSpec)) rowTwoCard

/-- THE TIED CARD OF 'rectolaw14.RowPut'. -/
def rowPutCard : Claim7 := { stood := { row := rowPutRow, standIns := [], harness := (true, "8465e0305606e0dfe9e8ad0e118b9c884b090f4c0ae1c4c46a4e634b8ded0cea"), looks := false }, kinds := [], alts := [], laidByText := true, laidKinds := [.data, .pinned], laidTests := true, laidLooks := .later }
def RowPutCardSaid : Prop := Claim7.holds Tryd.pinned (.plain (OpenSpec.ofChange rowPutSpec)) rowPutCard

/-- THE TIED CARD OF 'rectolaw14.RowDiffs'. -/
def rowDiffsCard : Claim7 := { stood := { row := rowDiffsRow, standIns := [], harness := (true, "8465e0305606e0dfe9e8ad0e118b9c884b090f4c0ae1c4c46a4e634b8ded0cea"), looks := false }, kinds := [], alts := [], laidByText := true, laidKinds := [.data, .pinned], laidTests := true, laidLooks := .later }
def RowDiffsCardSaid : Prop := Claim7.holds Tryd.pinned (.plain (OpenSpec.ofChange rowDiffsSpec)) rowDiffsCard

/-- THE TIED CARD OF 'rectolaw15.IndexStages'. -/
def indexStagesCard : Claim7 := { stood := { row := indexStagesRow, standIns := [], harness := (true, "8465e0305606e0dfe9e8ad0e118b9c884b090f4c0ae1c4c46a4e634b8ded0cea"), looks := false }, kinds := [], alts := [], laidByText := true, laidKinds := [.data, .data, .pinned], laidTests := true, laidLooks := .later }
def IndexStagesCardSaid : Prop := Claim7.holds Tryd.pinned (.plain (OpenSpec.ofChange indexStagesSpec)) indexStagesCard

/-- THE SECOND FORM's CARD OF 'rectolaw14.RowTwo'. -/
def rowTwoUptoCard : Claim7 := { stood := { row := rowTwoUptoRow, standIns := [], harness := (true, "8465e0305606e0dfe9e8ad0e118b9c884b090f4c0ae1c4c46a4e634b8ded0cea"), looks := false }, kinds := [], alts := [], laidByText := true, laidKinds := [.data, .pinned], laidTests := true, laidLooks := .later }
def RowTwoUptoCardSaid : Prop := Claim7.holds Tryd.pinned (.plain (OpenSpec.upto rowTwoSpec)) rowTwoUptoCard

/-- THE SECOND FORM's CARD OF 'rectolaw14.RowPut'. -/
def rowPutUptoCard : Claim7 := { stood := { row := rowPutUptoRow, standIns := [], harness := (true, "8465e0305606e0dfe9e8ad0e118b9c884b090f4c0ae1c4c46a4e634b8ded0cea"), looks := false }, kinds := [], alts := [], laidByText := true, laidKinds := [.data, .pinned], laidTests := true, laidLooks := .later }
def RowPutUptoCardSaid : Prop := Claim7.holds Tryd.pinned (.plain (OpenSpec.upto rowPutSpec)) rowPutUptoCard

/-- THE SECOND FORM's CARD OF 'rectolaw14.RowDiffs'. -/
def rowDiffsUptoCard : Claim7 := { stood := { row := rowDiffsUptoRow, standIns := [], harness := (true, "8465e0305606e0dfe9e8ad0e118b9c884b090f4c0ae1c4c46a4e634b8ded0cea"), looks := false }, kinds := [], alts := [], laidByText := true, laidKinds := [.data, .pinned], laidTests := true, laidLooks := .later }
def RowDiffsUptoCardSaid : Prop := Claim7.holds Tryd.pinned (.plain (OpenSpec.upto rowDiffsSpec)) rowDiffsUptoCard

/-- THE SECOND FORM's CARD OF 'rectolaw15.IndexStages'. -/
def indexStagesUptoCard : Claim7 := { stood := { row := indexStagesUptoRow, standIns := [], harness := (true, "8465e0305606e0dfe9e8ad0e118b9c884b090f4c0ae1c4c46a4e634b8ded0cea"), looks := false }, kinds := [], alts := [], laidByText := true, laidKinds := [.data, .data, .pinned], laidTests := true, laidLooks := .later }
def IndexStagesUptoCardSaid : Prop := Claim7.holds Tryd.pinned (.plain (OpenSpec.upto indexStagesSpec)) indexStagesUptoCard
end Rows
end Go.Proofs.YtplleaimmmanhaaDoor
