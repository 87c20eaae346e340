/-
  DERIVED. GIVEN WITH THE SEED: THE CARDS: each row of YtkhdjlakclidoaaDoorRows.lean that lists a variable, with what it lists TIED to the program's text (the seventh form; the later family's looks); each row that meets fmt, with fmt's text TOLD by the authors' own Lean function (tested against real Go, not proved from fmt's source: count such statements apart). THE CARD IS WHAT COUNTS. Prove the row's statement (the work); the ties are given (YtkhdjlakclidoaaDoorTie.lean); close each card by the builder's one call (the guide's Derived/Test/ToyasCard.lean, 'card_holds'). Laid BY PROGRAM, IN A SANDBOX (cutbox-door.mjs). By AI agents, Wed Nov 11 2026. No macro, syntax, notation, axiom, sorry.
-/
import Derived.Test.YtkhdjlakclidoaaDoorRows
import GoSem.ClaimSeven
namespace Go.Proofs.YtkhdjlakclidoaaDoor
namespace Rows

/-- THE TIED CARD OF 'rectolaw1.PathAny'. -/
def pathAnyCard : Claim7 := { stood := { row := pathAnyRow, standIns := [], harness := (true, "28d87576faadbd8cdf00a947e6904e21e0303198d36a6d3042f21f3d9fab7d0f"), looks := false }, kinds := [], alts := [], laidByText := true, laidKinds := [.data, .pinned], laidTests := true, laidLooks := .later }
def PathAnyCardSaid : Prop := Claim7.holds Tryd.pinned (.plain (OpenSpec.ofChange pathAnySpec)) pathAnyCard

/-- THE TIED CARD OF 'rectolaw1.PathTwo'. -/
def pathTwoCard : Claim7 := { stood := { row := pathTwoRow, standIns := [], harness := (true, "28d87576faadbd8cdf00a947e6904e21e0303198d36a6d3042f21f3d9fab7d0f"), looks := false }, kinds := [], alts := [], laidByText := true, laidKinds := [.data, .pinned], laidTests := true, laidLooks := .later }
def PathTwoCardSaid : Prop := Claim7.holds Tryd.pinned (.plain (OpenSpec.ofChange pathTwoSpec)) pathTwoCard

/-- THE TIED CARD OF 'rectolaw1.PathFolders'. -/
def pathFoldersCard : Claim7 := { stood := { row := pathFoldersRow, standIns := [], harness := (true, "28d87576faadbd8cdf00a947e6904e21e0303198d36a6d3042f21f3d9fab7d0f"), looks := false }, kinds := [], alts := [], laidByText := true, laidKinds := [.data, .pinned], laidTests := true, laidLooks := .later }
def PathFoldersCardSaid : Prop := Claim7.holds Tryd.pinned (.plain (OpenSpec.ofChange pathFoldersSpec)) pathFoldersCard

/-- THE TIED CARD OF 'rectolaw1.PathParts'. -/
def pathPartsCard : Claim7 := { stood := { row := pathPartsRow, standIns := [], harness := (true, "28d87576faadbd8cdf00a947e6904e21e0303198d36a6d3042f21f3d9fab7d0f"), looks := false }, kinds := [], alts := [], laidByText := true, laidKinds := [.data, .pinned], laidTests := true, laidLooks := .later }
def PathPartsCardSaid : Prop := Claim7.holds Tryd.pinned (.plain (OpenSpec.ofChange pathPartsSpec)) pathPartsCard

/-- THE TIED CARD OF 'rectolaw23.ShelfFull'. -/
def shelfFullCard : Claim7 := { stood := { row := shelfFullRow, standIns := [], harness := (true, "28d87576faadbd8cdf00a947e6904e21e0303198d36a6d3042f21f3d9fab7d0f"), looks := false }, kinds := [], alts := [], laidByText := true, laidKinds := [.data, .data, .data], laidTests := true, laidLooks := .later }
def ShelfFullCardSaid : Prop := Claim7.holds Tryd.pinned (.plain (OpenSpec.ofChange shelfFullSpec)) shelfFullCard

/-- THE SECOND FORM's CARD OF 'rectolaw1.PathAny'. -/
def pathAnyUptoCard : Claim7 := { stood := { row := pathAnyUptoRow, standIns := [], harness := (true, "28d87576faadbd8cdf00a947e6904e21e0303198d36a6d3042f21f3d9fab7d0f"), looks := false }, kinds := [], alts := [], laidByText := true, laidKinds := [.data, .pinned], laidTests := true, laidLooks := .later }
def PathAnyUptoCardSaid : Prop := Claim7.holds Tryd.pinned (.plain (OpenSpec.upto pathAnySpec)) pathAnyUptoCard

/-- THE SECOND FORM's CARD OF 'rectolaw1.PathTwo'. -/
def pathTwoUptoCard : Claim7 := { stood := { row := pathTwoUptoRow, standIns := [], harness := (true, "28d87576faadbd8cdf00a947e6904e21e0303198d36a6d3042f21f3d9fab7d0f"), looks := false }, kinds := [], alts := [], laidByText := true, laidKinds := [.data, .pinned], laidTests := true, laidLooks := .later }
def PathTwoUptoCardSaid : Prop := Claim7.holds Tryd.pinned (.plain (OpenSpec.upto pathTwoSpec)) pathTwoUptoCard

/-- THE SECOND FORM's CARD OF 'rectolaw1.PathFolders'. -/
def pathFoldersUptoCard : Claim7 := { stood := { row := pathFoldersUptoRow, standIns := [], harness := (true, "28d87576faadbd8cdf00a947e6904e21e0303198d36a6d3042f21f3d9fab7d0f"), looks := false }, kinds := [], alts := [], laidByText := true, laidKinds := [.data, .pinned], laidTests := true, laidLooks := .later }
def PathFoldersUptoCardSaid : Prop := Claim7.holds Tryd.pinned (.plain (OpenSpec.upto pathFoldersSpec)) pathFoldersUptoCard

/-- THE SECOND FORM's CARD OF 'rectolaw1.PathParts'. -/
def pathPartsUptoCard : Claim7 := { stood := { row := pathPartsUptoRow, standIns := [], harness := (true, "28d87576faadbd8cdf00a947e6904e21e0303198d36a6d3042f21f3d9fab7d0f"), looks := false }, kinds := [], alts := [], laidByText := true, laidKinds := [.data, .pinned], laidTests := true, laidLooks := .later }
def PathPartsUptoCardSaid : Prop := Claim7.holds Tryd.pinned (.plain (OpenSpec.upto pathPartsSpec)) pathPartsUptoCard

/-- THE SECOND FORM's CARD OF 'rectolaw23.ShelfFull'. -/
def shelfFullUptoCard : Claim7 := { stood := { row := shelfFullUptoRow, standIns := [], harness := (true, "28d87576faadbd8cdf00a947e6904e21e0303198d36a6d3042f21f3d9fab7d0f"), looks := false }, kinds := [], alts := [], laidByText := true, laidKinds := [.data, .data, .data], laidTests := true, laidLooks := .later }
def ShelfFullUptoCardSaid : Prop := Claim7.holds Tryd.pinned (.plain (OpenSpec.upto shelfFullSpec)) shelfFullUptoCard
end Rows
end Go.Proofs.YtkhdjlakclidoaaDoor
