/-
  DERIVED. GIVEN WITH THE SEED: THE CARDS: each row of YtplleaimmmanhaaGreatDoorRows.lean that lists a variable, with what it lists TIED to the program's text (the seventh form; the later family's looks); each row that meets fmt, with fmt's text TOLD by the authors' own Lean function (tested against real Go, not proved from fmt's source: count such statements apart). THE CARD IS WHAT COUNTS. Prove the row's statement (the work); the ties are given (YtplleaimmmanhaaGreatDoorTie.lean); close each card by the builder's one call (the guide's Derived/Test/ToyasCard.lean, 'card_holds'). Laid BY PROGRAM, IN A SANDBOX (cutbox-door.mjs). By AI agents, Wed Nov 11 2026. No macro, syntax, notation, axiom, sorry.
-/
import Derived.Test.YtplleaimmmanhaaGreatDoorRows
import GoSem.ClaimSeven
namespace Go.Proofs.YtplleaimmmanhaaGreatDoor
namespace Rows

/-- THE TIED CARD OF 'rectolaw14.RowAny'. -/
def rowAnyCard : Claim7 := { stood := { row := rowAnyRow, standIns := [], harness := (true, "ac3d94da40f7dcd60ff2b4ddf40f7f4a3d420df7af4160b846b9055fcdf3ce54"), looks := true }, kinds := [], alts := [], laidByText := true, laidKinds := [.data, .handle, .pinned], laidTests := true, laidLooks := .later }
def RowAnyCardSaid : Prop := Claim7.holds Tryz.pinned (.plain (OpenSpec.ofChange rowAnySpec)) rowAnyCard

/-- THE TIED CARD OF 'rectolaw15.IndexAny'. -/
def indexAnyCard : Claim7 := { stood := { row := indexAnyRow, standIns := [], harness := (true, "ac3d94da40f7dcd60ff2b4ddf40f7f4a3d420df7af4160b846b9055fcdf3ce54"), looks := true }, kinds := [], alts := [], laidByText := true, laidKinds := [.data, .handle, .data, .pinned], laidTests := true, laidLooks := .later }
def IndexAnyCardSaid : Prop := Claim7.holds Tryz.pinned (.plain (OpenSpec.ofChange indexAnySpec)) indexAnyCard

/-- THE TIED CARD OF 'rectolaw15.IndexPlays'. -/
def indexPlaysCard : Claim7 := { stood := { row := indexPlaysRow, standIns := [], harness := (true, "ac3d94da40f7dcd60ff2b4ddf40f7f4a3d420df7af4160b846b9055fcdf3ce54"), looks := true }, kinds := [], alts := [], laidByText := true, laidKinds := [.data, .data, .pinned], laidTests := true, laidLooks := .later }
def IndexPlaysCardSaid : Prop := Claim7.holds Tryz.pinned (.plain (OpenSpec.ofChange indexPlaysSpec)) indexPlaysCard

/-- THE TIED CARD OF 'rectolaw15.IndexBytes'. -/
def indexBytesCard : Claim7 := { stood := { row := indexBytesRow, standIns := [], harness := (true, "ac3d94da40f7dcd60ff2b4ddf40f7f4a3d420df7af4160b846b9055fcdf3ce54"), looks := true }, kinds := [], alts := [], laidByText := true, laidKinds := [.data, .handle, .data, .pinned], laidTests := true, laidLooks := .later }
def IndexBytesCardSaid : Prop := Claim7.holds Tryz.pinned (.plain (OpenSpec.ofChange indexBytesSpec)) indexBytesCard

/-- THE SECOND FORM's CARD OF 'rectolaw14.RowAny'. -/
def rowAnyUptoCard : Claim7 := { stood := { row := rowAnyUptoRow, standIns := [], harness := (true, "ac3d94da40f7dcd60ff2b4ddf40f7f4a3d420df7af4160b846b9055fcdf3ce54"), looks := true }, kinds := [], alts := [], laidByText := true, laidKinds := [.data, .handle, .pinned], laidTests := true, laidLooks := .later }
def RowAnyUptoCardSaid : Prop := Claim7.holds Tryz.pinned (.plain (OpenSpec.upto rowAnySpec)) rowAnyUptoCard

/-- THE SECOND FORM's CARD OF 'rectolaw15.IndexAny'. -/
def indexAnyUptoCard : Claim7 := { stood := { row := indexAnyUptoRow, standIns := [], harness := (true, "ac3d94da40f7dcd60ff2b4ddf40f7f4a3d420df7af4160b846b9055fcdf3ce54"), looks := true }, kinds := [], alts := [], laidByText := true, laidKinds := [.data, .handle, .data, .pinned], laidTests := true, laidLooks := .later }
def IndexAnyUptoCardSaid : Prop := Claim7.holds Tryz.pinned (.plain (OpenSpec.upto indexAnySpec)) indexAnyUptoCard

/-- THE SECOND FORM's CARD OF 'rectolaw15.IndexPlays'. -/
def indexPlaysUptoCard : Claim7 := { stood := { row := indexPlaysUptoRow, standIns := [], harness := (true, "ac3d94da40f7dcd60ff2b4ddf40f7f4a3d420df7af4160b846b9055fcdf3ce54"), looks := true }, kinds := [], alts := [], laidByText := true, laidKinds := [.data, .data, .pinned], laidTests := true, laidLooks := .later }
def IndexPlaysUptoCardSaid : Prop := Claim7.holds Tryz.pinned (.plain (OpenSpec.upto indexPlaysSpec)) indexPlaysUptoCard

/-- THE SECOND FORM's CARD OF 'rectolaw15.IndexBytes'. -/
def indexBytesUptoCard : Claim7 := { stood := { row := indexBytesUptoRow, standIns := [], harness := (true, "ac3d94da40f7dcd60ff2b4ddf40f7f4a3d420df7af4160b846b9055fcdf3ce54"), looks := true }, kinds := [], alts := [], laidByText := true, laidKinds := [.data, .handle, .data, .pinned], laidTests := true, laidLooks := .later }
def IndexBytesUptoCardSaid : Prop := Claim7.holds Tryz.pinned (.plain (OpenSpec.upto indexBytesSpec)) indexBytesUptoCard
end Rows
end Go.Proofs.YtplleaimmmanhaaGreatDoor
