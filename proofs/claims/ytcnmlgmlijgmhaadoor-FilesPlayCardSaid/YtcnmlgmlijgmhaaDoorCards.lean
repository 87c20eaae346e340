/-
  DERIVED. GIVEN WITH THE SEED: THE CARDS: each row of YtcnmlgmlijgmhaaDoorRows.lean that lists a variable, with what it lists TIED to the program's text (the seventh form; the later family's looks); each row that meets fmt, with fmt's text TOLD by the authors' own Lean function (tested against real Go, not proved from fmt's source: count such statements apart). THE CARD IS WHAT COUNTS. Prove the row's statement (the work); the ties are given (YtcnmlgmlijgmhaaDoorTie.lean); close each card by the builder's one call (the guide's Derived/Test/ToyasCard.lean, 'card_holds'). Laid BY PROGRAM, IN A SANDBOX (cutbox-door.mjs). By AI agents, Wed Nov 11 2026. No macro, syntax, notation, axiom, sorry.
-/
import Derived.Test.YtcnmlgmlijgmhaaDoorRows
import GoSem.ClaimSeven
namespace Go.Proofs.YtcnmlgmlijgmhaaDoor
namespace Rows

/-- THE TIED CARD OF 'rectolaw5.FilesPlay'. -/
def filesPlayCard : Claim7 := { stood := { row := filesPlayRow, standIns := [], harness := (true, "b89ad4276f5346a4d51293e373d8c4b21d51758b7bf42e504a1eb0ab25876ac6"), looks := true }, kinds := [], alts := [], laidByText := true, laidKinds := [.data, .pinned], laidTests := true, laidLooks := .later }
def FilesPlayCardSaid : Prop := Claim7.holds Tryd.pinned (.plain (OpenSpec.ofChange filesPlaySpec)) filesPlayCard

/-- THE TIED CARD OF 'rectolaw5.FilesSync'. -/
def filesSyncCard : Claim7 := { stood := { row := filesSyncRow, standIns := [], harness := (true, "b89ad4276f5346a4d51293e373d8c4b21d51758b7bf42e504a1eb0ab25876ac6"), looks := true }, kinds := [], alts := [], laidByText := true, laidKinds := [.data, .pinned], laidTests := true, laidLooks := .later }
def FilesSyncCardSaid : Prop := Claim7.holds Tryd.pinned (.plain (OpenSpec.ofChange filesSyncSpec)) filesSyncCard

/-- THE TIED CARD OF 'rectolaw5.FilesRename'. -/
def filesRenameCard : Claim7 := { stood := { row := filesRenameRow, standIns := [], harness := (true, "b89ad4276f5346a4d51293e373d8c4b21d51758b7bf42e504a1eb0ab25876ac6"), looks := true }, kinds := [], alts := [], laidByText := true, laidKinds := [.data, .pinned], laidTests := true, laidLooks := .later }
def FilesRenameCardSaid : Prop := Claim7.holds Tryd.pinned (.plain (OpenSpec.ofChange filesRenameSpec)) filesRenameCard

/-- THE TIED CARD OF 'rectolaw5.FilesArms'. -/
def filesArmsCard : Claim7 := { stood := { row := filesArmsRow, standIns := [], harness := (true, "b89ad4276f5346a4d51293e373d8c4b21d51758b7bf42e504a1eb0ab25876ac6"), looks := true }, kinds := [], alts := [], laidByText := true, laidKinds := [.data, .pinned], laidTests := true, laidLooks := .later }
def FilesArmsCardSaid : Prop := Claim7.holds Tryd.pinned (.plain (OpenSpec.ofChange filesArmsSpec)) filesArmsCard

/-- THE TIED CARD OF 'rectolaw18.StatFresh'. -/
def statFreshCard : Claim7 := { stood := { row := statFreshRow, standIns := [], harness := (true, "b89ad4276f5346a4d51293e373d8c4b21d51758b7bf42e504a1eb0ab25876ac6"), looks := true }, kinds := [], alts := [], laidByText := true, laidKinds := [.data, .pinned], laidTests := true, laidLooks := .later }
def StatFreshCardSaid : Prop := Claim7.holds Tryd.pinned (.plain (OpenSpec.ofChange statFreshSpec)) statFreshCard

/-- THE TIED CARD OF 'rectolaw18.StatNever'. -/
def statNeverCard : Claim7 := { stood := { row := statNeverRow, standIns := [], harness := (true, "b89ad4276f5346a4d51293e373d8c4b21d51758b7bf42e504a1eb0ab25876ac6"), looks := true }, kinds := [], alts := [], laidByText := true, laidKinds := [.data, .pinned], laidTests := true, laidLooks := .later }
def StatNeverCardSaid : Prop := Claim7.holds Tryd.pinned (.plain (OpenSpec.ofChange statNeverSpec)) statNeverCard

/-- THE TIED CARD OF 'rectolaw18.StatSmudged'. -/
def statSmudgedCard : Claim7 := { stood := { row := statSmudgedRow, standIns := [], harness := (true, "b89ad4276f5346a4d51293e373d8c4b21d51758b7bf42e504a1eb0ab25876ac6"), looks := true }, kinds := [], alts := [], laidByText := true, laidKinds := [.data, .pinned], laidTests := true, laidLooks := .later }
def StatSmudgedCardSaid : Prop := Claim7.holds Tryd.pinned (.plain (OpenSpec.ofChange statSmudgedSpec)) statSmudgedCard

/-- THE SECOND FORM's CARD OF 'rectolaw5.FilesPlay'. -/
def filesPlayUptoCard : Claim7 := { stood := { row := filesPlayUptoRow, standIns := [], harness := (true, "b89ad4276f5346a4d51293e373d8c4b21d51758b7bf42e504a1eb0ab25876ac6"), looks := true }, kinds := [], alts := [], laidByText := true, laidKinds := [.data, .pinned], laidTests := true, laidLooks := .later }
def FilesPlayUptoCardSaid : Prop := Claim7.holds Tryd.pinned (.plain (OpenSpec.upto filesPlaySpec)) filesPlayUptoCard

/-- THE SECOND FORM's CARD OF 'rectolaw5.FilesSync'. -/
def filesSyncUptoCard : Claim7 := { stood := { row := filesSyncUptoRow, standIns := [], harness := (true, "b89ad4276f5346a4d51293e373d8c4b21d51758b7bf42e504a1eb0ab25876ac6"), looks := true }, kinds := [], alts := [], laidByText := true, laidKinds := [.data, .pinned], laidTests := true, laidLooks := .later }
def FilesSyncUptoCardSaid : Prop := Claim7.holds Tryd.pinned (.plain (OpenSpec.upto filesSyncSpec)) filesSyncUptoCard

/-- THE SECOND FORM's CARD OF 'rectolaw5.FilesRename'. -/
def filesRenameUptoCard : Claim7 := { stood := { row := filesRenameUptoRow, standIns := [], harness := (true, "b89ad4276f5346a4d51293e373d8c4b21d51758b7bf42e504a1eb0ab25876ac6"), looks := true }, kinds := [], alts := [], laidByText := true, laidKinds := [.data, .pinned], laidTests := true, laidLooks := .later }
def FilesRenameUptoCardSaid : Prop := Claim7.holds Tryd.pinned (.plain (OpenSpec.upto filesRenameSpec)) filesRenameUptoCard

/-- THE SECOND FORM's CARD OF 'rectolaw5.FilesArms'. -/
def filesArmsUptoCard : Claim7 := { stood := { row := filesArmsUptoRow, standIns := [], harness := (true, "b89ad4276f5346a4d51293e373d8c4b21d51758b7bf42e504a1eb0ab25876ac6"), looks := true }, kinds := [], alts := [], laidByText := true, laidKinds := [.data, .pinned], laidTests := true, laidLooks := .later }
def FilesArmsUptoCardSaid : Prop := Claim7.holds Tryd.pinned (.plain (OpenSpec.upto filesArmsSpec)) filesArmsUptoCard

/-- THE SECOND FORM's CARD OF 'rectolaw18.StatFresh'. -/
def statFreshUptoCard : Claim7 := { stood := { row := statFreshUptoRow, standIns := [], harness := (true, "b89ad4276f5346a4d51293e373d8c4b21d51758b7bf42e504a1eb0ab25876ac6"), looks := true }, kinds := [], alts := [], laidByText := true, laidKinds := [.data, .pinned], laidTests := true, laidLooks := .later }
def StatFreshUptoCardSaid : Prop := Claim7.holds Tryd.pinned (.plain (OpenSpec.upto statFreshSpec)) statFreshUptoCard

/-- THE SECOND FORM's CARD OF 'rectolaw18.StatNever'. -/
def statNeverUptoCard : Claim7 := { stood := { row := statNeverUptoRow, standIns := [], harness := (true, "b89ad4276f5346a4d51293e373d8c4b21d51758b7bf42e504a1eb0ab25876ac6"), looks := true }, kinds := [], alts := [], laidByText := true, laidKinds := [.data, .pinned], laidTests := true, laidLooks := .later }
def StatNeverUptoCardSaid : Prop := Claim7.holds Tryd.pinned (.plain (OpenSpec.upto statNeverSpec)) statNeverUptoCard

/-- THE SECOND FORM's CARD OF 'rectolaw18.StatSmudged'. -/
def statSmudgedUptoCard : Claim7 := { stood := { row := statSmudgedUptoRow, standIns := [], harness := (true, "b89ad4276f5346a4d51293e373d8c4b21d51758b7bf42e504a1eb0ab25876ac6"), looks := true }, kinds := [], alts := [], laidByText := true, laidKinds := [.data, .pinned], laidTests := true, laidLooks := .later }
def StatSmudgedUptoCardSaid : Prop := Claim7.holds Tryd.pinned (.plain (OpenSpec.upto statSmudgedSpec)) statSmudgedUptoCard
end Rows
end Go.Proofs.YtcnmlgmlijgmhaaDoor
