/-
  DERIVED. GIVEN WITH THE SEED: THE CARDS: each row of YtapcnmnnichamaaGreatDoorRows.lean that lists a variable, with what it lists TIED to the program's text (the seventh form; the later family's looks); each row that meets fmt, with fmt's text TOLD by the authors' own Lean function (tested against real Go, not proved from fmt's source: count such statements apart). THE CARD IS WHAT COUNTS. Prove the row's statement (the work); the ties are given (YtapcnmnnichamaaGreatDoorTie.lean); close each card by the builder's one call (the guide's Derived/Test/ToyasCard.lean, 'card_holds'). Laid BY PROGRAM, IN A SANDBOX (cutbox-door.mjs). By AI agents, Wed Nov 11 2026. No macro, syntax, notation, axiom, sorry.
-/
import Derived.Test.YtapcnmnnichamaaGreatDoorRows
import GoSem.ClaimSeven
namespace Go.Proofs.YtapcnmnnichamaaGreatDoor
namespace Rows

/-- THE TIED CARD OF 'rectolaw16.TreesMerge'. -/
def treesMergeCard : Claim7 := { stood := { row := treesMergeRow, standIns := [], harness := (true, "c92645772005d5fac0a806de2b6ae09390c02bc2df96cf94126d6cb327fb6b7f"), looks := true }, kinds := [], alts := [], laidByText := true, laidKinds := [.data, .handle, .pinned], laidTests := true, laidLooks := .later }
def TreesMergeCardSaid : Prop := Claim7.holds Tryz.pinned (.plain (OpenSpec.ofChange treesMergeSpec)) treesMergeCard

/-- THE TIED CARD OF 'rectolaw16.TreesOne'. -/
def treesOneCard : Claim7 := { stood := { row := treesOneRow, standIns := [], harness := (true, "c92645772005d5fac0a806de2b6ae09390c02bc2df96cf94126d6cb327fb6b7f"), looks := true }, kinds := [], alts := [], laidByText := true, laidKinds := [.data, .pinned], laidTests := true, laidLooks := .later }
def TreesOneCardSaid : Prop := Claim7.holds Tryz.pinned (.plain (OpenSpec.ofChange treesOneSpec)) treesOneCard

/-- THE TIED CARD OF 'rectolaw16.TreesSides'. -/
def treesSidesCard : Claim7 := { stood := { row := treesSidesRow, standIns := [], harness := (true, "c92645772005d5fac0a806de2b6ae09390c02bc2df96cf94126d6cb327fb6b7f"), looks := true }, kinds := [], alts := [], laidByText := true, laidKinds := [.data, .pinned], laidTests := true, laidLooks := .later }
def TreesSidesCardSaid : Prop := Claim7.holds Tryz.pinned (.plain (OpenSpec.ofChange treesSidesSpec)) treesSidesCard

/-- THE TIED CARD OF 'rectolaw16.TreesApart'. -/
def treesApartCard : Claim7 := { stood := { row := treesApartRow, standIns := [], harness := (true, "c92645772005d5fac0a806de2b6ae09390c02bc2df96cf94126d6cb327fb6b7f"), looks := true }, kinds := [], alts := [], laidByText := true, laidKinds := [.data, .pinned], laidTests := true, laidLooks := .later }
def TreesApartCardSaid : Prop := Claim7.holds Tryz.pinned (.plain (OpenSpec.ofChange treesApartSpec)) treesApartCard

/-- THE SECOND FORM's CARD OF 'rectolaw16.TreesMerge'. -/
def treesMergeUptoCard : Claim7 := { stood := { row := treesMergeUptoRow, standIns := [], harness := (true, "c92645772005d5fac0a806de2b6ae09390c02bc2df96cf94126d6cb327fb6b7f"), looks := true }, kinds := [], alts := [], laidByText := true, laidKinds := [.data, .handle, .pinned], laidTests := true, laidLooks := .later }
def TreesMergeUptoCardSaid : Prop := Claim7.holds Tryz.pinned (.plain (OpenSpec.upto treesMergeSpec)) treesMergeUptoCard

/-- THE SECOND FORM's CARD OF 'rectolaw16.TreesOne'. -/
def treesOneUptoCard : Claim7 := { stood := { row := treesOneUptoRow, standIns := [], harness := (true, "c92645772005d5fac0a806de2b6ae09390c02bc2df96cf94126d6cb327fb6b7f"), looks := true }, kinds := [], alts := [], laidByText := true, laidKinds := [.data, .pinned], laidTests := true, laidLooks := .later }
def TreesOneUptoCardSaid : Prop := Claim7.holds Tryz.pinned (.plain (OpenSpec.upto treesOneSpec)) treesOneUptoCard

/-- THE SECOND FORM's CARD OF 'rectolaw16.TreesSides'. -/
def treesSidesUptoCard : Claim7 := { stood := { row := treesSidesUptoRow, standIns := [], harness := (true, "c92645772005d5fac0a806de2b6ae09390c02bc2df96cf94126d6cb327fb6b7f"), looks := true }, kinds := [], alts := [], laidByText := true, laidKinds := [.data, .pinned], laidTests := true, laidLooks := .later }
def TreesSidesUptoCardSaid : Prop := Claim7.holds Tryz.pinned (.plain (OpenSpec.upto treesSidesSpec)) treesSidesUptoCard

/-- THE SECOND FORM's CARD OF 'rectolaw16.TreesApart'. -/
def treesApartUptoCard : Claim7 := { stood := { row := treesApartUptoRow, standIns := [], harness := (true, "c92645772005d5fac0a806de2b6ae09390c02bc2df96cf94126d6cb327fb6b7f"), looks := true }, kinds := [], alts := [], laidByText := true, laidKinds := [.data, .pinned], laidTests := true, laidLooks := .later }
def TreesApartUptoCardSaid : Prop := Claim7.holds Tryz.pinned (.plain (OpenSpec.upto treesApartSpec)) treesApartUptoCard
end Rows
end Go.Proofs.YtapcnmnnichamaaGreatDoor
