/-
  DERIVED. GIVEN WITH THE SEED: THE CARDS: each row of YtanjcjnkppnhcaaGreatDoorRows.lean that lists a variable, with what it lists TIED to the program's text (the seventh form; the later family's looks); each row that meets fmt, with fmt's text TOLD by the authors' own Lean function (tested against real Go, not proved from fmt's source: count such statements apart). THE CARD IS WHAT COUNTS. Prove the row's statement (the work); the ties are given (YtanjcjnkppnhcaaGreatDoorTie.lean); close each card by the builder's one call (the guide's Derived/Test/ToyasCard.lean, 'card_holds'). Laid BY PROGRAM, IN A SANDBOX (cutbox-door.mjs). By AI agents, Wed Nov 11 2026. No macro, syntax, notation, axiom, sorry.
-/
import Derived.Test.YtanjcjnkppnhcaaGreatDoorRows
import GoSem.ClaimSeven
namespace Go.Proofs.YtanjcjnkppnhcaaGreatDoor
namespace Rows

/-- THE TIED CARD OF 'rectolaw21.TodoTexts'. -/
def todoTextsCard : Claim7 := { stood := { row := todoTextsRow, standIns := [], harness := (true, "da86481613835d609bd9363404708b16ab2764464bfdc2a18876d3eafd962967"), looks := true }, kinds := [], alts := [], laidByText := true, laidKinds := [.data, .data, .data, .data, .handle, .pinned], laidTests := true, laidLooks := .later }
def TodoTextsCardSaid : Prop := Claim7.holds Tryz.pinned (.plain (OpenSpec.ofChange todoTextsSpec)) todoTextsCard

/-- THE TIED CARD OF 'rectolaw21.TodoBack'. -/
def todoBackCard : Claim7 := { stood := { row := todoBackRow, standIns := [], harness := (true, "da86481613835d609bd9363404708b16ab2764464bfdc2a18876d3eafd962967"), looks := true }, kinds := [], alts := [], laidByText := true, laidKinds := [.data, .data, .data, .data, .handle, .pinned], laidTests := true, laidLooks := .later }
def TodoBackCardSaid : Prop := Claim7.holds Tryz.pinned (.plain (OpenSpec.ofChange todoBackSpec)) todoBackCard

/-- THE TIED CARD OF 'rectolaw22.CmdBack'. -/
def cmdBackCard : Claim7 := { stood := { row := cmdBackRow, standIns := [], harness := (true, "da86481613835d609bd9363404708b16ab2764464bfdc2a18876d3eafd962967"), looks := true }, kinds := [], alts := [], laidByText := true, laidKinds := [.data, .data, .data, .data, .handle, .pinned], laidTests := true, laidLooks := .later }
def CmdBackCardSaid : Prop := Claim7.holds Tryz.pinned (.plain (OpenSpec.ofChange cmdBackSpec)) cmdBackCard

/-- THE TIED CARD OF 'rectolaw22.CmdTwo'. -/
def cmdTwoCard : Claim7 := { stood := { row := cmdTwoRow, standIns := [], harness := (true, "da86481613835d609bd9363404708b16ab2764464bfdc2a18876d3eafd962967"), looks := true }, kinds := [], alts := [], laidByText := true, laidKinds := [.data, .data, .data, .data, .pinned], laidTests := true, laidLooks := .later }
def CmdTwoCardSaid : Prop := Claim7.holds Tryz.pinned (.plain (OpenSpec.ofChange cmdTwoSpec)) cmdTwoCard

/-- THE TIED CARD OF 'rectolaw22.CmdVerbs'. -/
def cmdVerbsCard : Claim7 := { stood := { row := cmdVerbsRow, standIns := [], harness := (true, "da86481613835d609bd9363404708b16ab2764464bfdc2a18876d3eafd962967"), looks := true }, kinds := [], alts := [], laidByText := true, laidKinds := [.data, .data, .data, .data, .pinned], laidTests := true, laidLooks := .later }
def CmdVerbsCardSaid : Prop := Claim7.holds Tryz.pinned (.plain (OpenSpec.ofChange cmdVerbsSpec)) cmdVerbsCard

/-- THE SECOND FORM's CARD OF 'rectolaw21.TodoTexts'. -/
def todoTextsUptoCard : Claim7 := { stood := { row := todoTextsUptoRow, standIns := [], harness := (true, "da86481613835d609bd9363404708b16ab2764464bfdc2a18876d3eafd962967"), looks := true }, kinds := [], alts := [], laidByText := true, laidKinds := [.data, .data, .data, .data, .handle, .pinned], laidTests := true, laidLooks := .later }
def TodoTextsUptoCardSaid : Prop := Claim7.holds Tryz.pinned (.plain (OpenSpec.upto todoTextsSpec)) todoTextsUptoCard

/-- THE SECOND FORM's CARD OF 'rectolaw21.TodoBack'. -/
def todoBackUptoCard : Claim7 := { stood := { row := todoBackUptoRow, standIns := [], harness := (true, "da86481613835d609bd9363404708b16ab2764464bfdc2a18876d3eafd962967"), looks := true }, kinds := [], alts := [], laidByText := true, laidKinds := [.data, .data, .data, .data, .handle, .pinned], laidTests := true, laidLooks := .later }
def TodoBackUptoCardSaid : Prop := Claim7.holds Tryz.pinned (.plain (OpenSpec.upto todoBackSpec)) todoBackUptoCard

/-- THE SECOND FORM's CARD OF 'rectolaw22.CmdBack'. -/
def cmdBackUptoCard : Claim7 := { stood := { row := cmdBackUptoRow, standIns := [], harness := (true, "da86481613835d609bd9363404708b16ab2764464bfdc2a18876d3eafd962967"), looks := true }, kinds := [], alts := [], laidByText := true, laidKinds := [.data, .data, .data, .data, .handle, .pinned], laidTests := true, laidLooks := .later }
def CmdBackUptoCardSaid : Prop := Claim7.holds Tryz.pinned (.plain (OpenSpec.upto cmdBackSpec)) cmdBackUptoCard

/-- THE SECOND FORM's CARD OF 'rectolaw22.CmdTwo'. -/
def cmdTwoUptoCard : Claim7 := { stood := { row := cmdTwoUptoRow, standIns := [], harness := (true, "da86481613835d609bd9363404708b16ab2764464bfdc2a18876d3eafd962967"), looks := true }, kinds := [], alts := [], laidByText := true, laidKinds := [.data, .data, .data, .data, .pinned], laidTests := true, laidLooks := .later }
def CmdTwoUptoCardSaid : Prop := Claim7.holds Tryz.pinned (.plain (OpenSpec.upto cmdTwoSpec)) cmdTwoUptoCard

/-- THE SECOND FORM's CARD OF 'rectolaw22.CmdVerbs'. -/
def cmdVerbsUptoCard : Claim7 := { stood := { row := cmdVerbsUptoRow, standIns := [], harness := (true, "da86481613835d609bd9363404708b16ab2764464bfdc2a18876d3eafd962967"), looks := true }, kinds := [], alts := [], laidByText := true, laidKinds := [.data, .data, .data, .data, .pinned], laidTests := true, laidLooks := .later }
def CmdVerbsUptoCardSaid : Prop := Claim7.holds Tryz.pinned (.plain (OpenSpec.upto cmdVerbsSpec)) cmdVerbsUptoCard
end Rows
end Go.Proofs.YtanjcjnkppnhcaaGreatDoor
