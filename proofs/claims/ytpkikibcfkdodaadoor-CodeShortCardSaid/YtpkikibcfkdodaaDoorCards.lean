/-
  DERIVED. GIVEN WITH THE SEED: THE CARDS: each row of YtpkikibcfkdodaaDoorRows.lean that lists a variable, with what it lists TIED to the program's text (the seventh form; the later family's looks); each row that meets fmt, with fmt's text TOLD by the authors' own Lean function (tested against real Go, not proved from fmt's source: count such statements apart). THE CARD IS WHAT COUNTS. Prove the row's statement (the work); the ties are given (YtpkikibcfkdodaaDoorTie.lean); close each card by the builder's one call (the guide's Derived/Test/ToyasCard.lean, 'card_holds'). Laid BY PROGRAM, IN A SANDBOX (cutbox-door.mjs). By AI agents, Wed Nov 11 2026. No macro, syntax, notation, axiom, sorry.
-/
import Derived.Test.YtpkikibcfkdodaaDoorRows
import GoSem.ClaimSeven
namespace Go.Proofs.YtpkikibcfkdodaaDoor
namespace Rows

/-- THE TIED CARD OF 'rectolaw2.ShaDigits'. -/
def shaDigitsCard : Claim7 := { stood := { row := shaDigitsRow, standIns := [], harness := (true, "81262982c8edd15295fba4808478abd32059b02b39f16d06a265211865ca4463"), looks := true }, kinds := [], alts := [], laidByText := true, laidKinds := [.handle], laidTests := true, laidLooks := .later }
def ShaDigitsCardSaid : Prop := Claim7.holds Tryd.pinned (.plain (OpenSpec.ofChange shaDigitsSpec)) shaDigitsCard

/-- THE TIED CARD OF 'rectolaw3.CodeBytes'. -/
def codeBytesCard : Claim7 := { stood := { row := codeBytesRow, standIns := [], harness := (true, "81262982c8edd15295fba4808478abd32059b02b39f16d06a265211865ca4463"), looks := true }, kinds := [], alts := [], laidByText := true, laidKinds := [.handle], laidTests := true, laidLooks := .later }
def CodeBytesCardSaid : Prop := Claim7.holds Tryd.pinned (.plain (OpenSpec.ofChange codeBytesSpec)) codeBytesCard

/-- THE TIED CARD OF 'rectolaw3.CodeShort'. -/
def codeShortCard : Claim7 := { stood := { row := codeShortRow, standIns := [], harness := (true, "81262982c8edd15295fba4808478abd32059b02b39f16d06a265211865ca4463"), looks := true }, kinds := [], alts := [], laidByText := true, laidKinds := [.handle], laidTests := true, laidLooks := .later }
def CodeShortCardSaid : Prop := Claim7.holds Tryd.pinned (.plain (OpenSpec.ofChange codeShortSpec)) codeShortCard

/-- THE TIED CARD OF 'rectolaw4.SealAny'. -/
def sealAnyCard : Claim7 := { stood := { row := sealAnyRow, standIns := [], harness := (true, "81262982c8edd15295fba4808478abd32059b02b39f16d06a265211865ca4463"), looks := true }, kinds := [], alts := [], laidByText := true, laidKinds := [.handle, .data], laidTests := true, laidLooks := .later }
def SealAnyCardSaid : Prop := Claim7.holds Tryd.pinned (.plain (OpenSpec.ofChange sealAnySpec)) sealAnyCard

/-- THE TIED CARD OF 'rectolaw4.SealTurned'. -/
def sealTurnedCard : Claim7 := { stood := { row := sealTurnedRow, standIns := [], harness := (true, "81262982c8edd15295fba4808478abd32059b02b39f16d06a265211865ca4463"), looks := true }, kinds := [], alts := [], laidByText := true, laidKinds := [.handle, .data], laidTests := true, laidLooks := .later }
def SealTurnedCardSaid : Prop := Claim7.holds Tryd.pinned (.plain (OpenSpec.ofChange sealTurnedSpec)) sealTurnedCard

/-- THE SECOND FORM's CARD OF 'rectolaw2.ShaDigits'. -/
def shaDigitsUptoCard : Claim7 := { stood := { row := shaDigitsUptoRow, standIns := [], harness := (true, "81262982c8edd15295fba4808478abd32059b02b39f16d06a265211865ca4463"), looks := true }, kinds := [], alts := [], laidByText := true, laidKinds := [.handle], laidTests := true, laidLooks := .later }
def ShaDigitsUptoCardSaid : Prop := Claim7.holds Tryd.pinned (.plain (OpenSpec.upto shaDigitsSpec)) shaDigitsUptoCard

/-- THE SECOND FORM's CARD OF 'rectolaw3.CodeBytes'. -/
def codeBytesUptoCard : Claim7 := { stood := { row := codeBytesUptoRow, standIns := [], harness := (true, "81262982c8edd15295fba4808478abd32059b02b39f16d06a265211865ca4463"), looks := true }, kinds := [], alts := [], laidByText := true, laidKinds := [.handle], laidTests := true, laidLooks := .later }
def CodeBytesUptoCardSaid : Prop := Claim7.holds Tryd.pinned (.plain (OpenSpec.upto codeBytesSpec)) codeBytesUptoCard

/-- THE SECOND FORM's CARD OF 'rectolaw3.CodeShort'. -/
def codeShortUptoCard : Claim7 := { stood := { row := codeShortUptoRow, standIns := [], harness := (true, "81262982c8edd15295fba4808478abd32059b02b39f16d06a265211865ca4463"), looks := true }, kinds := [], alts := [], laidByText := true, laidKinds := [.handle], laidTests := true, laidLooks := .later }
def CodeShortUptoCardSaid : Prop := Claim7.holds Tryd.pinned (.plain (OpenSpec.upto codeShortSpec)) codeShortUptoCard

/-- THE SECOND FORM's CARD OF 'rectolaw4.SealAny'. -/
def sealAnyUptoCard : Claim7 := { stood := { row := sealAnyUptoRow, standIns := [], harness := (true, "81262982c8edd15295fba4808478abd32059b02b39f16d06a265211865ca4463"), looks := true }, kinds := [], alts := [], laidByText := true, laidKinds := [.handle, .data], laidTests := true, laidLooks := .later }
def SealAnyUptoCardSaid : Prop := Claim7.holds Tryd.pinned (.plain (OpenSpec.upto sealAnySpec)) sealAnyUptoCard

/-- THE SECOND FORM's CARD OF 'rectolaw4.SealTurned'. -/
def sealTurnedUptoCard : Claim7 := { stood := { row := sealTurnedUptoRow, standIns := [], harness := (true, "81262982c8edd15295fba4808478abd32059b02b39f16d06a265211865ca4463"), looks := true }, kinds := [], alts := [], laidByText := true, laidKinds := [.handle, .data], laidTests := true, laidLooks := .later }
def SealTurnedUptoCardSaid : Prop := Claim7.holds Tryd.pinned (.plain (OpenSpec.upto sealTurnedSpec)) sealTurnedUptoCard
end Rows
end Go.Proofs.YtpkikibcfkdodaaDoor
