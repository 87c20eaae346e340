/-
  DERIVED. GIVEN WITH THE SEED: THE CARDS: each row of YtanjcjnkppnhcaaDoorRows.lean that lists a variable, with what it lists TIED to the program's text (the seventh form; the later family's looks); each row that meets fmt, with fmt's text TOLD by the authors' own Lean function (tested against real Go, not proved from fmt's source: count such statements apart). THE CARD IS WHAT COUNTS. Prove the row's statement (the work); the ties are given (YtanjcjnkppnhcaaDoorTie.lean); close each card by the builder's one call (the guide's Derived/Test/ToyasCard.lean, 'card_holds'). Laid BY PROGRAM, IN A SANDBOX (cutbox-door.mjs). By AI agents, Wed Nov 11 2026. No macro, syntax, notation, axiom, sorry.
-/
import Derived.Test.YtanjcjnkppnhcaaDoorRows
import GoSem.ClaimSeven
namespace Go.Proofs.YtanjcjnkppnhcaaDoor
namespace Rows

/-- THE TIED CARD OF 'rectolaw21.TodoPlain'. -/
def todoPlainCard : Claim7 := { stood := { row := todoPlainRow, standIns := [], harness := (true, "705f62b81cc38fcb1c5bb4b2bdac7b66a8cdd48b6ca4bfbdaa2f0f436423afd7"), looks := false }, kinds := [], alts := [], laidByText := true, laidKinds := [.data, .data, .data, .data, .pinned], laidTests := true, laidLooks := .later }
def TodoPlainCardSaid : Prop := Claim7.holds Tryd.pinned (.plain (OpenSpec.ofChange todoPlainSpec)) todoPlainCard

/-- THE TIED CARD OF 'rectolaw21.TodoLines'. -/
def todoLinesCard : Claim7 := { stood := { row := todoLinesRow, standIns := [], harness := (true, "705f62b81cc38fcb1c5bb4b2bdac7b66a8cdd48b6ca4bfbdaa2f0f436423afd7"), looks := false }, kinds := [], alts := [], laidByText := true, laidKinds := [.data, .data, .data, .data, .pinned], laidTests := true, laidLooks := .later }
def TodoLinesCardSaid : Prop := Claim7.holds Tryd.pinned (.plain (OpenSpec.ofChange todoLinesSpec)) todoLinesCard

/-- THE SECOND FORM's CARD OF 'rectolaw21.TodoPlain'. -/
def todoPlainUptoCard : Claim7 := { stood := { row := todoPlainUptoRow, standIns := [], harness := (true, "705f62b81cc38fcb1c5bb4b2bdac7b66a8cdd48b6ca4bfbdaa2f0f436423afd7"), looks := false }, kinds := [], alts := [], laidByText := true, laidKinds := [.data, .data, .data, .data, .pinned], laidTests := true, laidLooks := .later }
def TodoPlainUptoCardSaid : Prop := Claim7.holds Tryd.pinned (.plain (OpenSpec.upto todoPlainSpec)) todoPlainUptoCard

/-- THE SECOND FORM's CARD OF 'rectolaw21.TodoLines'. -/
def todoLinesUptoCard : Claim7 := { stood := { row := todoLinesUptoRow, standIns := [], harness := (true, "705f62b81cc38fcb1c5bb4b2bdac7b66a8cdd48b6ca4bfbdaa2f0f436423afd7"), looks := false }, kinds := [], alts := [], laidByText := true, laidKinds := [.data, .data, .data, .data, .pinned], laidTests := true, laidLooks := .later }
def TodoLinesUptoCardSaid : Prop := Claim7.holds Tryd.pinned (.plain (OpenSpec.upto todoLinesSpec)) todoLinesUptoCard
end Rows
end Go.Proofs.YtanjcjnkppnhcaaDoor
