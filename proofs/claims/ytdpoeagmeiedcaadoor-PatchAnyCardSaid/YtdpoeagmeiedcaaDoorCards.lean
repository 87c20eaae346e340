/-
  DERIVED. GIVEN WITH THE SEED: THE CARDS: each row of YtdpoeagmeiedcaaDoorRows.lean that lists a variable, with what it lists TIED to the program's text (the seventh form; the later family's looks); each row that meets fmt, with fmt's text TOLD by the authors' own Lean function (tested against real Go, not proved from fmt's source: count such statements apart). THE CARD IS WHAT COUNTS. Prove the row's statement (the work); the ties are given (YtdpoeagmeiedcaaDoorTie.lean); close each card by the builder's one call (the guide's Derived/Test/ToyasCard.lean, 'card_holds'). Laid BY PROGRAM, IN A SANDBOX (cutbox-door.mjs). By AI agents, Wed Nov 11 2026. No macro, syntax, notation, axiom, sorry.
-/
import Derived.Test.YtdpoeagmeiedcaaDoorRows
import GoSem.ClaimSeven
namespace Go.Proofs.YtdpoeagmeiedcaaDoor
namespace Rows

/-- THE TIED CARD OF 'rectolaw11.DiffAny'. -/
def diffAnyCard : Claim7 := { stood := { row := diffAnyRow, standIns := [], harness := (true, "6ff9e7fb23546b209a6eaccfe3aec002869d02345aab50f23b35973787a91032"), looks := true }, kinds := [], alts := [], laidByText := true, laidKinds := [.handle], laidTests := true, laidLooks := .later }
def DiffAnyCardSaid : Prop := Claim7.holds Tryd.pinned (.plain (OpenSpec.ofChange diffAnySpec)) diffAnyCard

/-- THE TIED CARD OF 'rectolaw12.PatchAny'. -/
def patchAnyCard : Claim7 := { stood := { row := patchAnyRow, standIns := [], harness := (true, "6ff9e7fb23546b209a6eaccfe3aec002869d02345aab50f23b35973787a91032"), looks := true }, kinds := [], alts := [], laidByText := true, laidKinds := [.data, .data, .data], laidTests := true, laidLooks := .later }
def PatchAnyCardSaid : Prop := Claim7.holds Tryd.pinned (.plain (OpenSpec.ofChange patchAnySpec)) patchAnyCard

/-- THE TIED CARD OF 'rectolaw12.PatchHunks'. -/
def patchHunksCard : Claim7 := { stood := { row := patchHunksRow, standIns := [], harness := (true, "6ff9e7fb23546b209a6eaccfe3aec002869d02345aab50f23b35973787a91032"), looks := true }, kinds := [], alts := [], laidByText := true, laidKinds := [.data, .data, .data, .handle], laidTests := true, laidLooks := .later }
def PatchHunksCardSaid : Prop := Claim7.holds Tryd.pinned (.plain (OpenSpec.ofChange patchHunksSpec)) patchHunksCard

/-- THE TIED CARD OF 'rectolaw12.PatchMoved'. -/
def patchMovedCard : Claim7 := { stood := { row := patchMovedRow, standIns := [], harness := (true, "6ff9e7fb23546b209a6eaccfe3aec002869d02345aab50f23b35973787a91032"), looks := true }, kinds := [], alts := [], laidByText := true, laidKinds := [.data, .data, .data], laidTests := true, laidLooks := .later }
def PatchMovedCardSaid : Prop := Claim7.holds Tryd.pinned (.plain (OpenSpec.ofChange patchMovedSpec)) patchMovedCard

/-- THE TIED CARD OF 'rectolaw13.MergeChunks'. -/
def mergeChunksCard : Claim7 := { stood := { row := mergeChunksRow, standIns := [], harness := (true, "6ff9e7fb23546b209a6eaccfe3aec002869d02345aab50f23b35973787a91032"), looks := true }, kinds := [], alts := [], laidByText := true, laidKinds := [.handle], laidTests := true, laidLooks := .later }
def MergeChunksCardSaid : Prop := Claim7.holds Tryd.pinned (.plain (OpenSpec.ofChange mergeChunksSpec)) mergeChunksCard

/-- THE SECOND FORM's CARD OF 'rectolaw11.DiffAny'. -/
def diffAnyUptoCard : Claim7 := { stood := { row := diffAnyUptoRow, standIns := [], harness := (true, "6ff9e7fb23546b209a6eaccfe3aec002869d02345aab50f23b35973787a91032"), looks := true }, kinds := [], alts := [], laidByText := true, laidKinds := [.handle], laidTests := true, laidLooks := .later }
def DiffAnyUptoCardSaid : Prop := Claim7.holds Tryd.pinned (.plain (OpenSpec.upto diffAnySpec)) diffAnyUptoCard

/-- THE SECOND FORM's CARD OF 'rectolaw12.PatchAny'. -/
def patchAnyUptoCard : Claim7 := { stood := { row := patchAnyUptoRow, standIns := [], harness := (true, "6ff9e7fb23546b209a6eaccfe3aec002869d02345aab50f23b35973787a91032"), looks := true }, kinds := [], alts := [], laidByText := true, laidKinds := [.data, .data, .data], laidTests := true, laidLooks := .later }
def PatchAnyUptoCardSaid : Prop := Claim7.holds Tryd.pinned (.plain (OpenSpec.upto patchAnySpec)) patchAnyUptoCard

/-- THE SECOND FORM's CARD OF 'rectolaw12.PatchHunks'. -/
def patchHunksUptoCard : Claim7 := { stood := { row := patchHunksUptoRow, standIns := [], harness := (true, "6ff9e7fb23546b209a6eaccfe3aec002869d02345aab50f23b35973787a91032"), looks := true }, kinds := [], alts := [], laidByText := true, laidKinds := [.data, .data, .data, .handle], laidTests := true, laidLooks := .later }
def PatchHunksUptoCardSaid : Prop := Claim7.holds Tryd.pinned (.plain (OpenSpec.upto patchHunksSpec)) patchHunksUptoCard

/-- THE SECOND FORM's CARD OF 'rectolaw12.PatchMoved'. -/
def patchMovedUptoCard : Claim7 := { stood := { row := patchMovedUptoRow, standIns := [], harness := (true, "6ff9e7fb23546b209a6eaccfe3aec002869d02345aab50f23b35973787a91032"), looks := true }, kinds := [], alts := [], laidByText := true, laidKinds := [.data, .data, .data], laidTests := true, laidLooks := .later }
def PatchMovedUptoCardSaid : Prop := Claim7.holds Tryd.pinned (.plain (OpenSpec.upto patchMovedSpec)) patchMovedUptoCard

/-- THE SECOND FORM's CARD OF 'rectolaw13.MergeChunks'. -/
def mergeChunksUptoCard : Claim7 := { stood := { row := mergeChunksUptoRow, standIns := [], harness := (true, "6ff9e7fb23546b209a6eaccfe3aec002869d02345aab50f23b35973787a91032"), looks := true }, kinds := [], alts := [], laidByText := true, laidKinds := [.handle], laidTests := true, laidLooks := .later }
def MergeChunksUptoCardSaid : Prop := Claim7.holds Tryd.pinned (.plain (OpenSpec.upto mergeChunksSpec)) mergeChunksUptoCard
end Rows
end Go.Proofs.YtdpoeagmeiedcaaDoor
