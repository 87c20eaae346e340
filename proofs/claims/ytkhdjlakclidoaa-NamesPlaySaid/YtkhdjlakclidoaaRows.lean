/-
  No cell of these rows narrows 'for every input' (looked for: loops, veiled, ifaces, maps, wideKeys, modest, calm, conditions, laid).
  DERIVED. THE GIVEN ROWS OF THIS SEAT. 4 by the template 'for every input the law returns true; each argument reads behind the call as it read before'; 0 by the template 'total and deterministic' (their statements: YtkhdjlakclidoaaTotals.lean).
  GIVEN WITH THE SEED: the statements are not yours to turn. If you find one false, say at which input.
  Laid BY PROGRAM, IN A SANDBOX (cutbox-rows.mjs): the forced cells as the released guide's own fill.sh prints them over the translation 2e29928f86bc93d1… (all of the seat's roots in one cut). By AI agents, Wed Nov 11 2026. No macro, syntax, notation, axiom, sorry.
-/
import Derived.Test.YtkhdjlakclidoaaChecked
import GoSem.Claim
import GoSem.ClaimJoined
import GoSem.ClaimMapViews
import Derived.JoinedTies
import Derived.KernelRfl
namespace Go.Proofs.Ytkhdjlakclidoaa
/- THE CELL 'sum', in the pinned program and in every row, IS THE sha256 OF THE DUMP (.gsa) THAT YtkhdjlakclidoaaProg.lean LOADS. Nothing in Lean hashes anything: it is a label: what it is worth is what the hold of that sum in a sandbox is worth. -/
noncomputable def Try.pinned : Pinned := { name := "ytkhdjlakclidoaa", sum := "2e29928f86bc93d1d859abac05693bb62cbc10c2e41cfc81d4b47cdac4af2c0f", checked := Try.checked }
namespace Rows
def none {H : Type} : Left H := { results := [], args := [] }

/-- 'rectolaw9.NamesPlay': WHATEVER THE INPUT: true; the input reads as it did. -/
def namesPlaySpec : ChangeSpec := { name := "namesPlay", fn := fun _ => fun
  | [d1, d2] => { results := [.lit (.bool true)], args := [d1, d2] }
  | _ => none }
def namesPlayRow : OpenClaim := { program := "ytkhdjlakclidoaa", sum := "2e29928f86bc93d1d859abac05693bb62cbc10c2e41cfc81d4b47cdac4af2c0f", func := "recto/rectolaw9.NamesPlay", spec := "namesPlay", inPlace := ["internal/bytealg.abigen_runtime_cmpstring", "slices.overlaps[recto/names.Ref]"], unfollowed := true, recurses := true, apart := false }
def NamesPlaySaid : Prop := namesPlayRow.holds Try.pinned (OpenSpec.ofChange namesPlaySpec)

/-- ITS FALSE NEIGHBOUR: 'it returns false'. Refute it at one input. -/
def namesPlayWrong : ChangeSpec := { name := "namesPlay", fn := fun _ => fun
  | [d1, d2] => { results := [.lit (.bool false)], args := [d1, d2] }
  | _ => none }
def NamesPlayWrongFalsely : Prop := namesPlayRow.holds Try.pinned (OpenSpec.ofChange namesPlayWrong)

/-- 'rectolaw9.NamesFull': WHATEVER THE INPUT: true; the input reads as it did. -/
def namesFullSpec : ChangeSpec := { name := "namesFull", fn := fun _ => fun
  | [d] => { results := [.lit (.bool true)], args := [d] }
  | _ => none }
def namesFullRow : OpenClaim := { program := "ytkhdjlakclidoaa", sum := "2e29928f86bc93d1d859abac05693bb62cbc10c2e41cfc81d4b47cdac4af2c0f", func := "recto/rectolaw9.NamesFull", spec := "namesFull", inPlace := ["internal/bytealg.abigen_runtime_cmpstring", "slices.overlaps[recto/names.Ref]"], unfollowed := true, recurses := true, apart := false }
def NamesFullSaid : Prop := namesFullRow.holds Try.pinned (OpenSpec.ofChange namesFullSpec)

/-- ITS FALSE NEIGHBOUR: 'it returns false'. Refute it at one input. -/
def namesFullWrong : ChangeSpec := { name := "namesFull", fn := fun _ => fun
  | [d] => { results := [.lit (.bool false)], args := [d] }
  | _ => none }
def NamesFullWrongFalsely : Prop := namesFullRow.holds Try.pinned (OpenSpec.ofChange namesFullWrong)

/-- 'rectolaw9.NamesSwap': WHATEVER THE INPUT: true; the input reads as it did. -/
def namesSwapSpec : ChangeSpec := { name := "namesSwap", fn := fun _ => fun
  | [d1, d2, d3] => { results := [.lit (.bool true)], args := [d1, d2, d3] }
  | _ => none }
def namesSwapRow : OpenClaim := { program := "ytkhdjlakclidoaa", sum := "2e29928f86bc93d1d859abac05693bb62cbc10c2e41cfc81d4b47cdac4af2c0f", func := "recto/rectolaw9.NamesSwap", spec := "namesSwap", inPlace := ["internal/bytealg.abigen_runtime_cmpstring", "slices.overlaps[recto/names.Ref]"], unfollowed := true, recurses := true, apart := false }
def NamesSwapSaid : Prop := namesSwapRow.holds Try.pinned (OpenSpec.ofChange namesSwapSpec)

/-- ITS FALSE NEIGHBOUR: 'it returns false'. Refute it at one input. -/
def namesSwapWrong : ChangeSpec := { name := "namesSwap", fn := fun _ => fun
  | [d1, d2, d3] => { results := [.lit (.bool false)], args := [d1, d2, d3] }
  | _ => none }
def NamesSwapWrongFalsely : Prop := namesSwapRow.holds Try.pinned (OpenSpec.ofChange namesSwapWrong)

/-- 'rectolaw9.NamesHead': WHATEVER THE INPUT: true; the input reads as it did. -/
def namesHeadSpec : ChangeSpec := { name := "namesHead", fn := fun _ => fun
  | [d1, d2, d3] => { results := [.lit (.bool true)], args := [d1, d2, d3] }
  | _ => none }
def namesHeadRow : OpenClaim := { program := "ytkhdjlakclidoaa", sum := "2e29928f86bc93d1d859abac05693bb62cbc10c2e41cfc81d4b47cdac4af2c0f", func := "recto/rectolaw9.NamesHead", spec := "namesHead", inPlace := ["internal/bytealg.abigen_runtime_cmpstring", "slices.overlaps[recto/names.Ref]"], unfollowed := true, recurses := true, apart := false }
def NamesHeadSaid : Prop := namesHeadRow.holds Try.pinned (OpenSpec.ofChange namesHeadSpec)

/-- ITS FALSE NEIGHBOUR: 'it returns false'. Refute it at one input. -/
def namesHeadWrong : ChangeSpec := { name := "namesHead", fn := fun _ => fun
  | [d1, d2, d3] => { results := [.lit (.bool false)], args := [d1, d2, d3] }
  | _ => none }
def NamesHeadWrongFalsely : Prop := namesHeadRow.holds Try.pinned (OpenSpec.ofChange namesHeadWrong)

/- THE SECOND FORM. 'bulk': how many values and letters a reading holds, each counted each time it is reached (what is shared counts as often as it is met; a slice's spare places count too). A statement '..UptoSaid' is the law's where the arguments, and the package variables that the reading takes, are together of bulk at most 1048576: NARROWER than '..Said'. Prove '..Said' where nothing that the law and all that it calls make is longer than what came in: it says more and counts as full. Else prove '..UptoSaid'. A law counts once. -/
mutual
def uptoBulk {H : Type} : DataW H → Nat
  | .lit (.string bytes) => bytes.length + 1
  | .lit _ => 1
  | .nil => 1
  | .ptr d => uptoBulk d + 1
  | .slice elems spare => uptoBulkAll elems + uptoBulkAll spare + 1
  | .agg parts => uptoBulkAll parts + 1
  | .iface _ d => uptoBulk d + 1
  | .map entries => uptoBulkEntries entries + 1
  | .held _ => 1
def uptoBulkAll {H : Type} : List (DataW H) → Nat
  | [] => 0
  | d :: r => uptoBulk d + uptoBulkAll r
def uptoBulkEntries {H : Type} : List (Lit × DataW H) → Nat
  | [] => 0
  | x :: r => uptoBulkEntry x + uptoBulkEntries r
def uptoBulkEntry {H : Type} : Lit × DataW H → Nat
  | (.string bytes, d) => bytes.length + uptoBulk d + 1
  | (_, d) => uptoBulk d + 1
 end
def uptoSmall : (H : Type) → List (DataW H) → Bool := fun _ ds => decide (uptoBulkAll ds ≤ 1048576)
def OpenSpec.upto (s : _root_.Go.ChangeSpec) : _root_.Go.OpenSpec := { _root_.Go.OpenSpec.ofChange s with cond := some uptoSmall }

/-- 'rectolaw9.NamesPlay', WHERE WHAT IT READS IS OF BULK AT MOST 1048576: true; the input reads as it did. -/
def namesPlayUptoRow : OpenClaim := { program := "ytkhdjlakclidoaa", sum := "2e29928f86bc93d1d859abac05693bb62cbc10c2e41cfc81d4b47cdac4af2c0f", func := "recto/rectolaw9.NamesPlay", spec := "namesPlay", inPlace := ["internal/bytealg.abigen_runtime_cmpstring", "slices.overlaps[recto/names.Ref]"], unfollowed := true, recurses := true, apart := false, narrowed := true }
def NamesPlayUptoSaid : Prop := namesPlayUptoRow.holds Try.pinned (OpenSpec.upto namesPlaySpec)

/-- 'rectolaw9.NamesFull', WHERE WHAT IT READS IS OF BULK AT MOST 1048576: true; the input reads as it did. -/
def namesFullUptoRow : OpenClaim := { program := "ytkhdjlakclidoaa", sum := "2e29928f86bc93d1d859abac05693bb62cbc10c2e41cfc81d4b47cdac4af2c0f", func := "recto/rectolaw9.NamesFull", spec := "namesFull", inPlace := ["internal/bytealg.abigen_runtime_cmpstring", "slices.overlaps[recto/names.Ref]"], unfollowed := true, recurses := true, apart := false, narrowed := true }
def NamesFullUptoSaid : Prop := namesFullUptoRow.holds Try.pinned (OpenSpec.upto namesFullSpec)

/-- 'rectolaw9.NamesSwap', WHERE WHAT IT READS IS OF BULK AT MOST 1048576: true; the input reads as it did. -/
def namesSwapUptoRow : OpenClaim := { program := "ytkhdjlakclidoaa", sum := "2e29928f86bc93d1d859abac05693bb62cbc10c2e41cfc81d4b47cdac4af2c0f", func := "recto/rectolaw9.NamesSwap", spec := "namesSwap", inPlace := ["internal/bytealg.abigen_runtime_cmpstring", "slices.overlaps[recto/names.Ref]"], unfollowed := true, recurses := true, apart := false, narrowed := true }
def NamesSwapUptoSaid : Prop := namesSwapUptoRow.holds Try.pinned (OpenSpec.upto namesSwapSpec)

/-- 'rectolaw9.NamesHead', WHERE WHAT IT READS IS OF BULK AT MOST 1048576: true; the input reads as it did. -/
def namesHeadUptoRow : OpenClaim := { program := "ytkhdjlakclidoaa", sum := "2e29928f86bc93d1d859abac05693bb62cbc10c2e41cfc81d4b47cdac4af2c0f", func := "recto/rectolaw9.NamesHead", spec := "namesHead", inPlace := ["internal/bytealg.abigen_runtime_cmpstring", "slices.overlaps[recto/names.Ref]"], unfollowed := true, recurses := true, apart := false, narrowed := true }
def NamesHeadUptoSaid : Prop := namesHeadUptoRow.holds Try.pinned (OpenSpec.upto namesHeadSpec)

end Rows
end Go.Proofs.Ytkhdjlakclidoaa
