/-
  No cell of these rows narrows 'for every input' (looked for: loops, veiled, ifaces, maps, wideKeys, modest, calm, conditions, laid).
  DERIVED. THE GIVEN ROWS OF THIS SEAT. 6 by the template 'for every input the law returns true; each argument reads behind the call as it read before'; 0 by the template 'total and deterministic' (their statements: YtojjhnjkibpfeaaTotals.lean).
  GIVEN WITH THE SEED: the statements are not yours to turn. If you find one false, say at which input.
  Laid BY PROGRAM, IN A SANDBOX (cutbox-rows.mjs): the forced cells as the released guide's own fill.sh prints them over the translation bca8826f0bfe2645… (all of the seat's roots in one cut). By AI agents, Wed Nov 11 2026. No macro, syntax, notation, axiom, sorry.
-/
import Derived.Test.YtojjhnjkibpfeaaChecked
import GoSem.Claim
import GoSem.ClaimJoined
import GoSem.ClaimMapViews
import Derived.JoinedTies
import Derived.KernelRfl
namespace Go.Proofs.Ytojjhnjkibpfeaa
/- THE CELL 'sum', in the pinned program and in every row, IS THE sha256 OF THE DUMP (.gsa) THAT YtojjhnjkibpfeaaProg.lean LOADS. Nothing in Lean hashes anything: it is a label: what it is worth is what the hold of that sum in a sandbox is worth. -/
noncomputable def Try.pinned : Pinned := { name := "ytojjhnjkibpfeaa", sum := "bca8826f0bfe264594f539bc4ee66eaaf172493e33e3b29f8144642a7d3b2ab5", checked := Try.checked }
namespace Rows
def none {H : Type} : Left H := { results := [], args := [] }

/-- 'rectolaw10.LinesAny': WHATEVER THE INPUT: true; the input reads as it did. -/
def linesAnySpec : ChangeSpec := { name := "linesAny", fn := fun _ => fun
  | [d] => { results := [.lit (.bool true)], args := [d] }
  | _ => none }
def linesAnyRow : OpenClaim := { program := "ytojjhnjkibpfeaa", sum := "bca8826f0bfe264594f539bc4ee66eaaf172493e33e3b29f8144642a7d3b2ab5", func := "recto/rectolaw10.LinesAny", spec := "linesAny", inPlace := ["internal/abi.NoEscape", "internal/bytealg.MakeNoZero"], apart := false }
def LinesAnySaid : Prop := linesAnyRow.holds Try.pinned (OpenSpec.ofChange linesAnySpec)

/-- ITS FALSE NEIGHBOUR: 'it returns false'. Refute it at one input. -/
def linesAnyWrong : ChangeSpec := { name := "linesAny", fn := fun _ => fun
  | [d] => { results := [.lit (.bool false)], args := [d] }
  | _ => none }
def LinesAnyWrongFalsely : Prop := linesAnyRow.holds Try.pinned (OpenSpec.ofChange linesAnyWrong)

/-- 'rectolaw10.LinesTwo': WHATEVER THE INPUT: true; the input reads as it did. -/
def linesTwoSpec : ChangeSpec := { name := "linesTwo", fn := fun _ => fun
  | [d1, d2] => { results := [.lit (.bool true)], args := [d1, d2] }
  | _ => none }
def linesTwoRow : OpenClaim := { program := "ytojjhnjkibpfeaa", sum := "bca8826f0bfe264594f539bc4ee66eaaf172493e33e3b29f8144642a7d3b2ab5", func := "recto/rectolaw10.LinesTwo", spec := "linesTwo", inPlace := ["internal/abi.NoEscape", "internal/bytealg.MakeNoZero"], apart := false }
def LinesTwoSaid : Prop := linesTwoRow.holds Try.pinned (OpenSpec.ofChange linesTwoSpec)

/-- ITS FALSE NEIGHBOUR: 'it returns false'. Refute it at one input. -/
def linesTwoWrong : ChangeSpec := { name := "linesTwo", fn := fun _ => fun
  | [d1, d2] => { results := [.lit (.bool false)], args := [d1, d2] }
  | _ => none }
def LinesTwoWrongFalsely : Prop := linesTwoRow.holds Try.pinned (OpenSpec.ofChange linesTwoWrong)

/-- 'rectolaw10.LinesTexts': WHATEVER THE INPUT: true; the input reads as it did. -/
def linesTextsSpec : ChangeSpec := { name := "linesTexts", fn := fun _ => fun
  | [d1, d2] => { results := [.lit (.bool true)], args := [d1, d2] }
  | _ => none }
def linesTextsRow : OpenClaim := { program := "ytojjhnjkibpfeaa", sum := "bca8826f0bfe264594f539bc4ee66eaaf172493e33e3b29f8144642a7d3b2ab5", func := "recto/rectolaw10.LinesTexts", spec := "linesTexts", inPlace := ["internal/abi.NoEscape", "internal/bytealg.MakeNoZero"], apart := false }
def LinesTextsSaid : Prop := linesTextsRow.holds Try.pinned (OpenSpec.ofChange linesTextsSpec)

/-- ITS FALSE NEIGHBOUR: 'it returns false'. Refute it at one input. -/
def linesTextsWrong : ChangeSpec := { name := "linesTexts", fn := fun _ => fun
  | [d1, d2] => { results := [.lit (.bool false)], args := [d1, d2] }
  | _ => none }
def LinesTextsWrongFalsely : Prop := linesTextsRow.holds Try.pinned (OpenSpec.ofChange linesTextsWrong)

/-- 'rectolaw11.DiffDone': WHATEVER THE INPUT: true; the input reads as it did. -/
def diffDoneSpec : ChangeSpec := { name := "diffDone", fn := fun _ => fun
  | [d1, d2] => { results := [.lit (.bool true)], args := [d1, d2] }
  | _ => none }
def diffDoneRow : OpenClaim := { program := "ytojjhnjkibpfeaa", sum := "bca8826f0bfe264594f539bc4ee66eaaf172493e33e3b29f8144642a7d3b2ab5", func := "recto/rectolaw11.DiffDone", spec := "diffDone", apart := false }
def DiffDoneSaid : Prop := diffDoneRow.holds Try.pinned (OpenSpec.ofChange diffDoneSpec)

/-- ITS FALSE NEIGHBOUR: 'it returns false'. Refute it at one input. -/
def diffDoneWrong : ChangeSpec := { name := "diffDone", fn := fun _ => fun
  | [d1, d2] => { results := [.lit (.bool false)], args := [d1, d2] }
  | _ => none }
def DiffDoneWrongFalsely : Prop := diffDoneRow.holds Try.pinned (OpenSpec.ofChange diffDoneWrong)

/-- 'rectolaw11.DiffLeast': WHATEVER THE INPUT: true; the input reads as it did. -/
def diffLeastSpec : ChangeSpec := { name := "diffLeast", fn := fun _ => fun
  | [d1, d2, d3] => { results := [.lit (.bool true)], args := [d1, d2, d3] }
  | _ => none }
def diffLeastRow : OpenClaim := { program := "ytojjhnjkibpfeaa", sum := "bca8826f0bfe264594f539bc4ee66eaaf172493e33e3b29f8144642a7d3b2ab5", func := "recto/rectolaw11.DiffLeast", spec := "diffLeast", apart := false }
def DiffLeastSaid : Prop := diffLeastRow.holds Try.pinned (OpenSpec.ofChange diffLeastSpec)

/-- ITS FALSE NEIGHBOUR: 'it returns false'. Refute it at one input. -/
def diffLeastWrong : ChangeSpec := { name := "diffLeast", fn := fun _ => fun
  | [d1, d2, d3] => { results := [.lit (.bool false)], args := [d1, d2, d3] }
  | _ => none }
def DiffLeastWrongFalsely : Prop := diffLeastRow.holds Try.pinned (OpenSpec.ofChange diffLeastWrong)

/-- 'rectolaw11.DiffTurned': WHATEVER THE INPUT: true; the input reads as it did. -/
def diffTurnedSpec : ChangeSpec := { name := "diffTurned", fn := fun _ => fun
  | [d1, d2] => { results := [.lit (.bool true)], args := [d1, d2] }
  | _ => none }
def diffTurnedRow : OpenClaim := { program := "ytojjhnjkibpfeaa", sum := "bca8826f0bfe264594f539bc4ee66eaaf172493e33e3b29f8144642a7d3b2ab5", func := "recto/rectolaw11.DiffTurned", spec := "diffTurned", apart := false }
def DiffTurnedSaid : Prop := diffTurnedRow.holds Try.pinned (OpenSpec.ofChange diffTurnedSpec)

/-- ITS FALSE NEIGHBOUR: 'it returns false'. Refute it at one input. -/
def diffTurnedWrong : ChangeSpec := { name := "diffTurned", fn := fun _ => fun
  | [d1, d2] => { results := [.lit (.bool false)], args := [d1, d2] }
  | _ => none }
def DiffTurnedWrongFalsely : Prop := diffTurnedRow.holds Try.pinned (OpenSpec.ofChange diffTurnedWrong)

/- THE SECOND FORM. 'bulk': how many values and letters a reading holds, each counted each time it is reached (what is shared counts as often as it is met; a slice's spare places count too). A statement '..UptoSaid' is the law's where the arguments, and the package variables that the reading takes, are together of bulk at most 1048576: NARROWER than '..Said'. Prove '..Said' where nothing that the law and all that it calls make is longer than what came in: it says more and counts as full. Else prove '..UptoSaid'. A law counts once. -/
mutual
def uptoBulk {H : Type} : DataW H → Nat
  | .lit (.string bytes) => bytes.length + 1
  | .lit _ => 1
  | .nil => 1
  | .ptr d => uptoBulk d + 1
  | .slice elems spare => uptoBulkAll elems + uptoBulkAll spare + 1
  | .agg parts => uptoBulkAll parts + 1
  | .iface _ d => uptoBulk d + 1
  | .map entries => uptoBulkEntries entries + 1
  | .held _ => 1
def uptoBulkAll {H : Type} : List (DataW H) → Nat
  | [] => 0
  | d :: r => uptoBulk d + uptoBulkAll r
def uptoBulkEntries {H : Type} : List (Lit × DataW H) → Nat
  | [] => 0
  | x :: r => uptoBulkEntry x + uptoBulkEntries r
def uptoBulkEntry {H : Type} : Lit × DataW H → Nat
  | (.string bytes, d) => bytes.length + uptoBulk d + 1
  | (_, d) => uptoBulk d + 1
 end
def uptoSmall : (H : Type) → List (DataW H) → Bool := fun _ ds => decide (uptoBulkAll ds ≤ 1048576)
def OpenSpec.upto (s : _root_.Go.ChangeSpec) : _root_.Go.OpenSpec := { _root_.Go.OpenSpec.ofChange s with cond := some uptoSmall }

/-- 'rectolaw10.LinesAny', WHERE WHAT IT READS IS OF BULK AT MOST 1048576: true; the input reads as it did. -/
def linesAnyUptoRow : OpenClaim := { program := "ytojjhnjkibpfeaa", sum := "bca8826f0bfe264594f539bc4ee66eaaf172493e33e3b29f8144642a7d3b2ab5", func := "recto/rectolaw10.LinesAny", spec := "linesAny", inPlace := ["internal/abi.NoEscape", "internal/bytealg.MakeNoZero"], apart := false, narrowed := true }
def LinesAnyUptoSaid : Prop := linesAnyUptoRow.holds Try.pinned (OpenSpec.upto linesAnySpec)

/-- 'rectolaw10.LinesTwo', WHERE WHAT IT READS IS OF BULK AT MOST 1048576: true; the input reads as it did. -/
def linesTwoUptoRow : OpenClaim := { program := "ytojjhnjkibpfeaa", sum := "bca8826f0bfe264594f539bc4ee66eaaf172493e33e3b29f8144642a7d3b2ab5", func := "recto/rectolaw10.LinesTwo", spec := "linesTwo", inPlace := ["internal/abi.NoEscape", "internal/bytealg.MakeNoZero"], apart := false, narrowed := true }
def LinesTwoUptoSaid : Prop := linesTwoUptoRow.holds Try.pinned (OpenSpec.upto linesTwoSpec)

/-- 'rectolaw10.LinesTexts', WHERE WHAT IT READS IS OF BULK AT MOST 1048576: true; the input reads as it did. -/
def linesTextsUptoRow : OpenClaim := { program := "ytojjhnjkibpfeaa", sum := "bca8826f0bfe264594f539bc4ee66eaaf172493e33e3b29f8144642a7d3b2ab5", func := "recto/rectolaw10.LinesTexts", spec := "linesTexts", inPlace := ["internal/abi.NoEscape", "internal/bytealg.MakeNoZero"], apart := false, narrowed := true }
def LinesTextsUptoSaid : Prop := linesTextsUptoRow.holds Try.pinned (OpenSpec.upto linesTextsSpec)

/-- 'rectolaw11.DiffDone', WHERE WHAT IT READS IS OF BULK AT MOST 1048576: true; the input reads as it did. -/
def diffDoneUptoRow : OpenClaim := { program := "ytojjhnjkibpfeaa", sum := "bca8826f0bfe264594f539bc4ee66eaaf172493e33e3b29f8144642a7d3b2ab5", func := "recto/rectolaw11.DiffDone", spec := "diffDone", apart := false, narrowed := true }
def DiffDoneUptoSaid : Prop := diffDoneUptoRow.holds Try.pinned (OpenSpec.upto diffDoneSpec)

/-- 'rectolaw11.DiffLeast', WHERE WHAT IT READS IS OF BULK AT MOST 1048576: true; the input reads as it did. -/
def diffLeastUptoRow : OpenClaim := { program := "ytojjhnjkibpfeaa", sum := "bca8826f0bfe264594f539bc4ee66eaaf172493e33e3b29f8144642a7d3b2ab5", func := "recto/rectolaw11.DiffLeast", spec := "diffLeast", apart := false, narrowed := true }
def DiffLeastUptoSaid : Prop := diffLeastUptoRow.holds Try.pinned (OpenSpec.upto diffLeastSpec)

/-- 'rectolaw11.DiffTurned', WHERE WHAT IT READS IS OF BULK AT MOST 1048576: true; the input reads as it did. -/
def diffTurnedUptoRow : OpenClaim := { program := "ytojjhnjkibpfeaa", sum := "bca8826f0bfe264594f539bc4ee66eaaf172493e33e3b29f8144642a7d3b2ab5", func := "recto/rectolaw11.DiffTurned", spec := "diffTurned", apart := false, narrowed := true }
def DiffTurnedUptoSaid : Prop := diffTurnedUptoRow.holds Try.pinned (OpenSpec.upto diffTurnedSpec)

end Rows
end Go.Proofs.Ytojjhnjkibpfeaa
