/-
  NARROWER THAN 'FOR EVERY INPUT', by the rows' own cells (each row's printed sentence says how): RowTwo: laid · RowPut: laid · RowDiffs: laid · IndexStages: laid.
  DERIVED. THE GIVEN ROWS OF THIS SEAT. 4 by the template 'for every input the law returns true; each argument reads behind the call as it read before'; 0 by the template 'total and deterministic' (their statements: YtplleaimmmanhaaDoorTotals.lean).
  GIVEN WITH THE SEED: the statements are not yours to turn. If you find one false, say at which input.
  Laid BY PROGRAM, IN A SANDBOX (cutbox-rows.mjs): the forced cells as the released guide's own fill.sh prints them over the translation 90c41554f34fac89… (all of the seat's roots in one cut). By AI agents, Wed Nov 11 2026. No macro, syntax, notation, axiom, sorry.
-/
import Derived.Test.YtplleaimmmanhaaDoorChecked
import GoSem.PinnedTables
import GoSem.Claim
import GoSem.ClaimJoined
import GoSem.ClaimMapViews
import Derived.JoinedTies
import Derived.KernelRfl
namespace Go.Proofs.YtplleaimmmanhaaDoor
/- THE CELL 'sum', in the pinned program and in every row, IS THE sha256 OF THE DUMP (.gsa) THAT YtplleaimmmanhaaDoorProg.lean LOADS. Nothing in Lean hashes anything: it is a label: what it is worth is what the hold of that sum in a sandbox is worth. -/
noncomputable def Tryd.pinned : Pinned := { name := "ytplleaimmmanhaadoor", sum := "90c41554f34fac8999068ffe3479a91134f9d791cdb411a408c5858b80b0f837", checked := Tryd.checked }
namespace Rows
def none {H : Type} : Left H := { results := [], args := [] }

/- WHAT THE LISTED PACKAGE-LEVEL VARIABLES READ AS WHEN THE CALL BEGINS. Each datum BY PROGRAM (the guide's laid-datum.mjs) off the statement by which the dump's own 'gosem.cut.vars' lays the variable. In a bare row this is a premise. The card (YtplleaimmmanhaaDoorCards.lean) ties it to the program's text. -/
def laid_unicode_utf8_acceptRanges {H : Type} : DataW H := .agg [.agg [.lit (.int .u8 128), .lit (.int .u8 191)], .agg [.lit (.int .u8 160), .lit (.int .u8 191)], .agg [.lit (.int .u8 128), .lit (.int .u8 159)], .agg [.lit (.int .u8 144), .lit (.int .u8 191)], .agg [.lit (.int .u8 128), .lit (.int .u8 143)], .agg [.lit (.int .u8 0), .lit (.int .u8 0)], .agg [.lit (.int .u8 0), .lit (.int .u8 0)], .agg [.lit (.int .u8 0), .lit (.int .u8 0)], .agg [.lit (.int .u8 0), .lit (.int .u8 0)], .agg [.lit (.int .u8 0), .lit (.int .u8 0)], .agg [.lit (.int .u8 0), .lit (.int .u8 0)], .agg [.lit (.int .u8 0), .lit (.int .u8 0)], .agg [.lit (.int .u8 0), .lit (.int .u8 0)], .agg [.lit (.int .u8 0), .lit (.int .u8 0)], .agg [.lit (.int .u8 0), .lit (.int .u8 0)], .agg [.lit (.int .u8 0), .lit (.int .u8 0)]]
/-- One of Go's own tables, pinned by name: the form's constant. -/
def laid_unicode_utf8_first : DataW Unit := Go.Pinned.utf8First
def laid_recto_seal_halves {H : Type} : DataW H := .agg [.lit (.int .u32 0), .lit (.int .u32 498536548), .lit (.int .u32 997073096), .lit (.int .u32 651767980), .lit (.int .u32 1994146192), .lit (.int .u32 1802195444), .lit (.int .u32 1303535960), .lit (.int .u32 1342533948), .lit (.int .u32 3988292384), .lit (.int .u32 4027552580), .lit (.int .u32 3604390888), .lit (.int .u32 3412177804), .lit (.int .u32 2607071920), .lit (.int .u32 2262029012), .lit (.int .u32 2685067896), .lit (.int .u32 3183342108)]

/-- 'rectolaw14.RowTwo': WHATEVER THE INPUT: true; the input reads as it did. -/
def rowTwoSpec : ChangeSpec := { name := "rowTwo", fn := fun _ => fun
  | [d1, d2] => { results := [.lit (.bool true)], args := [d1, d2] }
  | _ => none }
def rowTwoRow : OpenClaim := { program := "ytplleaimmmanhaadoor", sum := "90c41554f34fac8999068ffe3479a91134f9d791cdb411a408c5858b80b0f837", func := "recto/rectolaw14.RowTwo", spec := "rowTwo", inPlace := ["internal/bytealg.abigen_runtime_cmpstring", "internal/bytealg.IndexByteString", "internal/bytealg.IndexString"], unfollowed := true, recurses := true, named := ["unicode/utf8.first", "unicode/utf8.acceptRanges", "internal/bytealg.MaxLen"], apart := false, laid := [("unicode/utf8.acceptRanges", laid_unicode_utf8_acceptRanges), ("unicode/utf8.first", laid_unicode_utf8_first)] }
def RowTwoSaid : Prop := rowTwoRow.holds Tryd.pinned (OpenSpec.ofChange rowTwoSpec)

/-- ITS FALSE NEIGHBOUR: 'it returns false'. Refute it at one input. -/
def rowTwoWrong : ChangeSpec := { name := "rowTwo", fn := fun _ => fun
  | [d1, d2] => { results := [.lit (.bool false)], args := [d1, d2] }
  | _ => none }
def RowTwoWrongFalsely : Prop := rowTwoRow.holds Tryd.pinned (OpenSpec.ofChange rowTwoWrong)

/-- 'rectolaw14.RowPut': WHATEVER THE INPUT: true; the input reads as it did. -/
def rowPutSpec : ChangeSpec := { name := "rowPut", fn := fun _ => fun
  | [d1, d2] => { results := [.lit (.bool true)], args := [d1, d2] }
  | _ => none }
def rowPutRow : OpenClaim := { program := "ytplleaimmmanhaadoor", sum := "90c41554f34fac8999068ffe3479a91134f9d791cdb411a408c5858b80b0f837", func := "recto/rectolaw14.RowPut", spec := "rowPut", inPlace := ["internal/bytealg.abigen_runtime_cmpstring", "internal/bytealg.IndexByteString", "internal/bytealg.IndexString"], unfollowed := true, recurses := true, named := ["unicode/utf8.first", "unicode/utf8.acceptRanges", "internal/bytealg.MaxLen"], apart := false, laid := [("unicode/utf8.acceptRanges", laid_unicode_utf8_acceptRanges), ("unicode/utf8.first", laid_unicode_utf8_first)] }
def RowPutSaid : Prop := rowPutRow.holds Tryd.pinned (OpenSpec.ofChange rowPutSpec)

/-- ITS FALSE NEIGHBOUR: 'it returns false'. Refute it at one input. -/
def rowPutWrong : ChangeSpec := { name := "rowPut", fn := fun _ => fun
  | [d1, d2] => { results := [.lit (.bool false)], args := [d1, d2] }
  | _ => none }
def RowPutWrongFalsely : Prop := rowPutRow.holds Tryd.pinned (OpenSpec.ofChange rowPutWrong)

/-- 'rectolaw14.RowDiffs': WHATEVER THE INPUT: true; the input reads as it did. -/
def rowDiffsSpec : ChangeSpec := { name := "rowDiffs", fn := fun _ => fun
  | [d1, d2] => { results := [.lit (.bool true)], args := [d1, d2] }
  | _ => none }
def rowDiffsRow : OpenClaim := { program := "ytplleaimmmanhaadoor", sum := "90c41554f34fac8999068ffe3479a91134f9d791cdb411a408c5858b80b0f837", func := "recto/rectolaw14.RowDiffs", spec := "rowDiffs", inPlace := ["internal/bytealg.abigen_runtime_cmpstring", "internal/bytealg.IndexByteString", "internal/bytealg.IndexString"], unfollowed := true, recurses := true, named := ["unicode/utf8.first", "unicode/utf8.acceptRanges", "internal/bytealg.MaxLen"], apart := false, laid := [("unicode/utf8.acceptRanges", laid_unicode_utf8_acceptRanges), ("unicode/utf8.first", laid_unicode_utf8_first)] }
def RowDiffsSaid : Prop := rowDiffsRow.holds Tryd.pinned (OpenSpec.ofChange rowDiffsSpec)

/-- ITS FALSE NEIGHBOUR: 'it returns false'. Refute it at one input. -/
def rowDiffsWrong : ChangeSpec := { name := "rowDiffs", fn := fun _ => fun
  | [d1, d2] => { results := [.lit (.bool false)], args := [d1, d2] }
  | _ => none }
def RowDiffsWrongFalsely : Prop := rowDiffsRow.holds Tryd.pinned (OpenSpec.ofChange rowDiffsWrong)

/-- 'rectolaw15.IndexStages': WHATEVER THE INPUT: true; the input reads as it did. -/
def indexStagesSpec : ChangeSpec := { name := "indexStages", fn := fun _ => fun
  | [d1, d2] => { results := [.lit (.bool true)], args := [d1, d2] }
  | _ => none }
def indexStagesRow : OpenClaim := { program := "ytplleaimmmanhaadoor", sum := "90c41554f34fac8999068ffe3479a91134f9d791cdb411a408c5858b80b0f837", func := "recto/rectolaw15.IndexStages", spec := "indexStages", inPlace := ["internal/bytealg.abigen_runtime_cmpstring", "slices.overlaps[recto/index.Entry]", "internal/bytealg.IndexByteString", "internal/bytealg.IndexString"], unfollowed := true, recurses := true, named := ["unicode/utf8.first", "unicode/utf8.acceptRanges", "internal/bytealg.MaxLen", "recto/seal.halves"], apart := false, laid := [("unicode/utf8.acceptRanges", laid_unicode_utf8_acceptRanges), ("recto/seal.halves", laid_recto_seal_halves), ("unicode/utf8.first", laid_unicode_utf8_first)] }
def IndexStagesSaid : Prop := indexStagesRow.holds Tryd.pinned (OpenSpec.ofChange indexStagesSpec)

/-- ITS FALSE NEIGHBOUR: 'it returns false'. Refute it at one input. -/
def indexStagesWrong : ChangeSpec := { name := "indexStages", fn := fun _ => fun
  | [d1, d2] => { results := [.lit (.bool false)], args := [d1, d2] }
  | _ => none }
def IndexStagesWrongFalsely : Prop := indexStagesRow.holds Tryd.pinned (OpenSpec.ofChange indexStagesWrong)

/- THE SECOND FORM. 'bulk': how many values and letters a reading holds, each counted each time it is reached (what is shared counts as often as it is met; a slice's spare places count too). A statement '..UptoSaid' is the law's where the arguments, and the package variables that the reading takes, are together of bulk at most 1048576: NARROWER than '..Said'. Prove '..Said' where nothing that the law and all that it calls make is longer than what came in: it says more and counts as full. Else prove '..UptoSaid'. A law counts once. -/
mutual
def uptoBulk {H : Type} : DataW H → Nat
  | .lit (.string bytes) => bytes.length + 1
  | .lit _ => 1
  | .nil => 1
  | .ptr d => uptoBulk d + 1
  | .slice elems spare => uptoBulkAll elems + uptoBulkAll spare + 1
  | .agg parts => uptoBulkAll parts + 1
  | .iface _ d => uptoBulk d + 1
  | .map entries => uptoBulkEntries entries + 1
  | .held _ => 1
def uptoBulkAll {H : Type} : List (DataW H) → Nat
  | [] => 0
  | d :: r => uptoBulk d + uptoBulkAll r
def uptoBulkEntries {H : Type} : List (Lit × DataW H) → Nat
  | [] => 0
  | x :: r => uptoBulkEntry x + uptoBulkEntries r
def uptoBulkEntry {H : Type} : Lit × DataW H → Nat
  | (.string bytes, d) => bytes.length + uptoBulk d + 1
  | (_, d) => uptoBulk d + 1
 end
def uptoSmall : (H : Type) → List (DataW H) → Bool := fun _ ds => decide (uptoBulkAll ds ≤ 1048576)
def OpenSpec.upto (s : _root_.Go.ChangeSpec) : _root_.Go.OpenSpec := { _root_.Go.OpenSpec.ofChange s with cond := some uptoSmall }

/-- 'rectolaw14.RowTwo', WHERE WHAT IT READS IS OF BULK AT MOST 1048576: true; the input reads as it did. -/
def rowTwoUptoRow : OpenClaim := { program := "ytplleaimmmanhaadoor", sum := "90c41554f34fac8999068ffe3479a91134f9d791cdb411a408c5858b80b0f837", func := "recto/rectolaw14.RowTwo", spec := "rowTwo", inPlace := ["internal/bytealg.abigen_runtime_cmpstring", "internal/bytealg.IndexByteString", "internal/bytealg.IndexString"], unfollowed := true, recurses := true, named := ["unicode/utf8.first", "unicode/utf8.acceptRanges", "internal/bytealg.MaxLen"], apart := false, laid := [("unicode/utf8.acceptRanges", laid_unicode_utf8_acceptRanges), ("unicode/utf8.first", laid_unicode_utf8_first)], narrowed := true }
def RowTwoUptoSaid : Prop := rowTwoUptoRow.holds Tryd.pinned (OpenSpec.upto rowTwoSpec)

/-- 'rectolaw14.RowPut', WHERE WHAT IT READS IS OF BULK AT MOST 1048576: true; the input reads as it did. -/
def rowPutUptoRow : OpenClaim := { program := "ytplleaimmmanhaadoor", sum := "90c41554f34fac8999068ffe3479a91134f9d791cdb411a408c5858b80b0f837", func := "recto/rectolaw14.RowPut", spec := "rowPut", inPlace := ["internal/bytealg.abigen_runtime_cmpstring", "internal/bytealg.IndexByteString", "internal/bytealg.IndexString"], unfollowed := true, recurses := true, named := ["unicode/utf8.first", "unicode/utf8.acceptRanges", "internal/bytealg.MaxLen"], apart := false, laid := [("unicode/utf8.acceptRanges", laid_unicode_utf8_acceptRanges), ("unicode/utf8.first", laid_unicode_utf8_first)], narrowed := true }
def RowPutUptoSaid : Prop := rowPutUptoRow.holds Tryd.pinned (OpenSpec.upto rowPutSpec)

/-- 'rectolaw14.RowDiffs', WHERE WHAT IT READS IS OF BULK AT MOST 1048576: true; the input reads as it did. -/
def rowDiffsUptoRow : OpenClaim := { program := "ytplleaimmmanhaadoor", sum := "90c41554f34fac8999068ffe3479a91134f9d791cdb411a408c5858b80b0f837", func := "recto/rectolaw14.RowDiffs", spec := "rowDiffs", inPlace := ["internal/bytealg.abigen_runtime_cmpstring", "internal/bytealg.IndexByteString", "internal/bytealg.IndexString"], unfollowed := true, recurses := true, named := ["unicode/utf8.first", "unicode/utf8.acceptRanges", "internal/bytealg.MaxLen"], apart := false, laid := [("unicode/utf8.acceptRanges", laid_unicode_utf8_acceptRanges), ("unicode/utf8.first", laid_unicode_utf8_first)], narrowed := true }
def RowDiffsUptoSaid : Prop := rowDiffsUptoRow.holds Tryd.pinned (OpenSpec.upto rowDiffsSpec)

/-- 'rectolaw15.IndexStages', WHERE WHAT IT READS IS OF BULK AT MOST 1048576: true; the input reads as it did. -/
def indexStagesUptoRow : OpenClaim := { program := "ytplleaimmmanhaadoor", sum := "90c41554f34fac8999068ffe3479a91134f9d791cdb411a408c5858b80b0f837", func := "recto/rectolaw15.IndexStages", spec := "indexStages", inPlace := ["internal/bytealg.abigen_runtime_cmpstring", "slices.overlaps[recto/index.Entry]", "internal/bytealg.IndexByteString", "internal/bytealg.IndexString"], unfollowed := true, recurses := true, named := ["unicode/utf8.first", "unicode/utf8.acceptRanges", "internal/bytealg.MaxLen", "recto/seal.halves"], apart := false, laid := [("unicode/utf8.acceptRanges", laid_unicode_utf8_acceptRanges), ("recto/seal.halves", laid_recto_seal_halves), ("unicode/utf8.first", laid_unicode_utf8_first)], narrowed := true }
def IndexStagesUptoSaid : Prop := indexStagesUptoRow.holds Tryd.pinned (OpenSpec.upto indexStagesSpec)

end Rows
end Go.Proofs.YtplleaimmmanhaaDoor
