/-
  NARROWER THAN 'FOR EVERY INPUT', by the rows' own cells (each row's printed sentence says how): FilesPlay: laid · FilesSync: laid · FilesRename: laid · FilesArms: laid · StatFresh: laid · StatNever: laid · StatSmudged: laid.
  DERIVED. THE GIVEN ROWS OF THIS SEAT. 7 by the template 'for every input the law returns true; each argument reads behind the call as it read before'; 0 by the template 'total and deterministic' (their statements: YtcnmlgmlijgmhaaDoorTotals.lean).
  GIVEN WITH THE SEED: the statements are not yours to turn. If you find one false, say at which input.
  Laid BY PROGRAM, IN A SANDBOX (cutbox-rows.mjs): the forced cells as the released guide's own fill.sh prints them over the translation e23312fc994875bf… (all of the seat's roots in one cut). By AI agents, Wed Nov 11 2026. No macro, syntax, notation, axiom, sorry.
-/
import Derived.Test.YtcnmlgmlijgmhaaDoorChecked
import GoSem.PinnedTables
import GoSem.Claim
import GoSem.ClaimJoined
import GoSem.ClaimMapViews
import Derived.JoinedTies
import Derived.KernelRfl
namespace Go.Proofs.YtcnmlgmlijgmhaaDoor
/- THE CELL 'sum', in the pinned program and in every row, IS THE sha256 OF THE DUMP (.gsa) THAT YtcnmlgmlijgmhaaDoorProg.lean LOADS. Nothing in Lean hashes anything: it is a label: what it is worth is what the hold of that sum in a sandbox is worth. -/
noncomputable def Tryd.pinned : Pinned := { name := "ytcnmlgmlijgmhaadoor", sum := "e23312fc994875bf23c51e6bcc42248395c140dc23dcef2591e48a40db47de01", checked := Tryd.checked }
namespace Rows
def none {H : Type} : Left H := { results := [], args := [] }

/- WHAT THE LISTED PACKAGE-LEVEL VARIABLES READ AS WHEN THE CALL BEGINS. Each datum BY PROGRAM (the guide's laid-datum.mjs) off the statement by which the dump's own 'gosem.cut.vars' lays the variable. In a bare row this is a premise. The card (YtcnmlgmlijgmhaaDoorCards.lean) ties it to the program's text. -/
def laid_unicode_utf8_acceptRanges {H : Type} : DataW H := .agg [.agg [.lit (.int .u8 128), .lit (.int .u8 191)], .agg [.lit (.int .u8 160), .lit (.int .u8 191)], .agg [.lit (.int .u8 128), .lit (.int .u8 159)], .agg [.lit (.int .u8 144), .lit (.int .u8 191)], .agg [.lit (.int .u8 128), .lit (.int .u8 143)], .agg [.lit (.int .u8 0), .lit (.int .u8 0)], .agg [.lit (.int .u8 0), .lit (.int .u8 0)], .agg [.lit (.int .u8 0), .lit (.int .u8 0)], .agg [.lit (.int .u8 0), .lit (.int .u8 0)], .agg [.lit (.int .u8 0), .lit (.int .u8 0)], .agg [.lit (.int .u8 0), .lit (.int .u8 0)], .agg [.lit (.int .u8 0), .lit (.int .u8 0)], .agg [.lit (.int .u8 0), .lit (.int .u8 0)], .agg [.lit (.int .u8 0), .lit (.int .u8 0)], .agg [.lit (.int .u8 0), .lit (.int .u8 0)], .agg [.lit (.int .u8 0), .lit (.int .u8 0)]]
/-- One of Go's own tables, pinned by name: the form's constant. -/
def laid_unicode_utf8_first : DataW Unit := Go.Pinned.utf8First

/-- 'rectolaw5.FilesPlay': WHATEVER THE INPUT: true; the input reads as it did. -/
def filesPlaySpec : ChangeSpec := { name := "filesPlay", fn := fun _ => fun
  | [d1, d2] => { results := [.lit (.bool true)], args := [d1, d2] }
  | _ => none }
def filesPlayRow : OpenClaim := { program := "ytcnmlgmlijgmhaadoor", sum := "e23312fc994875bf23c51e6bcc42248395c140dc23dcef2591e48a40db47de01", func := "recto/rectolaw5.FilesPlay", spec := "filesPlay", inPlace := ["internal/bytealg.IndexByteString", "internal/bytealg.IndexString", "maps.clone", "internal/bytealg.abigen_runtime_cmpstring"], unfollowed := true, recurses := true, named := ["unicode/utf8.first", "unicode/utf8.acceptRanges", "internal/bytealg.MaxLen"], apart := false, laid := [("unicode/utf8.acceptRanges", laid_unicode_utf8_acceptRanges), ("unicode/utf8.first", laid_unicode_utf8_first)] }
def FilesPlaySaid : Prop := filesPlayRow.holds Tryd.pinned (OpenSpec.ofChange filesPlaySpec)

/-- ITS FALSE NEIGHBOUR: 'it returns false'. Refute it at one input. -/
def filesPlayWrong : ChangeSpec := { name := "filesPlay", fn := fun _ => fun
  | [d1, d2] => { results := [.lit (.bool false)], args := [d1, d2] }
  | _ => none }
def FilesPlayWrongFalsely : Prop := filesPlayRow.holds Tryd.pinned (OpenSpec.ofChange filesPlayWrong)

/-- 'rectolaw5.FilesSync': WHATEVER THE INPUT: true; the input reads as it did. -/
def filesSyncSpec : ChangeSpec := { name := "filesSync", fn := fun _ => fun
  | [d1, d2, d3] => { results := [.lit (.bool true)], args := [d1, d2, d3] }
  | _ => none }
def filesSyncRow : OpenClaim := { program := "ytcnmlgmlijgmhaadoor", sum := "e23312fc994875bf23c51e6bcc42248395c140dc23dcef2591e48a40db47de01", func := "recto/rectolaw5.FilesSync", spec := "filesSync", inPlace := ["internal/bytealg.IndexByteString", "internal/bytealg.IndexString", "maps.clone", "internal/bytealg.abigen_runtime_cmpstring"], unfollowed := true, recurses := true, named := ["unicode/utf8.first", "unicode/utf8.acceptRanges", "internal/bytealg.MaxLen"], apart := false, laid := [("unicode/utf8.acceptRanges", laid_unicode_utf8_acceptRanges), ("unicode/utf8.first", laid_unicode_utf8_first)] }
def FilesSyncSaid : Prop := filesSyncRow.holds Tryd.pinned (OpenSpec.ofChange filesSyncSpec)

/-- ITS FALSE NEIGHBOUR: 'it returns false'. Refute it at one input. -/
def filesSyncWrong : ChangeSpec := { name := "filesSync", fn := fun _ => fun
  | [d1, d2, d3] => { results := [.lit (.bool false)], args := [d1, d2, d3] }
  | _ => none }
def FilesSyncWrongFalsely : Prop := filesSyncRow.holds Tryd.pinned (OpenSpec.ofChange filesSyncWrong)

/-- 'rectolaw5.FilesRename': WHATEVER THE INPUT: true; the input reads as it did. -/
def filesRenameSpec : ChangeSpec := { name := "filesRename", fn := fun _ => fun
  | [d1, d2, d3, d4] => { results := [.lit (.bool true)], args := [d1, d2, d3, d4] }
  | _ => none }
def filesRenameRow : OpenClaim := { program := "ytcnmlgmlijgmhaadoor", sum := "e23312fc994875bf23c51e6bcc42248395c140dc23dcef2591e48a40db47de01", func := "recto/rectolaw5.FilesRename", spec := "filesRename", inPlace := ["internal/bytealg.IndexByteString", "internal/bytealg.IndexString", "maps.clone", "internal/bytealg.abigen_runtime_cmpstring"], unfollowed := true, recurses := true, named := ["unicode/utf8.first", "unicode/utf8.acceptRanges", "internal/bytealg.MaxLen"], apart := false, laid := [("unicode/utf8.acceptRanges", laid_unicode_utf8_acceptRanges), ("unicode/utf8.first", laid_unicode_utf8_first)] }
def FilesRenameSaid : Prop := filesRenameRow.holds Tryd.pinned (OpenSpec.ofChange filesRenameSpec)

/-- ITS FALSE NEIGHBOUR: 'it returns false'. Refute it at one input. -/
def filesRenameWrong : ChangeSpec := { name := "filesRename", fn := fun _ => fun
  | [d1, d2, d3, d4] => { results := [.lit (.bool false)], args := [d1, d2, d3, d4] }
  | _ => none }
def FilesRenameWrongFalsely : Prop := filesRenameRow.holds Tryd.pinned (OpenSpec.ofChange filesRenameWrong)

/-- 'rectolaw5.FilesArms': WHATEVER THE INPUT: true; the input reads as it did. -/
def filesArmsSpec : ChangeSpec := { name := "filesArms", fn := fun _ => fun
  | [d] => { results := [.lit (.bool true)], args := [d] }
  | _ => none }
def filesArmsRow : OpenClaim := { program := "ytcnmlgmlijgmhaadoor", sum := "e23312fc994875bf23c51e6bcc42248395c140dc23dcef2591e48a40db47de01", func := "recto/rectolaw5.FilesArms", spec := "filesArms", inPlace := ["internal/bytealg.IndexByteString", "internal/bytealg.IndexString", "maps.clone", "internal/bytealg.abigen_runtime_cmpstring"], unfollowed := true, recurses := true, named := ["unicode/utf8.first", "unicode/utf8.acceptRanges", "internal/bytealg.MaxLen"], apart := false, laid := [("unicode/utf8.acceptRanges", laid_unicode_utf8_acceptRanges), ("unicode/utf8.first", laid_unicode_utf8_first)] }
def FilesArmsSaid : Prop := filesArmsRow.holds Tryd.pinned (OpenSpec.ofChange filesArmsSpec)

/-- ITS FALSE NEIGHBOUR: 'it returns false'. Refute it at one input. -/
def filesArmsWrong : ChangeSpec := { name := "filesArms", fn := fun _ => fun
  | [d] => { results := [.lit (.bool false)], args := [d] }
  | _ => none }
def FilesArmsWrongFalsely : Prop := filesArmsRow.holds Tryd.pinned (OpenSpec.ofChange filesArmsWrong)

/-- 'rectolaw18.StatFresh': WHATEVER THE INPUT: true; the input reads as it did. -/
def statFreshSpec : ChangeSpec := { name := "statFresh", fn := fun _ => fun
  | [d1, d2, d3] => { results := [.lit (.bool true)], args := [d1, d2, d3] }
  | _ => none }
def statFreshRow : OpenClaim := { program := "ytcnmlgmlijgmhaadoor", sum := "e23312fc994875bf23c51e6bcc42248395c140dc23dcef2591e48a40db47de01", func := "recto/rectolaw18.StatFresh", spec := "statFresh", inPlace := ["internal/bytealg.IndexByteString", "internal/bytealg.IndexString", "maps.clone", "internal/bytealg.abigen_runtime_cmpstring"], unfollowed := true, recurses := true, named := ["unicode/utf8.first", "unicode/utf8.acceptRanges", "internal/bytealg.MaxLen"], apart := false, laid := [("unicode/utf8.acceptRanges", laid_unicode_utf8_acceptRanges), ("unicode/utf8.first", laid_unicode_utf8_first)] }
def StatFreshSaid : Prop := statFreshRow.holds Tryd.pinned (OpenSpec.ofChange statFreshSpec)

/-- ITS FALSE NEIGHBOUR: 'it returns false'. Refute it at one input. -/
def statFreshWrong : ChangeSpec := { name := "statFresh", fn := fun _ => fun
  | [d1, d2, d3] => { results := [.lit (.bool false)], args := [d1, d2, d3] }
  | _ => none }
def StatFreshWrongFalsely : Prop := statFreshRow.holds Tryd.pinned (OpenSpec.ofChange statFreshWrong)

/-- 'rectolaw18.StatNever': WHATEVER THE INPUT: true; the input reads as it did. -/
def statNeverSpec : ChangeSpec := { name := "statNever", fn := fun _ => fun
  | [d1, d2, d3, d4] => { results := [.lit (.bool true)], args := [d1, d2, d3, d4] }
  | _ => none }
def statNeverRow : OpenClaim := { program := "ytcnmlgmlijgmhaadoor", sum := "e23312fc994875bf23c51e6bcc42248395c140dc23dcef2591e48a40db47de01", func := "recto/rectolaw18.StatNever", spec := "statNever", inPlace := ["internal/bytealg.IndexByteString", "internal/bytealg.IndexString", "maps.clone", "internal/bytealg.abigen_runtime_cmpstring"], unfollowed := true, recurses := true, named := ["unicode/utf8.first", "unicode/utf8.acceptRanges", "internal/bytealg.MaxLen"], apart := false, laid := [("unicode/utf8.acceptRanges", laid_unicode_utf8_acceptRanges), ("unicode/utf8.first", laid_unicode_utf8_first)] }
def StatNeverSaid : Prop := statNeverRow.holds Tryd.pinned (OpenSpec.ofChange statNeverSpec)

/-- ITS FALSE NEIGHBOUR: 'it returns false'. Refute it at one input. -/
def statNeverWrong : ChangeSpec := { name := "statNever", fn := fun _ => fun
  | [d1, d2, d3, d4] => { results := [.lit (.bool false)], args := [d1, d2, d3, d4] }
  | _ => none }
def StatNeverWrongFalsely : Prop := statNeverRow.holds Tryd.pinned (OpenSpec.ofChange statNeverWrong)

/-- 'rectolaw18.StatSmudged': WHATEVER THE INPUT: true; the input reads as it did. -/
def statSmudgedSpec : ChangeSpec := { name := "statSmudged", fn := fun _ => fun
  | [d1, d2] => { results := [.lit (.bool true)], args := [d1, d2] }
  | _ => none }
def statSmudgedRow : OpenClaim := { program := "ytcnmlgmlijgmhaadoor", sum := "e23312fc994875bf23c51e6bcc42248395c140dc23dcef2591e48a40db47de01", func := "recto/rectolaw18.StatSmudged", spec := "statSmudged", inPlace := ["internal/bytealg.IndexByteString", "internal/bytealg.IndexString", "maps.clone", "internal/bytealg.abigen_runtime_cmpstring"], unfollowed := true, recurses := true, named := ["unicode/utf8.first", "unicode/utf8.acceptRanges", "internal/bytealg.MaxLen"], apart := false, laid := [("unicode/utf8.acceptRanges", laid_unicode_utf8_acceptRanges), ("unicode/utf8.first", laid_unicode_utf8_first)] }
def StatSmudgedSaid : Prop := statSmudgedRow.holds Tryd.pinned (OpenSpec.ofChange statSmudgedSpec)

/-- ITS FALSE NEIGHBOUR: 'it returns false'. Refute it at one input. -/
def statSmudgedWrong : ChangeSpec := { name := "statSmudged", fn := fun _ => fun
  | [d1, d2] => { results := [.lit (.bool false)], args := [d1, d2] }
  | _ => none }
def StatSmudgedWrongFalsely : Prop := statSmudgedRow.holds Tryd.pinned (OpenSpec.ofChange statSmudgedWrong)

/- THE SECOND FORM. 'bulk': how many values and letters a reading holds, each counted each time it is reached (what is shared counts as often as it is met; a slice's spare places count too). A statement '..UptoSaid' is the law's where the arguments, and the package variables that the reading takes, are together of bulk at most 1048576: NARROWER than '..Said'. Prove '..Said' where nothing that the law and all that it calls make is longer than what came in: it says more and counts as full. Else prove '..UptoSaid'. A law counts once. -/
mutual
def uptoBulk {H : Type} : DataW H → Nat
  | .lit (.string bytes) => bytes.length + 1
  | .lit _ => 1
  | .nil => 1
  | .ptr d => uptoBulk d + 1
  | .slice elems spare => uptoBulkAll elems + uptoBulkAll spare + 1
  | .agg parts => uptoBulkAll parts + 1
  | .iface _ d => uptoBulk d + 1
  | .map entries => uptoBulkEntries entries + 1
  | .held _ => 1
def uptoBulkAll {H : Type} : List (DataW H) → Nat
  | [] => 0
  | d :: r => uptoBulk d + uptoBulkAll r
def uptoBulkEntries {H : Type} : List (Lit × DataW H) → Nat
  | [] => 0
  | x :: r => uptoBulkEntry x + uptoBulkEntries r
def uptoBulkEntry {H : Type} : Lit × DataW H → Nat
  | (.string bytes, d) => bytes.length + uptoBulk d + 1
  | (_, d) => uptoBulk d + 1
 end
def uptoSmall : (H : Type) → List (DataW H) → Bool := fun _ ds => decide (uptoBulkAll ds ≤ 1048576)
def OpenSpec.upto (s : _root_.Go.ChangeSpec) : _root_.Go.OpenSpec := { _root_.Go.OpenSpec.ofChange s with cond := some uptoSmall }

/-- 'rectolaw5.FilesPlay', WHERE WHAT IT READS IS OF BULK AT MOST 1048576: true; the input reads as it did. -/
def filesPlayUptoRow : OpenClaim := { program := "ytcnmlgmlijgmhaadoor", sum := "e23312fc994875bf23c51e6bcc42248395c140dc23dcef2591e48a40db47de01", func := "recto/rectolaw5.FilesPlay", spec := "filesPlay", inPlace := ["internal/bytealg.IndexByteString", "internal/bytealg.IndexString", "maps.clone", "internal/bytealg.abigen_runtime_cmpstring"], unfollowed := true, recurses := true, named := ["unicode/utf8.first", "unicode/utf8.acceptRanges", "internal/bytealg.MaxLen"], apart := false, laid := [("unicode/utf8.acceptRanges", laid_unicode_utf8_acceptRanges), ("unicode/utf8.first", laid_unicode_utf8_first)], narrowed := true }
def FilesPlayUptoSaid : Prop := filesPlayUptoRow.holds Tryd.pinned (OpenSpec.upto filesPlaySpec)

/-- 'rectolaw5.FilesSync', WHERE WHAT IT READS IS OF BULK AT MOST 1048576: true; the input reads as it did. -/
def filesSyncUptoRow : OpenClaim := { program := "ytcnmlgmlijgmhaadoor", sum := "e23312fc994875bf23c51e6bcc42248395c140dc23dcef2591e48a40db47de01", func := "recto/rectolaw5.FilesSync", spec := "filesSync", inPlace := ["internal/bytealg.IndexByteString", "internal/bytealg.IndexString", "maps.clone", "internal/bytealg.abigen_runtime_cmpstring"], unfollowed := true, recurses := true, named := ["unicode/utf8.first", "unicode/utf8.acceptRanges", "internal/bytealg.MaxLen"], apart := false, laid := [("unicode/utf8.acceptRanges", laid_unicode_utf8_acceptRanges), ("unicode/utf8.first", laid_unicode_utf8_first)], narrowed := true }
def FilesSyncUptoSaid : Prop := filesSyncUptoRow.holds Tryd.pinned (OpenSpec.upto filesSyncSpec)

/-- 'rectolaw5.FilesRename', WHERE WHAT IT READS IS OF BULK AT MOST 1048576: true; the input reads as it did. -/
def filesRenameUptoRow : OpenClaim := { program := "ytcnmlgmlijgmhaadoor", sum := "e23312fc994875bf23c51e6bcc42248395c140dc23dcef2591e48a40db47de01", func := "recto/rectolaw5.FilesRename", spec := "filesRename", inPlace := ["internal/bytealg.IndexByteString", "internal/bytealg.IndexString", "maps.clone", "internal/bytealg.abigen_runtime_cmpstring"], unfollowed := true, recurses := true, named := ["unicode/utf8.first", "unicode/utf8.acceptRanges", "internal/bytealg.MaxLen"], apart := false, laid := [("unicode/utf8.acceptRanges", laid_unicode_utf8_acceptRanges), ("unicode/utf8.first", laid_unicode_utf8_first)], narrowed := true }
def FilesRenameUptoSaid : Prop := filesRenameUptoRow.holds Tryd.pinned (OpenSpec.upto filesRenameSpec)

/-- 'rectolaw5.FilesArms', WHERE WHAT IT READS IS OF BULK AT MOST 1048576: true; the input reads as it did. -/
def filesArmsUptoRow : OpenClaim := { program := "ytcnmlgmlijgmhaadoor", sum := "e23312fc994875bf23c51e6bcc42248395c140dc23dcef2591e48a40db47de01", func := "recto/rectolaw5.FilesArms", spec := "filesArms", inPlace := ["internal/bytealg.IndexByteString", "internal/bytealg.IndexString", "maps.clone", "internal/bytealg.abigen_runtime_cmpstring"], unfollowed := true, recurses := true, named := ["unicode/utf8.first", "unicode/utf8.acceptRanges", "internal/bytealg.MaxLen"], apart := false, laid := [("unicode/utf8.acceptRanges", laid_unicode_utf8_acceptRanges), ("unicode/utf8.first", laid_unicode_utf8_first)], narrowed := true }
def FilesArmsUptoSaid : Prop := filesArmsUptoRow.holds Tryd.pinned (OpenSpec.upto filesArmsSpec)

/-- 'rectolaw18.StatFresh', WHERE WHAT IT READS IS OF BULK AT MOST 1048576: true; the input reads as it did. -/
def statFreshUptoRow : OpenClaim := { program := "ytcnmlgmlijgmhaadoor", sum := "e23312fc994875bf23c51e6bcc42248395c140dc23dcef2591e48a40db47de01", func := "recto/rectolaw18.StatFresh", spec := "statFresh", inPlace := ["internal/bytealg.IndexByteString", "internal/bytealg.IndexString", "maps.clone", "internal/bytealg.abigen_runtime_cmpstring"], unfollowed := true, recurses := true, named := ["unicode/utf8.first", "unicode/utf8.acceptRanges", "internal/bytealg.MaxLen"], apart := false, laid := [("unicode/utf8.acceptRanges", laid_unicode_utf8_acceptRanges), ("unicode/utf8.first", laid_unicode_utf8_first)], narrowed := true }
def StatFreshUptoSaid : Prop := statFreshUptoRow.holds Tryd.pinned (OpenSpec.upto statFreshSpec)

/-- 'rectolaw18.StatNever', WHERE WHAT IT READS IS OF BULK AT MOST 1048576: true; the input reads as it did. -/
def statNeverUptoRow : OpenClaim := { program := "ytcnmlgmlijgmhaadoor", sum := "e23312fc994875bf23c51e6bcc42248395c140dc23dcef2591e48a40db47de01", func := "recto/rectolaw18.StatNever", spec := "statNever", inPlace := ["internal/bytealg.IndexByteString", "internal/bytealg.IndexString", "maps.clone", "internal/bytealg.abigen_runtime_cmpstring"], unfollowed := true, recurses := true, named := ["unicode/utf8.first", "unicode/utf8.acceptRanges", "internal/bytealg.MaxLen"], apart := false, laid := [("unicode/utf8.acceptRanges", laid_unicode_utf8_acceptRanges), ("unicode/utf8.first", laid_unicode_utf8_first)], narrowed := true }
def StatNeverUptoSaid : Prop := statNeverUptoRow.holds Tryd.pinned (OpenSpec.upto statNeverSpec)

/-- 'rectolaw18.StatSmudged', WHERE WHAT IT READS IS OF BULK AT MOST 1048576: true; the input reads as it did. -/
def statSmudgedUptoRow : OpenClaim := { program := "ytcnmlgmlijgmhaadoor", sum := "e23312fc994875bf23c51e6bcc42248395c140dc23dcef2591e48a40db47de01", func := "recto/rectolaw18.StatSmudged", spec := "statSmudged", inPlace := ["internal/bytealg.IndexByteString", "internal/bytealg.IndexString", "maps.clone", "internal/bytealg.abigen_runtime_cmpstring"], unfollowed := true, recurses := true, named := ["unicode/utf8.first", "unicode/utf8.acceptRanges", "internal/bytealg.MaxLen"], apart := false, laid := [("unicode/utf8.acceptRanges", laid_unicode_utf8_acceptRanges), ("unicode/utf8.first", laid_unicode_utf8_first)], narrowed := true }
def StatSmudgedUptoSaid : Prop := statSmudgedUptoRow.holds Tryd.pinned (OpenSpec.upto statSmudgedSpec)

end Rows
end Go.Proofs.YtcnmlgmlijgmhaaDoor
