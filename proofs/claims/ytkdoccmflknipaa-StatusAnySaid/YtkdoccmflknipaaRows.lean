/-
  No cell of these rows narrows 'for every input' (looked for: loops, veiled, ifaces, maps, wideKeys, modest, calm, conditions, laid).
  DERIVED. THE GIVEN ROWS OF THIS SEAT. 3 by the template 'for every input the law returns true; each argument reads behind the call as it read before'; 0 by the template 'total and deterministic' (their statements: YtkdoccmflknipaaTotals.lean).
  GIVEN WITH THE SEED: the statements are not yours to turn. If you find one false, say at which input.
  Laid BY PROGRAM, IN A SANDBOX (cutbox-rows.mjs): the forced cells as the released guide's own fill.sh prints them over the translation 8a0d8b64a5bdbf1c… (all of the seat's roots in one cut). By AI agents, Wed Nov 11 2026. No macro, syntax, notation, axiom, sorry.
-/
import Derived.Test.YtkdoccmflknipaaChecked
import GoSem.Claim
import GoSem.ClaimJoined
import GoSem.ClaimMapViews
import Derived.JoinedTies
import Derived.KernelRfl
namespace Go.Proofs.Ytkdoccmflknipaa
/- THE CELL 'sum', in the pinned program and in every row, IS THE sha256 OF THE DUMP (.gsa) THAT YtkdoccmflknipaaProg.lean LOADS. Nothing in Lean hashes anything: it is a label: what it is worth is what the hold of that sum in a sandbox is worth. -/
noncomputable def Try.pinned : Pinned := { name := "ytkdoccmflknipaa", sum := "8a0d8b64a5bdbf1c15d693786305f9277db2db341e445a3cf00b14c912f3a689", checked := Try.checked }
namespace Rows
def none {H : Type} : Left H := { results := [], args := [] }

/-- 'rectolaw19.StatusAny': WHATEVER THE INPUT: true; the input reads as it did. -/
def statusAnySpec : ChangeSpec := { name := "statusAny", fn := fun _ => fun
  | [d1, d2, d3] => { results := [.lit (.bool true)], args := [d1, d2, d3] }
  | _ => none }
def statusAnyRow : OpenClaim := { program := "ytkdoccmflknipaa", sum := "8a0d8b64a5bdbf1c15d693786305f9277db2db341e445a3cf00b14c912f3a689", func := "recto/rectolaw19.StatusAny", spec := "statusAny", inPlace := ["internal/bytealg.abigen_runtime_cmpstring", "internal/abi.NoEscape"], unfollowed := true, recurses := true, apart := false }
def StatusAnySaid : Prop := statusAnyRow.holds Try.pinned (OpenSpec.ofChange statusAnySpec)

/-- ITS FALSE NEIGHBOUR: 'it returns false'. Refute it at one input. -/
def statusAnyWrong : ChangeSpec := { name := "statusAny", fn := fun _ => fun
  | [d1, d2, d3] => { results := [.lit (.bool false)], args := [d1, d2, d3] }
  | _ => none }
def StatusAnyWrongFalsely : Prop := statusAnyRow.holds Try.pinned (OpenSpec.ofChange statusAnyWrong)

/-- 'rectolaw19.StatusSame': WHATEVER THE INPUT: true; the input reads as it did. -/
def statusSameSpec : ChangeSpec := { name := "statusSame", fn := fun _ => fun
  | [d1, d2, d3] => { results := [.lit (.bool true)], args := [d1, d2, d3] }
  | _ => none }
def statusSameRow : OpenClaim := { program := "ytkdoccmflknipaa", sum := "8a0d8b64a5bdbf1c15d693786305f9277db2db341e445a3cf00b14c912f3a689", func := "recto/rectolaw19.StatusSame", spec := "statusSame", inPlace := ["internal/bytealg.abigen_runtime_cmpstring", "internal/abi.NoEscape"], unfollowed := true, recurses := true, apart := false }
def StatusSameSaid : Prop := statusSameRow.holds Try.pinned (OpenSpec.ofChange statusSameSpec)

/-- ITS FALSE NEIGHBOUR: 'it returns false'. Refute it at one input. -/
def statusSameWrong : ChangeSpec := { name := "statusSame", fn := fun _ => fun
  | [d1, d2, d3] => { results := [.lit (.bool false)], args := [d1, d2, d3] }
  | _ => none }
def StatusSameWrongFalsely : Prop := statusSameRow.holds Try.pinned (OpenSpec.ofChange statusSameWrong)

/-- 'rectolaw19.StatusOne': WHATEVER THE INPUT: true; the input reads as it did. -/
def statusOneSpec : ChangeSpec := { name := "statusOne", fn := fun _ => fun
  | [d1, d2, d3, d4] => { results := [.lit (.bool true)], args := [d1, d2, d3, d4] }
  | _ => none }
def statusOneRow : OpenClaim := { program := "ytkdoccmflknipaa", sum := "8a0d8b64a5bdbf1c15d693786305f9277db2db341e445a3cf00b14c912f3a689", func := "recto/rectolaw19.StatusOne", spec := "statusOne", inPlace := ["internal/bytealg.abigen_runtime_cmpstring", "internal/abi.NoEscape"], unfollowed := true, recurses := true, apart := false }
def StatusOneSaid : Prop := statusOneRow.holds Try.pinned (OpenSpec.ofChange statusOneSpec)

/-- ITS FALSE NEIGHBOUR: 'it returns false'. Refute it at one input. -/
def statusOneWrong : ChangeSpec := { name := "statusOne", fn := fun _ => fun
  | [d1, d2, d3, d4] => { results := [.lit (.bool false)], args := [d1, d2, d3, d4] }
  | _ => none }
def StatusOneWrongFalsely : Prop := statusOneRow.holds Try.pinned (OpenSpec.ofChange statusOneWrong)

/- THE SECOND FORM. 'bulk': how many values and letters a reading holds, each counted each time it is reached (what is shared counts as often as it is met; a slice's spare places count too). A statement '..UptoSaid' is the law's where the arguments, and the package variables that the reading takes, are together of bulk at most 1048576: NARROWER than '..Said'. Prove '..Said' where nothing that the law and all that it calls make is longer than what came in: it says more and counts as full. Else prove '..UptoSaid'. A law counts once. -/
mutual
def uptoBulk {H : Type} : DataW H → Nat
  | .lit (.string bytes) => bytes.length + 1
  | .lit _ => 1
  | .nil => 1
  | .ptr d => uptoBulk d + 1
  | .slice elems spare => uptoBulkAll elems + uptoBulkAll spare + 1
  | .agg parts => uptoBulkAll parts + 1
  | .iface _ d => uptoBulk d + 1
  | .map entries => uptoBulkEntries entries + 1
  | .held _ => 1
def uptoBulkAll {H : Type} : List (DataW H) → Nat
  | [] => 0
  | d :: r => uptoBulk d + uptoBulkAll r
def uptoBulkEntries {H : Type} : List (Lit × DataW H) → Nat
  | [] => 0
  | x :: r => uptoBulkEntry x + uptoBulkEntries r
def uptoBulkEntry {H : Type} : Lit × DataW H → Nat
  | (.string bytes, d) => bytes.length + uptoBulk d + 1
  | (_, d) => uptoBulk d + 1
 end
def uptoSmall : (H : Type) → List (DataW H) → Bool := fun _ ds => decide (uptoBulkAll ds ≤ 1048576)
def OpenSpec.upto (s : _root_.Go.ChangeSpec) : _root_.Go.OpenSpec := { _root_.Go.OpenSpec.ofChange s with cond := some uptoSmall }

/-- 'rectolaw19.StatusAny', WHERE WHAT IT READS IS OF BULK AT MOST 1048576: true; the input reads as it did. -/
def statusAnyUptoRow : OpenClaim := { program := "ytkdoccmflknipaa", sum := "8a0d8b64a5bdbf1c15d693786305f9277db2db341e445a3cf00b14c912f3a689", func := "recto/rectolaw19.StatusAny", spec := "statusAny", inPlace := ["internal/bytealg.abigen_runtime_cmpstring", "internal/abi.NoEscape"], unfollowed := true, recurses := true, apart := false, narrowed := true }
def StatusAnyUptoSaid : Prop := statusAnyUptoRow.holds Try.pinned (OpenSpec.upto statusAnySpec)

/-- 'rectolaw19.StatusSame', WHERE WHAT IT READS IS OF BULK AT MOST 1048576: true; the input reads as it did. -/
def statusSameUptoRow : OpenClaim := { program := "ytkdoccmflknipaa", sum := "8a0d8b64a5bdbf1c15d693786305f9277db2db341e445a3cf00b14c912f3a689", func := "recto/rectolaw19.StatusSame", spec := "statusSame", inPlace := ["internal/bytealg.abigen_runtime_cmpstring", "internal/abi.NoEscape"], unfollowed := true, recurses := true, apart := false, narrowed := true }
def StatusSameUptoSaid : Prop := statusSameUptoRow.holds Try.pinned (OpenSpec.upto statusSameSpec)

/-- 'rectolaw19.StatusOne', WHERE WHAT IT READS IS OF BULK AT MOST 1048576: true; the input reads as it did. -/
def statusOneUptoRow : OpenClaim := { program := "ytkdoccmflknipaa", sum := "8a0d8b64a5bdbf1c15d693786305f9277db2db341e445a3cf00b14c912f3a689", func := "recto/rectolaw19.StatusOne", spec := "statusOne", inPlace := ["internal/bytealg.abigen_runtime_cmpstring", "internal/abi.NoEscape"], unfollowed := true, recurses := true, apart := false, narrowed := true }
def StatusOneUptoSaid : Prop := statusOneUptoRow.holds Try.pinned (OpenSpec.upto statusOneSpec)

end Rows
end Go.Proofs.Ytkdoccmflknipaa
