/-
  A Fault's own words, its number from 1 to 10.
-/
import Derived.Test.YtanjcjnkppnhcaaGreatDoorQAA
import Derived.ShutString

namespace Go.Proofs.YtanjcjnkppnhcaaGreatDoor
open Go Go.RowKit

def To10 (n : Nat) : Prop := n = 1 ∨ n = 2 ∨ n = 3 ∨ n = 4 ∨ n = 5 ∨ n = 6 ∨ n = 7 ∨ n = 8 ∨ n = 9 ∨ n = 10
def To10I (n : Int) : Prop := n = 1 ∨ n = 2 ∨ n = 3 ∨ n = 4 ∨ n = 5 ∨ n = 6 ∨ n = 7 ∨ n = 8 ∨ n = 9 ∨ n = 10
theorem To10.int {n : Nat} (h : To10 n) : To10I (n : Int) := by unfold To10 at h; unfold To10I; omega
theorem sum_named (a b : ByteArray) (h : a.size + b.size ≤ 9223372036854775807) : ∃ s, s = a ++ b ∧ s.size = a.size + b.size ∧ ∀ w, (Op.stringOp .add a b).run Tryz.prog w = .ok (.string s) w := ⟨_, rfl, ByteArray.size_append, fun w => run_string_add_sum w a b h⟩

end Go.Proofs.YtanjcjnkppnhcaaGreatDoor
