/-
  A Fault's Error.
-/
import Derived.Test.YtanjcjnkppnhcaaGreatDoorQAI

namespace Go.Proofs.YtanjcjnkppnhcaaGreatDoor
open Go Go.RowKit

abbrev bByte : ByteArray := ⟨#[98, 121, 116, 101]⟩
theorem invokeErrno (v : Value) (w : World) : (Go.method 334 73 v "Error").run Tryz.prog w = .ok (180, v) w := by kernel_rfl
theorem invokeFault (v : Value) (w : World) : (Go.method 334 76 v "Error").run Tryz.prog w = .ok (181, v) w := by kernel_rfl
theorem nilErrno (c : Int) (w : World) : (binOp .eql 25 (.iface 73 (.int .i64 c)) .nilIface).run Tryz.prog w = .ok (.bool false) w := by kernel_rfl

attribute [-go_sem] run_string_add_if
end Go.Proofs.YtanjcjnkppnhcaaGreatDoor
