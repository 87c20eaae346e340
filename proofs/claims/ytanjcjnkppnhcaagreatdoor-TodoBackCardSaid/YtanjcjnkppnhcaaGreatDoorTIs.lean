/-
  errors.Is at a Fault that wraps an Errno.
-/
import Derived.Test.YtanjcjnkppnhcaaGreatDoorTAs
namespace Go.Proofs.YtanjcjnkppnhcaaGreatDoor
open Go Go.RowKit Go.Extern.Stop Go.Stop Go.Extern

theorem typeOfE (v : Value) (w : World) : (ReflectliteType.typeOf #[.iface 73 v]).run Tryz.prog w = .ok (.iface 145 (.agg #[.pointer (some ⟨7, 73, none⟩)])) w := by kernel_rfl
theorem comparableE (w : World) : ((ReflectliteType.method fun t => do Rtype.noPackHeld "Comparable" t; (fun a => Value.bool a.comparable) <$> typeInfo t) #[.agg #[.pointer (some ⟨7, 73, none⟩)]]).run Tryz.prog w = .ok (.bool true) w := by kernel_rfl
theorem methodComparable (v : Value) (w : World) : (Go.method 334 145 v "Comparable").run Tryz.prog w = .ok (189, v) w := by kernel_rfl
theorem noIsF (v : Value) (xT : TypeId) (w : World) : (Instr.typeAssert (.iface 76 v) xT 147 true).run Tryz.prog w = .ok (.tuple #[.nilIface, .bool false]) w := run_typeAssert_lacksB Tryz.underlying147 (by kernel_rfl) (by kernel_rfl) v xT w
theorem hasUnwrapF (v : Value) (xT : TypeId) (w : World) : (Instr.typeAssert (.iface 76 v) xT 150 true).run Tryz.prog w = .ok (.tuple #[.iface 76 v, .bool true]) w := run_typeAssert_hasB Tryz.underlying150 (by kernel_rfl) v xT w
theorem methodUnwrap (v : Value) (w : World) : (Go.method 334 76 v "Unwrap").run Tryz.prog w = .ok (182, v) w := by kernel_rfl
theorem eqlFE (a : Addr) (c : Int) (w : World) : (binOp .eql 25 (.iface 76 (.pointer (some a))) (.iface 73 (.int .i64 c))).run Tryz.prog w = .ok (.bool false) w := by kernel_rfl
theorem nilE (c : Int) (w : World) : (binOp .eql 25 (.iface 73 (.int .i64 c)) .nilIface).run Tryz.prog w = .ok (.bool false) w := by kernel_rfl
theorem nilF (a : Addr) (w : World) : (binOp .eql 25 (.iface 76 (.pointer (some a))) .nilIface).run Tryz.prog w = .ok (.bool false) w := by kernel_rfl
theorem eqlE3 (w : World) : (binOp .eql 25 (.iface 73 (.int .i64 3)) (.iface 73 (.int .i64 3))).run Tryz.prog w = .ok (.bool true) w := by kernel_rfl
theorem eqlE2 (w : World) : (binOp .eql 25 (.iface 73 (.int .i64 2)) (.iface 73 (.int .i64 2))).run Tryz.prog w = .ok (.bool true) w := by kernel_rfl

set_option maxRecDepth 100000 in
set_option maxHeartbeats 4000000 in
/-- errors.Is(f, c), f a Fault whose Err is the Errno c. -/
theorem is_hit (F : Nat) (c : Int) (w : World) (h1 : w.cell? ⟨F, 2, none⟩ = some (.iface 73 (.int .i64 c)))
    (heq : ∀ w, (binOp .eql 25 (.iface 73 (.int .i64 c)) (.iface 73 (.int .i64 c))).run Tryz.prog w = .ok (.bool true) w) :
    Calls Tryz.prog 42 #[.iface 76 (.pointer (some ⟨F, 0, none⟩)), .iface 73 (.int .i64 c)] w fun e w' => e = .returned (.bool true) ∧ w' = w := by
  have h8 := @run_callFunc_extern Tryz.prog 80 _ ReflectliteType.typeOf Tryz.func80 (by kernel_rfl) (by kernel_rfl) (by kernel_rfl) (by kernel_rfl)
  have h32 := @run_callFunc_extern Tryz.prog 189 _ (ReflectliteType.method fun t => do Rtype.noPackHeld "Comparable" t; pure (.bool (← typeInfo t).comparable)) Tryz.func189 (by kernel_rfl) (by kernel_rfl) (by kernel_rfl) (by kernel_rfl)
  have tT := typeOfE
  have cT := comparableE
  have mR := methodComparable
  have nW := noIsF
  have uW := hasUnwrapF
  have mU := methodUnwrap
  have e1 := eqlFE
  have e2 := nilE
  have e3 := nilF
  go_enter Tryz.func42, Tryz.ntmps42
  go_wp2
  refine wp_loop_rounds 2 ?_
  rw [rounds_succ]
  go_wp2
  rw [rounds_succ]
  go_wp2
  go_ret
  exact ⟨rfl, rfl⟩
#print axioms is_hit
end Go.Proofs.YtanjcjnkppnhcaaGreatDoor
