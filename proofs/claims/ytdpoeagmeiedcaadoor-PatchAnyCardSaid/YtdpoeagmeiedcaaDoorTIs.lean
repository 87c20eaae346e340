/-
  errors.Is at a Fault that wraps an Errno.
-/
import Derived.Test.YtdpoeagmeiedcaaDoorTAs
namespace Go.Proofs.YtdpoeagmeiedcaaDoor
open Go Go.RowKit Go.Extern.Stop Go.Stop Go.Extern

theorem typeOfE (v : Value) (w : World) : (ReflectliteType.typeOf #[.iface 97 v]).run Tryd.prog w = .ok (.iface 167 (.agg #[.pointer (some ⟨5, 97, none⟩)])) w := by kernel_rfl
theorem comparableE (w : World) : ((ReflectliteType.method fun t => do Rtype.noPackHeld "Comparable" t; (fun a => Value.bool a.comparable) <$> typeInfo t) #[.agg #[.pointer (some ⟨5, 97, none⟩)]]).run Tryd.prog w = .ok (.bool true) w := by kernel_rfl
theorem methodComparable (v : Value) (w : World) : (Go.method 328 167 v "Comparable").run Tryd.prog w = .ok (142, v) w := by kernel_rfl
theorem noIsF (v : Value) (xT : TypeId) (w : World) : (Instr.typeAssert (.iface 98 v) xT 169 true).run Tryd.prog w = .ok (.tuple #[.nilIface, .bool false]) w := run_typeAssert_lacksB Tryd.underlying169 (by kernel_rfl) (by kernel_rfl) v xT w
theorem hasUnwrapF (v : Value) (xT : TypeId) (w : World) : (Instr.typeAssert (.iface 98 v) xT 172 true).run Tryd.prog w = .ok (.tuple #[.iface 98 v, .bool true]) w := run_typeAssert_hasB Tryd.underlying172 (by kernel_rfl) v xT w
theorem methodUnwrap (v : Value) (w : World) : (Go.method 328 98 v "Unwrap").run Tryd.prog w = .ok (135, v) w := by kernel_rfl
theorem eqlFE (a : Addr) (c : Int) (w : World) : (binOp .eql 27 (.iface 98 (.pointer (some a))) (.iface 97 (.int .i64 c))).run Tryd.prog w = .ok (.bool false) w := by kernel_rfl
theorem nilE (c : Int) (w : World) : (binOp .eql 27 (.iface 97 (.int .i64 c)) .nilIface).run Tryd.prog w = .ok (.bool false) w := by kernel_rfl
theorem nilF (a : Addr) (w : World) : (binOp .eql 27 (.iface 98 (.pointer (some a))) .nilIface).run Tryd.prog w = .ok (.bool false) w := by kernel_rfl
theorem eqlE3 (w : World) : (binOp .eql 27 (.iface 97 (.int .i64 3)) (.iface 97 (.int .i64 3))).run Tryd.prog w = .ok (.bool true) w := by kernel_rfl
theorem eqlE2 (w : World) : (binOp .eql 27 (.iface 97 (.int .i64 2)) (.iface 97 (.int .i64 2))).run Tryd.prog w = .ok (.bool true) w := by kernel_rfl

set_option maxRecDepth 100000 in
set_option maxHeartbeats 4000000 in
/-- errors.Is(f, c), f a Fault whose Err is the Errno c. -/
theorem is_hit (F : Nat) (c : Int) (w : World) (h1 : w.cell? ⟨F, 2, none⟩ = some (.iface 97 (.int .i64 c)))
    (heq : ∀ w, (binOp .eql 27 (.iface 97 (.int .i64 c)) (.iface 97 (.int .i64 c))).run Tryd.prog w = .ok (.bool true) w) :
    Calls Tryd.prog 44 #[.iface 98 (.pointer (some ⟨F, 0, none⟩)), .iface 97 (.int .i64 c)] w fun e w' => e = .returned (.bool true) ∧ w' = w := by
  have h8 := @run_callFunc_extern Tryd.prog 74 _ ReflectliteType.typeOf Tryd.func74 (by kernel_rfl) (by kernel_rfl) (by kernel_rfl) (by kernel_rfl)
  have h32 := @run_callFunc_extern Tryd.prog 142 _ (ReflectliteType.method fun t => do Rtype.noPackHeld "Comparable" t; pure (.bool (← typeInfo t).comparable)) Tryd.func142 (by kernel_rfl) (by kernel_rfl) (by kernel_rfl) (by kernel_rfl)
  have tT := typeOfE
  have cT := comparableE
  have mR := methodComparable
  have nW := noIsF
  have uW := hasUnwrapF
  have mU := methodUnwrap
  have e1 := eqlFE
  have e2 := nilE
  have e3 := nilF
  go_enter Tryd.func44, Tryd.ntmps44
  go_wp2
  refine wp_loop_rounds 2 ?_
  rw [rounds_succ]
  go_wp2
  rw [rounds_succ]
  go_wp2
  go_ret
  exact ⟨rfl, rfl⟩
#print axioms is_hit
end Go.Proofs.YtdpoeagmeiedcaaDoor
