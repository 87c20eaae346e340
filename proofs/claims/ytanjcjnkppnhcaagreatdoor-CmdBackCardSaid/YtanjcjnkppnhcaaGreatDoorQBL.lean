/-
  errors.As at a Fault: the Fault itself.
  errors.Is at a Fault that wraps an Errno.
  Tells: a Fault of one part is told as the document tells it.
  Tells, at any part, any number whose digits are known, any Errno.
  Tells, at any part, any number, any Errno (the table of powers of ten listed).
  TodoTexts: any text as steps, or the first line that is none, and why.
  Arguments that are steps, with the bounds of their numbers, and a command by value.
  A command by value as an argument; the law of two commands in a card's words.
-/
import Derived.Test.YtanjcjnkppnhcaaGreatDoorQAA
import Derived.LaidEql
import Derived.Stop.Asserts
import Derived.RowKitTokens
import Derived.Test.YtanjcjnkppnhcaaGreatDoorQAK
import Derived.Test.YtanjcjnkppnhcaaGreatDoorQAM
import Derived.Test.YtanjcjnkppnhcaaGreatDoorQAO
import Derived.Test.YtanjcjnkppnhcaaGreatDoorQAS
import Derived.Test.YtanjcjnkppnhcaaGreatDoorQAG
import Derived.Test.YtanjcjnkppnhcaaGreatDoorQBK
import Derived.Test.YtanjcjnkppnhcaaGreatDoorRows
import Derived.ProofKit
import Derived.OpenShut
import Derived.ChangeSame
import Derived.Deep.Slices
import Derived.Lib.SmallJoins
import Derived.Test.YtanjcjnkppnhcaaGreatDoorQBJ

namespace Go.Proofs.YtanjcjnkppnhcaaGreatDoor
open Go Go.RowKit Go.Extern.Stop Go.Stop Go.Extern

theorem valueOfPP (t : Addr) (w : World) : (ReflectliteValue.unpack (.iface 89 (.pointer (some t)))).run Tryz.prog w
    = .ok (.agg #[.pointer (some ⟨7, 89, none⟩), .pointer (some ⟨w.heap.size, 0, none⟩), .int .u64 150]) (w.alloc (.cells #[.pointer (some t)] 89)) := by kernel_rfl
theorem typePP (a : Addr) (w : World) : (ReflectliteValue.methodAny (ReflectliteValue.valueError "reflectlite.Value.Type" 0) (fun t _ _ _ => ReflectliteType.toType t) #[.agg #[.pointer (some ⟨7, 89, none⟩), .pointer (some a), .int .u64 150]]).run Tryz.prog w
    = .ok (.iface 145 (.agg #[.pointer (some ⟨7, 89, none⟩)])) w := by kernel_rfl
theorem methodKind (h : Value) (w : World) : (Go.method 334 145 (.agg #[h]) "Kind").run Tryz.prog w = .ok (175, h) w := by kernel_rfl
theorem kindPP (w : World) : ((ReflectliteType.abiMethod fun t => (fun a : Nat => Value.int IntKind.u8 (a : Int)) <$> Rtype.kind t) #[.pointer (some ⟨7, 89, none⟩)]).run Tryz.prog w = .ok (.int .u8 22) w := by kernel_rfl
theorem kindP (w : World) : ((ReflectliteType.abiMethod fun t => (fun a : Nat => Value.int IntKind.u8 (a : Int)) <$> Rtype.kind t) #[.pointer (some ⟨7, 76, none⟩)]).run Tryz.prog w = .ok (.int .u8 22) w := by kernel_rfl
theorem partsPP (a : Addr) (w : World) : (ReflectliteValue.parts (.agg #[.pointer (some ⟨7, 89, none⟩), .pointer (some a), .int .u64 150])).run Tryz.prog w = .ok (some (89, a, 150)) w := by kernel_rfl
theorem isNilPP (a p : Addr) (W : World) (ha : W.cell? a = some (.pointer (some p))) :
    (ReflectliteValue.method (ReflectliteValue.valueError "reflectlite.Value.IsNil" 0) ReflectliteValue.isNil #[.agg #[.pointer (some ⟨7, 89, none⟩), .pointer (some a), .int .u64 150]]).run Tryz.prog W = .ok (.bool false) W := by
  change Sem.run Tryz.prog (ReflectliteValue.parts (.agg #[.pointer (some ⟨7, 89, none⟩), .pointer (some a), .int .u64 150]) >>= _) W = _
  rw [Sem.run_bind, partsPP]
  dsimp only [Result.andThen]
  simp [ReflectliteValue.isNil, loadVar, isAgg, underlying, Tryz.underlying89, ha, Result.andThen]
theorem methodElem (h : Value) (w : World) : (Go.method 334 145 (.agg #[h]) "Elem").run Tryz.prog w = .ok (190, .agg #[h]) w := by kernel_rfl
theorem methodImplements (h : Value) (w : World) : (Go.method 334 145 (.agg #[h]) "Implements").run Tryz.prog w = .ok (191, .agg #[h]) w := by kernel_rfl
theorem methodAssignableTo (h : Value) (w : World) : (Go.method 334 145 (.agg #[h]) "AssignableTo").run Tryz.prog w = .ok (188, .agg #[h]) w := by kernel_rfl
theorem elemPP (w : World) : (ReflectliteType.method ReflectliteType.elem #[.agg #[.pointer (some ⟨7, 89, none⟩)]]).run Tryz.prog w = .ok (.iface 145 (.agg #[.pointer (some ⟨7, 76, none⟩)])) w := by kernel_rfl
theorem implementsP (w : World) : (ReflectliteType.relation "Implements" ReflectliteType.implements_ #[.agg #[.pointer (some ⟨7, 76, none⟩)], .iface 145 (.agg #[.pointer (some ⟨7, 25, none⟩)])]).run Tryz.prog w = .ok (.bool true) w := by kernel_rfl
theorem typeOfP (v : Value) (w : World) : (ReflectliteType.typeOf #[.iface 76 v]).run Tryz.prog w = .ok (.iface 145 (.agg #[.pointer (some ⟨7, 76, none⟩)])) w := by kernel_rfl
theorem assignableP (w : World) : (ReflectliteType.relation "AssignableTo" ReflectliteType.assignableTo #[.agg #[.pointer (some ⟨7, 76, none⟩)], .iface 145 (.agg #[.pointer (some ⟨7, 76, none⟩)])]).run Tryz.prog w = .ok (.bool true) w := by kernel_rfl
theorem valueOfP (e : Addr) (w : World) : (ReflectliteValue.unpack (.iface 76 (.pointer (some e)))).run Tryz.prog w
    = .ok (.agg #[.pointer (some ⟨7, 76, none⟩), .pointer (some ⟨w.heap.size, 0, none⟩), .int .u64 150]) (w.alloc (.cells #[.pointer (some e)] 76)) := by kernel_rfl
theorem elemOfPP (w : World) : (Rtype.elem? 89).run Tryz.prog w = .ok (some 76) w := by kernel_rfl
theorem mkP (p : Addr) (w : World) : (ReflectliteValue.mk 76 p ReflectliteValue.flagAddr).run Tryz.prog w = .ok (.agg #[.pointer (some ⟨7, 76, none⟩), .pointer (some p), .int .u64 406]) w := by kernel_rfl
theorem elemVPP (a p : Addr) (W : World) (ha : W.cell? a = some (.pointer (some p))) :
    (ReflectliteValue.method (ReflectliteValue.valueError "reflectlite.Value.Elem" 0) ReflectliteValue.elem #[.agg #[.pointer (some ⟨7, 89, none⟩), .pointer (some a), .int .u64 150]]).run Tryz.prog W
      = .ok (.agg #[.pointer (some ⟨7, 76, none⟩), .pointer (some p), .int .u64 406]) W := by
  change Sem.run Tryz.prog (ReflectliteValue.parts (.agg #[.pointer (some ⟨7, 89, none⟩), .pointer (some a), .int .u64 150]) >>= _) W = _
  rw [Sem.run_bind, partsPP]
  dsimp only [Result.andThen]
  simp [ReflectliteValue.elem, loadVar, isAgg, underlying, Tryz.underlying89, ha, Result.andThen, elemOfPP, mkP]
theorem partsPa (a : Addr) (w : World) : (ReflectliteValue.parts (.agg #[.pointer (some ⟨7, 76, none⟩), .pointer (some a), .int .u64 406])).run Tryz.prog w = .ok (some (76, a, 406)) w := by kernel_rfl
theorem partsP (a : Addr) (w : World) : (ReflectliteValue.parts (.agg #[.pointer (some ⟨7, 76, none⟩), .pointer (some a), .int .u64 150])).run Tryz.prog w = .ok (some (76, a, 150)) w := by kernel_rfl
theorem directP (w : World) : (Rtype.directlyAssignable 76 76).run Tryz.prog w = .ok true w := by kernel_rfl
theorem setP (ta b e : Addr) (old : Value) (W : World) (hb : W.cell? b = some (.pointer (some e))) (ht : W.cell? ta = some old) (hf : W.frozen? ta = false) :
    (ReflectliteValue.set #[.agg #[.pointer (some ⟨7, 76, none⟩), .pointer (some ta), .int .u64 406], .agg #[.pointer (some ⟨7, 76, none⟩), .pointer (some b), .int .u64 150]]).run Tryz.prog W
      = .ok (.tuple #[]) (W.setCell ta (.pointer (some e))) := by
  change Sem.run Tryz.prog (ReflectliteValue.parts (.agg #[.pointer (some ⟨7, 76, none⟩), .pointer (some ta), .int .u64 406]) >>= _) W = _
  rw [Sem.run_bind, partsPa]
  dsimp only [Result.andThen]
  change Sem.run Tryz.prog (ReflectliteValue.parts (.agg #[.pointer (some ⟨7, 76, none⟩), .pointer (some b), .int .u64 150]) >>= _) W = _
  rw [Sem.run_bind, partsP]
  dsimp only [Result.andThen]
  simp [ReflectliteValue.flagAddr, loadVar, isAgg, underlying, Tryz.underlying76, hb, Result.andThen, directP, storeVar, Value.cells, storeCells, Addr.add]
  rw [run_store Tryz.prog W ta _ _ (by rfl)]
  simp [ht, hf]
/-- errors.errorType as the program's text lays it. -/
abbrev ErrType (w : World) : Prop := w.cell? ⟨0, 0, none⟩ = some (.iface 145 (.agg #[.pointer (some ⟨7, 25, none⟩)]))

set_option maxHeartbeats 4000000 in
theorem as_hit (e t : Addr) (old : Value) (w : World) (hg : ErrType w) (ht0 : w.cell? t = some old) (hf0 : w.frozen? t = false) :
    Calls Tryz.prog 43 #[.iface 76 (.pointer (some e)), .iface 89 (.pointer (some t))] w fun ev w' => ev = .returned (.bool true) ∧ w' = ((((w.alloc (.cells #[.pointer (some t)] 89)).alloc (.cells #[.pointer (some ⟨7, 89, none⟩), .pointer (some ⟨w.heap.size, 0, none⟩), .int .u64 150] 123)).alloc (.cells #[.pointer (some ⟨7, 89, none⟩), .pointer (some ⟨w.heap.size, 0, none⟩), .int .u64 150] 123)).alloc (.cells #[.pointer (some e)] 76)).setCell t (.pointer (some e)) := by
  have h6 := @run_callFunc_extern Tryz.prog 82 _ (fun args => ReflectliteValue.unpack (args.getD 0 (.tuple #[]))) Tryz.func82 (by kernel_rfl) (by kernel_rfl) (by kernel_rfl) (by kernel_rfl)
  have h7 := @run_callFunc_extern Tryz.prog 83 _ (ReflectliteValue.methodAny (ReflectliteValue.valueError "reflectlite.Value.Type" 0) (fun t _ _ _ => ReflectliteType.toType t)) Tryz.func83 (by kernel_rfl) (by kernel_rfl) (by kernel_rfl) (by kernel_rfl)
  have h8 := @run_callFunc_extern Tryz.prog 84 _ (ReflectliteValue.method (ReflectliteValue.valueError "reflectlite.Value.IsNil" 0) ReflectliteValue.isNil) Tryz.func84 (by kernel_rfl) (by kernel_rfl) (by kernel_rfl) (by kernel_rfl)
  have h27 := @run_callFunc_extern Tryz.prog 175 _ (ReflectliteType.abiMethod fun t => do pure (.int .u8 (← Rtype.kind t))) Tryz.func175 (by kernel_rfl) (by kernel_rfl) (by kernel_rfl) (by kernel_rfl)
  have h37 := @run_callFunc_extern Tryz.prog 190 _ (ReflectliteType.method ReflectliteType.elem) Tryz.func190 (by kernel_rfl) (by kernel_rfl) (by kernel_rfl) (by kernel_rfl)
  have h38 := @run_callFunc_extern Tryz.prog 191 _ (ReflectliteType.relation "Implements" ReflectliteType.implements_) Tryz.func191 (by kernel_rfl) (by kernel_rfl) (by kernel_rfl) (by kernel_rfl)
  have h10 := @run_callFunc_extern Tryz.prog 80 _ ReflectliteType.typeOf Tryz.func80 (by kernel_rfl) (by kernel_rfl) (by kernel_rfl) (by kernel_rfl)
  have h35 := @run_callFunc_extern Tryz.prog 188 _ (ReflectliteType.relation "AssignableTo" ReflectliteType.assignableTo) Tryz.func188 (by kernel_rfl) (by kernel_rfl) (by kernel_rfl) (by kernel_rfl)
  have h11 := @run_callFunc_extern Tryz.prog 107 _ (ReflectliteValue.method (ReflectliteValue.valueError "reflectlite.Value.Elem" 0) ReflectliteValue.elem) Tryz.func107 (by kernel_rfl) (by kernel_rfl) (by kernel_rfl) (by kernel_rfl)
  have h12 := @run_callFunc_extern Tryz.prog 108 _ ReflectliteValue.set Tryz.func108 (by kernel_rfl) (by kernel_rfl) (by kernel_rfl) (by kernel_rfl)
  have tO := typeOfP
  have mA := methodAssignableTo
  have a25 := assignableP
  have v25 := valueOfP
  have f6 := valueOfPP
  have f7 := typePP
  have mK := methodKind
  have mE := methodElem
  have mI := methodImplements
  have k27 := kindPP
  have k25 := kindP
  have e27 := elemPP
  have i25 := implementsP
  have n8 := isNilPP ⟨w.heap.size, 0, none⟩ t ((w.alloc (.cells #[.pointer (some t)] 89)).alloc (.cells #[.pointer (some ⟨7, 89, none⟩), .pointer (some ⟨w.heap.size, 0, none⟩), .int .u64 150] 123)) (by simp)
  have hlt : 0 < w.heap.size := by
    rcases Nat.lt_or_ge 0 w.heap.size with h | h
    · exact h
    · simp [ErrType, World.cell?, Array.getElem?_eq_none h] at hg
  have hg2 : ((w.alloc (.cells #[.pointer (some t)] 89)).alloc (.cells #[.pointer (some ⟨7, 89, none⟩), .pointer (some ⟨w.heap.size, 0, none⟩), .int .u64 150] 123)).cell? ⟨0, 0, none⟩ = some (.iface 145 (.agg #[.pointer (some ⟨7, 25, none⟩)])) := by
    rw [World.cell?_alloc_lt _ _ ⟨0, 0, none⟩ (by simp <;> omega), World.cell?_alloc_lt _ _ ⟨0, 0, none⟩ hlt]; exact hg
  have htl : t.block < w.heap.size := by
    rcases Nat.lt_or_ge t.block w.heap.size with h | h
    · exact h
    · simp [World.cell?, Array.getElem?_eq_none h] at ht0
  have el := elemVPP ⟨w.heap.size, 0, none⟩ t (((w.alloc (.cells #[.pointer (some t)] 89)).alloc (.cells #[.pointer (some ⟨7, 89, none⟩), .pointer (some ⟨w.heap.size, 0, none⟩), .int .u64 150] 123)).alloc (.cells #[.pointer (some ⟨7, 89, none⟩), .pointer (some ⟨w.heap.size, 0, none⟩), .int .u64 150] 123)) (by rw [World.cell?_alloc_lt _ _ ⟨w.heap.size, 0, none⟩ (by simp; omega)]; simp)
  have st := setP t ⟨w.heap.size + 1 + 1 + 1, 0, none⟩ e old ((((w.alloc (.cells #[.pointer (some t)] 89)).alloc (.cells #[.pointer (some ⟨7, 89, none⟩), .pointer (some ⟨w.heap.size, 0, none⟩), .int .u64 150] 123)).alloc (.cells #[.pointer (some ⟨7, 89, none⟩), .pointer (some ⟨w.heap.size, 0, none⟩), .int .u64 150] 123)).alloc (.cells #[.pointer (some e)] 76))
    (by rw [World.cell?_alloc_at _ _ _ _ (by simp)]; rfl)
    (by rw [World.cell?_alloc_lt _ _ t (by simp; omega), World.cell?_alloc_lt _ _ t (by simp; omega), World.cell?_alloc_lt _ _ t (by simp; omega), World.cell?_alloc_lt _ _ t htl]; exact ht0)
    (by rw [World.frozen?_alloc_old _ _ t (by simp; omega), World.frozen?_alloc_old _ _ t (by simp; omega), World.frozen?_alloc_old _ _ t (by simp; omega), World.frozen?_alloc_old _ _ t (Nat.ne_of_lt htl)]; exact hf0)
  go_enter Tryz.func43, Tryz.ntmps43
  go_wp2
  refine wp_loop_rounds 1 ?_
  rw [rounds_succ]
  go_wp2
  go_ret
  exact ⟨rfl, rfl⟩
end Go.Proofs.YtanjcjnkppnhcaaGreatDoor

namespace Go.Proofs.YtanjcjnkppnhcaaGreatDoor
open Go Go.RowKit Go.Extern.Stop Go.Stop Go.Extern

theorem typeOfE (v : Value) (w : World) : (ReflectliteType.typeOf #[.iface 73 v]).run Tryz.prog w = .ok (.iface 145 (.agg #[.pointer (some ⟨7, 73, none⟩)])) w := by kernel_rfl
theorem comparableE (w : World) : ((ReflectliteType.method fun t => do Rtype.noPackHeld "Comparable" t; (fun a => Value.bool a.comparable) <$> typeInfo t) #[.agg #[.pointer (some ⟨7, 73, none⟩)]]).run Tryz.prog w = .ok (.bool true) w := by kernel_rfl
theorem methodComparable (v : Value) (w : World) : (Go.method 334 145 v "Comparable").run Tryz.prog w = .ok (189, v) w := by kernel_rfl
theorem noIsF (v : Value) (xT : TypeId) (w : World) : (Instr.typeAssert (.iface 76 v) xT 147 true).run Tryz.prog w = .ok (.tuple #[.nilIface, .bool false]) w := run_typeAssert_lacksB Tryz.underlying147 (by kernel_rfl) (by kernel_rfl) v xT w
theorem hasUnwrapF (v : Value) (xT : TypeId) (w : World) : (Instr.typeAssert (.iface 76 v) xT 150 true).run Tryz.prog w = .ok (.tuple #[.iface 76 v, .bool true]) w := run_typeAssert_hasB Tryz.underlying150 (by kernel_rfl) v xT w
theorem methodUnwrap (v : Value) (w : World) : (Go.method 334 76 v "Unwrap").run Tryz.prog w = .ok (182, v) w := by kernel_rfl
theorem eqlFE (a : Addr) (c : Int) (w : World) : (binOp .eql 25 (.iface 76 (.pointer (some a))) (.iface 73 (.int .i64 c))).run Tryz.prog w = .ok (.bool false) w := by kernel_rfl
theorem nilE (c : Int) (w : World) : (binOp .eql 25 (.iface 73 (.int .i64 c)) .nilIface).run Tryz.prog w = .ok (.bool false) w := by kernel_rfl
theorem nilF (a : Addr) (w : World) : (binOp .eql 25 (.iface 76 (.pointer (some a))) .nilIface).run Tryz.prog w = .ok (.bool false) w := by kernel_rfl
set_option maxRecDepth 100000 in
set_option maxHeartbeats 4000000 in
/-- errors.Is(f, c), f a Fault whose Err is the Errno c. -/
theorem is_hit (F : Nat) (c : Int) (w : World) (h1 : w.cell? ⟨F, 2, none⟩ = some (.iface 73 (.int .i64 c)))
    (heq : ∀ w, (binOp .eql 25 (.iface 73 (.int .i64 c)) (.iface 73 (.int .i64 c))).run Tryz.prog w = .ok (.bool true) w) :
    Calls Tryz.prog 42 #[.iface 76 (.pointer (some ⟨F, 0, none⟩)), .iface 73 (.int .i64 c)] w fun e w' => e = .returned (.bool true) ∧ w' = w := by
  have h8 := @run_callFunc_extern Tryz.prog 80 _ ReflectliteType.typeOf Tryz.func80 (by kernel_rfl) (by kernel_rfl) (by kernel_rfl) (by kernel_rfl)
  have h32 := @run_callFunc_extern Tryz.prog 189 _ (ReflectliteType.method fun t => do Rtype.noPackHeld "Comparable" t; pure (.bool (← typeInfo t).comparable)) Tryz.func189 (by kernel_rfl) (by kernel_rfl) (by kernel_rfl) (by kernel_rfl)
  have tT := typeOfE
  have cT := comparableE
  have mR := methodComparable
  have nW := noIsF
  have uW := hasUnwrapF
  have mU := methodUnwrap
  have e1 := eqlFE
  have e2 := nilE
  have e3 := nilF
  go_enter Tryz.func42, Tryz.ntmps42
  go_wp2
  refine wp_loop_rounds 2 ?_
  rw [rounds_succ]
  go_wp2
  rw [rounds_succ]
  go_wp2
  go_ret
  exact ⟨rfl, rfl⟩
end Go.Proofs.YtanjcjnkppnhcaaGreatDoor

namespace Go.Proofs.YtanjcjnkppnhcaaGreatDoor
open Go Go.RowKit

theorem below_cell {w w' : World} (h : Below w.heap.size w w') {a : Addr} {v : Value} (hc : w.cell? a = some v) : w'.cell? a = some v := by
  have := h.block a.block (World.block_lt_of_cell? w a hc)
  simp only [World.cell?] at hc ⊢
  rw [this]; exact hc
theorem ErrType.below {w w' : World} (h : ErrType w) (hb : Below w.heap.size w w') : ErrType w' := below_cell hb h

theorem as_fault (F t : Nat) (w : World) (hg : ErrType w) (ht : Blk w t 76 #[.pointer none]) :
    Calls Tryz.prog 43 #[.iface 76 (.pointer (some ⟨F, 0, none⟩)), .iface 89 (.pointer (some ⟨t, 0, none⟩))] w fun e w' => e = .returned (.bool true) ∧ Blk w' t 76 #[.pointer (some ⟨F, 0, none⟩)] ∧ Touch w w' t none := by
  refine (as_hit ⟨F, 0, none⟩ ⟨t, 0, none⟩ (.pointer none) w hg (ht.cell 0) (ht.frozen 0)).mono ?_
  rintro e w' ⟨rfl, rfl⟩
  refine ⟨rfl, ((((ht.alloc _).alloc _).alloc _).alloc _).set_ 0 _, rfl, rfl, rfl, by simp; omega, fun j hj hne _ => ?_⟩
  refine (Below.heap_setCell _ _ _ _ hne).trans ?_
  exact (((((Below.refl w.heap.size w).alloc (Nat.le_refl _) _).alloc (by simp) _).alloc (by simp; omega) _).alloc (by simp; omega) _).block j hj

structure TT (w0 w : World) (F g n : Nat) : Prop where
  box : Blk w w0.heap.size 31 #[.slice (some ⟨g, 0, none⟩) 1 1, .int .i64 3]
  part : Blk w g 91 #[.string bByte, .int .i64 n]
  fault : Blk w F 78 #[.string bByte, .int .i64 n, .iface 73 (.int .i64 3)]
  err : ErrType w
  bel : Below w0.heap.size w0 w
theorem TT.below {w0 w w' : World} {F g n : Nat} (h : TT w0 w F g n) (hb : Below w.heap.size w w') : TT w0 w' F g n :=
  ⟨h.box.below hb h.box.lt, h.part.below hb h.part.lt, h.fault.below hb h.fault.lt, h.err.below hb, h.bel.trans (hb.mono h.bel.size)⟩
theorem TT.draws {w0 w : World} {F g n : Nat} (h : TT w0 w F g n) (k : Nat) : TT w0 (w.drewN k) F g n := h.below (below_drewN (Below.refl _ w) k)
theorem TT.cells {w0 w : World} {F g n : Nat} (h : TT w0 w F g n) : w.cell? ⟨w0.heap.size, 0, none⟩ = some (.slice (some ⟨g, 0, none⟩) 1 1) ∧ w.cell? ⟨w0.heap.size, 1, none⟩ = some (.int .i64 3) := ⟨h.box.cell 0, h.box.cell 1⟩

end Go.Proofs.YtanjcjnkppnhcaaGreatDoor

namespace Go.Proofs.YtanjcjnkppnhcaaGreatDoor
open Go Go.RowKit

theorem eqlE_any {e : Int} (he : To14 e) (w : World) : (binOp .eql 25 (.iface 73 (.int .i64 e)) (.iface 73 (.int .i64 e))).run Tryz.prog w = .ok (.bool true) w := by
  rcases he with rfl | rfl | rfl | rfl | rfl | rfl | rfl | rfl | rfl | rfl | rfl | rfl | rfl | rfl <;> kernel_rfl

structure TG (w0 w : World) (F g : Nat) (p : ByteArray) (n e : Int) : Prop where
  box : Blk w w0.heap.size 31 #[.slice (some ⟨g, 0, none⟩) 1 1, .int .i64 e]
  part : Blk w g 91 #[.string p, .int .i64 n]
  fault : Blk w F 78 #[.string p, .int .i64 n, .iface 73 (.int .i64 e)]
  err : ErrType w
  bel : Below w0.heap.size w0 w
theorem TG.below {w0 w w' : World} {F g : Nat} {p : ByteArray} {n e : Int} (h : TG w0 w F g p n e) (hb : Below w.heap.size w w') : TG w0 w' F g p n e :=
  ⟨h.box.below hb h.box.lt, h.part.below hb h.part.lt, h.fault.below hb h.fault.lt, h.err.below hb, h.bel.trans (hb.mono h.bel.size)⟩
theorem TG.draws {w0 w : World} {F g : Nat} {p : ByteArray} {n e : Int} (h : TG w0 w F g p n e) (k : Nat) : TG w0 (w.drewN k) F g p n e := h.below (below_drewN (Below.refl _ w) k)
theorem TG.cells {w0 w : World} {F g : Nat} {p : ByteArray} {n e : Int} (h : TG w0 w F g p n e) : w.cell? ⟨w0.heap.size, 0, none⟩ = some (.slice (some ⟨g, 0, none⟩) 1 1) ∧ w.cell? ⟨w0.heap.size, 1, none⟩ = some (.int .i64 e) := ⟨h.box.cell 0, h.box.cell 1⟩

end Go.Proofs.YtanjcjnkppnhcaaGreatDoor

namespace Go.Proofs.YtanjcjnkppnhcaaGreatDoor
open Go Go.RowKit

structure TA (w0 w : World) (F g : Nat) (p : ByteArray) (n e : Int) : Prop where
  box : Blk w w0.heap.size 31 #[.slice (some ⟨g, 0, none⟩) 1 1, .int .i64 e]
  part : Blk w g 91 #[.string p, .int .i64 n]
  fault : Blk w F 78 #[.string p, .int .i64 n, .iface 73 (.int .i64 e)]
  err : ErrType w
  tab : PowTab w
  bel : Below w0.heap.size w0 w
theorem TA.below {w0 w w' : World} {F g : Nat} {p : ByteArray} {n e : Int} (h : TA w0 w F g p n e) (hb : Below w.heap.size w w') : TA w0 w' F g p n e :=
  ⟨h.box.below hb h.box.lt, h.part.below hb h.part.lt, h.fault.below hb h.fault.lt, h.err.below hb, tabIs_below h.tab hb, h.bel.trans (hb.mono h.bel.size)⟩
theorem TA.draws {w0 w : World} {F g : Nat} {p : ByteArray} {n e : Int} (h : TA w0 w F g p n e) (k : Nat) : TA w0 (w.drewN k) F g p n e := h.below (below_drewN (Below.refl _ w) k)
theorem TA.cells {w0 w : World} {F g : Nat} {p : ByteArray} {n e : Int} (h : TA w0 w F g p n e) : w.cell? ⟨w0.heap.size, 0, none⟩ = some (.slice (some ⟨g, 0, none⟩) 1 1) ∧ w.cell? ⟨w0.heap.size, 1, none⟩ = some (.int .i64 e) := ⟨h.box.cell 0, h.box.cell 1⟩

set_option maxRecDepth 100000 in
set_option maxHeartbeats 4000000 in
theorem tells_all (w : World) (F g : Nat) (p : ByteArray) (n e : Int) (hF : Blk w F 78 #[.string p, .int .i64 n, .iface 73 (.int .i64 e)]) (hg : Blk w g 91 #[.string p, .int .i64 n]) (hp : p.size ≤ 1000) (h0 : -9223372036854775808 ≤ n) (h1 : n ≤ 9223372036854775807) (he : To14 e) (hE : ErrType w) (ht : PowTab w) :
    Calls Tryz.prog 11 #[.iface 76 (.pointer (some ⟨F, 0, none⟩)), wrongG g e] w fun x w' => x = .returned (.bool true) ∧ Below w.heap.size w w' := by
  have hb0 := (Below.refl w.heap.size w).alloc (Nat.le_refl _) (.cells #[.slice (some ⟨g, 0, none⟩) 1 1, .int .i64 e] 31)
  have T0 := Lib.hid (TA.mk (w0 := w) (heap_alloc_new w (.cells #[.slice (some ⟨g, 0, none⟩) 1 1, .int .i64 e] 31)) (Blk.below hg hb0 (Blk.lt hg)) (hF.below hb0 hF.lt) (hE.below hb0) (tabIs_below ht hb0) hb0)
  have T0d : Hid (TA w (w.alloc (.cells #[.slice (some ⟨g, 0, none⟩) 1 1, .int .i64 e] 31)).drew F g p n e) := Lib.hid (T0.out.draws 1)
  have ER := Lib.hid fun W (h : Blk W F 78 #[.string p, .int .i64 n, .iface 73 (.int .i64 e)]) (h2 : PowTab W) => fault_all W F p n e h hp h0 h1 he h2
  have WO := Lib.hid fun W (h : Blk W g 91 #[.string p, .int .i64 n]) => words_says W g p (numB n) n e h hp (Nat.le_trans (numB_size h0 h1) (by decide)) he (fun W => refDecimal_all n h0 h1 W)
  have IS := Lib.hid fun W (h : Blk W F 78 #[.string p, .int .i64 n, .iface 73 (.int .i64 e)]) => is_hit F e W (h.cell 2) (eqlE_any he)
  have AS := Lib.hid fun W t => as_fault F t W
  have mF := invokeFault
  have nF := nilF
  have c0 := T0.out.box.cell 0
  have c1 := T0.out.box.cell 1
  have hne0 : (e == 0) = false := by
    have h1 : ¬ e = 0 := by unfold To14 at he; omega
    simpa using h1
  obtain ⟨s, hs⟩ : ∃ s, s = fwG p (numB n) (ew e) := ⟨_, rfl⟩
  rw [← hs] at ER WO
  clear hs hF hg hE hb0 ht hp he h0 h1
  go_enter Tryz.func11, Tryz.ntmps11
  go_wp2_with fail
  refine wp_region_held_drew (S := fun w' => w'.cell? ⟨w.heap.size, 0, none⟩ = some (.slice (some ⟨g, 0, none⟩) 1 1) ∧ w'.cell? ⟨w.heap.size, 1, none⟩ = some (.int .i64 e)) (by kernel_rfl) (T0d.out.cells) (fun hHeld => ?_)
  refine wpAnyH_take (i := 0) (oi := { dst := some 11, op := Op.move (Operand.tmp 0), type := 25, pos := "law.go:25", after := #[], guard := none }) (v := ?vt0) rfl (by kernel_rfl) (by kernel_rfl) (by kernel_rfl) (fun _ _ _ h => h) (Or.inl ⟨by rfl, ?yt0⟩) (by assumption) ?rt0
  case yt0 => (intro w' hSw; (try dsimp only at hSw); go_simp; try with_reducible rfl)
  try simp only [Act.put, List.setIfInBounds_toArray, List.set_cons_zero, List.set_cons_succ]
  refine wpAnyH_take (i := 1) (oi := { dst := some 12, op := Op.binOp BinOp.eql 25 (Operand.tmp 11) (Operand.const Value.nilIface) 25, type := 4, pos := "law.go:25", after := #[{ on := 0, ground := Ground.data }], guard := none }) (v := ?vt1) rfl (by kernel_rfl) (by kernel_rfl) (by kernel_rfl) (fun _ _ _ h => h) (Or.inl ⟨by rfl, ?yt1⟩) (by assumption) ?rt1
  case yt1 => (intro w' hSw; (try dsimp only at hSw); go_simp; try with_reducible rfl)
  try simp only [Act.put, List.setIfInBounds_toArray, List.set_cons_zero, List.set_cons_succ]
  refine wpAnyH_take (i := 2) (oi := { dst := some 13, op := Op.move (Operand.tmp 12), type := 4, pos := "law.go:25", after := #[{ on := 1, ground := Ground.data }], guard := none }) (v := ?vt2) rfl (by kernel_rfl) (by kernel_rfl) (by kernel_rfl) (fun _ _ _ h => h) (Or.inl ⟨by rfl, ?yt2⟩) (by assumption) ?rt2
  case yt2 => (intro w' hSw; (try dsimp only at hSw); go_simp; try with_reducible rfl)
  try simp only [Act.put, List.setIfInBounds_toArray, List.set_cons_zero, List.set_cons_succ]
  refine wpAnyH_take (i := 3) (oi := { dst := some 14, op := Op.move (Operand.tmp 0), type := 25, pos := "law.go:25", after := #[{ on := 2, ground := Ground.guard }], guard := some (2, false) }) (v := ?vt3) rfl (by kernel_rfl) (by kernel_rfl) (by kernel_rfl) (fun _ _ _ h => h) (Or.inl ⟨by rfl, ?yt3⟩) (by assumption) ?rt3
  case yt3 => (intro w' hSw; (try dsimp only at hSw); go_simp; try with_reducible rfl)
  try simp only [Act.put, List.setIfInBounds_toArray, List.set_cons_zero, List.set_cons_succ]
  refine wpAnyH_take (i := 5) (oi := { dst := some 16, op := Op.load 31 (Operand.tmp 3), type := 31, pos := "law.go:25", after := #[{ on := 2, ground := Ground.guard }], guard := some (2, false) }) (v := ?vt5) rfl (by kernel_rfl) (by kernel_rfl) (by kernel_rfl) (fun _ _ _ h => h) (Or.inl ⟨by rfl, ?yt5⟩) (by assumption) ?rt5
  case yt5 => (intro w' hSw; (try dsimp only at hSw); go_simp; try with_reducible rfl)
  try simp only [Act.put, List.setIfInBounds_toArray, List.set_cons_zero, List.set_cons_succ]
  refine wpAnyH_ready (rs := [4]) (by kernel_rfl) (by simp) ?_
  refine AllReadyH.cons (o := { dst := some 15, op := Op.call { callee := Callee.invoke (Operand.tmp 14) "Error", args := #[], argTypes := #[] }, type := 9, pos := "law.go:25", after := #[{ on := 3, ground := Ground.data }, { on := 2, ground := Ground.chain }, { on := 2, ground := Ground.guard }], guard := some (2, false) }) rfl (fun K hK => ?_) AllReadyH.nil
  go_simp
  go_at_call 181
  refine (ER.out _ (TA.fault T0d.out) (TA.tab T0d.out)).mono ?_
  rintro x w1 ⟨rfl, hb1⟩
  have T1 := Lib.hid (T0d.out.below hb1)
  go_wp2_with fail
  refine hK.out _ _ (T1.out.cells) (fun hHeldt4 => ?_)
  clear hK K hHeld
  try simp only [Act.put, List.setIfInBounds_toArray, List.set_cons_zero, List.set_cons_succ]
  refine wpAnyH_ready (rs := [6]) (by kernel_rfl) (by simp) ?_
  refine AllReadyH.cons (o := { dst := some 17, op := Op.call { callee := Callee.value (Operand.func 41), args := #[Operand.tmp 16], argTypes := #[31] }, type := 9, pos := "law.go:25", after := #[{ on := 5, ground := Ground.data }, { on := 4, ground := Ground.chain }, { on := 2, ground := Ground.guard }], guard := some (2, false) }) rfl (fun K hK => ?_) AllReadyH.nil
  go_simp
  go_at_call 41
  refine (WO.out _ (TA.part T1.out)).mono ?_
  rintro x w2 ⟨rfl, hb2⟩
  have T2 := Lib.hid (T1.out.below hb2)
  go_wp2_with fail
  refine hK.out _ _ (T2.out.cells) (fun hHeldt6 => ?_)
  clear hK K hHeldt4
  try simp only [Act.put, List.setIfInBounds_toArray, List.set_cons_zero, List.set_cons_succ]
  refine wpAnyH_take (i := 7) (oi := { dst := some 18, op := Op.binOp BinOp.neq 9 (Operand.tmp 15) (Operand.tmp 17) 9, type := 4, pos := "law.go:25", after := #[{ on := 4, ground := Ground.data }, { on := 6, ground := Ground.data }, { on := 2, ground := Ground.guard }], guard := some (2, false) }) (v := ?vt7) rfl (by kernel_rfl) (by kernel_rfl) (by kernel_rfl) (fun _ _ _ h => h) (Or.inl ⟨by rfl, ?yt7⟩) (by assumption) ?rt7
  case yt7 => (intro w' hSw; (try dsimp only at hSw); go_simp; try with_reducible rfl)
  try simp only [Act.put, List.setIfInBounds_toArray, List.set_cons_zero, List.set_cons_succ]
  refine wpAnyH_take (i := 8) (oi := { dst := some 19, op := Op.pick (Operand.tmp 13) (Operand.const (Value.bool true)) (Operand.tmp 18), type := 4, pos := "law.go:25", after := #[{ on := 2, ground := Ground.data }, { on := 7, ground := Ground.data }], guard := none }) (v := ?vt8) rfl (by kernel_rfl) (by kernel_rfl) (by kernel_rfl) (fun _ _ _ h => h) (Or.inl ⟨by rfl, ?yt8⟩) (by assumption) ?rt8
  case yt8 => (intro w' hSw; (try dsimp only at hSw); go_simp; try with_reducible rfl)
  try simp only [Act.put, List.setIfInBounds_toArray, List.set_cons_zero, List.set_cons_succ]
  refine wpAnyH_take (i := 9) (oi := { dst := some 20, op := Op.move (Operand.tmp 19), type := 4, pos := "law.go:25", after := #[{ on := 8, ground := Ground.data }, { on := 6, ground := Ground.chain }], guard := none }) (v := ?vt9) rfl (by kernel_rfl) (by kernel_rfl) (by kernel_rfl) (fun _ _ _ h => h) (Or.inl ⟨by rfl, ?yt9⟩) (by assumption) ?rt9
  case yt9 => (intro w' hSw; (try dsimp only at hSw); go_simp; try with_reducible rfl)
  try simp only [Act.put, List.setIfInBounds_toArray, List.set_cons_zero, List.set_cons_succ]
  refine wpAnyH_take (i := 10) (oi := { dst := some 21, op := Op.move (Operand.tmp 0), type := 25, pos := "law.go:25", after := #[{ on := 9, ground := Ground.guard }], guard := some (9, false) }) (v := ?vt10) rfl (by kernel_rfl) (by kernel_rfl) (by kernel_rfl) (fun _ _ _ h => h) (Or.inl ⟨by rfl, ?yt10⟩) (by assumption) ?rt10
  case yt10 => (intro w' hSw; (try dsimp only at hSw); go_simp; try with_reducible rfl)
  try simp only [Act.put, List.setIfInBounds_toArray, List.set_cons_zero, List.set_cons_succ]
  refine wpAnyH_take (i := 11) (oi := { dst := some 22, op := Op.fieldAddr 31 (Operand.tmp 3) 1, type := 0, pos := "law.go:25", after := #[{ on := 9, ground := Ground.guard }], guard := some (9, false) }) (v := ?vt11) rfl (by kernel_rfl) (by kernel_rfl) (by kernel_rfl) (fun _ _ _ h => h) (Or.inl ⟨by rfl, ?yt11⟩) (by assumption) ?rt11
  case yt11 => (intro w' hSw; (try dsimp only at hSw); go_simp; try with_reducible rfl)
  try simp only [Act.put, List.setIfInBounds_toArray, List.set_cons_zero, List.set_cons_succ]
  refine wpAnyH_take (i := 12) (oi := { dst := some 23, op := Op.load 3 (Operand.tmp 22), type := 3, pos := "law.go:25", after := #[{ on := 11, ground := Ground.data }, { on := 9, ground := Ground.guard }], guard := some (9, false) }) (v := ?vt12) rfl (by kernel_rfl) (by kernel_rfl) (by kernel_rfl) (fun _ _ _ h => h) (Or.inl ⟨by rfl, ?yt12⟩) (by assumption) ?rt12
  case yt12 => (intro w' hSw; (try dsimp only at hSw); go_simp; try with_reducible rfl)
  try simp only [Act.put, List.setIfInBounds_toArray, List.set_cons_zero, List.set_cons_succ]
  refine wpAnyH_take (i := 13) (oi := { dst := some 24, op := Op.makeInterface 73 (Operand.tmp 23), type := 25, pos := "law.go:25", after := #[{ on := 12, ground := Ground.data }, { on := 9, ground := Ground.guard }], guard := some (9, false) }) (v := ?vt13) rfl (by kernel_rfl) (by kernel_rfl) (by kernel_rfl) (fun _ _ _ h => h) (Or.inl ⟨by rfl, ?yt13⟩) (by assumption) ?rt13
  case yt13 => (intro w' hSw; (try dsimp only at hSw); go_simp; try with_reducible rfl)
  try simp only [Act.put, List.setIfInBounds_toArray, List.set_cons_zero, List.set_cons_succ]
  refine wpAnyH_ready (rs := [14]) (by kernel_rfl) (by simp) ?_
  refine AllReadyH.cons (o := { dst := some 25, op := Op.call { callee := Callee.value (Operand.func 42), args := #[Operand.tmp 21, Operand.tmp 24], argTypes := #[25, 25] }, type := 4, pos := "law.go:25", after := #[{ on := 10, ground := Ground.data }, { on := 13, ground := Ground.data }, { on := 9, ground := Ground.chain }, { on := 9, ground := Ground.guard }], guard := some (9, false) }) rfl (fun K hK => ?_) AllReadyH.nil
  go_simp
  go_at_call 42
  refine (IS.out _ (TA.fault T2.out)).mono ?_
  rintro x w3 ⟨rfl, rfl⟩
  go_wp2_with fail
  refine hK.out _ _ (T2.out.cells) (fun hHeldt14 => ?_)
  clear hK K hHeldt6
  try simp only [Act.put, List.setIfInBounds_toArray, List.set_cons_zero, List.set_cons_succ]
  refine wpAnyH_take (i := 15) (oi := { dst := some 26, op := Op.unOp UnOp.not 4 (Operand.tmp 25), type := 4, pos := "law.go:25", after := #[{ on := 14, ground := Ground.data }, { on := 9, ground := Ground.guard }], guard := some (9, false) }) (v := ?vt15) rfl (by kernel_rfl) (by kernel_rfl) (by kernel_rfl) (fun _ _ _ h => h) (Or.inl ⟨by rfl, ?yt15⟩) (by assumption) ?rt15
  case yt15 => (intro w' hSw; (try dsimp only at hSw); go_simp; try with_reducible rfl)
  try simp only [Act.put, List.setIfInBounds_toArray, List.set_cons_zero, List.set_cons_succ]
  refine wpAnyH_take (i := 16) (oi := { dst := some 27, op := Op.pick (Operand.tmp 20) (Operand.const (Value.bool true)) (Operand.tmp 26), type := 4, pos := "law.go:25", after := #[{ on := 9, ground := Ground.data }, { on := 15, ground := Ground.data }], guard := none }) (v := ?vt16) rfl (by kernel_rfl) (by kernel_rfl) (by kernel_rfl) (fun _ _ _ h => h) (Or.inl ⟨by rfl, ?yt16⟩) (by assumption) ?rt16
  case yt16 => (intro w' hSw; (try dsimp only at hSw); go_simp; try with_reducible rfl)
  try simp only [Act.put, List.setIfInBounds_toArray, List.set_cons_zero, List.set_cons_succ]
  refine wpAnyH_done (by kernel_rfl) ?_ _
  have c0 := T2.out.box.cell 0
  have c1 := T2.out.box.cell 1
  have HBk := Lib.hid (Blk.new w3 76 #[.pointer none])
  have T3 := Lib.hid (T2.out.below ((Below.refl _ _).alloc (Nat.le_refl _) (.cells #[.pointer none] 76)))
  clear T0 T0d T1 ER WO IS
  go_wp2_with fail
  refine (AS.out _ _ T3.out.err HBk.out).mono ?_
  rintro x w4 ⟨rfl, hbk, hT⟩
  have C0 := hbk.cell 0
  have d0 := (hT.blk T3.out.box (T3.out.box.ne_ HBk.out (by decide)) (by simp)).cell 0
  have d1 := (hT.blk T3.out.box (T3.out.box.ne_ HBk.out (by decide)) (by simp)).cell 1
  have p0 := (hT.blk T3.out.part (T3.out.part.ne_ HBk.out (by decide)) (by simp)).cell 0
  have p1 := (hT.blk T3.out.part (T3.out.part.ne_ HBk.out (by decide)) (by simp)).cell 1
  have q0 := (hT.blk T3.out.fault (T3.out.fault.ne_ HBk.out (by decide)) (by simp)).cell 0
  have q1 := (hT.blk T3.out.fault (T3.out.fault.ne_ HBk.out (by decide)) (by simp)).cell 1
  have HBF : Hid (Below w.heap.size w w4) := Lib.hid (T2.out.bel.trans (((Below.refl _ _).alloc T2.out.bel.size (.cells #[.pointer none] 76)).trans (hT.below (by have := T2.out.bel.size; simp; omega) T2.out.bel.size (fun _ h => by cases h))))
  clear hbk hT T3 HBk T2 AS
  go_wp2_with fail
  go_quiet (fail)
  go_wp2_with fail
  go_ret
  exact ⟨rfl, below_drewN HBF.out _⟩
end Go.Proofs.YtanjcjnkppnhcaaGreatDoor

namespace Go.Proofs.YtanjcjnkppnhcaaGreatDoor
open Go Go.RowKit

theorem tells_none (w : World) : Calls Tryz.prog 11 #[.nilIface, .agg #[.slice none 0 0, .int .i64 0]] w fun e w' => e = .returned (.bool true) ∧ Below w.heap.size w w' := by
  go_enter Tryz.func11, Tryz.ntmps11
  go_wp2_with fail
  go_ret
  exact ⟨rfl, (Below.refl _ _).alloc (Nat.le_refl _) _⟩
end Go.Proofs.YtanjcjnkppnhcaaGreatDoor

namespace Go.Proofs.YtanjcjnkppnhcaaGreatDoor
open Go.ChangeShapes Go.WideShapes Go.ChangeAt Go.RowKit Go.Deep Go.Joins

theorem list_of_td {α : Type} {P : Nat → α → Prop} : ∀ n : Nat, (∀ i, i < n → ∃ x, P i x) → ∃ l : List α, l.length = n ∧ ∀ i x, l[i]? = some x → P i x
  | 0, _ => ⟨[], rfl, fun i x h => by simp at h⟩
  | n + 1, h => by
    obtain ⟨l, hl, hp⟩ := list_of_td n (fun i hi => h i (by omega))
    obtain ⟨x, hx⟩ := h n (by omega)
    refine ⟨l ++ [x], by simp [hl], fun i y hy => ?_⟩
    rcases Nat.lt_or_ge i n with hi | hi
    · rw [List.getElem?_append_left (by omega)] at hy
      exact hp i y hy
    · rw [List.getElem?_append_right (by omega), hl] at hy
      have : i - n = 0 := by
        have := (List.getElem?_eq_some_iff.1 hy).1
        simp at this; omega
      rw [this] at hy
      simp at hy
      rw [show i = n by omega, ← hy]; exact hx
theorem in64_td {n : Int} (h : (Lit.int .i64 n).wf = true) : -9223372036854775808 ≤ n ∧ n ≤ 9223372036854775807 := by
  simp [Lit.wf, IntKind.min, IntKind.max, IntKind.signed, IntKind.bits] at h
  exact ⟨by omega, by omega⟩
theorem cellsStep : Tryz.prog.cellsOf 41 = 3 := by kernel_rfl
theorem cells3td : Tryz.prog.cellsOf 3 = 1 := by kernel_rfl
theorem cells9td : Tryz.prog.cellsOf 9 = 1 := by kernel_rfl
theorem cells4td : Tryz.prog.cellsOf 4 = 1 := by kernel_rfl
theorem cells23td : Tryz.prog.cellsOf 23 = 1 := by kernel_rfl
set_option maxRecDepth 100000 in
theorem steps_open {H : Type} {enc : TypeId × Value → H} {W : World} {fuel : Nat} {A : Option Addr} {n c : Nat} {x : DataW H × List MemPlace} (hf : DataW.trod enc Tryz.prog W 0 (fun _ => true) true fuel 23 [.slice A n c] = some x) :
    ∃ l : List Fl, Reads 3 cF W (.slice A n c) l ∧ ∀ x ∈ l, -9223372036854775808 ≤ x.2.1 ∧ x.2.1 ≤ 9223372036854775807 := by
  rcases open_slice Tryz.underlying23 hf with ⟨hcs, _⟩ | ⟨a, n', c', m, n1, D, Pl, hcs, _, hl, hm, hmm, _, hi⟩
  · simp at hcs
    obtain ⟨rfl, rfl, rfl⟩ := hcs
    exact ⟨[], Reads.nil W, fun x hx => by cases hx⟩
  · simp at hcs
    obtain ⟨rfl, rfl, rfl⟩ := hcs
    have each : ∀ i, i < n → ∃ x : Fl, (∀ (j : Nat) (u : Value), (cF x)[j]? = some u → W.cell? (adr a i 3 j) = some u) ∧ (-9223372036854775808 ≤ x.2.1 ∧ x.2.1 ≤ 9223372036854775807) := fun i hin => by
      obtain ⟨cs', hc, ht⟩ := hi i (by rw [hmm]; split <;> omega)
      rw [cellsStep] at hc
      obtain ⟨_, hcl, hat⟩ := World.cells?_some hc
      obtain ⟨y0, y1, y2, n2, _, _, h0, h1, h2⟩ := trod_struct3 Tryz.underlying41 ht
      match cs', hcl with
      | [u0, u1, u2], _ =>
        obtain ⟨s0, hs0, _, _⟩ := DataW.trod_string Tryz.underlying9 h0
        obtain ⟨N, hN, _, wf1⟩ := DataW.trod_int Tryz.underlying3 h1
        obtain ⟨s2, hs2, _, _⟩ := DataW.trod_string Tryz.underlying9 h2
        rw [show Tryz.prog.cellsOf 9 = 1 from cells9td] at hs0 hs2
        rw [show Tryz.prog.cellsOf 3 = 1 from cells3td] at hN
        have e0 : u0 = .string s0 := by simpa using hs0
        have e1 : u1 = .int .i64 N := by simpa using hN
        have e2 : u2 = .string s2 := by simpa using hs2
        subst e0; subst e1; subst e2
        refine ⟨(s0, N, s2), fun j u hu => ?_, in64_td wf1⟩
        match j, hu with
        | 0, hu => simp [cF] at hu; subst hu; exact hat 0 (by omega)
        | 1, hu => simp [cF] at hu; subst hu; exact hat 1 (by omega)
        | 2, hu => simp [cF] at hu; subst hu; exact hat 2 (by omega)
        | j + 3, hu => simp [cF] at hu
    obtain ⟨l, hll, hp⟩ := list_of_td n each
    refine ⟨l, ⟨some a, c, by rw [hll], by omega, hm, (fun e => by cases e), fun ad ha i x hx j u hu => by
      obtain rfl := Option.some.inj ha
      exact (hp i x hx).1 j u hu⟩, fun x hx => ?_⟩
    obtain ⟨i, hi, rfl⟩ := List.getElem_of_mem hx
    exact (hp i _ (List.getElem?_eq_getElem hi)).2
end Go.Proofs.YtanjcjnkppnhcaaGreatDoor

namespace Go.Proofs.YtanjcjnkppnhcaaGreatDoor
open Go Go.ChangeShapes Go.WideShapes Go.ChangeAt Go.RowKit Go.Deep Go.Joins

/-- A value that is a command, by its parts. -/
def CmdAt (w : World) (v : Value) (x : CP) : Prop :=
  ∃ A c, v = cpV x A c ∧ Reads 3 cF w (.slice A x.2.2.2.2.2.length c) x.2.2.2.2.2 ∧ (-9223372036854775808 ≤ x.2.2.1 ∧ x.2.2.1 ≤ 9223372036854775807) ∧ ∀ s ∈ x.2.2.2.2.2, -9223372036854775808 ≤ s.2.1 ∧ s.2.1 ≤ 9223372036854775807
section
variable {H : Type} {enc : TypeId × Value → H} {P : Program} {w : World} {base : Nat} {spare : Nat → Bool} {held : Bool}
theorem trod_struct6 {t : TypeId} {f0 f1 f2 f3 f4 f5 : Field} {fuel : Nat} {cs : List Value} {x : DataW H × List MemPlace} (ht : P.underlying t = some (.struct #[f0, f1, f2, f3, f4, f5])) (h : DataW.trod enc P w base spare held fuel t cs = some x) :
    ∃ y0 y1 y2 y3 y4 y5 n, cs.length = P.cellsOf t ∧ DataW.trod enc P w base spare held n f0.type ((cs.drop f0.offset).take (P.cellsOf f0.type)) = some y0 ∧
      DataW.trod enc P w base spare held n f1.type ((cs.drop f1.offset).take (P.cellsOf f1.type)) = some y1 ∧ DataW.trod enc P w base spare held n f2.type ((cs.drop f2.offset).take (P.cellsOf f2.type)) = some y2 ∧
      DataW.trod enc P w base spare held n f3.type ((cs.drop f3.offset).take (P.cellsOf f3.type)) = some y3 ∧ DataW.trod enc P w base spare held n f4.type ((cs.drop f4.offset).take (P.cellsOf f4.type)) = some y4 ∧
      DataW.trod enc P w base spare held n f5.type ((cs.drop f5.offset).take (P.cellsOf f5.type)) = some y5 := by
  obtain ⟨xs, n, _, rfl, hl, hlen, hf⟩ := DataW.trod_struct ht h
  match xs, hlen with
  | [y0, y1, y2, y3, y4, y5], _ => exact ⟨y0, y1, y2, y3, y4, y5, n, hl, by simpa using hf 0 f0 rfl, by simpa using hf 1 f1 rfl, by simpa using hf 2 f2 rfl, by simpa using hf 3 f3 rfl, by simpa using hf 4 f4 rfl, by simpa using hf 5 f5 rfl⟩
end
theorem slice_of_trod {H : Type} {enc : TypeId × Value → H} {W : World} {fuel : Nat} {u : Value} {x : DataW H × List MemPlace} (hf : DataW.trod enc Tryz.prog W 0 (fun _ => true) true fuel 23 [u] = some x) : ∃ A n c, u = .slice A n c := by
  rcases open_slice Tryz.underlying23 hf with ⟨hcs, _⟩ | ⟨a, n', c', m, n1, D, Pl, hcs, _⟩
  · simp at hcs
    exact ⟨_, _, _, hcs⟩
  · simp at hcs
    exact ⟨_, _, _, hcs⟩
set_option maxRecDepth 100000 in
theorem cmd_of_trod {H : Type} {enc : TypeId × Value → H} {W : World} {base : Nat} {v : Value} {d : DataW H} {p : List MemPlace} (hv : Value.okWide Tryz.prog W .any base 52 v) (h : DataW.Trod enc Tryz.prog W 0 (fun _ => true) true 52 v d p) :
    ∃ x : CP, CmdAt W v x := by
  obtain ⟨cs, rfl, hs⟩ := okWide_struct Tryz.underlying52 hv
  obtain ⟨fuel, hf⟩ := h
  obtain ⟨y0, y1, y2, y3, y4, y5, n2, _, h0, h1, h2, h3, h4, h5⟩ := trod_struct6 Tryz.underlying52 hf
  rw [show Tryz.prog.cellsOf 52 = 6 by kernel_rfl] at hs
  obtain ⟨cl⟩ := cs
  simp at hs
  match cl, hs with
  | [u0, u1, u2, u3, u4, u5], _ =>
    obtain ⟨s0, hs0, _, _⟩ := DataW.trod_string Tryz.underlying9 h0
    obtain ⟨s1, hs1, _, _⟩ := DataW.trod_string Tryz.underlying9 h1
    obtain ⟨N2, hN2, _, wf2⟩ := DataW.trod_int Tryz.underlying3 h2
    obtain ⟨s3, hs3, _, _⟩ := DataW.trod_string Tryz.underlying9 h3
    obtain ⟨b4, hb4, _, _⟩ := DataW.trod_bool Tryz.underlying4 h4
    rw [show Tryz.prog.cellsOf 9 = 1 from cells9td] at hs0 hs1 hs3
    rw [show Tryz.prog.cellsOf 3 = 1 from cells3td] at hN2
    rw [show Tryz.prog.cellsOf 4 = 1 from cells4td] at hb4
    rw [show Tryz.prog.cellsOf 23 = 1 from cells23td] at h5
    have e0 : u0 = .string s0 := by simpa [Value.cells] using hs0
    have e1 : u1 = .string s1 := by simpa [Value.cells] using hs1
    have e2 : u2 = .int .i64 N2 := by simpa [Value.cells] using hN2
    have e3 : u3 = .string s3 := by simpa [Value.cells] using hs3
    have e4 : u4 = .bool b4 := by simpa [Value.cells] using hb4
    have h5' : DataW.trod enc Tryz.prog W 0 (fun _ => true) true n2 23 [u5] = some y5 := by simpa [Value.cells] using h5
    obtain ⟨A, n, c, rfl⟩ := slice_of_trod h5'
    obtain ⟨l, hr, hb⟩ := steps_open h5'
    have hn : n = l.length := by
      obtain ⟨A', c', e5, _⟩ := hr
      injection e5
    subst hn
    exact ⟨(s0, s1, N2, s3, b4, l), A, c, by rw [e0, e1, e2, e3, e4], hr, in64_td wf2, hb⟩
end Go.Proofs.YtanjcjnkppnhcaaGreatDoor
