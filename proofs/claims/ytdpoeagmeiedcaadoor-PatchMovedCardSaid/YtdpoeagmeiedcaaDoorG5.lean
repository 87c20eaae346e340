/-
  The document's words of an error of one part.
  errors.As at a Fault: the Fault itself.
  errors.Is at a Fault that wraps an Errno.
  Tells: a Fault of one part is told as the document tells it.
  The words of every Errno but OK, and of the document's.
  A Fault's Error and the document's Words, at any part, any number whose digits are known, any Errno.
  Tells, at any part, any number whose digits are known, any Errno.
  strconv.Itoa and rectoref3.Decimal from 0 to 9.
  Too many lines: what the program and the document say of it.
  rectoref11.Lines: the document's edits.
  rectoref11.kept: of each line of base where it is kept.
  rectoref11.between: a piece that is not kept.
-/
import Derived.Test.YtdpoeagmeiedcaaDoorG4
import Derived.LaidEql
import Derived.Stop.Asserts
import Derived.RowKitTokens
import Derived.Test.YtdpoeagmeiedcaaDoorG3
import Derived.Test.YtdpoeagmeiedcaaDoorG2
namespace Go.Proofs.YtdpoeagmeiedcaaDoor
open Go Go.RowKit

/-- A Wrong of one part, Errno 3. -/
def WrongAt (w : World) (g n : Nat) : Prop := Blk w g 104 #[.string bByte, .int .i64 n]
abbrev wrong1 (g : Nat) : Value := .agg #[.slice (some ⟨g, 0, none⟩) 1 1, .int .i64 3]
set_option maxHeartbeats 1000000 in
theorem refAt_any (n : Nat) (w : World) : Calls Tryd.prog 59 #[.string bByte, .int .i64 n, .int .i64 3] w fun e w' => ∃ g, e = .returned (wrong1 g) ∧ WrongAt w' g n ∧ w.heap.size ≤ g ∧ Below w.heap.size w w' := by
  go_enter Tryd.func59, Tryd.ntmps59
  go_wp2
  refine bodyPost_ret (results_cell_row (fn := Tryd.f59) rfl _ _ w.heap.size 33 #[.slice (some ⟨w.heap.size + 1, 0, none⟩) 1 1, .int .i64 3] (0, 0) _ rfl ((Blk.new w 33 _).alloc _) Tryd.underlying33 rfl (by kernel_rfl)) rfl ⟨w.heap.size + 1, rfl, ?_, by omega, ((Below.refl _ _).alloc (Nat.le_refl _) _).alloc (by simp) _⟩
  have h := heap_alloc_new (w.alloc (.cells #[.slice (some ⟨w.heap.size + 1, 0, none⟩) 1 1, .int .i64 3] 33)) (.cells #[.string bByte, .int .i64 n] 104)
  rw [show (w.alloc (.cells #[.slice (some ⟨w.heap.size + 1, 0, none⟩) 1 1, .int .i64 3] 33)).heap.size = w.heap.size + 1 by simp] at h
  exact h

structure WA (w0 w : World) (B1 g n : Nat) : Prop where
  box : Blk w B1 33 #[.slice (some ⟨g, 0, none⟩) 1 1, .int .i64 3]
  part : Blk w g 104 #[.string bByte, .int .i64 n]
  bel : Below w0.heap.size w0 w
theorem WA.below {w0 w w' : World} {B1 g n : Nat} (h : WA w0 w B1 g n) (hb : Below w.heap.size w w') : WA w0 w' B1 g n :=
  ⟨h.box.below hb h.box.lt, h.part.below hb h.part.lt, h.bel.trans (hb.mono h.bel.size)⟩
theorem WA.drew {w0 w w' : World} {B1 g n : Nat} (h : WA w0 w B1 g n) (hb : Below w.drew.heap.size w.drew w') : WA w0 w' B1 g n := (h.below (below_drewN (Below.refl _ w) 1)).below hb
theorem WA.cells {w0 w : World} {B1 g n : Nat} (h : WA w0 w B1 g n) : w.cell? ⟨B1, 0, none⟩ = some (.slice (some ⟨g, 0, none⟩) 1 1) ∧ w.cell? ⟨g, 0, none⟩ = some (.string bByte) ∧ w.cell? ⟨g, 1, none⟩ = some (.int .i64 n) := ⟨h.box.cell 0, h.part.cell 0, h.part.cell 1⟩

attribute [-go_sem] run_string_add_if
set_option maxRecDepth 100000 in
set_option maxHeartbeats 4000000 in
theorem words_any (w : World) (g n : Nat) (hg : WrongAt w g n) (hn : To10 n) :
    Calls Tryd.prog 43 #[wrong1 g] w fun e w' => e = .returned (.string (fw n)) ∧ Below w.heap.size w w' := by
  have T0 := Lib.hid (WA.mk (w0 := w) (heap_alloc_new w (.cells #[.slice (some ⟨g, 0, none⟩) 1 1, .int .i64 3] 33)) (hg.below ((Below.refl _ _).alloc (Nat.le_refl _) _) hg.lt) ((Below.refl _ _).alloc (Nat.le_refl _) _))
  have DEC := Lib.hid fun W => refDecimal_any hn W
  have SH := Lib.hid fun W => refWord_short W
  have hd := dg_size n
  obtain ⟨s0, hs0, hz0, hr0⟩ := sum_named ⟨#[]⟩ bByte (by decide)
  have e0 : s0 = bByte := by rw [hs0]; decide
  subst e0
  obtain ⟨s1, hs1, hz1, hr1⟩ := sum_named bByte ⟨#[32]⟩ (by decide)
  have hz1' : s1.size = 5 := by rw [hz1]; rfl
  obtain ⟨s2, hs2, hz2, hr2⟩ := sum_named s1 (dg n) (by omega)
  obtain ⟨s3, hs3, hz3, hr3⟩ := sum_named s2 ⟨#[58, 32]⟩ (by rw [hz2, hz1']; show 5 + (dg n).size + 2 ≤ _; omega)
  obtain ⟨s4, hs4, hz4, hr4⟩ := sum_named s3 bShort (by rw [hz3, hz2, hz1']; show 5 + (dg n).size + 2 + 5 ≤ _; omega)
  have HS : Hid (s4 = fw n) := Lib.hid (by rw [hs4, hs3, hs2, hs1]; rfl)
  clear hg hs0 hz0 hs1 hs2 hs3 hs4 hz1 hz2 hz3 hz4 hz1'
  obtain ⟨D, hD⟩ : ∃ D, D = dg n := ⟨_, rfl⟩
  rw [← hD] at DEC hr2 hd
  clear hD
  have c0 := T0.out.box.cell 0
  have c1 := T0.out.box.cell 1
  go_enter Tryd.func43, Tryd.ntmps43
  go_wp2_with fail
  refine wp_loop_rounds 2 ?_
  rw [rounds_succ]
  go_wp2_with fail
  refine wp_region_held_drew (S := fun w' => w'.cell? ⟨w.heap.size, 0, none⟩ = some (.slice (some ⟨g, 0, none⟩) 1 1) ∧ w'.cell? ⟨g, 0, none⟩ = some (.string bByte) ∧ w'.cell? ⟨g, 1, none⟩ = some (.int .i64 n)) (by kernel_rfl) (T0.out.cells) (fun hHeld => ?_)
  refine wpAnyH_take (i := 0) (oi := { dst := some 12, op := Op.move (Operand.tmp 3), type := 9, pos := "ref.go:62", after := #[], guard := none }) (v := ?vw0) rfl (by kernel_rfl) (by kernel_rfl) (by kernel_rfl) (fun _ _ _ h => h) (Or.inl ⟨by rfl, ?yw0⟩) (by assumption) ?rw0
  case yw0 => (intro w' hSw; (try dsimp only at hSw); go_simp; try with_reducible rfl)
  try simp only [Act.put, List.setIfInBounds_toArray, List.set_cons_zero, List.set_cons_succ]
  refine wpAnyH_take (i := 1) (oi := { dst := some 13, op := Op.fieldAddr 33 (Operand.tmp 1) 0, type := 0, pos := "ref.go:62", after := #[], guard := none }) (v := ?vw1) rfl (by kernel_rfl) (by kernel_rfl) (by kernel_rfl) (fun _ _ _ h => h) (Or.inl ⟨by rfl, ?yw1⟩) (by assumption) ?rw1
  case yw1 => (intro w' hSw; (try dsimp only at hSw); go_simp; try with_reducible rfl)
  try simp only [Act.put, List.setIfInBounds_toArray, List.set_cons_zero, List.set_cons_succ]
  refine wpAnyH_take (i := 2) (oi := { dst := some 14, op := Op.load 31 (Operand.tmp 13), type := 31, pos := "ref.go:62", after := #[{ on := 1, ground := Ground.data }], guard := none }) (v := ?vw2) rfl (by kernel_rfl) (by kernel_rfl) (by kernel_rfl) (fun _ _ _ h => h) (Or.inl ⟨by rfl, ?yw2⟩) (by assumption) ?rw2
  case yw2 => (intro w' hSw; (try dsimp only at hSw); go_simp; try with_reducible rfl)
  try simp only [Act.put, List.setIfInBounds_toArray, List.set_cons_zero, List.set_cons_succ]
  refine wpAnyH_take (i := 3) (oi := { dst := some 15, op := Op.move (Operand.tmp 4), type := 3, pos := "ref.go:62", after := #[], guard := none }) (v := ?vw3) rfl (by kernel_rfl) (by kernel_rfl) (by kernel_rfl) (fun _ _ _ h => h) (Or.inl ⟨by rfl, ?yw3⟩) (by assumption) ?rw3
  case yw3 => (intro w' hSw; (try dsimp only at hSw); go_simp; try with_reducible rfl)
  try simp only [Act.put, List.setIfInBounds_toArray, List.set_cons_zero, List.set_cons_succ]
  refine wpAnyH_take (i := 4) (oi := { dst := some 16, op := Op.indexAddr 31 (Operand.tmp 14) (Operand.tmp 15), type := 0, pos := "ref.go:62", after := #[{ on := 2, ground := Ground.data }, { on := 3, ground := Ground.data }], guard := none }) (v := ?vw4) rfl (by kernel_rfl) (by kernel_rfl) (by kernel_rfl) (fun _ _ _ h => h) (Or.inl ⟨by rfl, ?yw4⟩) (by assumption) ?rw4
  case yw4 => (intro w' hSw; (try dsimp only at hSw); go_simp; try with_reducible rfl)
  try simp only [Act.put, List.setIfInBounds_toArray, List.set_cons_zero, List.set_cons_succ]
  refine wpAnyH_take (i := 5) (oi := { dst := some 17, op := Op.fieldAddr 104 (Operand.tmp 16) 0, type := 0, pos := "ref.go:62", after := #[{ on := 4, ground := Ground.data }], guard := none }) (v := ?vw5) rfl (by kernel_rfl) (by kernel_rfl) (by kernel_rfl) (fun _ _ _ h => h) (Or.inl ⟨by rfl, ?yw5⟩) (by assumption) ?rw5
  case yw5 => (intro w' hSw; (try dsimp only at hSw); go_simp; try with_reducible rfl)
  try simp only [Act.put, List.setIfInBounds_toArray, List.set_cons_zero, List.set_cons_succ]
  refine wpAnyH_take (i := 6) (oi := { dst := some 18, op := Op.load 9 (Operand.tmp 17), type := 9, pos := "ref.go:62", after := #[{ on := 5, ground := Ground.data }], guard := none }) (v := ?vw6) rfl (by kernel_rfl) (by kernel_rfl) (by kernel_rfl) (fun _ _ _ h => h) (Or.inl ⟨by rfl, ?yw6⟩) (by assumption) ?rw6
  case yw6 => (intro w' hSw; (try dsimp only at hSw); go_simp; try with_reducible rfl)
  try simp only [Act.put, List.setIfInBounds_toArray, List.set_cons_zero, List.set_cons_succ]
  refine wpAnyH_take (i := 7) (oi := { dst := some 19, op := Op.binOp BinOp.add 9 (Operand.tmp 12) (Operand.tmp 18) 9, type := 9, pos := "ref.go:62", after := #[{ on := 0, ground := Ground.data }, { on := 6, ground := Ground.data }], guard := none }) (v := ?vw7) rfl (by kernel_rfl) (by kernel_rfl) (by kernel_rfl) (fun _ _ _ h => h) (Or.inl ⟨by rfl, ?yw7⟩) (by assumption) ?rw7
  case yw7 => (intro w' hSw; (try dsimp only at hSw); go_simp; try with_reducible rfl)
  try simp only [Act.put, List.setIfInBounds_toArray, List.set_cons_zero, List.set_cons_succ]
  refine wpAnyH_take (i := 8) (oi := { dst := some 20, op := Op.binOp BinOp.add 9 (Operand.tmp 19) (Operand.const (Value.string { data := #[32] })) 9, type := 9, pos := "ref.go:62", after := #[{ on := 7, ground := Ground.data }], guard := none }) (v := ?vw8) rfl (by kernel_rfl) (by kernel_rfl) (by kernel_rfl) (fun _ _ _ h => h) (Or.inl ⟨by rfl, ?yw8⟩) (by assumption) ?rw8
  case yw8 => (intro w' hSw; (try dsimp only at hSw); go_simp; try with_reducible rfl)
  try simp only [Act.put, List.setIfInBounds_toArray, List.set_cons_zero, List.set_cons_succ]
  refine wpAnyH_take (i := 9) (oi := { dst := some 21, op := Op.fieldAddr 33 (Operand.tmp 1) 0, type := 0, pos := "ref.go:62", after := #[], guard := none }) (v := ?vw9) rfl (by kernel_rfl) (by kernel_rfl) (by kernel_rfl) (fun _ _ _ h => h) (Or.inl ⟨by rfl, ?yw9⟩) (by assumption) ?rw9
  case yw9 => (intro w' hSw; (try dsimp only at hSw); go_simp; try with_reducible rfl)
  try simp only [Act.put, List.setIfInBounds_toArray, List.set_cons_zero, List.set_cons_succ]
  refine wpAnyH_take (i := 10) (oi := { dst := some 22, op := Op.load 31 (Operand.tmp 21), type := 31, pos := "ref.go:62", after := #[{ on := 9, ground := Ground.data }], guard := none }) (v := ?vw10) rfl (by kernel_rfl) (by kernel_rfl) (by kernel_rfl) (fun _ _ _ h => h) (Or.inl ⟨by rfl, ?yw10⟩) (by assumption) ?rw10
  case yw10 => (intro w' hSw; (try dsimp only at hSw); go_simp; try with_reducible rfl)
  try simp only [Act.put, List.setIfInBounds_toArray, List.set_cons_zero, List.set_cons_succ]
  refine wpAnyH_take (i := 11) (oi := { dst := some 23, op := Op.move (Operand.tmp 4), type := 3, pos := "ref.go:62", after := #[], guard := none }) (v := ?vw11) rfl (by kernel_rfl) (by kernel_rfl) (by kernel_rfl) (fun _ _ _ h => h) (Or.inl ⟨by rfl, ?yw11⟩) (by assumption) ?rw11
  case yw11 => (intro w' hSw; (try dsimp only at hSw); go_simp; try with_reducible rfl)
  try simp only [Act.put, List.setIfInBounds_toArray, List.set_cons_zero, List.set_cons_succ]
  refine wpAnyH_take (i := 12) (oi := { dst := some 24, op := Op.indexAddr 31 (Operand.tmp 22) (Operand.tmp 23), type := 0, pos := "ref.go:62", after := #[{ on := 10, ground := Ground.data }, { on := 11, ground := Ground.data }], guard := none }) (v := ?vw12) rfl (by kernel_rfl) (by kernel_rfl) (by kernel_rfl) (fun _ _ _ h => h) (Or.inl ⟨by rfl, ?yw12⟩) (by assumption) ?rw12
  case yw12 => (intro w' hSw; (try dsimp only at hSw); go_simp; try with_reducible rfl)
  try simp only [Act.put, List.setIfInBounds_toArray, List.set_cons_zero, List.set_cons_succ]
  refine wpAnyH_take (i := 13) (oi := { dst := some 25, op := Op.fieldAddr 104 (Operand.tmp 24) 1, type := 0, pos := "ref.go:62", after := #[{ on := 12, ground := Ground.data }], guard := none }) (v := ?vw13) rfl (by kernel_rfl) (by kernel_rfl) (by kernel_rfl) (fun _ _ _ h => h) (Or.inl ⟨by rfl, ?yw13⟩) (by assumption) ?rw13
  case yw13 => (intro w' hSw; (try dsimp only at hSw); go_simp; try with_reducible rfl)
  try simp only [Act.put, List.setIfInBounds_toArray, List.set_cons_zero, List.set_cons_succ]
  refine wpAnyH_take (i := 14) (oi := { dst := some 26, op := Op.load 3 (Operand.tmp 25), type := 3, pos := "ref.go:62", after := #[{ on := 13, ground := Ground.data }], guard := none }) (v := ?vw14) rfl (by kernel_rfl) (by kernel_rfl) (by kernel_rfl) (fun _ _ _ h => h) (Or.inl ⟨by rfl, ?yw14⟩) (by assumption) ?rw14
  case yw14 => (intro w' hSw; (try dsimp only at hSw); go_simp; try with_reducible rfl)
  try simp only [Act.put, List.setIfInBounds_toArray, List.set_cons_zero, List.set_cons_succ]
  refine wpAnyH_ready (rs := [15]) (by kernel_rfl) (by simp) ?_
  refine AllReadyH.cons (o := { dst := some 27, op := Op.call { callee := Callee.value (Operand.func 54), args := #[Operand.tmp 26], argTypes := #[3] }, type := 9, pos := "ref.go:62", after := #[{ on := 14, ground := Ground.data }], guard := none }) rfl (fun K hK => ?_) AllReadyH.nil
  go_simp
  go_at_call 54
  refine (DEC.out _).mono ?_
  rintro e w2 ⟨rfl, hb2⟩
  have T2 := Lib.hid (WA.drew T0.out hb2)
  go_wp2_with fail
  refine hK.out _ _ (T2.out.cells) (fun hHeldw15 => ?_)
  clear hK K hHeld
  try simp only [Act.put, List.setIfInBounds_toArray, List.set_cons_zero, List.set_cons_succ]
  refine wpAnyH_take (i := 16) (oi := { dst := some 28, op := Op.binOp BinOp.add 9 (Operand.tmp 20) (Operand.tmp 27) 9, type := 9, pos := "ref.go:62", after := #[{ on := 8, ground := Ground.data }, { on := 15, ground := Ground.data }], guard := none }) (v := ?vw16) rfl (by kernel_rfl) (by kernel_rfl) (by kernel_rfl) (fun _ _ _ h => h) (Or.inl ⟨by rfl, ?yw16⟩) (by assumption) ?rw16
  case yw16 => (intro w' hSw; (try dsimp only at hSw); go_simp; try with_reducible rfl)
  try simp only [Act.put, List.setIfInBounds_toArray, List.set_cons_zero, List.set_cons_succ]
  refine wpAnyH_take (i := 17) (oi := { dst := some 29, op := Op.binOp BinOp.add 9 (Operand.tmp 28) (Operand.const (Value.string { data := #[58, 32] })) 9, type := 9, pos := "ref.go:62", after := #[{ on := 16, ground := Ground.data }], guard := none }) (v := ?vw17) rfl (by kernel_rfl) (by kernel_rfl) (by kernel_rfl) (fun _ _ _ h => h) (Or.inl ⟨by rfl, ?yw17⟩) (by assumption) ?rw17
  case yw17 => (intro w' hSw; (try dsimp only at hSw); go_simp; try with_reducible rfl)
  try simp only [Act.put, List.setIfInBounds_toArray, List.set_cons_zero, List.set_cons_succ]
  refine wpAnyH_take (i := 18) (oi := { dst := some 3, op := Op.assign (Operand.tmp 29), type := 9, pos := "ref.go:62", after := #[{ on := 17, ground := Ground.data }, { on := 15, ground := Ground.chain }, { on := 0, ground := Ground.phase }, { on := 1, ground := Ground.phase }, { on := 2, ground := Ground.phase }, { on := 3, ground := Ground.phase }, { on := 4, ground := Ground.phase }, { on := 5, ground := Ground.phase }, { on := 6, ground := Ground.phase }, { on := 7, ground := Ground.phase }, { on := 8, ground := Ground.phase }, { on := 9, ground := Ground.phase }, { on := 10, ground := Ground.phase }, { on := 11, ground := Ground.phase }, { on := 12, ground := Ground.phase }, { on := 13, ground := Ground.phase }, { on := 14, ground := Ground.phase }, { on := 15, ground := Ground.phase }, { on := 16, ground := Ground.phase }, { on := 17, ground := Ground.phase }], guard := none }) (v := ?vw18) rfl (by kernel_rfl) (by kernel_rfl) (by kernel_rfl) (fun _ _ _ h => h) (Or.inl ⟨by rfl, ?yw18⟩) (by assumption) ?rw18
  case yw18 => (intro w' hSw; (try dsimp only at hSw); go_simp; try with_reducible rfl)
  try simp only [Act.put, List.setIfInBounds_toArray, List.set_cons_zero, List.set_cons_succ]
  refine wpAnyH_done (by kernel_rfl) ?_ _
  clear T0
  have c0 := T2.out.box.cell 0
  have c1 := T2.out.box.cell 1
  go_wp2_with fail
  rw [rounds_succ]
  go_wp2_with fail
  refine (SH.out _).mono ?_
  rintro e w3 ⟨rfl, hb3⟩
  go_wp2_with fail
  go_ret
  exact ⟨by rw [HS.out]; rfl, (T2.out.below hb3).bel⟩
end Go.Proofs.YtdpoeagmeiedcaaDoor
namespace Go.Proofs.YtdpoeagmeiedcaaDoor
open Go Go.RowKit Go.Extern.Stop Go.Stop Go.Extern

theorem valueOfPP (t : Addr) (w : World) : (ReflectliteValue.unpack (.iface 100 (.pointer (some t)))).run Tryd.prog w
    = .ok (.agg #[.pointer (some ⟨5, 100, none⟩), .pointer (some ⟨w.heap.size, 0, none⟩), .int .u64 150]) (w.alloc (.cells #[.pointer (some t)] 100)) := by kernel_rfl
theorem typePP (a : Addr) (w : World) : (ReflectliteValue.methodAny (ReflectliteValue.valueError "reflectlite.Value.Type" 0) (fun t _ _ _ => ReflectliteType.toType t) #[.agg #[.pointer (some ⟨5, 100, none⟩), .pointer (some a), .int .u64 150]]).run Tryd.prog w
    = .ok (.iface 167 (.agg #[.pointer (some ⟨5, 100, none⟩)])) w := by kernel_rfl
theorem methodKind (h : Value) (w : World) : (Go.method 328 167 (.agg #[h]) "Kind").run Tryd.prog w = .ok (130, h) w := by kernel_rfl
theorem kindPP (w : World) : ((ReflectliteType.abiMethod fun t => (fun a : Nat => Value.int IntKind.u8 (a : Int)) <$> Rtype.kind t) #[.pointer (some ⟨5, 100, none⟩)]).run Tryd.prog w = .ok (.int .u8 22) w := by kernel_rfl
theorem kindP (w : World) : ((ReflectliteType.abiMethod fun t => (fun a : Nat => Value.int IntKind.u8 (a : Int)) <$> Rtype.kind t) #[.pointer (some ⟨5, 98, none⟩)]).run Tryd.prog w = .ok (.int .u8 22) w := by kernel_rfl
theorem partsPP (a : Addr) (w : World) : (ReflectliteValue.parts (.agg #[.pointer (some ⟨5, 100, none⟩), .pointer (some a), .int .u64 150])).run Tryd.prog w = .ok (some (100, a, 150)) w := by kernel_rfl
theorem isNilPP (a p : Addr) (W : World) (ha : W.cell? a = some (.pointer (some p))) :
    (ReflectliteValue.method (ReflectliteValue.valueError "reflectlite.Value.IsNil" 0) ReflectliteValue.isNil #[.agg #[.pointer (some ⟨5, 100, none⟩), .pointer (some a), .int .u64 150]]).run Tryd.prog W = .ok (.bool false) W := by
  change Sem.run Tryd.prog (ReflectliteValue.parts (.agg #[.pointer (some ⟨5, 100, none⟩), .pointer (some a), .int .u64 150]) >>= _) W = _
  rw [Sem.run_bind, partsPP]
  dsimp only [Result.andThen]
  simp [ReflectliteValue.isNil, loadVar, isAgg, underlying, Tryd.underlying100, ha, Result.andThen]
theorem methodElem (h : Value) (w : World) : (Go.method 328 167 (.agg #[h]) "Elem").run Tryd.prog w = .ok (143, .agg #[h]) w := by kernel_rfl
theorem methodImplements (h : Value) (w : World) : (Go.method 328 167 (.agg #[h]) "Implements").run Tryd.prog w = .ok (144, .agg #[h]) w := by kernel_rfl
theorem methodAssignableTo (h : Value) (w : World) : (Go.method 328 167 (.agg #[h]) "AssignableTo").run Tryd.prog w = .ok (141, .agg #[h]) w := by kernel_rfl
theorem elemPP (w : World) : (ReflectliteType.method ReflectliteType.elem #[.agg #[.pointer (some ⟨5, 100, none⟩)]]).run Tryd.prog w = .ok (.iface 167 (.agg #[.pointer (some ⟨5, 98, none⟩)])) w := by kernel_rfl
theorem implementsP (w : World) : (ReflectliteType.relation "Implements" ReflectliteType.implements_ #[.agg #[.pointer (some ⟨5, 98, none⟩)], .iface 167 (.agg #[.pointer (some ⟨5, 27, none⟩)])]).run Tryd.prog w = .ok (.bool true) w := by kernel_rfl
theorem typeOfP (v : Value) (w : World) : (ReflectliteType.typeOf #[.iface 98 v]).run Tryd.prog w = .ok (.iface 167 (.agg #[.pointer (some ⟨5, 98, none⟩)])) w := by kernel_rfl
theorem assignableP (w : World) : (ReflectliteType.relation "AssignableTo" ReflectliteType.assignableTo #[.agg #[.pointer (some ⟨5, 98, none⟩)], .iface 167 (.agg #[.pointer (some ⟨5, 98, none⟩)])]).run Tryd.prog w = .ok (.bool true) w := by kernel_rfl
theorem valueOfP (e : Addr) (w : World) : (ReflectliteValue.unpack (.iface 98 (.pointer (some e)))).run Tryd.prog w
    = .ok (.agg #[.pointer (some ⟨5, 98, none⟩), .pointer (some ⟨w.heap.size, 0, none⟩), .int .u64 150]) (w.alloc (.cells #[.pointer (some e)] 98)) := by kernel_rfl
theorem elemOfPP (w : World) : (Rtype.elem? 100).run Tryd.prog w = .ok (some 98) w := by kernel_rfl
theorem mkP (p : Addr) (w : World) : (ReflectliteValue.mk 98 p ReflectliteValue.flagAddr).run Tryd.prog w = .ok (.agg #[.pointer (some ⟨5, 98, none⟩), .pointer (some p), .int .u64 406]) w := by kernel_rfl
theorem elemVPP (a p : Addr) (W : World) (ha : W.cell? a = some (.pointer (some p))) :
    (ReflectliteValue.method (ReflectliteValue.valueError "reflectlite.Value.Elem" 0) ReflectliteValue.elem #[.agg #[.pointer (some ⟨5, 100, none⟩), .pointer (some a), .int .u64 150]]).run Tryd.prog W
      = .ok (.agg #[.pointer (some ⟨5, 98, none⟩), .pointer (some p), .int .u64 406]) W := by
  change Sem.run Tryd.prog (ReflectliteValue.parts (.agg #[.pointer (some ⟨5, 100, none⟩), .pointer (some a), .int .u64 150]) >>= _) W = _
  rw [Sem.run_bind, partsPP]
  dsimp only [Result.andThen]
  simp [ReflectliteValue.elem, loadVar, isAgg, underlying, Tryd.underlying100, ha, Result.andThen, elemOfPP, mkP]
theorem partsPa (a : Addr) (w : World) : (ReflectliteValue.parts (.agg #[.pointer (some ⟨5, 98, none⟩), .pointer (some a), .int .u64 406])).run Tryd.prog w = .ok (some (98, a, 406)) w := by kernel_rfl
theorem partsP (a : Addr) (w : World) : (ReflectliteValue.parts (.agg #[.pointer (some ⟨5, 98, none⟩), .pointer (some a), .int .u64 150])).run Tryd.prog w = .ok (some (98, a, 150)) w := by kernel_rfl
theorem directP (w : World) : (Rtype.directlyAssignable 98 98).run Tryd.prog w = .ok true w := by kernel_rfl
theorem sizeP (w : World) : (sizeOf 98).run Tryd.prog w = .ok 1 w := by kernel_rfl
theorem setP (ta b e : Addr) (old : Value) (W : World) (hb : W.cell? b = some (.pointer (some e))) (ht : W.cell? ta = some old) (hf : W.frozen? ta = false) :
    (ReflectliteValue.set #[.agg #[.pointer (some ⟨5, 98, none⟩), .pointer (some ta), .int .u64 406], .agg #[.pointer (some ⟨5, 98, none⟩), .pointer (some b), .int .u64 150]]).run Tryd.prog W
      = .ok (.tuple #[]) (W.setCell ta (.pointer (some e))) := by
  change Sem.run Tryd.prog (ReflectliteValue.parts (.agg #[.pointer (some ⟨5, 98, none⟩), .pointer (some ta), .int .u64 406]) >>= _) W = _
  rw [Sem.run_bind, partsPa]
  dsimp only [Result.andThen]
  change Sem.run Tryd.prog (ReflectliteValue.parts (.agg #[.pointer (some ⟨5, 98, none⟩), .pointer (some b), .int .u64 150]) >>= _) W = _
  rw [Sem.run_bind, partsP]
  dsimp only [Result.andThen]
  simp [ReflectliteValue.flagAddr, loadVar, isAgg, underlying, Tryd.underlying98, hb, Result.andThen, directP, storeVar, Value.cells, storeCells, Addr.add]
  rw [run_store Tryd.prog W ta _ _ (by rfl)]
  simp [ht, hf]
/-- errors.errorType as the program's text lays it. -/
abbrev ErrType (w : World) : Prop := w.cell? ⟨0, 0, none⟩ = some (.iface 167 (.agg #[.pointer (some ⟨5, 27, none⟩)]))

set_option maxHeartbeats 4000000 in
theorem as_hit (e t : Addr) (old : Value) (w : World) (hg : ErrType w) (ht0 : w.cell? t = some old) (hf0 : w.frozen? t = false) :
    Calls Tryd.prog 45 #[.iface 98 (.pointer (some e)), .iface 100 (.pointer (some t))] w fun ev w' => ev = .returned (.bool true) ∧ w' = ((((w.alloc (.cells #[.pointer (some t)] 100)).alloc (.cells #[.pointer (some ⟨5, 100, none⟩), .pointer (some ⟨w.heap.size, 0, none⟩), .int .u64 150] 150)).alloc (.cells #[.pointer (some ⟨5, 100, none⟩), .pointer (some ⟨w.heap.size, 0, none⟩), .int .u64 150] 150)).alloc (.cells #[.pointer (some e)] 98)).setCell t (.pointer (some e)) := by
  have h6 := @run_callFunc_extern Tryd.prog 76 _ (fun args => ReflectliteValue.unpack (args.getD 0 (.tuple #[]))) Tryd.func76 (by kernel_rfl) (by kernel_rfl) (by kernel_rfl) (by kernel_rfl)
  have h7 := @run_callFunc_extern Tryd.prog 77 _ (ReflectliteValue.methodAny (ReflectliteValue.valueError "reflectlite.Value.Type" 0) (fun t _ _ _ => ReflectliteType.toType t)) Tryd.func77 (by kernel_rfl) (by kernel_rfl) (by kernel_rfl) (by kernel_rfl)
  have h8 := @run_callFunc_extern Tryd.prog 78 _ (ReflectliteValue.method (ReflectliteValue.valueError "reflectlite.Value.IsNil" 0) ReflectliteValue.isNil) Tryd.func78 (by kernel_rfl) (by kernel_rfl) (by kernel_rfl) (by kernel_rfl)
  have h27 := @run_callFunc_extern Tryd.prog 130 _ (ReflectliteType.abiMethod fun t => do pure (.int .u8 (← Rtype.kind t))) Tryd.func130 (by kernel_rfl) (by kernel_rfl) (by kernel_rfl) (by kernel_rfl)
  have h37 := @run_callFunc_extern Tryd.prog 143 _ (ReflectliteType.method ReflectliteType.elem) Tryd.func143 (by kernel_rfl) (by kernel_rfl) (by kernel_rfl) (by kernel_rfl)
  have h38 := @run_callFunc_extern Tryd.prog 144 _ (ReflectliteType.relation "Implements" ReflectliteType.implements_) Tryd.func144 (by kernel_rfl) (by kernel_rfl) (by kernel_rfl) (by kernel_rfl)
  have h10 := @run_callFunc_extern Tryd.prog 74 _ ReflectliteType.typeOf Tryd.func74 (by kernel_rfl) (by kernel_rfl) (by kernel_rfl) (by kernel_rfl)
  have h35 := @run_callFunc_extern Tryd.prog 141 _ (ReflectliteType.relation "AssignableTo" ReflectliteType.assignableTo) Tryd.func141 (by kernel_rfl) (by kernel_rfl) (by kernel_rfl) (by kernel_rfl)
  have h11 := @run_callFunc_extern Tryd.prog 91 _ (ReflectliteValue.method (ReflectliteValue.valueError "reflectlite.Value.Elem" 0) ReflectliteValue.elem) Tryd.func91 (by kernel_rfl) (by kernel_rfl) (by kernel_rfl) (by kernel_rfl)
  have h12 := @run_callFunc_extern Tryd.prog 92 _ ReflectliteValue.set Tryd.func92 (by kernel_rfl) (by kernel_rfl) (by kernel_rfl) (by kernel_rfl)
  have tO := typeOfP
  have mA := methodAssignableTo
  have a25 := assignableP
  have v25 := valueOfP
  have f6 := valueOfPP
  have f7 := typePP
  have mK := methodKind
  have mE := methodElem
  have mI := methodImplements
  have k27 := kindPP
  have k25 := kindP
  have e27 := elemPP
  have i25 := implementsP
  have n8 := isNilPP ⟨w.heap.size, 0, none⟩ t ((w.alloc (.cells #[.pointer (some t)] 100)).alloc (.cells #[.pointer (some ⟨5, 100, none⟩), .pointer (some ⟨w.heap.size, 0, none⟩), .int .u64 150] 150)) (by simp)
  have hlt : 0 < w.heap.size := by
    rcases Nat.lt_or_ge 0 w.heap.size with h | h
    · exact h
    · simp [ErrType, World.cell?, Array.getElem?_eq_none h] at hg
  have hg2 : ((w.alloc (.cells #[.pointer (some t)] 100)).alloc (.cells #[.pointer (some ⟨5, 100, none⟩), .pointer (some ⟨w.heap.size, 0, none⟩), .int .u64 150] 150)).cell? ⟨0, 0, none⟩ = some (.iface 167 (.agg #[.pointer (some ⟨5, 27, none⟩)])) := by
    rw [World.cell?_alloc_lt _ _ ⟨0, 0, none⟩ (by simp <;> omega), World.cell?_alloc_lt _ _ ⟨0, 0, none⟩ hlt]; exact hg
  have htl : t.block < w.heap.size := by
    rcases Nat.lt_or_ge t.block w.heap.size with h | h
    · exact h
    · simp [World.cell?, Array.getElem?_eq_none h] at ht0
  have el := elemVPP ⟨w.heap.size, 0, none⟩ t (((w.alloc (.cells #[.pointer (some t)] 100)).alloc (.cells #[.pointer (some ⟨5, 100, none⟩), .pointer (some ⟨w.heap.size, 0, none⟩), .int .u64 150] 150)).alloc (.cells #[.pointer (some ⟨5, 100, none⟩), .pointer (some ⟨w.heap.size, 0, none⟩), .int .u64 150] 150)) (by rw [World.cell?_alloc_lt _ _ ⟨w.heap.size, 0, none⟩ (by simp; omega)]; simp)
  have st := setP t ⟨w.heap.size + 1 + 1 + 1, 0, none⟩ e old ((((w.alloc (.cells #[.pointer (some t)] 100)).alloc (.cells #[.pointer (some ⟨5, 100, none⟩), .pointer (some ⟨w.heap.size, 0, none⟩), .int .u64 150] 150)).alloc (.cells #[.pointer (some ⟨5, 100, none⟩), .pointer (some ⟨w.heap.size, 0, none⟩), .int .u64 150] 150)).alloc (.cells #[.pointer (some e)] 98))
    (by rw [World.cell?_alloc_at _ _ _ _ (by simp)]; rfl)
    (by rw [World.cell?_alloc_lt _ _ t (by simp; omega), World.cell?_alloc_lt _ _ t (by simp; omega), World.cell?_alloc_lt _ _ t (by simp; omega), World.cell?_alloc_lt _ _ t htl]; exact ht0)
    (by rw [World.frozen?_alloc_old _ _ t (by simp; omega), World.frozen?_alloc_old _ _ t (by simp; omega), World.frozen?_alloc_old _ _ t (by simp; omega), World.frozen?_alloc_old _ _ t (Nat.ne_of_lt htl)]; exact hf0)
  go_enter Tryd.func45, Tryd.ntmps45
  go_wp2
  refine wp_loop_rounds 1 ?_
  rw [rounds_succ]
  go_wp2
  go_ret
  exact ⟨rfl, rfl⟩
end Go.Proofs.YtdpoeagmeiedcaaDoor
namespace Go.Proofs.YtdpoeagmeiedcaaDoor
open Go Go.RowKit Go.Extern.Stop Go.Stop Go.Extern

theorem typeOfE (v : Value) (w : World) : (ReflectliteType.typeOf #[.iface 97 v]).run Tryd.prog w = .ok (.iface 167 (.agg #[.pointer (some ⟨5, 97, none⟩)])) w := by kernel_rfl
theorem comparableE (w : World) : ((ReflectliteType.method fun t => do Rtype.noPackHeld "Comparable" t; (fun a => Value.bool a.comparable) <$> typeInfo t) #[.agg #[.pointer (some ⟨5, 97, none⟩)]]).run Tryd.prog w = .ok (.bool true) w := by kernel_rfl
theorem methodComparable (v : Value) (w : World) : (Go.method 328 167 v "Comparable").run Tryd.prog w = .ok (142, v) w := by kernel_rfl
theorem noIsF (v : Value) (xT : TypeId) (w : World) : (Instr.typeAssert (.iface 98 v) xT 169 true).run Tryd.prog w = .ok (.tuple #[.nilIface, .bool false]) w := run_typeAssert_lacksB Tryd.underlying169 (by kernel_rfl) (by kernel_rfl) v xT w
theorem hasUnwrapF (v : Value) (xT : TypeId) (w : World) : (Instr.typeAssert (.iface 98 v) xT 172 true).run Tryd.prog w = .ok (.tuple #[.iface 98 v, .bool true]) w := run_typeAssert_hasB Tryd.underlying172 (by kernel_rfl) v xT w
theorem methodUnwrap (v : Value) (w : World) : (Go.method 328 98 v "Unwrap").run Tryd.prog w = .ok (135, v) w := by kernel_rfl
theorem eqlFE (a : Addr) (c : Int) (w : World) : (binOp .eql 27 (.iface 98 (.pointer (some a))) (.iface 97 (.int .i64 c))).run Tryd.prog w = .ok (.bool false) w := by kernel_rfl
theorem nilE (c : Int) (w : World) : (binOp .eql 27 (.iface 97 (.int .i64 c)) .nilIface).run Tryd.prog w = .ok (.bool false) w := by kernel_rfl
theorem nilF (a : Addr) (w : World) : (binOp .eql 27 (.iface 98 (.pointer (some a))) .nilIface).run Tryd.prog w = .ok (.bool false) w := by kernel_rfl
theorem eqlE3 (w : World) : (binOp .eql 27 (.iface 97 (.int .i64 3)) (.iface 97 (.int .i64 3))).run Tryd.prog w = .ok (.bool true) w := by kernel_rfl
theorem eqlE2 (w : World) : (binOp .eql 27 (.iface 97 (.int .i64 2)) (.iface 97 (.int .i64 2))).run Tryd.prog w = .ok (.bool true) w := by kernel_rfl

set_option maxRecDepth 100000 in
set_option maxHeartbeats 4000000 in
/-- errors.Is(f, c), f a Fault whose Err is the Errno c. -/
theorem is_hit (F : Nat) (c : Int) (w : World) (h1 : w.cell? ⟨F, 2, none⟩ = some (.iface 97 (.int .i64 c)))
    (heq : ∀ w, (binOp .eql 27 (.iface 97 (.int .i64 c)) (.iface 97 (.int .i64 c))).run Tryd.prog w = .ok (.bool true) w) :
    Calls Tryd.prog 44 #[.iface 98 (.pointer (some ⟨F, 0, none⟩)), .iface 97 (.int .i64 c)] w fun e w' => e = .returned (.bool true) ∧ w' = w := by
  have h8 := @run_callFunc_extern Tryd.prog 74 _ ReflectliteType.typeOf Tryd.func74 (by kernel_rfl) (by kernel_rfl) (by kernel_rfl) (by kernel_rfl)
  have h32 := @run_callFunc_extern Tryd.prog 142 _ (ReflectliteType.method fun t => do Rtype.noPackHeld "Comparable" t; pure (.bool (← typeInfo t).comparable)) Tryd.func142 (by kernel_rfl) (by kernel_rfl) (by kernel_rfl) (by kernel_rfl)
  have tT := typeOfE
  have cT := comparableE
  have mR := methodComparable
  have nW := noIsF
  have uW := hasUnwrapF
  have mU := methodUnwrap
  have e1 := eqlFE
  have e2 := nilE
  have e3 := nilF
  go_enter Tryd.func44, Tryd.ntmps44
  go_wp2
  refine wp_loop_rounds 2 ?_
  rw [rounds_succ]
  go_wp2
  rw [rounds_succ]
  go_wp2
  go_ret
  exact ⟨rfl, rfl⟩
end Go.Proofs.YtdpoeagmeiedcaaDoor
namespace Go.Proofs.YtdpoeagmeiedcaaDoor
open Go Go.RowKit

theorem below_cell {w w' : World} (h : Below w.heap.size w w') {a : Addr} {v : Value} (hc : w.cell? a = some v) : w'.cell? a = some v := by
  have := h.block a.block (World.block_lt_of_cell? w a hc)
  simp only [World.cell?] at hc ⊢
  rw [this]; exact hc
theorem ErrType.below {w w' : World} (h : ErrType w) (hb : Below w.heap.size w w') : ErrType w' := below_cell hb h

theorem as_fault (F t : Nat) (w : World) (hg : ErrType w) (ht : Blk w t 98 #[.pointer none]) :
    Calls Tryd.prog 45 #[.iface 98 (.pointer (some ⟨F, 0, none⟩)), .iface 100 (.pointer (some ⟨t, 0, none⟩))] w fun e w' => e = .returned (.bool true) ∧ Blk w' t 98 #[.pointer (some ⟨F, 0, none⟩)] ∧ Touch w w' t none := by
  refine (as_hit ⟨F, 0, none⟩ ⟨t, 0, none⟩ (.pointer none) w hg (ht.cell 0) (ht.frozen 0)).mono ?_
  rintro e w' ⟨rfl, rfl⟩
  refine ⟨rfl, ((((ht.alloc _).alloc _).alloc _).alloc _).set_ 0 _, rfl, rfl, rfl, by simp; omega, fun j hj hne _ => ?_⟩
  refine (Below.heap_setCell _ _ _ _ hne).trans ?_
  exact (((((Below.refl w.heap.size w).alloc (Nat.le_refl _) _).alloc (by simp) _).alloc (by simp; omega) _).alloc (by simp; omega) _).block j hj

structure TT (w0 w : World) (F g n : Nat) : Prop where
  box : Blk w w0.heap.size 33 #[.slice (some ⟨g, 0, none⟩) 1 1, .int .i64 3]
  part : Blk w g 104 #[.string bByte, .int .i64 n]
  fault : Blk w F 102 #[.string bByte, .int .i64 n, .iface 97 (.int .i64 3)]
  err : ErrType w
  bel : Below w0.heap.size w0 w
theorem TT.below {w0 w w' : World} {F g n : Nat} (h : TT w0 w F g n) (hb : Below w.heap.size w w') : TT w0 w' F g n :=
  ⟨h.box.below hb h.box.lt, h.part.below hb h.part.lt, h.fault.below hb h.fault.lt, h.err.below hb, h.bel.trans (hb.mono h.bel.size)⟩
theorem TT.draws {w0 w : World} {F g n : Nat} (h : TT w0 w F g n) (k : Nat) : TT w0 (w.drewN k) F g n := h.below (below_drewN (Below.refl _ w) k)
theorem TT.cells {w0 w : World} {F g n : Nat} (h : TT w0 w F g n) : w.cell? ⟨w0.heap.size, 0, none⟩ = some (.slice (some ⟨g, 0, none⟩) 1 1) ∧ w.cell? ⟨w0.heap.size, 1, none⟩ = some (.int .i64 3) := ⟨h.box.cell 0, h.box.cell 1⟩

set_option maxRecDepth 100000 in
set_option maxHeartbeats 4000000 in
theorem tells_short (w : World) (F g n : Nat) (hF : Blk w F 102 #[.string bByte, .int .i64 n, .iface 97 (.int .i64 3)]) (hg : WrongAt w g n) (hn : To10 n) (hE : ErrType w) :
    Calls Tryd.prog 14 #[.iface 98 (.pointer (some ⟨F, 0, none⟩)), wrong1 g] w fun e w' => e = .returned (.bool true) ∧ Below w.heap.size w w' := by
  have hb0 := (Below.refl w.heap.size w).alloc (Nat.le_refl _) (.cells #[.slice (some ⟨g, 0, none⟩) 1 1, .int .i64 3] 33)
  have T0 := Lib.hid (TT.mk (w0 := w) (heap_alloc_new w (.cells #[.slice (some ⟨g, 0, none⟩) 1 1, .int .i64 3] 33)) (Blk.below hg hb0 (Blk.lt hg)) (hF.below hb0 hF.lt) (hE.below hb0) hb0)
  have T0d : Hid (TT w (w.alloc (.cells #[.slice (some ⟨g, 0, none⟩) 1 1, .int .i64 3] 33)).drew F g n) := Lib.hid (T0.out.draws 1)
  have ER := Lib.hid fun W (h : Blk W F 102 #[.string bByte, .int .i64 n, .iface 97 (.int .i64 3)]) => fault_error W F n h hn
  have WO := Lib.hid fun W (h : Blk W g 104 #[.string bByte, .int .i64 n]) => words_any W g n h hn
  have IS := Lib.hid fun W (h : Blk W F 102 #[.string bByte, .int .i64 n, .iface 97 (.int .i64 3)]) => is_hit F 3 W (h.cell 2) eqlE3
  have AS := Lib.hid fun W t => as_fault F t W
  have mF := invokeFault
  have nF := nilF
  have c0 := T0.out.box.cell 0
  have c1 := T0.out.box.cell 1
  obtain ⟨s, hs⟩ : ∃ s, s = fw n := ⟨_, rfl⟩
  rw [← hs] at ER WO
  clear hs hF hg hE hb0
  go_enter Tryd.func14, Tryd.ntmps14
  go_wp2_with fail
  refine wp_region_held_drew (S := fun w' => w'.cell? ⟨w.heap.size, 0, none⟩ = some (.slice (some ⟨g, 0, none⟩) 1 1) ∧ w'.cell? ⟨w.heap.size, 1, none⟩ = some (.int .i64 3)) (by kernel_rfl) (T0d.out.cells) (fun hHeld => ?_)
  refine wpAnyH_take (i := 0) (oi := { dst := some 11, op := Op.move (Operand.tmp 0), type := 27, pos := "law.go:25", after := #[], guard := none }) (v := ?vt0) rfl (by kernel_rfl) (by kernel_rfl) (by kernel_rfl) (fun _ _ _ h => h) (Or.inl ⟨by rfl, ?yt0⟩) (by assumption) ?rt0
  case yt0 => (intro w' hSw; (try dsimp only at hSw); go_simp; try with_reducible rfl)
  try simp only [Act.put, List.setIfInBounds_toArray, List.set_cons_zero, List.set_cons_succ]
  refine wpAnyH_take (i := 1) (oi := { dst := some 12, op := Op.binOp BinOp.eql 27 (Operand.tmp 11) (Operand.const Value.nilIface) 27, type := 4, pos := "law.go:25", after := #[{ on := 0, ground := Ground.data }], guard := none }) (v := ?vt1) rfl (by kernel_rfl) (by kernel_rfl) (by kernel_rfl) (fun _ _ _ h => h) (Or.inl ⟨by rfl, ?yt1⟩) (by assumption) ?rt1
  case yt1 => (intro w' hSw; (try dsimp only at hSw); go_simp; try with_reducible rfl)
  try simp only [Act.put, List.setIfInBounds_toArray, List.set_cons_zero, List.set_cons_succ]
  refine wpAnyH_take (i := 2) (oi := { dst := some 13, op := Op.move (Operand.tmp 12), type := 4, pos := "law.go:25", after := #[{ on := 1, ground := Ground.data }], guard := none }) (v := ?vt2) rfl (by kernel_rfl) (by kernel_rfl) (by kernel_rfl) (fun _ _ _ h => h) (Or.inl ⟨by rfl, ?yt2⟩) (by assumption) ?rt2
  case yt2 => (intro w' hSw; (try dsimp only at hSw); go_simp; try with_reducible rfl)
  try simp only [Act.put, List.setIfInBounds_toArray, List.set_cons_zero, List.set_cons_succ]
  refine wpAnyH_take (i := 3) (oi := { dst := some 14, op := Op.move (Operand.tmp 0), type := 27, pos := "law.go:25", after := #[{ on := 2, ground := Ground.guard }], guard := some (2, false) }) (v := ?vt3) rfl (by kernel_rfl) (by kernel_rfl) (by kernel_rfl) (fun _ _ _ h => h) (Or.inl ⟨by rfl, ?yt3⟩) (by assumption) ?rt3
  case yt3 => (intro w' hSw; (try dsimp only at hSw); go_simp; try with_reducible rfl)
  try simp only [Act.put, List.setIfInBounds_toArray, List.set_cons_zero, List.set_cons_succ]
  refine wpAnyH_take (i := 5) (oi := { dst := some 16, op := Op.load 33 (Operand.tmp 3), type := 33, pos := "law.go:25", after := #[{ on := 2, ground := Ground.guard }], guard := some (2, false) }) (v := ?vt5) rfl (by kernel_rfl) (by kernel_rfl) (by kernel_rfl) (fun _ _ _ h => h) (Or.inl ⟨by rfl, ?yt5⟩) (by assumption) ?rt5
  case yt5 => (intro w' hSw; (try dsimp only at hSw); go_simp; try with_reducible rfl)
  try simp only [Act.put, List.setIfInBounds_toArray, List.set_cons_zero, List.set_cons_succ]
  refine wpAnyH_ready (rs := [4]) (by kernel_rfl) (by simp) ?_
  refine AllReadyH.cons (o := { dst := some 15, op := Op.call { callee := Callee.invoke (Operand.tmp 14) "Error", args := #[], argTypes := #[] }, type := 9, pos := "law.go:25", after := #[{ on := 3, ground := Ground.data }, { on := 2, ground := Ground.chain }, { on := 2, ground := Ground.guard }], guard := some (2, false) }) rfl (fun K hK => ?_) AllReadyH.nil
  go_simp
  go_at_call 134
  refine (ER.out _ (TT.fault T0d.out)).mono ?_
  rintro e w1 ⟨rfl, k1, rfl⟩
  have T1 : Hid (TT w ((w.alloc (.cells #[.slice (some ⟨g, 0, none⟩) 1 1, .int .i64 3] 33)).drewN (1 + k1)) F g n) := Lib.hid (T0.out.draws (1 + k1))
  go_wp2_with fail
  refine hK.out _ _ (T1.out.cells) (fun hHeldt4 => ?_)
  clear hK K hHeld
  try simp only [Act.put, List.setIfInBounds_toArray, List.set_cons_zero, List.set_cons_succ]
  refine wpAnyH_ready (rs := [6]) (by kernel_rfl) (by simp) ?_
  refine AllReadyH.cons (o := { dst := some 17, op := Op.call { callee := Callee.value (Operand.func 43), args := #[Operand.tmp 16], argTypes := #[33] }, type := 9, pos := "law.go:25", after := #[{ on := 5, ground := Ground.data }, { on := 4, ground := Ground.chain }, { on := 2, ground := Ground.guard }], guard := some (2, false) }) rfl (fun K hK => ?_) AllReadyH.nil
  go_simp
  go_at_call 43
  refine (WO.out _ (TT.part T1.out)).mono ?_
  rintro e w2 ⟨rfl, hb2⟩
  have T2 := Lib.hid (T1.out.below hb2)
  go_wp2_with fail
  refine hK.out _ _ (T2.out.cells) (fun hHeldt6 => ?_)
  clear hK K hHeldt4
  try simp only [Act.put, List.setIfInBounds_toArray, List.set_cons_zero, List.set_cons_succ]
  refine wpAnyH_take (i := 7) (oi := { dst := some 18, op := Op.binOp BinOp.neq 9 (Operand.tmp 15) (Operand.tmp 17) 9, type := 4, pos := "law.go:25", after := #[{ on := 4, ground := Ground.data }, { on := 6, ground := Ground.data }, { on := 2, ground := Ground.guard }], guard := some (2, false) }) (v := ?vt7) rfl (by kernel_rfl) (by kernel_rfl) (by kernel_rfl) (fun _ _ _ h => h) (Or.inl ⟨by rfl, ?yt7⟩) (by assumption) ?rt7
  case yt7 => (intro w' hSw; (try dsimp only at hSw); go_simp; try with_reducible rfl)
  try simp only [Act.put, List.setIfInBounds_toArray, List.set_cons_zero, List.set_cons_succ]
  refine wpAnyH_take (i := 8) (oi := { dst := some 19, op := Op.pick (Operand.tmp 13) (Operand.const (Value.bool true)) (Operand.tmp 18), type := 4, pos := "law.go:25", after := #[{ on := 2, ground := Ground.data }, { on := 7, ground := Ground.data }], guard := none }) (v := ?vt8) rfl (by kernel_rfl) (by kernel_rfl) (by kernel_rfl) (fun _ _ _ h => h) (Or.inl ⟨by rfl, ?yt8⟩) (by assumption) ?rt8
  case yt8 => (intro w' hSw; (try dsimp only at hSw); go_simp; try with_reducible rfl)
  try simp only [Act.put, List.setIfInBounds_toArray, List.set_cons_zero, List.set_cons_succ]
  refine wpAnyH_take (i := 9) (oi := { dst := some 20, op := Op.move (Operand.tmp 19), type := 4, pos := "law.go:25", after := #[{ on := 8, ground := Ground.data }, { on := 6, ground := Ground.chain }], guard := none }) (v := ?vt9) rfl (by kernel_rfl) (by kernel_rfl) (by kernel_rfl) (fun _ _ _ h => h) (Or.inl ⟨by rfl, ?yt9⟩) (by assumption) ?rt9
  case yt9 => (intro w' hSw; (try dsimp only at hSw); go_simp; try with_reducible rfl)
  try simp only [Act.put, List.setIfInBounds_toArray, List.set_cons_zero, List.set_cons_succ]
  refine wpAnyH_take (i := 10) (oi := { dst := some 21, op := Op.move (Operand.tmp 0), type := 27, pos := "law.go:25", after := #[{ on := 9, ground := Ground.guard }], guard := some (9, false) }) (v := ?vt10) rfl (by kernel_rfl) (by kernel_rfl) (by kernel_rfl) (fun _ _ _ h => h) (Or.inl ⟨by rfl, ?yt10⟩) (by assumption) ?rt10
  case yt10 => (intro w' hSw; (try dsimp only at hSw); go_simp; try with_reducible rfl)
  try simp only [Act.put, List.setIfInBounds_toArray, List.set_cons_zero, List.set_cons_succ]
  refine wpAnyH_take (i := 11) (oi := { dst := some 22, op := Op.fieldAddr 33 (Operand.tmp 3) 1, type := 0, pos := "law.go:25", after := #[{ on := 9, ground := Ground.guard }], guard := some (9, false) }) (v := ?vt11) rfl (by kernel_rfl) (by kernel_rfl) (by kernel_rfl) (fun _ _ _ h => h) (Or.inl ⟨by rfl, ?yt11⟩) (by assumption) ?rt11
  case yt11 => (intro w' hSw; (try dsimp only at hSw); go_simp; try with_reducible rfl)
  try simp only [Act.put, List.setIfInBounds_toArray, List.set_cons_zero, List.set_cons_succ]
  refine wpAnyH_take (i := 12) (oi := { dst := some 23, op := Op.load 3 (Operand.tmp 22), type := 3, pos := "law.go:25", after := #[{ on := 11, ground := Ground.data }, { on := 9, ground := Ground.guard }], guard := some (9, false) }) (v := ?vt12) rfl (by kernel_rfl) (by kernel_rfl) (by kernel_rfl) (fun _ _ _ h => h) (Or.inl ⟨by rfl, ?yt12⟩) (by assumption) ?rt12
  case yt12 => (intro w' hSw; (try dsimp only at hSw); go_simp; try with_reducible rfl)
  try simp only [Act.put, List.setIfInBounds_toArray, List.set_cons_zero, List.set_cons_succ]
  refine wpAnyH_take (i := 13) (oi := { dst := some 24, op := Op.makeInterface 97 (Operand.tmp 23), type := 27, pos := "law.go:25", after := #[{ on := 12, ground := Ground.data }, { on := 9, ground := Ground.guard }], guard := some (9, false) }) (v := ?vt13) rfl (by kernel_rfl) (by kernel_rfl) (by kernel_rfl) (fun _ _ _ h => h) (Or.inl ⟨by rfl, ?yt13⟩) (by assumption) ?rt13
  case yt13 => (intro w' hSw; (try dsimp only at hSw); go_simp; try with_reducible rfl)
  try simp only [Act.put, List.setIfInBounds_toArray, List.set_cons_zero, List.set_cons_succ]
  refine wpAnyH_ready (rs := [14]) (by kernel_rfl) (by simp) ?_
  refine AllReadyH.cons (o := { dst := some 25, op := Op.call { callee := Callee.value (Operand.func 44), args := #[Operand.tmp 21, Operand.tmp 24], argTypes := #[27, 27] }, type := 4, pos := "law.go:25", after := #[{ on := 10, ground := Ground.data }, { on := 13, ground := Ground.data }, { on := 9, ground := Ground.chain }, { on := 9, ground := Ground.guard }], guard := some (9, false) }) rfl (fun K hK => ?_) AllReadyH.nil
  go_simp
  go_at_call 44
  refine (IS.out _ (TT.fault T2.out)).mono ?_
  rintro e w3 ⟨rfl, rfl⟩
  go_wp2_with fail
  refine hK.out _ _ (T2.out.cells) (fun hHeldt14 => ?_)
  clear hK K hHeldt6
  try simp only [Act.put, List.setIfInBounds_toArray, List.set_cons_zero, List.set_cons_succ]
  refine wpAnyH_take (i := 15) (oi := { dst := some 26, op := Op.unOp UnOp.not 4 (Operand.tmp 25), type := 4, pos := "law.go:25", after := #[{ on := 14, ground := Ground.data }, { on := 9, ground := Ground.guard }], guard := some (9, false) }) (v := ?vt15) rfl (by kernel_rfl) (by kernel_rfl) (by kernel_rfl) (fun _ _ _ h => h) (Or.inl ⟨by rfl, ?yt15⟩) (by assumption) ?rt15
  case yt15 => (intro w' hSw; (try dsimp only at hSw); go_simp; try with_reducible rfl)
  try simp only [Act.put, List.setIfInBounds_toArray, List.set_cons_zero, List.set_cons_succ]
  refine wpAnyH_take (i := 16) (oi := { dst := some 27, op := Op.pick (Operand.tmp 20) (Operand.const (Value.bool true)) (Operand.tmp 26), type := 4, pos := "law.go:25", after := #[{ on := 9, ground := Ground.data }, { on := 15, ground := Ground.data }], guard := none }) (v := ?vt16) rfl (by kernel_rfl) (by kernel_rfl) (by kernel_rfl) (fun _ _ _ h => h) (Or.inl ⟨by rfl, ?yt16⟩) (by assumption) ?rt16
  case yt16 => (intro w' hSw; (try dsimp only at hSw); go_simp; try with_reducible rfl)
  try simp only [Act.put, List.setIfInBounds_toArray, List.set_cons_zero, List.set_cons_succ]
  refine wpAnyH_done (by kernel_rfl) ?_ _
  have c0 := T2.out.box.cell 0
  have c1 := T2.out.box.cell 1
  have HBk := Lib.hid (Blk.new w3 98 #[.pointer none])
  have T3 := Lib.hid (T2.out.below ((Below.refl _ _).alloc (Nat.le_refl _) (.cells #[.pointer none] 98)))
  clear T0 T0d T1 ER WO IS
  go_wp2_with fail
  refine (AS.out _ _ T3.out.err HBk.out).mono ?_
  rintro e w4 ⟨rfl, hbk, hT⟩
  have C0 := hbk.cell 0
  have d0 := (hT.blk T3.out.box (T3.out.box.ne_ HBk.out (by decide)) (by simp)).cell 0
  have d1 := (hT.blk T3.out.box (T3.out.box.ne_ HBk.out (by decide)) (by simp)).cell 1
  have p0 := (hT.blk T3.out.part (T3.out.part.ne_ HBk.out (by decide)) (by simp)).cell 0
  have p1 := (hT.blk T3.out.part (T3.out.part.ne_ HBk.out (by decide)) (by simp)).cell 1
  have q0 := (hT.blk T3.out.fault (T3.out.fault.ne_ HBk.out (by decide)) (by simp)).cell 0
  have q1 := (hT.blk T3.out.fault (T3.out.fault.ne_ HBk.out (by decide)) (by simp)).cell 1
  have HBF : Hid (Below w.heap.size w w4) := Lib.hid (T2.out.bel.trans (((Below.refl _ _).alloc T2.out.bel.size (.cells #[.pointer none] 98)).trans (hT.below (by have := T2.out.bel.size; simp; omega) T2.out.bel.size (fun _ h => by cases h))))
  clear hbk hT T3 HBk T2 AS
  go_wp2_with fail
  go_quiet (fail)
  go_wp2_with fail
  go_ret
  exact ⟨rfl, below_drewN HBF.out _⟩
end Go.Proofs.YtdpoeagmeiedcaaDoor
namespace Go.Proofs.YtdpoeagmeiedcaaDoor
open Go Go.RowKit

def To14 (e : Int) : Prop := e = 1 ∨ e = 2 ∨ e = 3 ∨ e = 4 ∨ e = 5 ∨ e = 6 ∨ e = 7 ∨ e = 8 ∨ e = 9 ∨ e = 10 ∨ e = 11 ∨ e = 12 ∨ e = 13 ∨ e = 14
theorem to14 {e : Int} (h1 : 1 ≤ e) (h2 : e ≤ 14) : To14 e := by unfold To14; omega
/-- An Errno's word. -/
def ew (e : Int) : ByteArray :=
  if e = 1 then ⟨#[97, 114, 103]⟩ else if e = 2 then ⟨#[102, 111, 114, 109]⟩ else if e = 3 then ⟨#[115, 104, 111, 114, 116]⟩ else if e = 4 then ⟨#[108, 111, 110, 103]⟩
  else if e = 5 then ⟨#[110, 97, 109, 101]⟩ else if e = 6 then ⟨#[116, 119, 105, 99, 101]⟩ else if e = 7 then ⟨#[115, 116, 97, 116, 101]⟩ else if e = 8 then ⟨#[100, 105, 114, 116, 121]⟩
  else if e = 9 then ⟨#[99, 111, 110, 102, 108, 105, 99, 116]⟩ else if e = 10 then ⟨#[115, 97, 109, 101]⟩ else if e = 11 then ⟨#[119, 97, 121]⟩ else if e = 12 then ⟨#[115, 117, 109]⟩
  else if e = 13 then ⟨#[100, 111, 119, 110]⟩ else ⟨#[113, 117, 111, 116, 97]⟩
theorem ew_size {e : Int} (h : To14 e) : (ew e).size ≤ 8 := by
  rcases h with rfl | rfl | rfl | rfl | rfl | rfl | rfl | rfl | rfl | rfl | rfl | rfl | rfl | rfl <;> decide

set_option maxRecDepth 100000 in
set_option maxHeartbeats 4000000 in
theorem errno_any (e : Int) (h : To14 e) (w : World) : Calls Tryd.prog 133 #[.int .i64 e] w fun x w' => x = .returned (.string (ew e)) ∧ w' = w := by
  rcases h with rfl | rfl | rfl | rfl | rfl | rfl | rfl | rfl | rfl | rfl | rfl | rfl | rfl | rfl
  all_goals
    go_enter Tryd.func133, Tryd.ntmps133
    go_wp2
    go_ret
    exact ⟨rfl, rfl⟩
set_option maxRecDepth 100000 in
set_option maxHeartbeats 8000000 in
theorem refWord_any (e : Int) (h : To14 e) (w : World) : Calls Tryd.prog 73 #[.int .i64 e] w fun x w' => x = .returned (.string (ew e)) ∧ Below w.heap.size w w' := by
  rcases h with rfl | rfl | rfl | rfl | rfl | rfl | rfl | rfl | rfl | rfl | rfl | rfl | rfl | rfl
  all_goals
    go_enter Tryd.func73, Tryd.ntmps73
    go_wp2
    go_ret
    exact ⟨rfl, (Below.refl _ _).alloc (Nat.le_refl _) _⟩
end Go.Proofs.YtdpoeagmeiedcaaDoor
namespace Go.Proofs.YtdpoeagmeiedcaaDoor
open Go Go.RowKit

/-- 'part digits: word'. -/
def fwG (p D s : ByteArray) : ByteArray := (((p ++ ⟨#[32]⟩) ++ D) ++ ⟨#[58, 32]⟩) ++ s
abbrev wrongG (g : Nat) (e : Int) : Value := .agg #[.slice (some ⟨g, 0, none⟩) 1 1, .int .i64 e]
theorem size32 : (ByteArray.mk #[32]).size = 1 := rfl
theorem size58 : (ByteArray.mk #[58, 32]).size = 2 := rfl

attribute [-go_sem] run_string_add_if
set_option maxRecDepth 100000 in
set_option maxHeartbeats 4000000 in
theorem fault_says (w : World) (F : Nat) (p D : ByteArray) (n e : Int) (hF : Blk w F 102 #[.string p, .int .i64 n, .iface 97 (.int .i64 e)]) (hp : p.size ≤ 1000) (hd : D.size ≤ 100) (he : To14 e)
    (hI : ∀ W, Calls Tryd.prog 81 #[.int .i64 n] W fun x w' => x = .returned (.string D) ∧ w' = W) :
    Calls Tryd.prog 134 #[.pointer (some ⟨F, 0, none⟩)] w fun x w' => x = .returned (.string (fwG p D (ew e))) ∧ ∃ k, w' = w.drewN k := by
  have c0 := hF.cell 0
  have c1 := hF.cell 1
  have c2 := hF.cell 2
  have hFl := hF.lt
  have mE := invokeErrno
  have nE := nilErrno
  have IT := Lib.hid hI
  have SH := Lib.hid fun W => errno_any e he W
  have hes := ew_size he
  obtain ⟨s1, hs1, hz1, hr1⟩ := sum_named p ⟨#[32]⟩ (by rw [size32]; omega)
  rw [size32] at hz1
  obtain ⟨s2, hs2, hz2, hr2⟩ := sum_named s1 D (by omega)
  obtain ⟨s3, hs3, hz3, hr3⟩ := sum_named s2 ⟨#[58, 32]⟩ (by rw [size58]; omega)
  rw [size58] at hz3
  obtain ⟨s4, hs4, hz4, hr4⟩ := sum_named s3 (ew e) (by omega)
  have HS : Hid (s4 = fwG p D (ew e)) := Lib.hid (by rw [hs4, hs3, hs2, hs1]; rfl)
  clear hF hs1 hs2 hs3 hs4 hz1 hz2 hz3 hz4 hI he
  obtain ⟨s, hs⟩ : ∃ s, s = ew e := ⟨_, rfl⟩
  rw [← hs] at SH hr4 hes HS
  rw [← hs]
  clear hs
  go_enter Tryd.func134, Tryd.ntmps134
  go_wp2_with fail
  go_quiet ((first | (go_at_call 81; exact Calls.quiet_of_same (IT.out _)) | (go_at_call 133; exact Calls.quiet_of_same (SH.out _))))
  go_wp2_with fail
  go_ret
  exact ⟨by rw [HS.out]; rfl, nq, rfl⟩

structure WG (w0 w : World) (B1 g : Nat) (p : ByteArray) (n e : Int) : Prop where
  box : Blk w B1 33 #[.slice (some ⟨g, 0, none⟩) 1 1, .int .i64 e]
  part : Blk w g 104 #[.string p, .int .i64 n]
  bel : Below w0.heap.size w0 w
theorem WG.below {w0 w w' : World} {B1 g : Nat} {p : ByteArray} {n e : Int} (h : WG w0 w B1 g p n e) (hb : Below w.heap.size w w') : WG w0 w' B1 g p n e :=
  ⟨h.box.below hb h.box.lt, h.part.below hb h.part.lt, h.bel.trans (hb.mono h.bel.size)⟩
theorem WG.drew {w0 w w' : World} {B1 g : Nat} {p : ByteArray} {n e : Int} (h : WG w0 w B1 g p n e) (hb : Below w.drew.heap.size w.drew w') : WG w0 w' B1 g p n e := (h.below (below_drewN (Below.refl _ w) 1)).below hb
theorem WG.cells {w0 w : World} {B1 g : Nat} {p : ByteArray} {n e : Int} (h : WG w0 w B1 g p n e) : w.cell? ⟨B1, 0, none⟩ = some (.slice (some ⟨g, 0, none⟩) 1 1) ∧ w.cell? ⟨g, 0, none⟩ = some (.string p) ∧ w.cell? ⟨g, 1, none⟩ = some (.int .i64 n) := ⟨h.box.cell 0, h.part.cell 0, h.part.cell 1⟩

set_option maxRecDepth 100000 in
set_option maxHeartbeats 4000000 in
theorem words_says (w : World) (g : Nat) (p D : ByteArray) (n e : Int) (hg : Blk w g 104 #[.string p, .int .i64 n]) (hp : p.size ≤ 1000) (hd : D.size ≤ 100) (he : To14 e)
    (hI : ∀ W, Calls Tryd.prog 54 #[.int .i64 n] W fun x w' => x = .returned (.string D) ∧ Below W.heap.size W w') :
    Calls Tryd.prog 43 #[wrongG g e] w fun x w' => x = .returned (.string (fwG p D (ew e))) ∧ Below w.heap.size w w' := by
  have T0 := Lib.hid (WG.mk (w0 := w) (heap_alloc_new w (.cells #[.slice (some ⟨g, 0, none⟩) 1 1, .int .i64 e] 33)) (hg.below ((Below.refl _ _).alloc (Nat.le_refl _) _) hg.lt) ((Below.refl _ _).alloc (Nat.le_refl _) _))
  have DEC := Lib.hid hI
  have SH := Lib.hid fun W => refWord_any e he W
  have hes := ew_size he
  obtain ⟨s0, hs0, hz0, hr0⟩ := sum_named ⟨#[]⟩ p (by show 0 + p.size ≤ _; omega)
  have e0 : s0 = p := by rw [hs0]; exact ByteArray.empty_append
  subst e0
  obtain ⟨s1, hs1, hz1, hr1⟩ := sum_named s0 ⟨#[32]⟩ (by rw [size32]; omega)
  rw [size32] at hz1
  obtain ⟨s2, hs2, hz2, hr2⟩ := sum_named s1 D (by omega)
  obtain ⟨s3, hs3, hz3, hr3⟩ := sum_named s2 ⟨#[58, 32]⟩ (by rw [size58]; omega)
  rw [size58] at hz3
  obtain ⟨s4, hs4, hz4, hr4⟩ := sum_named s3 (ew e) (by omega)
  have HS : Hid (s4 = fwG s0 D (ew e)) := Lib.hid (by rw [hs4, hs3, hs2, hs1]; rfl)
  clear hg hs0 hz0 hs1 hs2 hs3 hs4 hz1 hz2 hz3 hz4 hI he
  obtain ⟨s, hs⟩ : ∃ s, s = ew e := ⟨_, rfl⟩
  rw [← hs] at SH hr4 hes HS
  rw [← hs]
  clear hs
  have c0 := T0.out.box.cell 0
  have c1 := T0.out.box.cell 1
  go_enter Tryd.func43, Tryd.ntmps43
  go_wp2_with fail
  refine wp_loop_rounds 2 ?_
  rw [rounds_succ]
  go_wp2_with fail
  refine wp_region_held_drew (S := fun w' => w'.cell? ⟨w.heap.size, 0, none⟩ = some (.slice (some ⟨g, 0, none⟩) 1 1) ∧ w'.cell? ⟨g, 0, none⟩ = some (.string s0) ∧ w'.cell? ⟨g, 1, none⟩ = some (.int .i64 n)) (by kernel_rfl) (T0.out.cells) (fun hHeld => ?_)
  refine wpAnyH_take (i := 0) (oi := { dst := some 12, op := Op.move (Operand.tmp 3), type := 9, pos := "ref.go:62", after := #[], guard := none }) (v := ?vw0) rfl (by kernel_rfl) (by kernel_rfl) (by kernel_rfl) (fun _ _ _ h => h) (Or.inl ⟨by rfl, ?yw0⟩) (by assumption) ?rw0
  case yw0 => (intro w' hSw; (try dsimp only at hSw); go_simp; try with_reducible rfl)
  try simp only [Act.put, List.setIfInBounds_toArray, List.set_cons_zero, List.set_cons_succ]
  refine wpAnyH_take (i := 1) (oi := { dst := some 13, op := Op.fieldAddr 33 (Operand.tmp 1) 0, type := 0, pos := "ref.go:62", after := #[], guard := none }) (v := ?vw1) rfl (by kernel_rfl) (by kernel_rfl) (by kernel_rfl) (fun _ _ _ h => h) (Or.inl ⟨by rfl, ?yw1⟩) (by assumption) ?rw1
  case yw1 => (intro w' hSw; (try dsimp only at hSw); go_simp; try with_reducible rfl)
  try simp only [Act.put, List.setIfInBounds_toArray, List.set_cons_zero, List.set_cons_succ]
  refine wpAnyH_take (i := 2) (oi := { dst := some 14, op := Op.load 31 (Operand.tmp 13), type := 31, pos := "ref.go:62", after := #[{ on := 1, ground := Ground.data }], guard := none }) (v := ?vw2) rfl (by kernel_rfl) (by kernel_rfl) (by kernel_rfl) (fun _ _ _ h => h) (Or.inl ⟨by rfl, ?yw2⟩) (by assumption) ?rw2
  case yw2 => (intro w' hSw; (try dsimp only at hSw); go_simp; try with_reducible rfl)
  try simp only [Act.put, List.setIfInBounds_toArray, List.set_cons_zero, List.set_cons_succ]
  refine wpAnyH_take (i := 3) (oi := { dst := some 15, op := Op.move (Operand.tmp 4), type := 3, pos := "ref.go:62", after := #[], guard := none }) (v := ?vw3) rfl (by kernel_rfl) (by kernel_rfl) (by kernel_rfl) (fun _ _ _ h => h) (Or.inl ⟨by rfl, ?yw3⟩) (by assumption) ?rw3
  case yw3 => (intro w' hSw; (try dsimp only at hSw); go_simp; try with_reducible rfl)
  try simp only [Act.put, List.setIfInBounds_toArray, List.set_cons_zero, List.set_cons_succ]
  refine wpAnyH_take (i := 4) (oi := { dst := some 16, op := Op.indexAddr 31 (Operand.tmp 14) (Operand.tmp 15), type := 0, pos := "ref.go:62", after := #[{ on := 2, ground := Ground.data }, { on := 3, ground := Ground.data }], guard := none }) (v := ?vw4) rfl (by kernel_rfl) (by kernel_rfl) (by kernel_rfl) (fun _ _ _ h => h) (Or.inl ⟨by rfl, ?yw4⟩) (by assumption) ?rw4
  case yw4 => (intro w' hSw; (try dsimp only at hSw); go_simp; try with_reducible rfl)
  try simp only [Act.put, List.setIfInBounds_toArray, List.set_cons_zero, List.set_cons_succ]
  refine wpAnyH_take (i := 5) (oi := { dst := some 17, op := Op.fieldAddr 104 (Operand.tmp 16) 0, type := 0, pos := "ref.go:62", after := #[{ on := 4, ground := Ground.data }], guard := none }) (v := ?vw5) rfl (by kernel_rfl) (by kernel_rfl) (by kernel_rfl) (fun _ _ _ h => h) (Or.inl ⟨by rfl, ?yw5⟩) (by assumption) ?rw5
  case yw5 => (intro w' hSw; (try dsimp only at hSw); go_simp; try with_reducible rfl)
  try simp only [Act.put, List.setIfInBounds_toArray, List.set_cons_zero, List.set_cons_succ]
  refine wpAnyH_take (i := 6) (oi := { dst := some 18, op := Op.load 9 (Operand.tmp 17), type := 9, pos := "ref.go:62", after := #[{ on := 5, ground := Ground.data }], guard := none }) (v := ?vw6) rfl (by kernel_rfl) (by kernel_rfl) (by kernel_rfl) (fun _ _ _ h => h) (Or.inl ⟨by rfl, ?yw6⟩) (by assumption) ?rw6
  case yw6 => (intro w' hSw; (try dsimp only at hSw); go_simp; try with_reducible rfl)
  try simp only [Act.put, List.setIfInBounds_toArray, List.set_cons_zero, List.set_cons_succ]
  refine wpAnyH_take (i := 7) (oi := { dst := some 19, op := Op.binOp BinOp.add 9 (Operand.tmp 12) (Operand.tmp 18) 9, type := 9, pos := "ref.go:62", after := #[{ on := 0, ground := Ground.data }, { on := 6, ground := Ground.data }], guard := none }) (v := ?vw7) rfl (by kernel_rfl) (by kernel_rfl) (by kernel_rfl) (fun _ _ _ h => h) (Or.inl ⟨by rfl, ?yw7⟩) (by assumption) ?rw7
  case yw7 => (intro w' hSw; (try dsimp only at hSw); go_simp; try with_reducible rfl)
  try simp only [Act.put, List.setIfInBounds_toArray, List.set_cons_zero, List.set_cons_succ]
  refine wpAnyH_take (i := 8) (oi := { dst := some 20, op := Op.binOp BinOp.add 9 (Operand.tmp 19) (Operand.const (Value.string { data := #[32] })) 9, type := 9, pos := "ref.go:62", after := #[{ on := 7, ground := Ground.data }], guard := none }) (v := ?vw8) rfl (by kernel_rfl) (by kernel_rfl) (by kernel_rfl) (fun _ _ _ h => h) (Or.inl ⟨by rfl, ?yw8⟩) (by assumption) ?rw8
  case yw8 => (intro w' hSw; (try dsimp only at hSw); go_simp; try with_reducible rfl)
  try simp only [Act.put, List.setIfInBounds_toArray, List.set_cons_zero, List.set_cons_succ]
  refine wpAnyH_take (i := 9) (oi := { dst := some 21, op := Op.fieldAddr 33 (Operand.tmp 1) 0, type := 0, pos := "ref.go:62", after := #[], guard := none }) (v := ?vw9) rfl (by kernel_rfl) (by kernel_rfl) (by kernel_rfl) (fun _ _ _ h => h) (Or.inl ⟨by rfl, ?yw9⟩) (by assumption) ?rw9
  case yw9 => (intro w' hSw; (try dsimp only at hSw); go_simp; try with_reducible rfl)
  try simp only [Act.put, List.setIfInBounds_toArray, List.set_cons_zero, List.set_cons_succ]
  refine wpAnyH_take (i := 10) (oi := { dst := some 22, op := Op.load 31 (Operand.tmp 21), type := 31, pos := "ref.go:62", after := #[{ on := 9, ground := Ground.data }], guard := none }) (v := ?vw10) rfl (by kernel_rfl) (by kernel_rfl) (by kernel_rfl) (fun _ _ _ h => h) (Or.inl ⟨by rfl, ?yw10⟩) (by assumption) ?rw10
  case yw10 => (intro w' hSw; (try dsimp only at hSw); go_simp; try with_reducible rfl)
  try simp only [Act.put, List.setIfInBounds_toArray, List.set_cons_zero, List.set_cons_succ]
  refine wpAnyH_take (i := 11) (oi := { dst := some 23, op := Op.move (Operand.tmp 4), type := 3, pos := "ref.go:62", after := #[], guard := none }) (v := ?vw11) rfl (by kernel_rfl) (by kernel_rfl) (by kernel_rfl) (fun _ _ _ h => h) (Or.inl ⟨by rfl, ?yw11⟩) (by assumption) ?rw11
  case yw11 => (intro w' hSw; (try dsimp only at hSw); go_simp; try with_reducible rfl)
  try simp only [Act.put, List.setIfInBounds_toArray, List.set_cons_zero, List.set_cons_succ]
  refine wpAnyH_take (i := 12) (oi := { dst := some 24, op := Op.indexAddr 31 (Operand.tmp 22) (Operand.tmp 23), type := 0, pos := "ref.go:62", after := #[{ on := 10, ground := Ground.data }, { on := 11, ground := Ground.data }], guard := none }) (v := ?vw12) rfl (by kernel_rfl) (by kernel_rfl) (by kernel_rfl) (fun _ _ _ h => h) (Or.inl ⟨by rfl, ?yw12⟩) (by assumption) ?rw12
  case yw12 => (intro w' hSw; (try dsimp only at hSw); go_simp; try with_reducible rfl)
  try simp only [Act.put, List.setIfInBounds_toArray, List.set_cons_zero, List.set_cons_succ]
  refine wpAnyH_take (i := 13) (oi := { dst := some 25, op := Op.fieldAddr 104 (Operand.tmp 24) 1, type := 0, pos := "ref.go:62", after := #[{ on := 12, ground := Ground.data }], guard := none }) (v := ?vw13) rfl (by kernel_rfl) (by kernel_rfl) (by kernel_rfl) (fun _ _ _ h => h) (Or.inl ⟨by rfl, ?yw13⟩) (by assumption) ?rw13
  case yw13 => (intro w' hSw; (try dsimp only at hSw); go_simp; try with_reducible rfl)
  try simp only [Act.put, List.setIfInBounds_toArray, List.set_cons_zero, List.set_cons_succ]
  refine wpAnyH_take (i := 14) (oi := { dst := some 26, op := Op.load 3 (Operand.tmp 25), type := 3, pos := "ref.go:62", after := #[{ on := 13, ground := Ground.data }], guard := none }) (v := ?vw14) rfl (by kernel_rfl) (by kernel_rfl) (by kernel_rfl) (fun _ _ _ h => h) (Or.inl ⟨by rfl, ?yw14⟩) (by assumption) ?rw14
  case yw14 => (intro w' hSw; (try dsimp only at hSw); go_simp; try with_reducible rfl)
  try simp only [Act.put, List.setIfInBounds_toArray, List.set_cons_zero, List.set_cons_succ]
  refine wpAnyH_ready (rs := [15]) (by kernel_rfl) (by simp) ?_
  refine AllReadyH.cons (o := { dst := some 27, op := Op.call { callee := Callee.value (Operand.func 54), args := #[Operand.tmp 26], argTypes := #[3] }, type := 9, pos := "ref.go:62", after := #[{ on := 14, ground := Ground.data }], guard := none }) rfl (fun K hK => ?_) AllReadyH.nil
  go_simp
  go_at_call 54
  refine (DEC.out _).mono ?_
  rintro e w2 ⟨rfl, hb2⟩
  have T2 := Lib.hid (WG.drew T0.out hb2)
  go_wp2_with fail
  refine hK.out _ _ (T2.out.cells) (fun hHeldw15 => ?_)
  clear hK K hHeld
  try simp only [Act.put, List.setIfInBounds_toArray, List.set_cons_zero, List.set_cons_succ]
  refine wpAnyH_take (i := 16) (oi := { dst := some 28, op := Op.binOp BinOp.add 9 (Operand.tmp 20) (Operand.tmp 27) 9, type := 9, pos := "ref.go:62", after := #[{ on := 8, ground := Ground.data }, { on := 15, ground := Ground.data }], guard := none }) (v := ?vw16) rfl (by kernel_rfl) (by kernel_rfl) (by kernel_rfl) (fun _ _ _ h => h) (Or.inl ⟨by rfl, ?yw16⟩) (by assumption) ?rw16
  case yw16 => (intro w' hSw; (try dsimp only at hSw); go_simp; try with_reducible rfl)
  try simp only [Act.put, List.setIfInBounds_toArray, List.set_cons_zero, List.set_cons_succ]
  refine wpAnyH_take (i := 17) (oi := { dst := some 29, op := Op.binOp BinOp.add 9 (Operand.tmp 28) (Operand.const (Value.string { data := #[58, 32] })) 9, type := 9, pos := "ref.go:62", after := #[{ on := 16, ground := Ground.data }], guard := none }) (v := ?vw17) rfl (by kernel_rfl) (by kernel_rfl) (by kernel_rfl) (fun _ _ _ h => h) (Or.inl ⟨by rfl, ?yw17⟩) (by assumption) ?rw17
  case yw17 => (intro w' hSw; (try dsimp only at hSw); go_simp; try with_reducible rfl)
  try simp only [Act.put, List.setIfInBounds_toArray, List.set_cons_zero, List.set_cons_succ]
  refine wpAnyH_take (i := 18) (oi := { dst := some 3, op := Op.assign (Operand.tmp 29), type := 9, pos := "ref.go:62", after := #[{ on := 17, ground := Ground.data }, { on := 15, ground := Ground.chain }, { on := 0, ground := Ground.phase }, { on := 1, ground := Ground.phase }, { on := 2, ground := Ground.phase }, { on := 3, ground := Ground.phase }, { on := 4, ground := Ground.phase }, { on := 5, ground := Ground.phase }, { on := 6, ground := Ground.phase }, { on := 7, ground := Ground.phase }, { on := 8, ground := Ground.phase }, { on := 9, ground := Ground.phase }, { on := 10, ground := Ground.phase }, { on := 11, ground := Ground.phase }, { on := 12, ground := Ground.phase }, { on := 13, ground := Ground.phase }, { on := 14, ground := Ground.phase }, { on := 15, ground := Ground.phase }, { on := 16, ground := Ground.phase }, { on := 17, ground := Ground.phase }], guard := none }) (v := ?vw18) rfl (by kernel_rfl) (by kernel_rfl) (by kernel_rfl) (fun _ _ _ h => h) (Or.inl ⟨by rfl, ?yw18⟩) (by assumption) ?rw18
  case yw18 => (intro w' hSw; (try dsimp only at hSw); go_simp; try with_reducible rfl)
  try simp only [Act.put, List.setIfInBounds_toArray, List.set_cons_zero, List.set_cons_succ]
  refine wpAnyH_done (by kernel_rfl) ?_ _
  clear T0
  have c0 := T2.out.box.cell 0
  have c1 := T2.out.box.cell 1
  go_wp2_with fail
  rw [rounds_succ]
  go_wp2_with fail
  refine (SH.out _).mono ?_
  rintro x w3 ⟨rfl, hb3⟩
  go_wp2_with fail
  go_ret
  exact ⟨by rw [HS.out]; rfl, (T2.out.below hb3).bel⟩
end Go.Proofs.YtdpoeagmeiedcaaDoor
namespace Go.Proofs.YtdpoeagmeiedcaaDoor
open Go Go.RowKit

theorem eqlE_any {e : Int} (he : To14 e) (w : World) : (binOp .eql 27 (.iface 97 (.int .i64 e)) (.iface 97 (.int .i64 e))).run Tryd.prog w = .ok (.bool true) w := by
  rcases he with rfl | rfl | rfl | rfl | rfl | rfl | rfl | rfl | rfl | rfl | rfl | rfl | rfl | rfl <;> kernel_rfl

structure TG (w0 w : World) (F g : Nat) (p : ByteArray) (n e : Int) : Prop where
  box : Blk w w0.heap.size 33 #[.slice (some ⟨g, 0, none⟩) 1 1, .int .i64 e]
  part : Blk w g 104 #[.string p, .int .i64 n]
  fault : Blk w F 102 #[.string p, .int .i64 n, .iface 97 (.int .i64 e)]
  err : ErrType w
  bel : Below w0.heap.size w0 w
theorem TG.below {w0 w w' : World} {F g : Nat} {p : ByteArray} {n e : Int} (h : TG w0 w F g p n e) (hb : Below w.heap.size w w') : TG w0 w' F g p n e :=
  ⟨h.box.below hb h.box.lt, h.part.below hb h.part.lt, h.fault.below hb h.fault.lt, h.err.below hb, h.bel.trans (hb.mono h.bel.size)⟩
theorem TG.draws {w0 w : World} {F g : Nat} {p : ByteArray} {n e : Int} (h : TG w0 w F g p n e) (k : Nat) : TG w0 (w.drewN k) F g p n e := h.below (below_drewN (Below.refl _ w) k)
theorem TG.cells {w0 w : World} {F g : Nat} {p : ByteArray} {n e : Int} (h : TG w0 w F g p n e) : w.cell? ⟨w0.heap.size, 0, none⟩ = some (.slice (some ⟨g, 0, none⟩) 1 1) ∧ w.cell? ⟨w0.heap.size, 1, none⟩ = some (.int .i64 e) := ⟨h.box.cell 0, h.box.cell 1⟩

set_option maxRecDepth 100000 in
set_option maxHeartbeats 4000000 in
theorem tells_says (w : World) (F g : Nat) (p D : ByteArray) (n e : Int) (hF : Blk w F 102 #[.string p, .int .i64 n, .iface 97 (.int .i64 e)]) (hg : Blk w g 104 #[.string p, .int .i64 n]) (hp : p.size ≤ 1000) (hd : D.size ≤ 100) (he : To14 e) (hE : ErrType w)
    (hI : ∀ W, Calls Tryd.prog 81 #[.int .i64 n] W fun x w' => x = .returned (.string D) ∧ w' = W)
    (hJ : ∀ W, Calls Tryd.prog 54 #[.int .i64 n] W fun x w' => x = .returned (.string D) ∧ Below W.heap.size W w') :
    Calls Tryd.prog 14 #[.iface 98 (.pointer (some ⟨F, 0, none⟩)), wrongG g e] w fun x w' => x = .returned (.bool true) ∧ Below w.heap.size w w' := by
  have hb0 := (Below.refl w.heap.size w).alloc (Nat.le_refl _) (.cells #[.slice (some ⟨g, 0, none⟩) 1 1, .int .i64 e] 33)
  have T0 := Lib.hid (TG.mk (w0 := w) (heap_alloc_new w (.cells #[.slice (some ⟨g, 0, none⟩) 1 1, .int .i64 e] 33)) (Blk.below hg hb0 (Blk.lt hg)) (hF.below hb0 hF.lt) (hE.below hb0) hb0)
  have T0d : Hid (TG w (w.alloc (.cells #[.slice (some ⟨g, 0, none⟩) 1 1, .int .i64 e] 33)).drew F g p n e) := Lib.hid (T0.out.draws 1)
  have ER := Lib.hid fun W (h : Blk W F 102 #[.string p, .int .i64 n, .iface 97 (.int .i64 e)]) => fault_says W F p D n e h hp hd he hI
  have WO := Lib.hid fun W (h : Blk W g 104 #[.string p, .int .i64 n]) => words_says W g p D n e h hp hd he hJ
  have IS := Lib.hid fun W (h : Blk W F 102 #[.string p, .int .i64 n, .iface 97 (.int .i64 e)]) => is_hit F e W (h.cell 2) (eqlE_any he)
  have AS := Lib.hid fun W t => as_fault F t W
  have mF := invokeFault
  have nF := nilF
  have c0 := T0.out.box.cell 0
  have c1 := T0.out.box.cell 1
  have hne0 : (e == 0) = false := by
    have h1 : ¬ e = 0 := by unfold To14 at he; omega
    simpa using h1
  obtain ⟨s, hs⟩ : ∃ s, s = fwG p D (ew e) := ⟨_, rfl⟩
  rw [← hs] at ER WO
  clear hs hF hg hE hb0 hI hJ hp hd he
  go_enter Tryd.func14, Tryd.ntmps14
  go_wp2_with fail
  refine wp_region_held_drew (S := fun w' => w'.cell? ⟨w.heap.size, 0, none⟩ = some (.slice (some ⟨g, 0, none⟩) 1 1) ∧ w'.cell? ⟨w.heap.size, 1, none⟩ = some (.int .i64 e)) (by kernel_rfl) (T0d.out.cells) (fun hHeld => ?_)
  refine wpAnyH_take (i := 0) (oi := { dst := some 11, op := Op.move (Operand.tmp 0), type := 27, pos := "law.go:25", after := #[], guard := none }) (v := ?vt0) rfl (by kernel_rfl) (by kernel_rfl) (by kernel_rfl) (fun _ _ _ h => h) (Or.inl ⟨by rfl, ?yt0⟩) (by assumption) ?rt0
  case yt0 => (intro w' hSw; (try dsimp only at hSw); go_simp; try with_reducible rfl)
  try simp only [Act.put, List.setIfInBounds_toArray, List.set_cons_zero, List.set_cons_succ]
  refine wpAnyH_take (i := 1) (oi := { dst := some 12, op := Op.binOp BinOp.eql 27 (Operand.tmp 11) (Operand.const Value.nilIface) 27, type := 4, pos := "law.go:25", after := #[{ on := 0, ground := Ground.data }], guard := none }) (v := ?vt1) rfl (by kernel_rfl) (by kernel_rfl) (by kernel_rfl) (fun _ _ _ h => h) (Or.inl ⟨by rfl, ?yt1⟩) (by assumption) ?rt1
  case yt1 => (intro w' hSw; (try dsimp only at hSw); go_simp; try with_reducible rfl)
  try simp only [Act.put, List.setIfInBounds_toArray, List.set_cons_zero, List.set_cons_succ]
  refine wpAnyH_take (i := 2) (oi := { dst := some 13, op := Op.move (Operand.tmp 12), type := 4, pos := "law.go:25", after := #[{ on := 1, ground := Ground.data }], guard := none }) (v := ?vt2) rfl (by kernel_rfl) (by kernel_rfl) (by kernel_rfl) (fun _ _ _ h => h) (Or.inl ⟨by rfl, ?yt2⟩) (by assumption) ?rt2
  case yt2 => (intro w' hSw; (try dsimp only at hSw); go_simp; try with_reducible rfl)
  try simp only [Act.put, List.setIfInBounds_toArray, List.set_cons_zero, List.set_cons_succ]
  refine wpAnyH_take (i := 3) (oi := { dst := some 14, op := Op.move (Operand.tmp 0), type := 27, pos := "law.go:25", after := #[{ on := 2, ground := Ground.guard }], guard := some (2, false) }) (v := ?vt3) rfl (by kernel_rfl) (by kernel_rfl) (by kernel_rfl) (fun _ _ _ h => h) (Or.inl ⟨by rfl, ?yt3⟩) (by assumption) ?rt3
  case yt3 => (intro w' hSw; (try dsimp only at hSw); go_simp; try with_reducible rfl)
  try simp only [Act.put, List.setIfInBounds_toArray, List.set_cons_zero, List.set_cons_succ]
  refine wpAnyH_take (i := 5) (oi := { dst := some 16, op := Op.load 33 (Operand.tmp 3), type := 33, pos := "law.go:25", after := #[{ on := 2, ground := Ground.guard }], guard := some (2, false) }) (v := ?vt5) rfl (by kernel_rfl) (by kernel_rfl) (by kernel_rfl) (fun _ _ _ h => h) (Or.inl ⟨by rfl, ?yt5⟩) (by assumption) ?rt5
  case yt5 => (intro w' hSw; (try dsimp only at hSw); go_simp; try with_reducible rfl)
  try simp only [Act.put, List.setIfInBounds_toArray, List.set_cons_zero, List.set_cons_succ]
  refine wpAnyH_ready (rs := [4]) (by kernel_rfl) (by simp) ?_
  refine AllReadyH.cons (o := { dst := some 15, op := Op.call { callee := Callee.invoke (Operand.tmp 14) "Error", args := #[], argTypes := #[] }, type := 9, pos := "law.go:25", after := #[{ on := 3, ground := Ground.data }, { on := 2, ground := Ground.chain }, { on := 2, ground := Ground.guard }], guard := some (2, false) }) rfl (fun K hK => ?_) AllReadyH.nil
  go_simp
  go_at_call 134
  refine (ER.out _ (TG.fault T0d.out)).mono ?_
  rintro x w1 ⟨rfl, k1, rfl⟩
  have T1 : Hid (TG w ((w.alloc (.cells #[.slice (some ⟨g, 0, none⟩) 1 1, .int .i64 e] 33)).drewN (1 + k1)) F g p n e) := Lib.hid (T0.out.draws (1 + k1))
  go_wp2_with fail
  refine hK.out _ _ (T1.out.cells) (fun hHeldt4 => ?_)
  clear hK K hHeld
  try simp only [Act.put, List.setIfInBounds_toArray, List.set_cons_zero, List.set_cons_succ]
  refine wpAnyH_ready (rs := [6]) (by kernel_rfl) (by simp) ?_
  refine AllReadyH.cons (o := { dst := some 17, op := Op.call { callee := Callee.value (Operand.func 43), args := #[Operand.tmp 16], argTypes := #[33] }, type := 9, pos := "law.go:25", after := #[{ on := 5, ground := Ground.data }, { on := 4, ground := Ground.chain }, { on := 2, ground := Ground.guard }], guard := some (2, false) }) rfl (fun K hK => ?_) AllReadyH.nil
  go_simp
  go_at_call 43
  refine (WO.out _ (TG.part T1.out)).mono ?_
  rintro x w2 ⟨rfl, hb2⟩
  have T2 := Lib.hid (T1.out.below hb2)
  go_wp2_with fail
  refine hK.out _ _ (T2.out.cells) (fun hHeldt6 => ?_)
  clear hK K hHeldt4
  try simp only [Act.put, List.setIfInBounds_toArray, List.set_cons_zero, List.set_cons_succ]
  refine wpAnyH_take (i := 7) (oi := { dst := some 18, op := Op.binOp BinOp.neq 9 (Operand.tmp 15) (Operand.tmp 17) 9, type := 4, pos := "law.go:25", after := #[{ on := 4, ground := Ground.data }, { on := 6, ground := Ground.data }, { on := 2, ground := Ground.guard }], guard := some (2, false) }) (v := ?vt7) rfl (by kernel_rfl) (by kernel_rfl) (by kernel_rfl) (fun _ _ _ h => h) (Or.inl ⟨by rfl, ?yt7⟩) (by assumption) ?rt7
  case yt7 => (intro w' hSw; (try dsimp only at hSw); go_simp; try with_reducible rfl)
  try simp only [Act.put, List.setIfInBounds_toArray, List.set_cons_zero, List.set_cons_succ]
  refine wpAnyH_take (i := 8) (oi := { dst := some 19, op := Op.pick (Operand.tmp 13) (Operand.const (Value.bool true)) (Operand.tmp 18), type := 4, pos := "law.go:25", after := #[{ on := 2, ground := Ground.data }, { on := 7, ground := Ground.data }], guard := none }) (v := ?vt8) rfl (by kernel_rfl) (by kernel_rfl) (by kernel_rfl) (fun _ _ _ h => h) (Or.inl ⟨by rfl, ?yt8⟩) (by assumption) ?rt8
  case yt8 => (intro w' hSw; (try dsimp only at hSw); go_simp; try with_reducible rfl)
  try simp only [Act.put, List.setIfInBounds_toArray, List.set_cons_zero, List.set_cons_succ]
  refine wpAnyH_take (i := 9) (oi := { dst := some 20, op := Op.move (Operand.tmp 19), type := 4, pos := "law.go:25", after := #[{ on := 8, ground := Ground.data }, { on := 6, ground := Ground.chain }], guard := none }) (v := ?vt9) rfl (by kernel_rfl) (by kernel_rfl) (by kernel_rfl) (fun _ _ _ h => h) (Or.inl ⟨by rfl, ?yt9⟩) (by assumption) ?rt9
  case yt9 => (intro w' hSw; (try dsimp only at hSw); go_simp; try with_reducible rfl)
  try simp only [Act.put, List.setIfInBounds_toArray, List.set_cons_zero, List.set_cons_succ]
  refine wpAnyH_take (i := 10) (oi := { dst := some 21, op := Op.move (Operand.tmp 0), type := 27, pos := "law.go:25", after := #[{ on := 9, ground := Ground.guard }], guard := some (9, false) }) (v := ?vt10) rfl (by kernel_rfl) (by kernel_rfl) (by kernel_rfl) (fun _ _ _ h => h) (Or.inl ⟨by rfl, ?yt10⟩) (by assumption) ?rt10
  case yt10 => (intro w' hSw; (try dsimp only at hSw); go_simp; try with_reducible rfl)
  try simp only [Act.put, List.setIfInBounds_toArray, List.set_cons_zero, List.set_cons_succ]
  refine wpAnyH_take (i := 11) (oi := { dst := some 22, op := Op.fieldAddr 33 (Operand.tmp 3) 1, type := 0, pos := "law.go:25", after := #[{ on := 9, ground := Ground.guard }], guard := some (9, false) }) (v := ?vt11) rfl (by kernel_rfl) (by kernel_rfl) (by kernel_rfl) (fun _ _ _ h => h) (Or.inl ⟨by rfl, ?yt11⟩) (by assumption) ?rt11
  case yt11 => (intro w' hSw; (try dsimp only at hSw); go_simp; try with_reducible rfl)
  try simp only [Act.put, List.setIfInBounds_toArray, List.set_cons_zero, List.set_cons_succ]
  refine wpAnyH_take (i := 12) (oi := { dst := some 23, op := Op.load 3 (Operand.tmp 22), type := 3, pos := "law.go:25", after := #[{ on := 11, ground := Ground.data }, { on := 9, ground := Ground.guard }], guard := some (9, false) }) (v := ?vt12) rfl (by kernel_rfl) (by kernel_rfl) (by kernel_rfl) (fun _ _ _ h => h) (Or.inl ⟨by rfl, ?yt12⟩) (by assumption) ?rt12
  case yt12 => (intro w' hSw; (try dsimp only at hSw); go_simp; try with_reducible rfl)
  try simp only [Act.put, List.setIfInBounds_toArray, List.set_cons_zero, List.set_cons_succ]
  refine wpAnyH_take (i := 13) (oi := { dst := some 24, op := Op.makeInterface 97 (Operand.tmp 23), type := 27, pos := "law.go:25", after := #[{ on := 12, ground := Ground.data }, { on := 9, ground := Ground.guard }], guard := some (9, false) }) (v := ?vt13) rfl (by kernel_rfl) (by kernel_rfl) (by kernel_rfl) (fun _ _ _ h => h) (Or.inl ⟨by rfl, ?yt13⟩) (by assumption) ?rt13
  case yt13 => (intro w' hSw; (try dsimp only at hSw); go_simp; try with_reducible rfl)
  try simp only [Act.put, List.setIfInBounds_toArray, List.set_cons_zero, List.set_cons_succ]
  refine wpAnyH_ready (rs := [14]) (by kernel_rfl) (by simp) ?_
  refine AllReadyH.cons (o := { dst := some 25, op := Op.call { callee := Callee.value (Operand.func 44), args := #[Operand.tmp 21, Operand.tmp 24], argTypes := #[27, 27] }, type := 4, pos := "law.go:25", after := #[{ on := 10, ground := Ground.data }, { on := 13, ground := Ground.data }, { on := 9, ground := Ground.chain }, { on := 9, ground := Ground.guard }], guard := some (9, false) }) rfl (fun K hK => ?_) AllReadyH.nil
  go_simp
  go_at_call 44
  refine (IS.out _ (TG.fault T2.out)).mono ?_
  rintro x w3 ⟨rfl, rfl⟩
  go_wp2_with fail
  refine hK.out _ _ (T2.out.cells) (fun hHeldt14 => ?_)
  clear hK K hHeldt6
  try simp only [Act.put, List.setIfInBounds_toArray, List.set_cons_zero, List.set_cons_succ]
  refine wpAnyH_take (i := 15) (oi := { dst := some 26, op := Op.unOp UnOp.not 4 (Operand.tmp 25), type := 4, pos := "law.go:25", after := #[{ on := 14, ground := Ground.data }, { on := 9, ground := Ground.guard }], guard := some (9, false) }) (v := ?vt15) rfl (by kernel_rfl) (by kernel_rfl) (by kernel_rfl) (fun _ _ _ h => h) (Or.inl ⟨by rfl, ?yt15⟩) (by assumption) ?rt15
  case yt15 => (intro w' hSw; (try dsimp only at hSw); go_simp; try with_reducible rfl)
  try simp only [Act.put, List.setIfInBounds_toArray, List.set_cons_zero, List.set_cons_succ]
  refine wpAnyH_take (i := 16) (oi := { dst := some 27, op := Op.pick (Operand.tmp 20) (Operand.const (Value.bool true)) (Operand.tmp 26), type := 4, pos := "law.go:25", after := #[{ on := 9, ground := Ground.data }, { on := 15, ground := Ground.data }], guard := none }) (v := ?vt16) rfl (by kernel_rfl) (by kernel_rfl) (by kernel_rfl) (fun _ _ _ h => h) (Or.inl ⟨by rfl, ?yt16⟩) (by assumption) ?rt16
  case yt16 => (intro w' hSw; (try dsimp only at hSw); go_simp; try with_reducible rfl)
  try simp only [Act.put, List.setIfInBounds_toArray, List.set_cons_zero, List.set_cons_succ]
  refine wpAnyH_done (by kernel_rfl) ?_ _
  have c0 := T2.out.box.cell 0
  have c1 := T2.out.box.cell 1
  have HBk := Lib.hid (Blk.new w3 98 #[.pointer none])
  have T3 := Lib.hid (T2.out.below ((Below.refl _ _).alloc (Nat.le_refl _) (.cells #[.pointer none] 98)))
  clear T0 T0d T1 ER WO IS
  go_wp2_with fail
  refine (AS.out _ _ T3.out.err HBk.out).mono ?_
  rintro x w4 ⟨rfl, hbk, hT⟩
  have C0 := hbk.cell 0
  have d0 := (hT.blk T3.out.box (T3.out.box.ne_ HBk.out (by decide)) (by simp)).cell 0
  have d1 := (hT.blk T3.out.box (T3.out.box.ne_ HBk.out (by decide)) (by simp)).cell 1
  have p0 := (hT.blk T3.out.part (T3.out.part.ne_ HBk.out (by decide)) (by simp)).cell 0
  have p1 := (hT.blk T3.out.part (T3.out.part.ne_ HBk.out (by decide)) (by simp)).cell 1
  have q0 := (hT.blk T3.out.fault (T3.out.fault.ne_ HBk.out (by decide)) (by simp)).cell 0
  have q1 := (hT.blk T3.out.fault (T3.out.fault.ne_ HBk.out (by decide)) (by simp)).cell 1
  have HBF : Hid (Below w.heap.size w w4) := Lib.hid (T2.out.bel.trans (((Below.refl _ _).alloc T2.out.bel.size (.cells #[.pointer none] 98)).trans (hT.below (by have := T2.out.bel.size; simp; omega) T2.out.bel.size (fun _ h => by cases h))))
  clear hbk hT T3 HBk T2 AS
  go_wp2_with fail
  go_quiet (fail)
  go_wp2_with fail
  go_ret
  exact ⟨rfl, below_drewN HBF.out _⟩
end Go.Proofs.YtdpoeagmeiedcaaDoor
namespace Go.Proofs.YtdpoeagmeiedcaaDoor
open Go Go.RowKit

set_option maxRecDepth 100000 in
set_option maxHeartbeats 8000000 in
theorem itoa_0 (n : Int) (h : n = 0 ∨ n = 1 ∨ n = 2 ∨ n = 3 ∨ n = 4 ∨ n = 5 ∨ n = 6 ∨ n = 7 ∨ n = 8 ∨ n = 9) (w : World) : Calls Tryd.prog 81 #[.int .i64 n] w fun e w' => e = .returned (.string (dg n.toNat)) ∧ w' = w := by
  rcases h with rfl | rfl | rfl | rfl | rfl | rfl | rfl | rfl | rfl | rfl
  all_goals
    go_enter Tryd.func81, Tryd.ntmps81
    go_wp2
    go_ret
    exact ⟨rfl, rfl⟩
set_option maxRecDepth 100000 in
set_option maxHeartbeats 8000000 in
theorem decimal_0 (n : Int) (h : n = 0 ∨ n = 1 ∨ n = 2 ∨ n = 3 ∨ n = 4 ∨ n = 5 ∨ n = 6 ∨ n = 7 ∨ n = 8 ∨ n = 9) (w : World) : Calls Tryd.prog 54 #[.int .i64 n] w fun e w' => e = .returned (.string (dg n.toNat)) ∧ Below w.heap.size w w' := by
  rcases h with rfl | rfl | rfl | rfl | rfl | rfl | rfl | rfl | rfl | rfl
  all_goals
    have cv : ∀ (W : World) (x : Int), 48 ≤ x → x ≤ 57 → (convert 117 9 (.slice (some ⟨W.heap.size, 0, none⟩) 1 1)).run Tryd.prog (W.alloc (.cells #[.int .u8 x] 5)) = .ok (.string ⟨#[UInt8.ofNat x.toNat]⟩) (W.alloc (.cells #[.int .u8 x] 5)) := fun W x h1 h2 => one_digit _ _ _ h1 h2 (by simp)
    have cw : ∀ (W : World) (o : Obj) (x : Int), 48 ≤ x → x ≤ 57 → (convert 117 9 (.slice (some ⟨W.heap.size + 1, 0, none⟩) 1 1)).run Tryd.prog ((W.alloc o).alloc (.cells #[.int .u8 x] 5)) = .ok (.string ⟨#[UInt8.ofNat x.toNat]⟩) ((W.alloc o).alloc (.cells #[.int .u8 x] 5)) := fun W o x h1 h2 => one_digit _ _ _ h1 h2 (by simp)
    go_enter Tryd.func54, Tryd.ntmps54
    go_wp2
    refine wp_loop_rounds 2 ?_
    rw [rounds_succ]
    go_wp2
    try (rw [rounds_succ]; go_wp2)
    go_ret
    refine ⟨rfl, ?_⟩
    first
      | exact (Below.refl _ _).alloc (Nat.le_refl _) _
      | exact ((Below.refl _ _).alloc (Nat.le_refl _) _).alloc (by simp) _
end Go.Proofs.YtdpoeagmeiedcaaDoor
namespace Go.Proofs.YtdpoeagmeiedcaaDoor
open Go Go.RowKit

abbrev bLines : ByteArray := ⟨#[108, 105, 110, 101, 115]⟩
/-- Which text has too many lines. -/
def Over (n m k : Nat) : Prop := (k = 0 ∧ 256 < n) ∨ (k = 1 ∧ n ≤ 256 ∧ 256 < m)
/-- The refusal: its fault in a block of its own. -/
def FaultIs (k F : Nat) (w w' : World) : Prop := Blk w' F 102 #[.string bLines, .int .i64 (k : Int), .iface 97 (.int .i64 4)] ∧ Below w.heap.size w w'
abbrev theFault (F : Nat) : Value := .iface 98 (.pointer (some ⟨F, 0, none⟩))
def FaultTo (k : Nat) (w : World) (e : Ending) (w' : World) : Prop := ∃ F, e = .returned (theFault F) ∧ FaultIs k F w w'

set_option maxHeartbeats 1000000 in
theorem check_bad (b n c m d k : Nat) (A B : Option Addr) (hk : Over n m k) (w : World) (h0 : w.cell? ⟨b, 0, none⟩ = some (.slice A n c)) (h1 : w.cell? ⟨b, 1, none⟩ = some (.slice B m d)) :
    Calls Tryd.prog 37 #[.slice (some ⟨b, 0, none⟩) 2 2] w (FaultTo k w) := by
  rcases hk with ⟨rfl, hn⟩ | ⟨rfl, hn, hm⟩
  · go_enter Tryd.func37, Tryd.ntmps37
    go_wp2
    go_loop [7] (fun i => i = .int .i64 0) (fun i => 0)
    case atStart => rfl
    case round =>
      obtain rfl := hrel
      go_wp2
      go_ret
      exact ⟨w.heap.size, rfl, heap_alloc_new w _, (Below.refl _ _).alloc (Nat.le_refl _) _⟩
  · go_enter Tryd.func37, Tryd.ntmps37
    go_wp2
    go_loop [7] (fun i => ∃ k : Nat, k ≤ 1 ∧ i = .int .i64 k) (fun i => 2 - (intOf i).toNat)
    case atStart => exact ⟨0, by omega, rfl⟩
    case round =>
      obtain ⟨k, hk, rfl⟩ := hrel
      by_cases e0 : k = 0
      · subst e0
        go_wp2
        go_round
        case rel => exact ⟨1, by omega, rfl⟩
        case measure => simp [intOf]
      · obtain rfl : k = 1 := by omega
        go_wp2
        go_ret
        exact ⟨w.heap.size, rfl, heap_alloc_new w _, (Below.refl _ _).alloc (Nat.le_refl _) _⟩

/-- .. with another answer before it. -/
def FaultTo2 (v : Value) (k : Nat) (w : World) (e : Ending) (w' : World) : Prop := ∃ F, e = .returned (.tuple #[v, theFault F]) ∧ FaultIs k F w w'
set_option maxRecDepth 100000 in
set_option maxHeartbeats 1000000 in
theorem lines_bad (w : World) (A B : Option Addr) (n c m d k : Nat) (hk : Over n m k) : Calls Tryd.prog 10 #[.slice A n c, .slice B m d] w (FaultTo2 (.slice none 0 0) k w) := by
  have E1 := (Below.refl w.heap.size w).alloc (Nat.le_refl _) (.cells #[.slice A n c, .slice B m d] 22)
  have hh := heap_alloc_new w (.cells #[.slice A n c, .slice B m d] 22)
  have CK := Lib.hid (check_bad w.heap.size n c m d k A B hk (w.alloc (.cells #[.slice A n c, .slice B m d] 22)) (cell_of_row _ _ 0 _ 22 (0, 0) hh) (cell_of_row _ _ 1 _ 22 (0, 0) hh))
  clear hh hk
  go_enter Tryd.func10, Tryd.ntmps10
  go_wp2_with fail
  refine CK.out.mono ?_
  rintro e w' ⟨F, rfl, T, hb⟩
  have E2 := E1.trans (hb.mono (by simp))
  go_wp2
  go_ret2
  exact ⟨F, rfl, T, E2⟩
set_option maxRecDepth 100000 in
set_option maxHeartbeats 1000000 in
theorem diffCommon_bad (w : World) (A B : Option Addr) (n c m d k : Nat) (hk : Over n m k) : Calls Tryd.prog 13 #[.slice A n c, .slice B m d] w (FaultTo2 (.int .i64 0) k w) := by
  have E1 := (Below.refl w.heap.size w).alloc (Nat.le_refl _) (.cells #[.slice A n c, .slice B m d] 22)
  have hh := heap_alloc_new w (.cells #[.slice A n c, .slice B m d] 22)
  have CK := Lib.hid (check_bad w.heap.size n c m d k A B hk (w.alloc (.cells #[.slice A n c, .slice B m d] 22)) (cell_of_row _ _ 0 _ 22 (0, 0) hh) (cell_of_row _ _ 1 _ 22 (0, 0) hh))
  clear hh hk
  go_enter Tryd.func13, Tryd.ntmps13
  go_wp2_with fail
  refine CK.out.mono ?_
  rintro e w' ⟨F, rfl, T, hb⟩
  have E2 := E1.trans (hb.mono (by simp))
  go_wp2
  go_ret2
  exact ⟨F, rfl, T, E2⟩
set_option maxRecDepth 100000 in
set_option maxHeartbeats 1000000 in
theorem matches_bad (w : World) (A B : Option Addr) (n c m d k : Nat) (hk : Over n m k) : Calls Tryd.prog 12 #[.slice A n c, .slice B m d] w (FaultTo2 (.slice none 0 0) k w) := by
  have CK := Lib.hid (lines_bad w A B n c m d k hk)
  clear hk
  go_enter Tryd.func12, Tryd.ntmps12
  go_wp2_with fail
  refine CK.out.mono ?_
  rintro e w' ⟨F, rfl, T, hb⟩
  go_wp2
  go_ret2
  exact ⟨F, rfl, T, hb⟩

/-- The document's Wrong of one part. -/
abbrev wrong0 : Value := .agg #[.slice none 0 0, .int .i64 0]
theorem refAt_gen (p : ByteArray) (n e : Int) (w : World) : Calls Tryd.prog 59 #[.string p, .int .i64 n, .int .i64 e] w fun x w' => ∃ g, x = .returned (wrongG g e) ∧ Blk w' g 104 #[.string p, .int .i64 n] ∧ w.heap.size ≤ g ∧ Below w.heap.size w w' := by
  go_enter Tryd.func59, Tryd.ntmps59
  go_wp2
  refine bodyPost_ret (results_cell_row (fn := Tryd.f59) rfl _ _ w.heap.size 33 #[.slice (some ⟨w.heap.size + 1, 0, none⟩) 1 1, .int .i64 e] (0, 0) _ rfl ((Blk.new w 33 _).alloc _) Tryd.underlying33 rfl (by kernel_rfl)) rfl ⟨w.heap.size + 1, rfl, ?_, by omega, ((Below.refl _ _).alloc (Nat.le_refl _) _).alloc (by simp) _⟩
  have h := heap_alloc_new (w.alloc (.cells #[.slice (some ⟨w.heap.size + 1, 0, none⟩) 1 1, .int .i64 e] 33)) (.cells #[.string p, .int .i64 n] 104)
  rw [show (w.alloc (.cells #[.slice (some ⟨w.heap.size + 1, 0, none⟩) 1 1, .int .i64 e] 33)).heap.size = w.heap.size + 1 by simp] at h
  exact h

/-- What the document's long answers. -/
def LongTo (n m : Nat) (w : World) (e : Ending) (w' : World) : Prop :=
  (n ≤ 256 ∧ m ≤ 256 ∧ e = .returned wrong0 ∧ Below w.heap.size w w') ∨ ∃ k g : Nat, Over n m k ∧ e = .returned (wrongG g 4) ∧ Blk w' g 104 #[.string bLines, .int .i64 (k : Int)] ∧ Below w.heap.size w w'
set_option maxHeartbeats 1000000 in
theorem long_any (w : World) (A B : Option Addr) (n c m d : Nat) (hn : n ≤ maxLen) (hm : m ≤ maxLen) : Calls Tryd.prog 40 #[.slice A n c, .slice B m d] w (LongTo n m w) := by
  have E1 := (Below.refl w.heap.size w).alloc (Nat.le_refl _) (.cells #[.slice none 0 0, .int .i64 0] 33)
  have hn0 : (n : Int) ≤ 9223372036854775807 := by unfold maxLen at hn; omega
  have hm0 : (m : Int) ≤ 9223372036854775807 := by unfold maxLen at hm; omega
  clear hn hm
  have RT := fun k => Lib.hid (refAt_gen bLines k 4 (w.alloc (.cells #[.slice none 0 0, .int .i64 0] 33)))
  have hh := Blk.new w 33 #[.slice none 0 0, .int .i64 0]
  have hsz : (w.alloc (.cells #[.slice none 0 0, .int .i64 0] 33)).heap.size = w.heap.size + 1 := by simp
  by_cases h1 : 256 < n
  · have hi : (256 : Int) < (n : Int) := by omega
    go_enter Tryd.func40, Tryd.ntmps40
    go_wp2_with fail
    refine (RT 0).out.mono ?_
    rintro e w2 ⟨g, rfl, hg, hgl, b2⟩
    have K2 := hh.below b2 hh.lt
    have c0 := K2.cell 0
    have c1 := K2.cell 1
    have f0 := K2.frozen 0
    have f1 := K2.frozen 1
    have E2 := E1.trans (b2.mono (by rw [hsz]; omega))
    have HK := Lib.hid K2
    have Hg := Lib.hid hg
    have Hne := Lib.hid (K2.ne_ hg (by decide))
    have HB2 := Lib.hid E2
    clear hg b2 K2 E2 hgl
    go_wp2
    refine bodyPost_ret (results_cell_row (fn := Tryd.f40) rfl _ _ w.heap.size 33 #[.slice (some ⟨g, 0, none⟩) 1 1, .int .i64 4] (0, 0) _ rfl (by first | exact (HK.out.set_ 0 _).set_ 1 _ | simpa using (HK.out.set_ 0 _).set_ 1 _) Tryd.underlying33 rfl (by kernel_rfl)) rfl (.inr ⟨0, g, .inl ⟨rfl, h1⟩, rfl, (Hg.out.far (fun e => Hne.out e.symm) _).far (fun e => Hne.out e.symm) _, (HB2.out.setCell (p := ⟨w.heap.size, 0, none⟩) (Nat.le_refl _) _).setCell (p := ⟨w.heap.size, 1, none⟩) (Nat.le_refl _) _⟩)
  · have hi : ¬ (256 : Int) < (n : Int) := by omega
    by_cases h2 : 256 < m
    · have hj : (256 : Int) < (m : Int) := by omega
      go_enter Tryd.func40, Tryd.ntmps40
      go_wp2_with fail
      refine (RT 1).out.mono ?_
      rintro e w2 ⟨g, rfl, hg, hgl, b2⟩
      have K2 := hh.below b2 hh.lt
      have c0 := K2.cell 0
      have c1 := K2.cell 1
      have f0 := K2.frozen 0
      have f1 := K2.frozen 1
      have E2 := E1.trans (b2.mono (by rw [hsz]; omega))
      have HK := Lib.hid K2
      have Hg := Lib.hid hg
      have Hne := Lib.hid (K2.ne_ hg (by decide))
      have HB2 := Lib.hid E2
      clear hg b2 K2 E2 hgl
      go_wp2
      refine bodyPost_ret (results_cell_row (fn := Tryd.f40) rfl _ _ w.heap.size 33 #[.slice (some ⟨g, 0, none⟩) 1 1, .int .i64 4] (0, 0) _ rfl (by first | exact (HK.out.set_ 0 _).set_ 1 _ | simpa using (HK.out.set_ 0 _).set_ 1 _) Tryd.underlying33 rfl (by kernel_rfl)) rfl (.inr ⟨1, g, .inr ⟨rfl, by omega, h2⟩, rfl, (Hg.out.far (fun e => Hne.out e.symm) _).far (fun e => Hne.out e.symm) _, (HB2.out.setCell (p := ⟨w.heap.size, 0, none⟩) (Nat.le_refl _) _).setCell (p := ⟨w.heap.size, 1, none⟩) (Nat.le_refl _) _⟩)
    · have hj : ¬ (256 : Int) < (m : Int) := by omega
      have c0 := hh.cell 0
      have c1 := hh.cell 1
      have f0 := hh.frozen 0
      have f1 := hh.frozen 1
      have HK := Lib.hid hh
      have HB2 := Lib.hid E1
      clear hh E1 RT
      go_enter Tryd.func40, Tryd.ntmps40
      go_wp2
      refine bodyPost_ret (results_cell_row (fn := Tryd.f40) rfl _ _ w.heap.size 33 #[.slice none 0 0, .int .i64 0] (0, 0) _ rfl (by first | exact HK.out | simpa using HK.out | exact (HK.out.set_ 0 _).set_ 1 _) Tryd.underlying33 rfl (by kernel_rfl)) rfl (.inl ⟨by omega, by omega, rfl, HB2.out⟩)

set_option maxHeartbeats 1000000 in
/-- Both say nothing. -/
theorem tells_none (w : World) : Calls Tryd.prog 14 #[.nilIface, wrong0] w (YesB w) := by
  go_enter Tryd.func14, Tryd.ntmps14
  go_wp2_with fail
  go_ret
  exact ⟨rfl, (Below.refl _ _).alloc (Nat.le_refl _) _⟩
/-- Both say that there are too many lines. -/
theorem tells_over (w : World) (F g k : Nat) (hk : k = 0 ∨ k = 1) (hF : Blk w F 102 #[.string bLines, .int .i64 (k : Int), .iface 97 (.int .i64 4)]) (hg : Blk w g 104 #[.string bLines, .int .i64 (k : Int)]) (hE : ErrType w) :
    Calls Tryd.prog 14 #[theFault F, wrongG g 4] w (YesB w) :=
  tells_says w F g bLines (dg k) k 4 hF hg (by decide) (by rcases hk with rfl | rfl <;> decide) (by unfold To14; omega) hE (fun W => itoa_0 k (by omega) W) (fun W => decimal_0 k (by omega) W)
end Go.Proofs.YtdpoeagmeiedcaaDoor
namespace Go.Proofs.YtdpoeagmeiedcaaDoor
open Go Go.RowKit

theorem results_tmp_row {fn : Func} {t p : Tmp} {ty : TypeId} (h : fn.results = #[.tmp t, .cell p ty]) {P : Program} (tmps : Array Value) (w : World) (g : Nat) (tt : TypeId) (cs : Array Value) (fr : Nat × Nat) {fs : Array Field}
    (hp : tmps.getD p undef = .pointer (some ⟨g, 0, none⟩)) (hg : w.heap[g]? = some (.cells cs tt fr))
    (hu : P.underlying ty = some (.struct fs)) (hi : (P.info? ty).map (·.size) = some cs.size) :
    (results fn tmps).run P w = .ok (.tuple #[tmps.getD t undef, .agg cs]) w := by
  have hp' : tmps[p]?.getD undef = .pointer (some ⟨g, 0, none⟩) := by simpa using hp
  simp [results, h, hp', asAddr, run_loadVar_row w g tt ty cs fr (.struct fs) hg hu rfl hi, Result.andThen]

theorem grown_cellL (w : World) (g p : Nat) (u : Value) : w.grownBy (w.setCell ⟨g, p, none⟩ u) (some g) :=
  ⟨rfl, rfl, rfl, by simp, fun k _ hk => Below.heap_setCell _ _ _ _ (fun e => hk (by rw [e]))⟩
theorem refEditInfo : (Tryd.prog.info? 91).map (fun i => (i.zero, i.size, i.bytes)) = some (some (.agg #[.int .i64 0, .string ⟨#[]⟩]), 2, 24) := by kernel_rfl
/-- The document's edits, in a row of the call's own; or which text has too many lines. -/
def RefEdited (w : World) (xs ys : List ByteArray) (e : Ending) (w' : World) : Prop :=
  (xs.length ≤ 256 ∧ ys.length ≤ 256 ∧ ∃ v, e = .returned (.tuple #[v, wrong0]) ∧ w'.ownsRow w.heap.size 91 2 v (ed xs ys).length (edCells (ed xs ys)) ∧ Below w.heap.size w w') ∨
  ∃ k g : Nat, Over xs.length ys.length k ∧ e = .returned (.tuple #[.slice none 0 0, wrongG g 4]) ∧ Blk w' g 104 #[.string bLines, .int .i64 (k : Int)] ∧ Below w.heap.size w w'

/-- What the table has, at any place. -/
structure TabAt (W : World) (G : Nat) (xs ys : List ByteArray) (wr : World) : Prop where
  row : ∀ t, t ≤ xs.length → wr.cell? ⟨G, t, none⟩ = some (.slice (some ⟨G + 1 + (xs.length - t), 0, none⟩) (ys.length + 1) (ys.length + 1))
  cell : ∀ t j, t ≤ xs.length → j ≤ ys.length → wr.cell? ⟨G + 1 + (xs.length - t), j, none⟩ = some (.int .i64 (cT xs ys t j : Int))
theorem TabAt.of {w wr : World} {G : Nat} {xs ys : List ByteArray} (h : OutT w wr G xs ys 0) : TabAt w G xs ys wr :=
  ⟨fun t ht => by rw [h.top.cell (by omega)]; simp only [topV]; rw [if_pos (Nat.zero_le _)], fun t j ht hj => (h.done t (Nat.zero_le _) ht).cell (by omega)⟩
theorem TabAt.below {w wr w' : World} {G : Nat} {xs ys : List ByteArray} (h : TabAt w G xs ys wr) (hb : Below wr.heap.size wr w') : TabAt w G xs ys w' :=
  ⟨fun t ht => (hb.cell (World.block_lt_of_cell? _ _ (h.row t ht))).trans (h.row t ht), fun t j ht hj => (hb.cell (World.block_lt_of_cell? _ _ (h.cell t j ht hj))).trans (h.cell t j ht hj)⟩

set_option maxRecDepth 100000 in
set_option maxHeartbeats 4000000 in
theorem refLines_any (w : World) (v u : Value) (xs ys : List ByteArray) (h : Strs w v xs) (g : Strs w u ys) :
    Calls Tryd.prog 11 #[v, u] w (RefEdited w xs ys) := by
  obtain ⟨A, n, c, rfl⟩ := h.form
  obtain ⟨B, m, d, rfl⟩ := g.form
  have hln := h.len
  have hlm := g.len
  obtain rfl := h.len.1
  obtain rfl := g.len.1
  obtain ⟨i0, hi, hz0, hz1, hz2⟩ := info_parts refEditInfo
  have E1 := (Below.refl w.heap.size w).alloc (Nat.le_refl _) (.cells #[.slice none 0 0, .int .i64 0] 33)
  have K1 := Blk.new w 33 #[.slice none 0 0, .int .i64 0]
  have LO := Lib.hid (long_any (w.alloc (.cells #[.slice none 0 0, .int .i64 0] 33)) A B xs.length c ys.length d (by omega) (by omega))
  have HA := Lib.hid h
  have HB := Lib.hid g
  have hs1 : (w.alloc (.cells #[.slice none 0 0, .int .i64 0] 33)).heap.size = w.heap.size + 1 := by simp
  clear h g hln hlm
  go_enter Tryd.func11, Tryd.ntmps11
  go_wp2_with fail
  refine LO.out.mono ?_
  rintro e w2 (⟨hxl, hyl, rfl, hb2⟩ | ⟨k, g, hk, rfl, hg, hb2⟩)
  · have E2 := E1.trans (hb2.mono (by rw [hs1]; omega))
    have K2 := K1.below hb2 K1.lt
    have E3 := E2.trans (((Below.refl w2.heap.size w2).alloc (Nat.le_refl _) (.cells #[.slice none 0 0, .int .i64 0] 33)).mono E2.size)
    have K3 := K2.alloc (.cells #[.slice none 0 0, .int .i64 0] 33)
    have X3 := Blk.new w2 33 #[.slice none 0 0, .int .i64 0]
    have TB := Lib.hid (refCommon_tab (w2.alloc (.cells #[.slice none 0 0, .int .i64 0] 33)) _ _ xs ys (HA.out.below E3) (HB.out.below E3) hxl hyl)
    have HX2 := Lib.hid (show w.heap.size ≤ w2.heap.size from E2.size)
    have HE3 := Lib.hid E3
    have HK3 := Lib.hid K3
    have HX3 := Lib.hid X3
    obtain ⟨N, hN⟩ : ∃ N, N = xs.length + 1 := ⟨_, rfl⟩
    obtain ⟨M, hM⟩ : ∃ M, M = ys.length + 1 := ⟨_, rfl⟩
    have HN := Lib.hid hN
    have HM := Lib.hid hM
    clear E2 K2 E3 K3 X3 LO E1 K1 hb2 hs1
    go_wp2_with fail
    refine TB.out.mono ?_
    rintro e W4 ⟨G, rfl, hGl, hO, hb4⟩
    rw [← hN]
    clear hN hM
    have E4 := HE3.out.trans (hb4.mono HE3.out.size)
    have HTA := Lib.hid (TabAt.of hO)
    have HA4 := Lib.hid (HA.out.below E4)
    have HB4 := Lib.hid (HB.out.below E4)
    have HK4 := Lib.hid (HK3.out.below hb4 HK3.out.lt)
    have HX4 := Lib.hid (HX3.out.below hb4 HX3.out.lt)
    have HE4 := Lib.hid E4
    have hwW := E4.size
    clear TB HE3 HK3 HX3 hb4 E4 hO hGl HA HB
    obtain ⟨Y, hY⟩ : ∃ Y, Y = w.heap.size := ⟨_, rfl⟩
    obtain ⟨X, hX⟩ : ∃ X, X = w2.heap.size := ⟨_, rfl⟩
    rw [← hY, ← hX]
    rw [← hY] at HK4 HX2
    rw [← hX] at HX4 HX2
    have HY := Lib.hid hY
    clear hY hX
    go_wp2_with fail
    go_loopw [8, 9, 10] (fun s8 s9 s10 wr => ∃ (i j : Nat) (done : List (Nat × ByteArray)), i ≤ xs.length ∧ j ≤ ys.length ∧ s9 = .int .i64 i ∧ s10 = .int .i64 j ∧ Hid (done ++ ed (xs.drop i) (ys.drop j) = ed xs ys) ∧
        wr.ownsRow W4.heap.size 91 2 s8 done.length (edCells done) ∧ Below W4.heap.size W4 wr) (fun _ s9 s10 _ => (xs.length - (intOf s9).toNat) + (ys.length - (intOf s10).toNat))
    case atStart => exact ⟨0, 0, [], Nat.zero_le _, Nat.zero_le _, rfl, rfl, rfl, World.ownsRow_nil _ _ _ _, Below.refl _ _⟩
    case round =>
      obtain ⟨i, j, done, hil, hjl, rfl, rfl, hd, hown, hbr⟩ := hrel
      have hlen : done.length ≤ 512 := by
        have := congrArg List.length hd.out
        have := ed_len xs ys
        rw [List.length_append] at *
        omega
      have i0' : (0 : Int) ≤ (i : Int) := Int.natCast_nonneg _
      have j0' : (0 : Int) ≤ (j : Int) := Int.natCast_nonneg _
      by_cases hi1 : i < xs.length
      · have hi2 : (i : Int) < (xs.length : Int) := by omega
        obtain ⟨s, hs⟩ : ∃ s, xs[i]? = some s := ⟨_, List.getElem?_eq_getElem hi1⟩
        have HS := Lib.hid hs
        clear hs
        by_cases hj1 : j < ys.length
        · have hj2 : (j : Int) < (ys.length : Int) := by omega
          obtain ⟨t, ht⟩ : ∃ t, ys[j]? = some t := ⟨_, List.getElem?_eq_getElem hj1⟩
          have HTt := Lib.hid ht
          clear ht
          have TR := HTA.out.below hbr
          obtain ⟨a1, s1, rfl, hs1, d1⟩ := (HA4.out.below hbr).cell (k := i) (by omega)
          obtain ⟨a2, t1, rfl, ht1, d2⟩ := (HB4.out.below hbr).cell (k := j) (by omega)
          obtain rfl : s1 = s := Option.some.inj (hs1.symm.trans HS.out)
          obtain rfl : t1 = t := Option.some.inj (ht1.symm.trans HTt.out)
          clear hs1 ht1
          by_cases hst : s1 = t1
          · subst hst
            have HST : Hid (s1 = s1) := rfl
            clear TR
            go_wp2_with fail
            go_quiet (fail)
            generalize hw3 : wr.drewN _ = w3
            have hb3 : Below wr.heap.size wr w3 := by rw [← hw3]; exact below_drewN (Below.refl _ wr) _
            clear hw3
            have hbx := hbr.trans (hb3.mono hbr.size)
            have hS3 := (HA4.out.below hbx)
            obtain ⟨ad, s', had, hs', hc⟩ := hS3.cell (k := i) (by omega)
            cases had
            obtain rfl : s1 = s' := by have := HS.out; rw [hs'] at this; exact (Option.some.inj this).symm
            clear hs' hS3
            have hcl := World.block_lt_of_cell? _ _ hc
            have hown4 := (own2_keep hown hb3).alloc (.cells #[.int .i64 1, .string s1] 91)
            have hnews := World.news_of_block (cs := #[.int .i64 1, .string s1]) (t := 91) (fr := (0, 0)) (heap_alloc_new w3 (.cells #[.int .i64 1, .string s1] 91))
            have hb4 := hbx.alloc hbx.size (.cells #[.int .i64 1, .string s1] 91)
            have hsz4 := hb4.size
            go_wp2_with (at_builtin; refine wpList_append_own _ rfl _ _ 30 rfl W4.heap.size 91 i0 (.agg #[.int .i64 0, .string ⟨#[]⟩]) 2 24 Tryd.underlying30 hi hz0 hz1 hz2 rfl (by decide) _ _ _ rfl hown4 ⟨w3.heap.size, 0, none⟩ 1 1 [.int .i64 1, .string s1] rfl rfl hnews (by simp [Value.oneCell']) (by unfold maxLen; omega) (by omega) hsz4 ?_; intro v5 w5 hown5 hg5 _)
            have hb5 : Below W4.heap.size W4 w5 := hb4.grown hg5 hsz4 (fun k hk => (hown.lt k hk).1)
            clear hnews hown4 hg5 hb4
            go_roundw
            case rel => exact ⟨i + 1, j + 1, done ++ [(1, s1)], by omega, by omega, by go_num, by go_num, by rw [List.append_assoc]; have := hd.out; rw [ed_keep HS.out HTt.out rfl] at this; exact this, by simpa [edCells_snoc] using hown5, hb5⟩
            case measure => simp [intOf]; omega
          · have HST := Lib.hid hst
            have hse : (s1.toList == t1.toList) = false := by
              rw [ByteArray.toList_eq, ByteArray.toList_eq]
              simp
              intro h
              exact hst (ByteArray.ext h)
            have P0 := TR.row i (by omega)
            have P1 := TR.row (i + 1) (by omega)
            have P2 := TR.cell (i + 1) j (by omega) (by omega)
            have P3 := TR.cell i (j + 1) (by omega) (by omega)
            rw [← HM.out] at P0 P1
            have b1 := cT_le xs ys (i + 1) j
            have b2 := cT_le xs ys i (j + 1)
            have hiN : (i : Int) + 1 < (N : Int) := by have := HN.out; omega
            have hiN0 : (i : Int) < (N : Int) := by have := HN.out; omega
            have hjM : (j : Int) + 1 < (M : Int) := by have := HM.out; omega
            have hjM0 : (j : Int) < (M : Int) := by have := HM.out; omega
            have hsp : IntKind.i64.wrap ((i : Int) + 1) = (i : Int) + 1 := IntWalk.i64_in _ (by omega)
            have hsj : IntKind.i64.wrap ((j : Int) + 1) = (j : Int) + 1 := IntWalk.i64_in _ (by omega)
            have hjne : ((j : Int) == (ys.length : Int)) = false := by simpa using (show (j : Int) ≠ (ys.length : Int) by omega)
            clear TR hst
            obtain ⟨c1, hc1⟩ : ∃ c, c = cT xs ys (i + 1) j := ⟨_, rfl⟩
            obtain ⟨c2, hc2⟩ : ∃ c, c = cT xs ys i (j + 1) := ⟨_, rfl⟩
            rw [← hc1] at P2 b1
            rw [← hc2] at P3 b2
            have HC1 := Lib.hid hc1
            have HC2 := Lib.hid hc2
            clear hc1 hc2
            by_cases hle : c2 ≤ c1
            · have hli : (c2 : Int) ≤ (c1 : Int) := by omega
              have HLE : Hid (lc (xs.drop i) (ys.drop (j + 1)) ≤ lc (xs.drop (i + 1)) (ys.drop j)) := Lib.hid (by have h1 := HC1.out; have h2 := HC2.out; unfold cT at h1 h2; rw [← h1, ← h2]; exact hle)
              go_wp2_with fail
              go_quiet (fail)
              go_wp2_with fail
              go_quiet (fail)
              generalize hw3 : World.drewN (wr.drewN _) _ = w3
              have hb3 : Below wr.heap.size wr w3 := by rw [← hw3]; exact below_drewN (below_drewN (Below.refl _ wr) _) _
              clear hw3
              have hbx := hbr.trans (hb3.mono hbr.size)
              have hS3 := (HA4.out.below hbx)
              obtain ⟨ad, s', had, hs', hc⟩ := hS3.cell (k := i) (by omega)
              cases had
              obtain rfl : s1 = s' := by have := HS.out; rw [hs'] at this; exact (Option.some.inj this).symm
              clear hs' hS3
              have hcl := World.block_lt_of_cell? _ _ hc
              have hown4 := (own2_keep hown hb3).alloc (.cells #[.int .i64 2, .string s1] 91)
              have hnews := World.news_of_block (cs := #[.int .i64 2, .string s1]) (t := 91) (fr := (0, 0)) (heap_alloc_new w3 (.cells #[.int .i64 2, .string s1] 91))
              have hb4 := hbx.alloc hbx.size (.cells #[.int .i64 2, .string s1] 91)
              have hsz4 := hb4.size
              go_wp2_with (at_builtin; refine wpList_append_own _ rfl _ _ 30 rfl W4.heap.size 91 i0 (.agg #[.int .i64 0, .string ⟨#[]⟩]) 2 24 Tryd.underlying30 hi hz0 hz1 hz2 rfl (by decide) _ _ _ rfl hown4 ⟨w3.heap.size, 0, none⟩ 1 1 [.int .i64 2, .string s1] rfl rfl hnews (by simp [Value.oneCell']) (by unfold maxLen; omega) (by omega) hsz4 ?_; intro v5 w5 hown5 hg5 _)
              have hb5 : Below W4.heap.size W4 w5 := hb4.grown hg5 hsz4 (fun k hk => (hown.lt k hk).1)
              clear hnews hown4 hg5 hb4
              go_roundw
              case rel => exact ⟨i + 1, j, done ++ [(2, s1)], by omega, by omega, by go_num, by go_num, by rw [List.append_assoc]; have := hd.out; rw [ed_else HS.out HTt.out HST.out, if_pos HLE.out] at this; exact this, by simpa [edCells_snoc] using hown5, hb5⟩
              case measure => simp [intOf]; omega
            · have hli : (decide ((c2 : Int) ≤ (c1 : Int))) = false := decide_eq_false (by omega)
              have HLE : Hid (¬ lc (xs.drop i) (ys.drop (j + 1)) ≤ lc (xs.drop (i + 1)) (ys.drop j)) := Lib.hid (by have h1 := HC1.out; have h2 := HC2.out; unfold cT at h1 h2; rw [← h1, ← h2]; exact hle)
              go_wp2_with fail
              go_quiet (fail)
              go_wp2_with fail
              go_quiet (fail)
              generalize hw3 : World.drewN (wr.drewN _) _ = w3
              have hb3 : Below wr.heap.size wr w3 := by rw [← hw3]; exact below_drewN (below_drewN (Below.refl _ wr) _) _
              clear hw3
              have hbx := hbr.trans (hb3.mono hbr.size)
              have hS3 := (HB4.out.below hbx)
              obtain ⟨ad, s', had, hs', hc⟩ := hS3.cell (k := j) (by omega)
              cases had
              obtain rfl : t1 = s' := by have := HTt.out; rw [hs'] at this; exact (Option.some.inj this).symm
              clear hs' hS3
              have hcl := World.block_lt_of_cell? _ _ hc
              have hown4 := (own2_keep hown hb3).alloc (.cells #[.int .i64 3, .string t1] 91)
              have hnews := World.news_of_block (cs := #[.int .i64 3, .string t1]) (t := 91) (fr := (0, 0)) (heap_alloc_new w3 (.cells #[.int .i64 3, .string t1] 91))
              have hb4 := hbx.alloc hbx.size (.cells #[.int .i64 3, .string t1] 91)
              have hsz4 := hb4.size
              go_wp2_with (at_builtin; refine wpList_append_own _ rfl _ _ 30 rfl W4.heap.size 91 i0 (.agg #[.int .i64 0, .string ⟨#[]⟩]) 2 24 Tryd.underlying30 hi hz0 hz1 hz2 rfl (by decide) _ _ _ rfl hown4 ⟨w3.heap.size, 0, none⟩ 1 1 [.int .i64 3, .string t1] rfl rfl hnews (by simp [Value.oneCell']) (by unfold maxLen; omega) (by omega) hsz4 ?_; intro v5 w5 hown5 hg5 _)
              have hb5 : Below W4.heap.size W4 w5 := hb4.grown hg5 hsz4 (fun k hk => (hown.lt k hk).1)
              clear hnews hown4 hg5 hb4
              go_roundw
              case rel => exact ⟨i, j + 1, done ++ [(3, t1)], by omega, by omega, by go_num, by go_num, by rw [List.append_assoc]; have := hd.out; rw [ed_else HS.out HTt.out HST.out, if_neg HLE.out] at this; exact this, by simpa [edCells_snoc] using hown5, hb5⟩
              case measure => simp [intOf]; omega
        · obtain rfl : j = ys.length := by omega
          go_wp2_with fail
          go_quiet (fail)
          go_wp2_with fail
          go_quiet (fail)
          generalize hw3 : World.drewN (wr.drewN _) _ = w3
          have hb3 : Below wr.heap.size wr w3 := by rw [← hw3]; exact below_drewN (below_drewN (Below.refl _ wr) _) _
          clear hw3
          have hbx := hbr.trans (hb3.mono hbr.size)
          have hS3 := (HA4.out.below hbx)
          obtain ⟨ad, s', had, hs', hc⟩ := hS3.cell (k := i) (by omega)
          cases had
          obtain rfl : s = s' := by have := HS.out; rw [hs'] at this; exact (Option.some.inj this).symm
          clear hs' hS3
          have hcl := World.block_lt_of_cell? _ _ hc
          have hown4 := (own2_keep hown hb3).alloc (.cells #[.int .i64 2, .string s] 91)
          have hnews := World.news_of_block (cs := #[.int .i64 2, .string s]) (t := 91) (fr := (0, 0)) (heap_alloc_new w3 (.cells #[.int .i64 2, .string s] 91))
          have hb4 := hbx.alloc hbx.size (.cells #[.int .i64 2, .string s] 91)
          have hsz4 := hb4.size
          go_wp2_with (at_builtin; refine wpList_append_own _ rfl _ _ 30 rfl W4.heap.size 91 i0 (.agg #[.int .i64 0, .string ⟨#[]⟩]) 2 24 Tryd.underlying30 hi hz0 hz1 hz2 rfl (by decide) _ _ _ rfl hown4 ⟨w3.heap.size, 0, none⟩ 1 1 [.int .i64 2, .string s] rfl rfl hnews (by simp [Value.oneCell']) (by unfold maxLen; omega) (by omega) hsz4 ?_; intro v5 w5 hown5 hg5 _)
          have hb5 : Below W4.heap.size W4 w5 := hb4.grown hg5 hsz4 (fun k hk => (hown.lt k hk).1)
          clear hnews hown4 hg5 hb4
          go_roundw
          case rel => exact ⟨i + 1, ys.length, done ++ [(2, s)], by omega, by omega, by go_num, by go_num, by rw [List.append_assoc]; have := hd.out; rw [ed_end_b HS.out] at this; exact this, by simpa [edCells_snoc] using hown5, hb5⟩
          case measure => simp [intOf]; omega
      · obtain rfl : i = xs.length := by omega
        by_cases hj1 : j < ys.length
        · have hj2 : (j : Int) < (ys.length : Int) := by omega
          obtain ⟨t, ht⟩ : ∃ t, ys[j]? = some t := ⟨_, List.getElem?_eq_getElem hj1⟩
          have HTt := Lib.hid ht
          clear ht
          go_wp2_with fail
          go_quiet (fail)
          go_wp2_with fail
          go_quiet (fail)
          generalize hw3 : World.drewN (wr.drewN _) _ = w3
          have hb3 : Below wr.heap.size wr w3 := by rw [← hw3]; exact below_drewN (below_drewN (Below.refl _ wr) _) _
          clear hw3
          have hbx := hbr.trans (hb3.mono hbr.size)
          have hS3 := (HB4.out.below hbx)
          obtain ⟨ad, s', had, hs', hc⟩ := hS3.cell (k := j) (by omega)
          cases had
          obtain rfl : t = s' := by have := HTt.out; rw [hs'] at this; exact (Option.some.inj this).symm
          clear hs' hS3
          have hcl := World.block_lt_of_cell? _ _ hc
          have hown4 := (own2_keep hown hb3).alloc (.cells #[.int .i64 3, .string t] 91)
          have hnews := World.news_of_block (cs := #[.int .i64 3, .string t]) (t := 91) (fr := (0, 0)) (heap_alloc_new w3 (.cells #[.int .i64 3, .string t] 91))
          have hb4 := hbx.alloc hbx.size (.cells #[.int .i64 3, .string t] 91)
          have hsz4 := hb4.size
          go_wp2_with (at_builtin; refine wpList_append_own _ rfl _ _ 30 rfl W4.heap.size 91 i0 (.agg #[.int .i64 0, .string ⟨#[]⟩]) 2 24 Tryd.underlying30 hi hz0 hz1 hz2 rfl (by decide) _ _ _ rfl hown4 ⟨w3.heap.size, 0, none⟩ 1 1 [.int .i64 3, .string t] rfl rfl hnews (by simp [Value.oneCell']) (by unfold maxLen; omega) (by omega) hsz4 ?_; intro v5 w5 hown5 hg5 _)
          have hb5 : Below W4.heap.size W4 w5 := hb4.grown hg5 hsz4 (fun k hk => (hown.lt k hk).1)
          clear hnews hown4 hg5 hb4
          go_roundw
          case rel => exact ⟨xs.length, j + 1, done ++ [(3, t)], by omega, by omega, by go_num, by go_num, by rw [List.append_assoc]; have := hd.out; rw [ed_end_a HTt.out] at this; exact this, by simpa [edCells_snoc] using hown5, hb5⟩
          case measure => simp [intOf]; omega
        · obtain rfl : j = ys.length := by omega
          have hdd := hd.out
          rw [List.drop_length, List.drop_length, show ed ([] : List ByteArray) [] = [] from rfl, List.append_nil] at hdd
          subst hdd
          have KY := HK4.out.below hbr HK4.out.lt
          have KX := HX4.out.below hbr HX4.out.lt
          have c0 := KX.cell 0
          have c1 := KX.cell 1
          have y0 := KY.cell 0
          have y1 := KY.cell 1
          have f0 := KY.frozen 0
          have f1 := KY.frozen 1
          have HKY := Lib.hid KY
          have BR := Lib.hid (HE4.out.trans (hbr.mono HE4.out.size))
          have O := Lib.hid hown
          have O9 := Lib.hid (own2_le ((hown.kept (grown_cellL wr Y 0 (.slice none 0 0)) (.inr (own_blk_ne hown KY (by decide)))).kept (grown_cellL (wr.setCell ⟨Y, 0, none⟩ (.slice none 0 0)) Y 1 (.int .i64 0)) (.inr (own_blk_ne hown KY (by decide)))) hwW)
          have hYw : w.heap.size ≤ Y := by rw [HY.out]; exact Nat.le_refl _
          have B9 := Lib.hid ((BR.out.setCell (p := ⟨Y, 0, none⟩) hYw (.slice none 0 0)).setCell (p := ⟨Y, 1, none⟩) hYw (.int .i64 0))
          clear KX KY hown hYw
          go_wp2_with fail
          go_region
          go_wp2_with fail
          refine bodyPost_ret (results_tmp_row (fn := Tryd.f11) rfl _ _ Y 33 #[.slice none 0 0, .int .i64 0] (0, 0) rfl (by first | exact (HKY.out.set_ 0 _).set_ 1 _ | simpa using (HKY.out.set_ 0 (.slice none 0 0)).set_ 1 (.int .i64 0)) Tryd.underlying33 (by kernel_rfl)) rfl (.inl ⟨hxl, hyl, _, rfl, ?_, ?_⟩)
          · exact O9.out
          · first | exact B9.out | exact B9.out.drew
  · have E2 := E1.trans (hb2.mono (by rw [hs1]; omega))
    have K2 := K1.below hb2 K1.lt
    have K3 := K2.alloc (.cells #[.slice (some ⟨g, 0, none⟩) 1 1, .int .i64 4] 33)
    have X3 := Blk.new w2 33 #[.slice (some ⟨g, 0, none⟩) 1 1, .int .i64 4]
    have G3 := Lib.hid (Blk.alloc hg (.cells #[.slice (some ⟨g, 0, none⟩) 1 1, .int .i64 4] 33))
    have E3 := Lib.hid (E2.trans (((Below.refl w2.heap.size w2).alloc (Nat.le_refl _) (.cells #[.slice (some ⟨g, 0, none⟩) 1 1, .int .i64 4] 33)).mono E2.size))
    have c0 := X3.cell 0
    have c1 := X3.cell 1
    have y0 := K3.cell 0
    have y1 := K3.cell 1
    have f0 := K3.frozen 0
    have f1 := K3.frozen 1
    have HK3 := Lib.hid K3
    have HYG := Lib.hid (K3.ne_ G3.out (by decide))
    have hYX : w.heap.size ≠ w2.heap.size := by have := K2.lt; omega
    have HOV := Lib.hid hk
    clear hg X3 K3 K1 E1 E2 LO hb2 hs1 hk K2
    go_wp2_with fail
    generalize hW3 : w2.alloc (.cells #[.slice (some ⟨g, 0, none⟩) 1 1, .int .i64 4] 33) = W3 at *
    go_region
    go_wp2_with fail
    refine bodyPost_ret (results_tmp_row (fn := Tryd.f11) rfl _ _ w.heap.size 33 #[.slice (some ⟨g, 0, none⟩) 1 1, .int .i64 4] (0, 0) rfl (by first | exact (HK3.out.set_ 0 _).set_ 1 _ | simpa using (HK3.out.set_ 0 (.slice (some ⟨g, 0, none⟩) 1 1)).set_ 1 (.int .i64 4)) Tryd.underlying33 (by kernel_rfl)) rfl (.inr ⟨k, g, HOV.out, rfl, (G3.out.far (p := ⟨w.heap.size, 0, none⟩) (fun e => HYG.out e.symm) _).far (p := ⟨w.heap.size, 1, none⟩) (fun e => HYG.out e.symm) _, ?_⟩)
    exact ((E3.out.setCell (p := ⟨w.heap.size, 0, none⟩) (Nat.le_refl _) _).setCell (p := ⟨w.heap.size, 1, none⟩) (Nat.le_refl _) _).drew
end Go.Proofs.YtdpoeagmeiedcaaDoor
namespace Go.Proofs.YtdpoeagmeiedcaaDoor
open Go Go.RowKit

theorem edA_append (l m : List (Nat × ByteArray)) : edA (l ++ m) = edA l ++ edA m := by simp [edA]
theorem edB_append (l m : List (Nat × ByteArray)) : edB (l ++ m) = edB l ++ edB m := by simp [edB]
theorem edA_1 (s : ByteArray) : edA [((1 : Nat), s)] = [s] := by rw [edA_cons]; simp [edA]
theorem edB_1 (s : ByteArray) : edB [((1 : Nat), s)] = [s] := by rw [edB_cons]; simp [edB]
theorem edA_2 (s : ByteArray) : edA [((2 : Nat), s)] = [s] := by rw [edA_cons]; simp [edA]
theorem edB_2 (s : ByteArray) : edB [((2 : Nat), s)] = [] := by rw [edB_cons]; simp [edB]
theorem edA_3 (s : ByteArray) : edA [((3 : Nat), s)] = [] := by rw [edA_cons]; simp [edA]
theorem edB_3 (s : ByteArray) : edB [((3 : Nat), s)] = [s] := by rw [edB_cons]; simp [edB]
theorem pls_append (m : List (Nat × ByteArray)) : ∀ (l : List (Nat × ByteArray)) (_ : ∀ e ∈ l, e.1 = 1 ∨ e.1 = 2 ∨ e.1 = 3) (a : Nat), pls (l ++ m) a = pls l a ++ pls m (a + (edB l).length)
  | [], _, a => by simp [pls, edB]
  | (k, x) :: l, h, a => by
    have ih := pls_append m l (fun e he => h e (List.mem_cons_of_mem _ he))
    have hk := h (k, x) (List.mem_cons_self ..)
    simp only at hk
    rw [List.cons_append, edB_cons]
    simp only [pls]
    rcases hk with rfl | rfl | rfl
    · simp only [if_true]
      rw [ih, if_neg (by omega), List.cons_append, List.length_cons, show a + 1 + (edB l).length = a + ((edB l).length + 1) by omega]
    · simp only [if_true]
      rw [if_neg (by omega), if_neg (by omega), ih, List.cons_append]
    · rw [if_neg (by omega), if_neg (by omega), if_neg (by omega), if_neg (by omega), if_neg (by omega), ih, List.length_cons, show a + 1 + (edB l).length = a + ((edB l).length + 1) by omega]
/-- As the program writes a place. -/
def pzV : Option (Option Nat) → Value
  | some (some j) => .int .i64 (j : Int)
  | some none => .int .i64 (-1)
  | none => .int .i64 0
/-- How far the edits before the k-th have come. -/
structure KeptAt (l : List (Nat × ByteArray)) (k i j : Nat) : Prop where
  i : i = (edA (l.take k)).length
  j : j = (edB (l.take k)).length
theorem KeptAt.zero (l : List (Nat × ByteArray)) : KeptAt l 0 0 0 := ⟨by simp [edA], by simp [edB]⟩
theorem take_snocK {l : List (Nat × ByteArray)} {k : Nat} {e : Nat × ByteArray} (h : l[k]? = some e) : l.take (k + 1) = l.take k ++ [e] := by rw [List.take_add_one, h]; rfl
theorem KeptAt.split {l : List (Nat × ByteArray)} {k : Nat} {e : Nat × ByteArray} (h : l[k]? = some e) : l = l.take k ++ e :: l.drop (k + 1) := by
  obtain ⟨hk, rfl⟩ := List.getElem?_eq_some_iff.1 h
  rw [← List.drop_eq_getElem_cons hk, List.take_append_drop]
theorem KeptAt.one {l : List (Nat × ByteArray)} {k i j : Nat} {s : ByteArray} (hops : ∀ e ∈ l, e.1 = 1 ∨ e.1 = 2 ∨ e.1 = 3) (h : KeptAt l k i j) (hs : l[k]? = some (1, s)) : KeptAt l (k + 1) (i + 1) (j + 1) ∧ i < (edA l).length ∧ (pls l 0)[i]? = some (some j) := by
  have hspl := KeptAt.split hs
  have ht := fun e (he : e ∈ l.take k) => hops e (List.mem_of_mem_take he)
  refine ⟨⟨?_, ?_⟩, ?_, ?_⟩
  · rw [take_snocK hs, edA_append, h.i, edA_1]; simp
  · rw [take_snocK hs, edB_append, h.j, edB_1]; simp
  · rw [hspl, edA_append, edA_cons, h.i]; simp
  · rw [hspl, pls_append _ _ ht, h.i, ← (show (pls (l.take k) 0).length = (edA (l.take k)).length from pls_len _ ht 0), List.getElem?_append_right (Nat.le_refl _), Nat.sub_self, h.j]
    simp [pls]
theorem KeptAt.two {l : List (Nat × ByteArray)} {k i j : Nat} {s : ByteArray} (hops : ∀ e ∈ l, e.1 = 1 ∨ e.1 = 2 ∨ e.1 = 3) (h : KeptAt l k i j) (hs : l[k]? = some (2, s)) : KeptAt l (k + 1) (i + 1) j ∧ i < (edA l).length ∧ (pls l 0)[i]? = some none := by
  have hspl := KeptAt.split hs
  have ht := fun e (he : e ∈ l.take k) => hops e (List.mem_of_mem_take he)
  refine ⟨⟨?_, ?_⟩, ?_, ?_⟩
  · rw [take_snocK hs, edA_append, h.i, edA_2]; simp
  · rw [take_snocK hs, edB_append, h.j, edB_2]; simp
  · rw [hspl, edA_append, edA_cons, h.i]; simp
  · rw [hspl, pls_append _ _ ht, h.i, ← (show (pls (l.take k) 0).length = (edA (l.take k)).length from pls_len _ ht 0), List.getElem?_append_right (Nat.le_refl _), Nat.sub_self]
    simp [pls]
theorem KeptAt.three {l : List (Nat × ByteArray)} {k i j : Nat} {s : ByteArray} (h : KeptAt l k i j) (hs : l[k]? = some (3, s)) : KeptAt l (k + 1) i (j + 1) :=
  ⟨by rw [take_snocK hs, edA_append, h.i, edA_3]; simp, by rw [take_snocK hs, edB_append, h.j, edB_3]; simp⟩

/-- The places, in a row of the call's own. -/
def KeptTo (w : World) (p : List (Option Nat)) (n : Nat) (e : Ending) (w' : World) : Prop :=
  ∃ G, e = .returned (.slice (some ⟨G, 0, none⟩) n n) ∧ w.heap.size ≤ G ∧ w'.rowIs G 3 n (fun t => pzV p[t]?) ∧ Below w.heap.size w w'
/-- Filled up to i. -/
def keptV (p : List (Option Nat)) (i : Nat) : Nat → Value := fun t => if t < i then pzV p[t]? else .int .i64 0

set_option maxRecDepth 100000 in
set_option maxHeartbeats 2000000 in
theorem refKept_any (w : World) (base : Nat) (v : Value) (l : List (Nat × ByteArray)) (n : Nat) (h : w.ownsRow base 91 2 v l.length (edCells l)) (hops0 : ∀ x ∈ l, x.1 = 1 ∨ x.1 = 2 ∨ x.1 = 3) (hel : l.length ≤ 1000) (hn : n = (edA l).length) (hn1 : n ≤ 1000) :
    Calls Tryd.prog 69 #[v, .int .i64 (n : Int)] w (KeptTo w (pls l 0) n) := by
  have hops := Lib.hid hops0
  have HO := Lib.hid h
  have HN := Lib.hid hn
  obtain ⟨A, m, c, rfl⟩ : ∃ A m c, v = .slice A m c := by
    rcases h.2 with ⟨rfl, _⟩ | ⟨g, cap, cur, rfl, _⟩
    · exact ⟨_, _, _, rfl⟩
    · exact ⟨_, _, _, rfl⟩
  obtain rfl : m = l.length := by
    rcases h.2 with ⟨e, e2⟩ | ⟨g, cap, cur, e, _⟩
    · cases e; exact e2.symm
    · cases e; rfl
  have mk1 := fun W => run_make_row' (P := Tryd.prog) 82 3 (.int .i64 0) 8 Tryd.underlying82 intInfoC rfl .i64 .i64 n (by omega) (by omega) W
  have R0 := Lib.hid ((World.rowIs_made w (.int .i64 0) n 3).congr (g := keptV (pls l 0) 0) (fun i _ => by simp [keptV]))
  have S0 := Lib.hid ((Below.refl w.heap.size w).alloc (Nat.le_refl _) (.cells (madeCells #[.int .i64 0] n) 3))
  clear h hops0 hn
  go_enter Tryd.func69, Tryd.ntmps69
  go_wp2_with fail
  obtain ⟨G, hG⟩ : ∃ G, G = w.heap.size := ⟨_, rfl⟩
  rw [← hG] at R0 ⊢
  have HG := Lib.hid hG
  clear hG mk1
  go_loopw [6, 7, 8] (fun s6 s7 s8 wr => ∃ k i j : Nat, k ≤ l.length ∧ s8 = .int .i64 k ∧ s6 = .int .i64 i ∧ s7 = .int .i64 j ∧ Hid (KeptAt l k i j) ∧ Hid (wr.rowIs G 3 n (keptV (pls l 0) i)) ∧ Hid (Below w.heap.size w wr)) (fun _ _ s8 _ => l.length - (intOf s8).toNat)
  case atStart => exact ⟨0, 0, 0, Nat.zero_le _, rfl, rfl, rfl, KeptAt.zero l, R0, S0⟩
  case round =>
    clear R0 S0
    obtain ⟨k, i, j, hk, rfl, rfl, rfl, hka, hr, hb⟩ := hrel
    have k0 : (0 : Int) ≤ (k : Int) := Int.natCast_nonneg _
    have i0 : (0 : Int) ≤ (i : Int) := Int.natCast_nonneg _
    have hil : i ≤ l.length := by rw [hka.out.i]; unfold edA; rw [List.length_map]; exact Nat.le_trans (List.length_filter_le _ _) (by rw [List.length_take]; omega)
    have hjl : j ≤ l.length := by rw [hka.out.j]; unfold edB; rw [List.length_map]; exact Nat.le_trans (List.length_filter_le _ _) (by rw [List.length_take]; omega)
    by_cases hlt : k < l.length
    · obtain ⟨⟨op, s⟩, hs⟩ : ∃ x, l[k]? = some x := ⟨_, List.getElem?_eq_getElem hlt⟩
      have ho := own2_keep HO.out hb.out
      obtain ⟨g, rfl⟩ : ∃ g, A = some ⟨g, 0, none⟩ := by
        rcases ho.2 with ⟨_, e2⟩ | ⟨g, cap, cur, e, _⟩
        · omega
        · cases e; exact ⟨_, rfl⟩
      have k1 : (k : Int) < (l.length : Int) := by omega
      obtain ⟨x1, x2⟩ := edCells_at hs
      have c1 := own2_at ho x1
      have hop := hops.out _ (List.mem_of_getElem? hs)
      simp only at hop
      have HS := Lib.hid hs
      clear ho x1 x2 hs
      rcases hop with rfl | rfl | rfl
      · obtain ⟨K1, hi2, hpl⟩ := hka.out.one hops.out HS.out
        have hin : (i : Int) < (n : Int) := by have := HN.out; omega
        have r1 := hr.out.cell (i := i) (by omega)
        have r2 := hr.out.frozen i
        have R1 := Lib.hid ((hr.out.set i (.int .i64 (j : Int))).congr (g := keptV (pls l 0) (i + 1)) (fun t _ => by
          simp only [keptV]
          by_cases e : t = i
          · subst e; rw [if_pos rfl, if_pos (by omega), hpl]; rfl
          · rw [if_neg e]
            by_cases e2 : t < i
            · rw [if_pos e2, if_pos (by omega)]
            · rw [if_neg e2, if_neg (by omega)]))
        have B1 := Lib.hid (hb.out.setCell (p := ⟨G, i, none⟩) (by rw [HG.out]; exact Nat.le_refl _) (.int .i64 (j : Int)))
        have HK1 := Lib.hid K1
        clear K1 hi2 hpl hka
        go_wp2
        go_roundw
        case rel => exact ⟨k + 1, i + 1, j + 1, by omega, by go_num, by go_num, by go_num, HK1.out, R1.out, B1.out⟩
        case measure => simp [intOf]; omega
      · obtain ⟨K1, hi2, hpl⟩ := hka.out.two hops.out HS.out
        have hin : (i : Int) < (n : Int) := by have := HN.out; omega
        have r1 := hr.out.cell (i := i) (by omega)
        have r2 := hr.out.frozen i
        have R1 := Lib.hid ((hr.out.set i (.int .i64 (-1))).congr (g := keptV (pls l 0) (i + 1)) (fun t _ => by
          simp only [keptV]
          by_cases e : t = i
          · subst e; rw [if_pos rfl, if_pos (by omega), hpl]; rfl
          · rw [if_neg e]
            by_cases e2 : t < i
            · rw [if_pos e2, if_pos (by omega)]
            · rw [if_neg e2, if_neg (by omega)]))
        have B1 := Lib.hid (hb.out.setCell (p := ⟨G, i, none⟩) (by rw [HG.out]; exact Nat.le_refl _) (.int .i64 (-1)))
        have HK1 := Lib.hid K1
        clear K1 hi2 hpl hka
        go_wp2
        go_roundw
        case rel => exact ⟨k + 1, i + 1, j, by omega, by go_num, by go_num, rfl, HK1.out, R1.out, B1.out⟩
        case measure => simp [intOf]; omega
      · have HK1 := Lib.hid (hka.out.three HS.out)
        clear hka
        go_wp2
        go_roundw
        case rel => exact ⟨k + 1, i, j + 1, by omega, by go_num, rfl, by go_num, HK1.out, hr.out, hb.out⟩
        case measure => simp [intOf]; omega
    · obtain rfl : k = l.length := by omega
      have hin := Lib.hid (show i = n by rw [hka.out.i, List.take_length, HN.out])
      go_wp2
      go_ret
      refine ⟨G, rfl, by rw [HG.out]; exact Nat.le_refl _, hr.out.congr (fun t ht => ?_), hb.out⟩
      simp only [keptV]
      rw [if_pos (by have := hin.out; omega)]
end Go.Proofs.YtdpoeagmeiedcaaDoor
namespace Go.Proofs.YtdpoeagmeiedcaaDoor
open Go Go.RowKit

/-- A piece by value: its texts are the call's arguments. -/
def BetwTo (w : World) (v0 v1 v2 : Value) (xs ys zs : List ByteArray) (c : Ck ByteArray) (e : Ending) (w' : World) : Prop :=
  ∃ ve, e = .returned (.agg #[v0, v1, v2, .bool c.clash, ve]) ∧ (∀ W0, Strs W0 v0 xs → Strs W0 v1 ys → Strs W0 v2 zs → Strs W0 ve c.out) ∧ Below w.heap.size w w'

set_option maxHeartbeats 2000000 in
theorem refBetween_any (w : World) (v0 v1 v2 : Value) (xs ys zs : List ByteArray) (h0 : Strs w v0 xs) (h1 : Strs w v1 ys) (h2 : Strs w v2 zs) :
    Calls Tryd.prog 70 #[v0, v1, v2] w (BetwTo w v0 v1 v2 xs ys zs (decideC xs ys zs)) := by
  obtain ⟨A0, n0, c0, rfl⟩ := h0.form
  obtain ⟨A1, n1, c1, rfl⟩ := h1.form
  obtain ⟨A2, n2, c2, rfl⟩ := h2.form
  have B1 := (Below.refl w.heap.size w).alloc (Nat.le_refl _) (.cells #[.slice none 0 0, .slice none 0 0, .slice none 0 0, .bool false, .slice none 0 0] 80)
  have B2 := Lib.hid (B1.alloc B1.size (.cells #[.slice A0 n0 c0, .slice A1 n1 c1, .slice A2 n2 c2, .bool false, .slice none 0 0] 80))
  have K6 := (Blk.new w 80 #[.slice none 0 0, .slice none 0 0, .slice none 0 0, .bool false, .slice none 0 0]).alloc (.cells #[.slice A0 n0 c0, .slice A1 n1 c1, .slice A2 n2 c2, .bool false, .slice none 0 0] 80)
  have K7 := Blk.new (w.alloc (.cells #[.slice none 0 0, .slice none 0 0, .slice none 0 0, .bool false, .slice none 0 0] 80)) 80 #[.slice A0 n0 c0, .slice A1 n1 c1, .slice A2 n2 c2, .bool false, .slice none 0 0]
  have hz : (w.alloc (.cells #[.slice none 0 0, .slice none 0 0, .slice none 0 0, .bool false, .slice none 0 0] 80)).heap.size = w.heap.size + 1 := by simp
  rw [hz] at K7
  have H0 := Lib.hid h0
  have H1 := Lib.hid h1
  have H2 := Lib.hid h2
  clear B1 hz h0 h1 h2
  have EQ := Lib.hid fun W' (hb : Below w.heap.size w W') => refEqual_any W' _ _ ys xs (H1.out.below hb) (H0.out.below hb)
  have EQ2 := Lib.hid fun W' (hb : Below w.heap.size w W') => refEqual_any W' _ _ zs xs (H2.out.below hb) (H0.out.below hb)
  have EQ3 := Lib.hid fun W' (hb : Below w.heap.size w W') => refEqual_any W' _ _ ys zs (H1.out.below hb) (H2.out.below hb)
  obtain ⟨X, hX⟩ : ∃ X, X = w.heap.size := ⟨_, rfl⟩
  obtain ⟨Y, hY⟩ : ∃ Y, Y = w.heap.size + 1 := ⟨_, rfl⟩
  have hXY : X ≠ Y := by omega
  have hYX : Y ≠ X := by omega
  have HX := Lib.hid (show w.heap.size ≤ X by omega)
  have HY := Lib.hid (show w.heap.size ≤ Y by omega)
  by_cases e1 : ys = xs
  · have hd : decideC xs ys zs = ⟨xs, ys, zs, false, zs⟩ := by unfold decideC; rw [if_pos e1]
    rw [hd]
    clear hd
    have HE1 := Lib.hid e1
    clear e1
    go_enter Tryd.func70, Tryd.ntmps70
    go_wp2_with fail
    rw [← hY, ← hX]
    generalize (w.alloc (.cells #[.slice none 0 0, .slice none 0 0, .slice none 0 0, .bool false, .slice none 0 0] 80)).alloc (.cells #[.slice A0 n0 c0, .slice A1 n1 c1, .slice A2 n2 c2, .bool false, .slice none 0 0] 80) = W at *
    rw [← hX] at K6
    rw [← hY] at K7
    clear hX hY
    refine (EQ.out W B2.out).mono ?_
    rintro e w2 ⟨q1, rfl, hq1⟩
    rw [decide_eq_true HE1.out]
    have K61 : Blk w2 X 80 #[.slice none 0 0, .slice none 0 0, .slice none 0 0, .bool false, .slice none 0 0] := by rw [hq1]; exact K6
    have K71 : Blk w2 Y 80 #[.slice A0 n0 c0, .slice A1 n1 c1, .slice A2 n2 c2, .bool false, .slice none 0 0] := by rw [hq1]; exact K7
    have B3 := Lib.hid (show Below w.heap.size w w2 by rw [hq1]; exact below_drewN B2.out _)
    clear hq1 K6 K7
    have y0 := K71.cell 0
    have y1 := K71.cell 1
    have y2 := K71.cell 2
    have y3 := K71.cell 3
    have y4 := K71.cell 4
    have x0 := K61.cell 0
    have f0 := K61.frozen 0
    have x1 := K61.cell 1
    have f1 := K61.frozen 1
    have x2 := K61.cell 2
    have f2 := K61.frozen 2
    have x3 := K61.cell 3
    have f3 := K61.frozen 3
    have x4 := K61.cell 4
    have f4 := K61.frozen 4
    have g3 := K71.frozen 3
    have g4 := K71.frozen 4
    have KF := Lib.hid (((((((K61.far (p := ⟨Y, 4, none⟩) hXY (.slice A2 n2 c2)).set_ 0 (.slice A0 n0 c0)).set_ 1 (.slice A1 n1 c1)).set_ 2 (.slice A2 n2 c2)).set_ 3 (.bool false)).set_ 4 (.slice A2 n2 c2)))
    have BF := Lib.hid ((((((B3.out.setCell (p := ⟨Y, 4, none⟩) HY.out (.slice A2 n2 c2)).setCell (p := ⟨X, 0, none⟩) HX.out (.slice A0 n0 c0)).setCell (p := ⟨X, 1, none⟩) HX.out (.slice A1 n1 c1)).setCell (p := ⟨X, 2, none⟩) HX.out (.slice A2 n2 c2)).setCell (p := ⟨X, 3, none⟩) HX.out (.bool false)).setCell (p := ⟨X, 4, none⟩) HX.out (.slice A2 n2 c2))
    clear K61 K71
    go_wp2
    refine bodyPost_ret (results_cell_row (fn := Tryd.f70) rfl _ _ X 80 #[.slice A0 n0 c0, .slice A1 n1 c1, .slice A2 n2 c2, .bool false, .slice A2 n2 c2] (0, 0) _ rfl (by first | exact KF.out | simpa using KF.out) Tryd.underlying80 rfl (by kernel_rfl)) rfl ⟨.slice A2 n2 c2, rfl, ?_, ?_⟩
    · exact fun _ _ _ d => d
    · first | exact BF.out | simpa using BF.out
  · by_cases e2 : zs = xs
    · have hd : decideC xs ys zs = ⟨xs, ys, zs, false, ys⟩ := by unfold decideC; rw [if_neg e1, if_pos (.inl e2)]
      rw [hd]
      clear hd
      have HE1 := Lib.hid e1
      clear e1
      have HE2 := Lib.hid e2
      clear e2
      go_enter Tryd.func70, Tryd.ntmps70
      go_wp2_with fail
      rw [← hY, ← hX]
      generalize (w.alloc (.cells #[.slice none 0 0, .slice none 0 0, .slice none 0 0, .bool false, .slice none 0 0] 80)).alloc (.cells #[.slice A0 n0 c0, .slice A1 n1 c1, .slice A2 n2 c2, .bool false, .slice none 0 0] 80) = W at *
      rw [← hX] at K6
      rw [← hY] at K7
      clear hX hY
      refine (EQ.out W B2.out).mono ?_
      rintro e w2 ⟨q1, rfl, hq1⟩
      rw [decide_eq_false HE1.out]
      have K61 : Blk w2 X 80 #[.slice none 0 0, .slice none 0 0, .slice none 0 0, .bool false, .slice none 0 0] := by rw [hq1]; exact K6
      have K71 : Blk w2 Y 80 #[.slice A0 n0 c0, .slice A1 n1 c1, .slice A2 n2 c2, .bool false, .slice none 0 0] := by rw [hq1]; exact K7
      have B3 := Lib.hid (show Below w.heap.size w w2 by rw [hq1]; exact below_drewN B2.out _)
      clear hq1 K6 K7
      go_wp2_with fail
      refine (EQ2.out w2 B3.out).mono ?_
      rintro e w3 ⟨q2, rfl, hq2⟩
      rw [decide_eq_true HE2.out]
      have K62 : Blk w3 X 80 #[.slice none 0 0, .slice none 0 0, .slice none 0 0, .bool false, .slice none 0 0] := by rw [hq2]; exact K61
      have K72 : Blk w3 Y 80 #[.slice A0 n0 c0, .slice A1 n1 c1, .slice A2 n2 c2, .bool false, .slice none 0 0] := by rw [hq2]; exact K71
      have B4 := Lib.hid (show Below w.heap.size w w3 by rw [hq2]; exact below_drewN B3.out _)
      clear hq2 K61 K71
      have y0 := K72.cell 0
      have y1 := K72.cell 1
      have y2 := K72.cell 2
      have y3 := K72.cell 3
      have y4 := K72.cell 4
      have x0 := K62.cell 0
      have f0 := K62.frozen 0
      have x1 := K62.cell 1
      have f1 := K62.frozen 1
      have x2 := K62.cell 2
      have f2 := K62.frozen 2
      have x3 := K62.cell 3
      have f3 := K62.frozen 3
      have x4 := K62.cell 4
      have f4 := K62.frozen 4
      have g3 := K72.frozen 3
      have g4 := K72.frozen 4
      have KF := Lib.hid (((((((K62.far (p := ⟨Y, 4, none⟩) hXY (.slice A1 n1 c1)).set_ 0 (.slice A0 n0 c0)).set_ 1 (.slice A1 n1 c1)).set_ 2 (.slice A2 n2 c2)).set_ 3 (.bool false)).set_ 4 (.slice A1 n1 c1)))
      have BF := Lib.hid ((((((B4.out.setCell (p := ⟨Y, 4, none⟩) HY.out (.slice A1 n1 c1)).setCell (p := ⟨X, 0, none⟩) HX.out (.slice A0 n0 c0)).setCell (p := ⟨X, 1, none⟩) HX.out (.slice A1 n1 c1)).setCell (p := ⟨X, 2, none⟩) HX.out (.slice A2 n2 c2)).setCell (p := ⟨X, 3, none⟩) HX.out (.bool false)).setCell (p := ⟨X, 4, none⟩) HX.out (.slice A1 n1 c1))
      clear K62 K72
      go_wp2
      refine bodyPost_ret (results_cell_row (fn := Tryd.f70) rfl _ _ X 80 #[.slice A0 n0 c0, .slice A1 n1 c1, .slice A2 n2 c2, .bool false, .slice A1 n1 c1] (0, 0) _ rfl (by first | exact KF.out | simpa using KF.out) Tryd.underlying80 rfl (by kernel_rfl)) rfl ⟨.slice A1 n1 c1, rfl, ?_, ?_⟩
      · exact fun _ _ b _ => b
      · first | exact BF.out | simpa using BF.out
    · by_cases e3 : ys = zs
      · have hd : decideC xs ys zs = ⟨xs, ys, zs, false, ys⟩ := by unfold decideC; rw [if_neg e1, if_pos (.inr e3)]
        rw [hd]
        clear hd
        have HE1 := Lib.hid e1
        clear e1
        have HE2 := Lib.hid e2
        clear e2
        have HE3 := Lib.hid e3
        clear e3
        go_enter Tryd.func70, Tryd.ntmps70
        go_wp2_with fail
        rw [← hY, ← hX]
        generalize (w.alloc (.cells #[.slice none 0 0, .slice none 0 0, .slice none 0 0, .bool false, .slice none 0 0] 80)).alloc (.cells #[.slice A0 n0 c0, .slice A1 n1 c1, .slice A2 n2 c2, .bool false, .slice none 0 0] 80) = W at *
        rw [← hX] at K6
        rw [← hY] at K7
        clear hX hY
        refine (EQ.out W B2.out).mono ?_
        rintro e w2 ⟨q1, rfl, hq1⟩
        rw [decide_eq_false HE1.out]
        have K61 : Blk w2 X 80 #[.slice none 0 0, .slice none 0 0, .slice none 0 0, .bool false, .slice none 0 0] := by rw [hq1]; exact K6
        have K71 : Blk w2 Y 80 #[.slice A0 n0 c0, .slice A1 n1 c1, .slice A2 n2 c2, .bool false, .slice none 0 0] := by rw [hq1]; exact K7
        have B3 := Lib.hid (show Below w.heap.size w w2 by rw [hq1]; exact below_drewN B2.out _)
        clear hq1 K6 K7
        go_wp2_with fail
        refine (EQ2.out w2 B3.out).mono ?_
        rintro e w3 ⟨q2, rfl, hq2⟩
        rw [decide_eq_false HE2.out]
        have K62 : Blk w3 X 80 #[.slice none 0 0, .slice none 0 0, .slice none 0 0, .bool false, .slice none 0 0] := by rw [hq2]; exact K61
        have K72 : Blk w3 Y 80 #[.slice A0 n0 c0, .slice A1 n1 c1, .slice A2 n2 c2, .bool false, .slice none 0 0] := by rw [hq2]; exact K71
        have B4 := Lib.hid (show Below w.heap.size w w3 by rw [hq2]; exact below_drewN B3.out _)
        clear hq2 K61 K71
        go_wp2_with fail
        refine (EQ3.out w3 B4.out).mono ?_
        rintro e w4 ⟨q3, rfl, hq3⟩
        rw [decide_eq_true HE3.out]
        have K63 : Blk w4 X 80 #[.slice none 0 0, .slice none 0 0, .slice none 0 0, .bool false, .slice none 0 0] := by rw [hq3]; exact K62
        have K73 : Blk w4 Y 80 #[.slice A0 n0 c0, .slice A1 n1 c1, .slice A2 n2 c2, .bool false, .slice none 0 0] := by rw [hq3]; exact K72
        have B5 := Lib.hid (show Below w.heap.size w w4 by rw [hq3]; exact below_drewN B4.out _)
        clear hq3 K62 K72
        have y0 := K73.cell 0
        have y1 := K73.cell 1
        have y2 := K73.cell 2
        have y3 := K73.cell 3
        have y4 := K73.cell 4
        have x0 := K63.cell 0
        have f0 := K63.frozen 0
        have x1 := K63.cell 1
        have f1 := K63.frozen 1
        have x2 := K63.cell 2
        have f2 := K63.frozen 2
        have x3 := K63.cell 3
        have f3 := K63.frozen 3
        have x4 := K63.cell 4
        have f4 := K63.frozen 4
        have g3 := K73.frozen 3
        have g4 := K73.frozen 4
        have KF := Lib.hid (((((((K63.far (p := ⟨Y, 4, none⟩) hXY (.slice A1 n1 c1)).set_ 0 (.slice A0 n0 c0)).set_ 1 (.slice A1 n1 c1)).set_ 2 (.slice A2 n2 c2)).set_ 3 (.bool false)).set_ 4 (.slice A1 n1 c1)))
        have BF := Lib.hid ((((((B5.out.setCell (p := ⟨Y, 4, none⟩) HY.out (.slice A1 n1 c1)).setCell (p := ⟨X, 0, none⟩) HX.out (.slice A0 n0 c0)).setCell (p := ⟨X, 1, none⟩) HX.out (.slice A1 n1 c1)).setCell (p := ⟨X, 2, none⟩) HX.out (.slice A2 n2 c2)).setCell (p := ⟨X, 3, none⟩) HX.out (.bool false)).setCell (p := ⟨X, 4, none⟩) HX.out (.slice A1 n1 c1))
        clear K63 K73
        go_wp2
        refine bodyPost_ret (results_cell_row (fn := Tryd.f70) rfl _ _ X 80 #[.slice A0 n0 c0, .slice A1 n1 c1, .slice A2 n2 c2, .bool false, .slice A1 n1 c1] (0, 0) _ rfl (by first | exact KF.out | simpa using KF.out) Tryd.underlying80 rfl (by kernel_rfl)) rfl ⟨.slice A1 n1 c1, rfl, ?_, ?_⟩
        · exact fun _ _ b _ => b
        · first | exact BF.out | simpa using BF.out
      · have hd : decideC xs ys zs = ⟨xs, ys, zs, true, []⟩ := by unfold decideC; rw [if_neg e1, if_neg (by rintro (h | h) <;> contradiction)]
        rw [hd]
        clear hd
        have HE1 := Lib.hid e1
        clear e1
        have HE2 := Lib.hid e2
        clear e2
        have HE3 := Lib.hid e3
        clear e3
        go_enter Tryd.func70, Tryd.ntmps70
        go_wp2_with fail
        rw [← hY, ← hX]
        generalize (w.alloc (.cells #[.slice none 0 0, .slice none 0 0, .slice none 0 0, .bool false, .slice none 0 0] 80)).alloc (.cells #[.slice A0 n0 c0, .slice A1 n1 c1, .slice A2 n2 c2, .bool false, .slice none 0 0] 80) = W at *
        rw [← hX] at K6
        rw [← hY] at K7
        clear hX hY
        refine (EQ.out W B2.out).mono ?_
        rintro e w2 ⟨q1, rfl, hq1⟩
        rw [decide_eq_false HE1.out]
        have K61 : Blk w2 X 80 #[.slice none 0 0, .slice none 0 0, .slice none 0 0, .bool false, .slice none 0 0] := by rw [hq1]; exact K6
        have K71 : Blk w2 Y 80 #[.slice A0 n0 c0, .slice A1 n1 c1, .slice A2 n2 c2, .bool false, .slice none 0 0] := by rw [hq1]; exact K7
        have B3 := Lib.hid (show Below w.heap.size w w2 by rw [hq1]; exact below_drewN B2.out _)
        clear hq1 K6 K7
        go_wp2_with fail
        refine (EQ2.out w2 B3.out).mono ?_
        rintro e w3 ⟨q2, rfl, hq2⟩
        rw [decide_eq_false HE2.out]
        have K62 : Blk w3 X 80 #[.slice none 0 0, .slice none 0 0, .slice none 0 0, .bool false, .slice none 0 0] := by rw [hq2]; exact K61
        have K72 : Blk w3 Y 80 #[.slice A0 n0 c0, .slice A1 n1 c1, .slice A2 n2 c2, .bool false, .slice none 0 0] := by rw [hq2]; exact K71
        have B4 := Lib.hid (show Below w.heap.size w w3 by rw [hq2]; exact below_drewN B3.out _)
        clear hq2 K61 K71
        go_wp2_with fail
        refine (EQ3.out w3 B4.out).mono ?_
        rintro e w4 ⟨q3, rfl, hq3⟩
        rw [decide_eq_false HE3.out]
        have K63 : Blk w4 X 80 #[.slice none 0 0, .slice none 0 0, .slice none 0 0, .bool false, .slice none 0 0] := by rw [hq3]; exact K62
        have K73 : Blk w4 Y 80 #[.slice A0 n0 c0, .slice A1 n1 c1, .slice A2 n2 c2, .bool false, .slice none 0 0] := by rw [hq3]; exact K72
        have B5 := Lib.hid (show Below w.heap.size w w4 by rw [hq3]; exact below_drewN B4.out _)
        clear hq3 K62 K72
        have y0 := K73.cell 0
        have y1 := K73.cell 1
        have y2 := K73.cell 2
        have y3 := K73.cell 3
        have y4 := K73.cell 4
        have x0 := K63.cell 0
        have f0 := K63.frozen 0
        have x1 := K63.cell 1
        have f1 := K63.frozen 1
        have x2 := K63.cell 2
        have f2 := K63.frozen 2
        have x3 := K63.cell 3
        have f3 := K63.frozen 3
        have x4 := K63.cell 4
        have f4 := K63.frozen 4
        have g3 := K73.frozen 3
        have g4 := K73.frozen 4
        have KF := Lib.hid (((((((K63.far (p := ⟨Y, 3, none⟩) hXY (.bool true)).set_ 0 (.slice A0 n0 c0)).set_ 1 (.slice A1 n1 c1)).set_ 2 (.slice A2 n2 c2)).set_ 3 (.bool true)).set_ 4 (.slice none 0 0)))
        have BF := Lib.hid ((((((B5.out.setCell (p := ⟨Y, 3, none⟩) HY.out (.bool true)).setCell (p := ⟨X, 0, none⟩) HX.out (.slice A0 n0 c0)).setCell (p := ⟨X, 1, none⟩) HX.out (.slice A1 n1 c1)).setCell (p := ⟨X, 2, none⟩) HX.out (.slice A2 n2 c2)).setCell (p := ⟨X, 3, none⟩) HX.out (.bool true)).setCell (p := ⟨X, 4, none⟩) HX.out (.slice none 0 0))
        clear K63 K73
        go_wp2
        refine bodyPost_ret (results_cell_row (fn := Tryd.f70) rfl _ _ X 80 #[.slice A0 n0 c0, .slice A1 n1 c1, .slice A2 n2 c2, .bool true, .slice none 0 0] (0, 0) _ rfl (by first | exact KF.out | simpa using KF.out) Tryd.underlying80 rfl (by kernel_rfl)) rfl ⟨.slice none 0 0, rfl, ?_, ?_⟩
        · exact fun W0 _ _ _ => Strs.nil W0
        · first | exact BF.out | simpa using BF.out
end Go.Proofs.YtdpoeagmeiedcaaDoor
