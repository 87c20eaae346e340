/-
  A Fault's Error.
  The document's words of an error of one part.
  A Fault's Error and the document's Words, at any part, any number whose digits are known, any Errno.
  A Fault's Error at any number: strconv's numeral with its table.
  todo.Text: steps in words, any commits (the table of powers of ten listed).
  Steps in words, read again, are those steps: the plain theory.
  rectoref17.Text: steps in words.
-/
import Derived.Test.YtanjcjnkppnhcaaGreatDoorAB
import Derived.Test.YtanjcjnkppnhcaaGreatDoorTdDec
import Derived.Test.YtanjcjnkppnhcaaGreatDoorShelfT
import Derived.Deep.RegionHeld3

namespace Go.Proofs.YtanjcjnkppnhcaaGreatDoor
open Go Go.RowKit

abbrev bByte : ByteArray := ⟨#[98, 121, 116, 101]⟩
abbrev bShort : ByteArray := ⟨#[115, 104, 111, 114, 116]⟩
/-- 'byte N: short'. -/
def fw (n : Nat) : ByteArray := (((bByte ++ ⟨#[32]⟩) ++ dg n) ++ ⟨#[58, 32]⟩) ++ bShort
theorem dg_size (n : Nat) : (dg n).size ≤ 2 := by unfold dg; split <;> simp [ByteArray.size]
theorem invokeErrno (v : Value) (w : World) : (Go.method 334 73 v "Error").run Tryz.prog w = .ok (180, v) w := by kernel_rfl
theorem invokeFault (v : Value) (w : World) : (Go.method 334 76 v "Error").run Tryz.prog w = .ok (181, v) w := by kernel_rfl
theorem nilErrno (c : Int) (w : World) : (binOp .eql 25 (.iface 73 (.int .i64 c)) .nilIface).run Tryz.prog w = .ok (.bool false) w := by kernel_rfl

attribute [-go_sem] run_string_add_if
set_option maxRecDepth 100000 in
set_option maxHeartbeats 4000000 in
theorem fault_error (w : World) (F n : Nat) (hF : Blk w F 78 #[.string bByte, .int .i64 n, .iface 73 (.int .i64 3)]) (hn : To10 n) :
    Calls Tryz.prog 181 #[.pointer (some ⟨F, 0, none⟩)] w fun e w' => e = .returned (.string (fw n)) ∧ ∃ k, w' = w.drewN k := by
  have c0 := hF.cell 0
  have c1 := hF.cell 1
  have c2 := hF.cell 2
  have hFl := hF.lt
  have mE := invokeErrno
  have nE := nilErrno
  have IT := Lib.hid fun W => itoa_any hn W
  have SH := Lib.hid fun W => short_word W
  have hd := dg_size n
  obtain ⟨s1, hs1, hz1, hr1⟩ := sum_named bByte ⟨#[32]⟩ (by decide)
  have hz1' : s1.size = 5 := by rw [hz1]; rfl
  obtain ⟨s2, hs2, hz2, hr2⟩ := sum_named s1 (dg n) (by omega)
  obtain ⟨s3, hs3, hz3, hr3⟩ := sum_named s2 ⟨#[58, 32]⟩ (by rw [hz2, hz1']; show 5 + (dg n).size + 2 ≤ _; omega)
  obtain ⟨s4, hs4, hz4, hr4⟩ := sum_named s3 bShort (by rw [hz3, hz2, hz1']; show 5 + (dg n).size + 2 + 5 ≤ _; omega)
  have HS : Hid (s4 = fw n) := Lib.hid (by rw [hs4, hs3, hs2, hs1]; rfl)
  clear hF hs1 hs2 hs3 hs4 hz1 hz2 hz3 hz4 hz1'
  obtain ⟨D, hD⟩ : ∃ D, D = dg n := ⟨_, rfl⟩
  rw [← hD] at IT hr2 hd
  clear hD
  go_enter Tryz.func181, Tryz.ntmps181
  go_wp2_with fail
  go_quiet ((first | (go_at_call 46; exact Calls.quiet_of_same (IT.out _)) | (go_at_call 180; exact Calls.quiet_of_same (SH.out _))))
  go_wp2_with fail
  go_ret
  exact ⟨by rw [HS.out]; rfl, nq, rfl⟩
#print axioms fault_error
end Go.Proofs.YtanjcjnkppnhcaaGreatDoor

namespace Go.Proofs.YtanjcjnkppnhcaaGreatDoor
open Go Go.RowKit

/-- A Wrong of one part, Errno 3. -/
def WrongAt (w : World) (g n : Nat) : Prop := Blk w g 91 #[.string bByte, .int .i64 n]
abbrev wrong1 (g : Nat) : Value := .agg #[.slice (some ⟨g, 0, none⟩) 1 1, .int .i64 3]
set_option maxHeartbeats 1000000 in
theorem refAt3_any (n : Nat) (w : World) : Calls Tryz.prog 40 #[.string bByte, .int .i64 n, .int .i64 3] w fun e w' => ∃ g, e = .returned (wrong1 g) ∧ WrongAt w' g n ∧ w.heap.size ≤ g ∧ Below w.heap.size w w' := by
  go_enter Tryz.func40, Tryz.ntmps40
  go_wp2
  refine bodyPost_ret (results_cell_row (fn := Tryz.f40) rfl _ _ w.heap.size 31 #[.slice (some ⟨w.heap.size + 1, 0, none⟩) 1 1, .int .i64 3] (0, 0) _ rfl ((Blk.new w 31 _).alloc _) Tryz.underlying31 rfl (by kernel_rfl)) rfl ⟨w.heap.size + 1, rfl, ?_, by omega, ((Below.refl _ _).alloc (Nat.le_refl _) _).alloc (by simp) _⟩
  have h := heap_alloc_new (w.alloc (.cells #[.slice (some ⟨w.heap.size + 1, 0, none⟩) 1 1, .int .i64 3] 31)) (.cells #[.string bByte, .int .i64 n] 91)
  rw [show (w.alloc (.cells #[.slice (some ⟨w.heap.size + 1, 0, none⟩) 1 1, .int .i64 3] 31)).heap.size = w.heap.size + 1 by simp] at h
  exact h
#print axioms refAt3_any

structure WA (w0 w : World) (B1 g n : Nat) : Prop where
  box : Blk w B1 31 #[.slice (some ⟨g, 0, none⟩) 1 1, .int .i64 3]
  part : Blk w g 91 #[.string bByte, .int .i64 n]
  bel : Below w0.heap.size w0 w
theorem WA.below {w0 w w' : World} {B1 g n : Nat} (h : WA w0 w B1 g n) (hb : Below w.heap.size w w') : WA w0 w' B1 g n :=
  ⟨h.box.below hb h.box.lt, h.part.below hb h.part.lt, h.bel.trans (hb.mono h.bel.size)⟩
theorem WA.drew {w0 w w' : World} {B1 g n : Nat} (h : WA w0 w B1 g n) (hb : Below w.drew.heap.size w.drew w') : WA w0 w' B1 g n := (h.below (below_drewN (Below.refl _ w) 1)).below hb
theorem WA.cells {w0 w : World} {B1 g n : Nat} (h : WA w0 w B1 g n) : w.cell? ⟨B1, 0, none⟩ = some (.slice (some ⟨g, 0, none⟩) 1 1) ∧ w.cell? ⟨g, 0, none⟩ = some (.string bByte) ∧ w.cell? ⟨g, 1, none⟩ = some (.int .i64 n) := ⟨h.box.cell 0, h.part.cell 0, h.part.cell 1⟩

attribute [-go_sem] run_string_add_if
set_option maxRecDepth 100000 in
set_option maxHeartbeats 4000000 in
theorem words_any (w : World) (g n : Nat) (hg : WrongAt w g n) (hn : To10 n) :
    Calls Tryz.prog 41 #[wrong1 g] w fun e w' => e = .returned (.string (fw n)) ∧ Below w.heap.size w w' := by
  have T0 := Lib.hid (WA.mk (w0 := w) (heap_alloc_new w (.cells #[.slice (some ⟨g, 0, none⟩) 1 1, .int .i64 3] 31)) (hg.below ((Below.refl _ _).alloc (Nat.le_refl _) _) hg.lt) ((Below.refl _ _).alloc (Nat.le_refl _) _))
  have DEC := Lib.hid fun W => refDecimal_any hn W
  have SH := Lib.hid fun W => refWord_short W
  have hd := dg_size n
  obtain ⟨s0, hs0, hz0, hr0⟩ := sum_named ⟨#[]⟩ bByte (by decide)
  have e0 : s0 = bByte := by rw [hs0]; decide
  subst e0
  obtain ⟨s1, hs1, hz1, hr1⟩ := sum_named bByte ⟨#[32]⟩ (by decide)
  have hz1' : s1.size = 5 := by rw [hz1]; rfl
  obtain ⟨s2, hs2, hz2, hr2⟩ := sum_named s1 (dg n) (by omega)
  obtain ⟨s3, hs3, hz3, hr3⟩ := sum_named s2 ⟨#[58, 32]⟩ (by rw [hz2, hz1']; show 5 + (dg n).size + 2 ≤ _; omega)
  obtain ⟨s4, hs4, hz4, hr4⟩ := sum_named s3 bShort (by rw [hz3, hz2, hz1']; show 5 + (dg n).size + 2 + 5 ≤ _; omega)
  have HS : Hid (s4 = fw n) := Lib.hid (by rw [hs4, hs3, hs2, hs1]; rfl)
  clear hg hs0 hz0 hs1 hs2 hs3 hs4 hz1 hz2 hz3 hz4 hz1'
  obtain ⟨D, hD⟩ : ∃ D, D = dg n := ⟨_, rfl⟩
  rw [← hD] at DEC hr2 hd
  clear hD
  have c0 := T0.out.box.cell 0
  have c1 := T0.out.box.cell 1
  go_enter Tryz.func41, Tryz.ntmps41
  go_wp2_with fail
  refine wp_loop_rounds 2 ?_
  rw [rounds_succ]
  go_wp2_with fail
  refine wp_region_held_drew (S := fun w' => w'.cell? ⟨w.heap.size, 0, none⟩ = some (.slice (some ⟨g, 0, none⟩) 1 1) ∧ w'.cell? ⟨g, 0, none⟩ = some (.string bByte) ∧ w'.cell? ⟨g, 1, none⟩ = some (.int .i64 n)) (by kernel_rfl) (T0.out.cells) (fun hHeld => ?_)
  refine wpAnyH_take (i := 0) (oi := { dst := some 12, op := Op.move (Operand.tmp 3), type := 9, pos := "ref.go:62", after := #[], guard := none }) (v := ?vw0) rfl (by kernel_rfl) (by kernel_rfl) (by kernel_rfl) (fun _ _ _ h => h) (Or.inl ⟨by rfl, ?yw0⟩) (by assumption) ?rw0
  case yw0 => (intro w' hSw; (try dsimp only at hSw); go_simp; try with_reducible rfl)
  try simp only [Act.put, List.setIfInBounds_toArray, List.set_cons_zero, List.set_cons_succ]
  refine wpAnyH_take (i := 1) (oi := { dst := some 13, op := Op.fieldAddr 31 (Operand.tmp 1) 0, type := 0, pos := "ref.go:62", after := #[], guard := none }) (v := ?vw1) rfl (by kernel_rfl) (by kernel_rfl) (by kernel_rfl) (fun _ _ _ h => h) (Or.inl ⟨by rfl, ?yw1⟩) (by assumption) ?rw1
  case yw1 => (intro w' hSw; (try dsimp only at hSw); go_simp; try with_reducible rfl)
  try simp only [Act.put, List.setIfInBounds_toArray, List.set_cons_zero, List.set_cons_succ]
  refine wpAnyH_take (i := 2) (oi := { dst := some 14, op := Op.load 29 (Operand.tmp 13), type := 29, pos := "ref.go:62", after := #[{ on := 1, ground := Ground.data }], guard := none }) (v := ?vw2) rfl (by kernel_rfl) (by kernel_rfl) (by kernel_rfl) (fun _ _ _ h => h) (Or.inl ⟨by rfl, ?yw2⟩) (by assumption) ?rw2
  case yw2 => (intro w' hSw; (try dsimp only at hSw); go_simp; try with_reducible rfl)
  try simp only [Act.put, List.setIfInBounds_toArray, List.set_cons_zero, List.set_cons_succ]
  refine wpAnyH_take (i := 3) (oi := { dst := some 15, op := Op.move (Operand.tmp 4), type := 3, pos := "ref.go:62", after := #[], guard := none }) (v := ?vw3) rfl (by kernel_rfl) (by kernel_rfl) (by kernel_rfl) (fun _ _ _ h => h) (Or.inl ⟨by rfl, ?yw3⟩) (by assumption) ?rw3
  case yw3 => (intro w' hSw; (try dsimp only at hSw); go_simp; try with_reducible rfl)
  try simp only [Act.put, List.setIfInBounds_toArray, List.set_cons_zero, List.set_cons_succ]
  refine wpAnyH_take (i := 4) (oi := { dst := some 16, op := Op.indexAddr 29 (Operand.tmp 14) (Operand.tmp 15), type := 0, pos := "ref.go:62", after := #[{ on := 2, ground := Ground.data }, { on := 3, ground := Ground.data }], guard := none }) (v := ?vw4) rfl (by kernel_rfl) (by kernel_rfl) (by kernel_rfl) (fun _ _ _ h => h) (Or.inl ⟨by rfl, ?yw4⟩) (by assumption) ?rw4
  case yw4 => (intro w' hSw; (try dsimp only at hSw); go_simp; try with_reducible rfl)
  try simp only [Act.put, List.setIfInBounds_toArray, List.set_cons_zero, List.set_cons_succ]
  refine wpAnyH_take (i := 5) (oi := { dst := some 17, op := Op.fieldAddr 91 (Operand.tmp 16) 0, type := 0, pos := "ref.go:62", after := #[{ on := 4, ground := Ground.data }], guard := none }) (v := ?vw5) rfl (by kernel_rfl) (by kernel_rfl) (by kernel_rfl) (fun _ _ _ h => h) (Or.inl ⟨by rfl, ?yw5⟩) (by assumption) ?rw5
  case yw5 => (intro w' hSw; (try dsimp only at hSw); go_simp; try with_reducible rfl)
  try simp only [Act.put, List.setIfInBounds_toArray, List.set_cons_zero, List.set_cons_succ]
  refine wpAnyH_take (i := 6) (oi := { dst := some 18, op := Op.load 9 (Operand.tmp 17), type := 9, pos := "ref.go:62", after := #[{ on := 5, ground := Ground.data }], guard := none }) (v := ?vw6) rfl (by kernel_rfl) (by kernel_rfl) (by kernel_rfl) (fun _ _ _ h => h) (Or.inl ⟨by rfl, ?yw6⟩) (by assumption) ?rw6
  case yw6 => (intro w' hSw; (try dsimp only at hSw); go_simp; try with_reducible rfl)
  try simp only [Act.put, List.setIfInBounds_toArray, List.set_cons_zero, List.set_cons_succ]
  refine wpAnyH_take (i := 7) (oi := { dst := some 19, op := Op.binOp BinOp.add 9 (Operand.tmp 12) (Operand.tmp 18) 9, type := 9, pos := "ref.go:62", after := #[{ on := 0, ground := Ground.data }, { on := 6, ground := Ground.data }], guard := none }) (v := ?vw7) rfl (by kernel_rfl) (by kernel_rfl) (by kernel_rfl) (fun _ _ _ h => h) (Or.inl ⟨by rfl, ?yw7⟩) (by assumption) ?rw7
  case yw7 => (intro w' hSw; (try dsimp only at hSw); go_simp; try with_reducible rfl)
  try simp only [Act.put, List.setIfInBounds_toArray, List.set_cons_zero, List.set_cons_succ]
  refine wpAnyH_take (i := 8) (oi := { dst := some 20, op := Op.binOp BinOp.add 9 (Operand.tmp 19) (Operand.const (Value.string { data := #[32] })) 9, type := 9, pos := "ref.go:62", after := #[{ on := 7, ground := Ground.data }], guard := none }) (v := ?vw8) rfl (by kernel_rfl) (by kernel_rfl) (by kernel_rfl) (fun _ _ _ h => h) (Or.inl ⟨by rfl, ?yw8⟩) (by assumption) ?rw8
  case yw8 => (intro w' hSw; (try dsimp only at hSw); go_simp; try with_reducible rfl)
  try simp only [Act.put, List.setIfInBounds_toArray, List.set_cons_zero, List.set_cons_succ]
  refine wpAnyH_take (i := 9) (oi := { dst := some 21, op := Op.fieldAddr 31 (Operand.tmp 1) 0, type := 0, pos := "ref.go:62", after := #[], guard := none }) (v := ?vw9) rfl (by kernel_rfl) (by kernel_rfl) (by kernel_rfl) (fun _ _ _ h => h) (Or.inl ⟨by rfl, ?yw9⟩) (by assumption) ?rw9
  case yw9 => (intro w' hSw; (try dsimp only at hSw); go_simp; try with_reducible rfl)
  try simp only [Act.put, List.setIfInBounds_toArray, List.set_cons_zero, List.set_cons_succ]
  refine wpAnyH_take (i := 10) (oi := { dst := some 22, op := Op.load 29 (Operand.tmp 21), type := 29, pos := "ref.go:62", after := #[{ on := 9, ground := Ground.data }], guard := none }) (v := ?vw10) rfl (by kernel_rfl) (by kernel_rfl) (by kernel_rfl) (fun _ _ _ h => h) (Or.inl ⟨by rfl, ?yw10⟩) (by assumption) ?rw10
  case yw10 => (intro w' hSw; (try dsimp only at hSw); go_simp; try with_reducible rfl)
  try simp only [Act.put, List.setIfInBounds_toArray, List.set_cons_zero, List.set_cons_succ]
  refine wpAnyH_take (i := 11) (oi := { dst := some 23, op := Op.move (Operand.tmp 4), type := 3, pos := "ref.go:62", after := #[], guard := none }) (v := ?vw11) rfl (by kernel_rfl) (by kernel_rfl) (by kernel_rfl) (fun _ _ _ h => h) (Or.inl ⟨by rfl, ?yw11⟩) (by assumption) ?rw11
  case yw11 => (intro w' hSw; (try dsimp only at hSw); go_simp; try with_reducible rfl)
  try simp only [Act.put, List.setIfInBounds_toArray, List.set_cons_zero, List.set_cons_succ]
  refine wpAnyH_take (i := 12) (oi := { dst := some 24, op := Op.indexAddr 29 (Operand.tmp 22) (Operand.tmp 23), type := 0, pos := "ref.go:62", after := #[{ on := 10, ground := Ground.data }, { on := 11, ground := Ground.data }], guard := none }) (v := ?vw12) rfl (by kernel_rfl) (by kernel_rfl) (by kernel_rfl) (fun _ _ _ h => h) (Or.inl ⟨by rfl, ?yw12⟩) (by assumption) ?rw12
  case yw12 => (intro w' hSw; (try dsimp only at hSw); go_simp; try with_reducible rfl)
  try simp only [Act.put, List.setIfInBounds_toArray, List.set_cons_zero, List.set_cons_succ]
  refine wpAnyH_take (i := 13) (oi := { dst := some 25, op := Op.fieldAddr 91 (Operand.tmp 24) 1, type := 0, pos := "ref.go:62", after := #[{ on := 12, ground := Ground.data }], guard := none }) (v := ?vw13) rfl (by kernel_rfl) (by kernel_rfl) (by kernel_rfl) (fun _ _ _ h => h) (Or.inl ⟨by rfl, ?yw13⟩) (by assumption) ?rw13
  case yw13 => (intro w' hSw; (try dsimp only at hSw); go_simp; try with_reducible rfl)
  try simp only [Act.put, List.setIfInBounds_toArray, List.set_cons_zero, List.set_cons_succ]
  refine wpAnyH_take (i := 14) (oi := { dst := some 26, op := Op.load 3 (Operand.tmp 25), type := 3, pos := "ref.go:62", after := #[{ on := 13, ground := Ground.data }], guard := none }) (v := ?vw14) rfl (by kernel_rfl) (by kernel_rfl) (by kernel_rfl) (fun _ _ _ h => h) (Or.inl ⟨by rfl, ?yw14⟩) (by assumption) ?rw14
  case yw14 => (intro w' hSw; (try dsimp only at hSw); go_simp; try with_reducible rfl)
  try simp only [Act.put, List.setIfInBounds_toArray, List.set_cons_zero, List.set_cons_succ]
  refine wpAnyH_ready (rs := [15]) (by kernel_rfl) (by simp) ?_
  refine AllReadyH.cons (o := { dst := some 27, op := Op.call { callee := Callee.value (Operand.func 48), args := #[Operand.tmp 26], argTypes := #[3] }, type := 9, pos := "ref.go:62", after := #[{ on := 14, ground := Ground.data }], guard := none }) rfl (fun K hK => ?_) AllReadyH.nil
  go_simp
  go_at_call 48
  refine (DEC.out _).mono ?_
  rintro e w2 ⟨rfl, hb2⟩
  have T2 := Lib.hid (WA.drew T0.out hb2)
  go_wp2_with fail
  refine hK.out _ _ (T2.out.cells) (fun hHeldw15 => ?_)
  clear hK K hHeld
  try simp only [Act.put, List.setIfInBounds_toArray, List.set_cons_zero, List.set_cons_succ]
  refine wpAnyH_take (i := 16) (oi := { dst := some 28, op := Op.binOp BinOp.add 9 (Operand.tmp 20) (Operand.tmp 27) 9, type := 9, pos := "ref.go:62", after := #[{ on := 8, ground := Ground.data }, { on := 15, ground := Ground.data }], guard := none }) (v := ?vw16) rfl (by kernel_rfl) (by kernel_rfl) (by kernel_rfl) (fun _ _ _ h => h) (Or.inl ⟨by rfl, ?yw16⟩) (by assumption) ?rw16
  case yw16 => (intro w' hSw; (try dsimp only at hSw); go_simp; try with_reducible rfl)
  try simp only [Act.put, List.setIfInBounds_toArray, List.set_cons_zero, List.set_cons_succ]
  refine wpAnyH_take (i := 17) (oi := { dst := some 29, op := Op.binOp BinOp.add 9 (Operand.tmp 28) (Operand.const (Value.string { data := #[58, 32] })) 9, type := 9, pos := "ref.go:62", after := #[{ on := 16, ground := Ground.data }], guard := none }) (v := ?vw17) rfl (by kernel_rfl) (by kernel_rfl) (by kernel_rfl) (fun _ _ _ h => h) (Or.inl ⟨by rfl, ?yw17⟩) (by assumption) ?rw17
  case yw17 => (intro w' hSw; (try dsimp only at hSw); go_simp; try with_reducible rfl)
  try simp only [Act.put, List.setIfInBounds_toArray, List.set_cons_zero, List.set_cons_succ]
  refine wpAnyH_take (i := 18) (oi := { dst := some 3, op := Op.assign (Operand.tmp 29), type := 9, pos := "ref.go:62", after := #[{ on := 17, ground := Ground.data }, { on := 15, ground := Ground.chain }, { on := 0, ground := Ground.phase }, { on := 1, ground := Ground.phase }, { on := 2, ground := Ground.phase }, { on := 3, ground := Ground.phase }, { on := 4, ground := Ground.phase }, { on := 5, ground := Ground.phase }, { on := 6, ground := Ground.phase }, { on := 7, ground := Ground.phase }, { on := 8, ground := Ground.phase }, { on := 9, ground := Ground.phase }, { on := 10, ground := Ground.phase }, { on := 11, ground := Ground.phase }, { on := 12, ground := Ground.phase }, { on := 13, ground := Ground.phase }, { on := 14, ground := Ground.phase }, { on := 15, ground := Ground.phase }, { on := 16, ground := Ground.phase }, { on := 17, ground := Ground.phase }], guard := none }) (v := ?vw18) rfl (by kernel_rfl) (by kernel_rfl) (by kernel_rfl) (fun _ _ _ h => h) (Or.inl ⟨by rfl, ?yw18⟩) (by assumption) ?rw18
  case yw18 => (intro w' hSw; (try dsimp only at hSw); go_simp; try with_reducible rfl)
  try simp only [Act.put, List.setIfInBounds_toArray, List.set_cons_zero, List.set_cons_succ]
  refine wpAnyH_done (by kernel_rfl) ?_ _
  clear T0
  have c0 := T2.out.box.cell 0
  have c1 := T2.out.box.cell 1
  go_wp2_with fail
  rw [rounds_succ]
  go_wp2_with fail
  refine (SH.out _).mono ?_
  rintro e w3 ⟨rfl, hb3⟩
  go_wp2_with fail
  go_ret
  exact ⟨by rw [HS.out]; rfl, (T2.out.below hb3).bel⟩
#print axioms words_any
end Go.Proofs.YtanjcjnkppnhcaaGreatDoor

namespace Go.Proofs.YtanjcjnkppnhcaaGreatDoor
open Go Go.RowKit

/-- 'part digits: word'. -/
def fwG (p D s : ByteArray) : ByteArray := (((p ++ ⟨#[32]⟩) ++ D) ++ ⟨#[58, 32]⟩) ++ s
abbrev wrongG (g : Nat) (e : Int) : Value := .agg #[.slice (some ⟨g, 0, none⟩) 1 1, .int .i64 e]
theorem size32 : (ByteArray.mk #[32]).size = 1 := rfl
theorem size58 : (ByteArray.mk #[58, 32]).size = 2 := rfl

attribute [-go_sem] run_string_add_if
set_option maxRecDepth 100000 in
set_option maxHeartbeats 4000000 in
theorem fault_says (w : World) (F : Nat) (p D : ByteArray) (n e : Int) (hF : Blk w F 78 #[.string p, .int .i64 n, .iface 73 (.int .i64 e)]) (hp : p.size ≤ 1000) (hd : D.size ≤ 100) (he : To14 e)
    (hI : ∀ W, Calls Tryz.prog 46 #[.int .i64 n] W fun x w' => x = .returned (.string D) ∧ w' = W) :
    Calls Tryz.prog 181 #[.pointer (some ⟨F, 0, none⟩)] w fun x w' => x = .returned (.string (fwG p D (ew e))) ∧ ∃ k, w' = w.drewN k := by
  have c0 := hF.cell 0
  have c1 := hF.cell 1
  have c2 := hF.cell 2
  have hFl := hF.lt
  have mE := invokeErrno
  have nE := nilErrno
  have IT := Lib.hid hI
  have SH := Lib.hid fun W => errno_any e he W
  have hes := ew_size he
  obtain ⟨s1, hs1, hz1, hr1⟩ := sum_named p ⟨#[32]⟩ (by rw [size32]; omega)
  rw [size32] at hz1
  obtain ⟨s2, hs2, hz2, hr2⟩ := sum_named s1 D (by omega)
  obtain ⟨s3, hs3, hz3, hr3⟩ := sum_named s2 ⟨#[58, 32]⟩ (by rw [size58]; omega)
  rw [size58] at hz3
  obtain ⟨s4, hs4, hz4, hr4⟩ := sum_named s3 (ew e) (by omega)
  have HS : Hid (s4 = fwG p D (ew e)) := Lib.hid (by rw [hs4, hs3, hs2, hs1]; rfl)
  clear hF hs1 hs2 hs3 hs4 hz1 hz2 hz3 hz4 hI he
  obtain ⟨s, hs⟩ : ∃ s, s = ew e := ⟨_, rfl⟩
  rw [← hs] at SH hr4 hes HS
  rw [← hs]
  clear hs
  go_enter Tryz.func181, Tryz.ntmps181
  go_wp2_with fail
  go_quiet ((first | (go_at_call 46; exact Calls.quiet_of_same (IT.out _)) | (go_at_call 180; exact Calls.quiet_of_same (SH.out _))))
  go_wp2_with fail
  go_ret
  exact ⟨by rw [HS.out]; rfl, nq, rfl⟩
#print axioms fault_says

structure WG (w0 w : World) (B1 g : Nat) (p : ByteArray) (n e : Int) : Prop where
  box : Blk w B1 31 #[.slice (some ⟨g, 0, none⟩) 1 1, .int .i64 e]
  part : Blk w g 91 #[.string p, .int .i64 n]
  bel : Below w0.heap.size w0 w
theorem WG.below {w0 w w' : World} {B1 g : Nat} {p : ByteArray} {n e : Int} (h : WG w0 w B1 g p n e) (hb : Below w.heap.size w w') : WG w0 w' B1 g p n e :=
  ⟨h.box.below hb h.box.lt, h.part.below hb h.part.lt, h.bel.trans (hb.mono h.bel.size)⟩
theorem WG.drew {w0 w w' : World} {B1 g : Nat} {p : ByteArray} {n e : Int} (h : WG w0 w B1 g p n e) (hb : Below w.drew.heap.size w.drew w') : WG w0 w' B1 g p n e := (h.below (below_drewN (Below.refl _ w) 1)).below hb
theorem WG.cells {w0 w : World} {B1 g : Nat} {p : ByteArray} {n e : Int} (h : WG w0 w B1 g p n e) : w.cell? ⟨B1, 0, none⟩ = some (.slice (some ⟨g, 0, none⟩) 1 1) ∧ w.cell? ⟨g, 0, none⟩ = some (.string p) ∧ w.cell? ⟨g, 1, none⟩ = some (.int .i64 n) := ⟨h.box.cell 0, h.part.cell 0, h.part.cell 1⟩

set_option maxRecDepth 100000 in
set_option maxHeartbeats 4000000 in
theorem words_says (w : World) (g : Nat) (p D : ByteArray) (n e : Int) (hg : Blk w g 91 #[.string p, .int .i64 n]) (hp : p.size ≤ 1000) (hd : D.size ≤ 100) (he : To14 e)
    (hI : ∀ W, Calls Tryz.prog 48 #[.int .i64 n] W fun x w' => x = .returned (.string D) ∧ Below W.heap.size W w') :
    Calls Tryz.prog 41 #[wrongG g e] w fun x w' => x = .returned (.string (fwG p D (ew e))) ∧ Below w.heap.size w w' := by
  have T0 := Lib.hid (WG.mk (w0 := w) (heap_alloc_new w (.cells #[.slice (some ⟨g, 0, none⟩) 1 1, .int .i64 e] 31)) (hg.below ((Below.refl _ _).alloc (Nat.le_refl _) _) hg.lt) ((Below.refl _ _).alloc (Nat.le_refl _) _))
  have DEC := Lib.hid hI
  have SH := Lib.hid fun W => refErr_any e he W
  have hes := ew_size he
  obtain ⟨s0, hs0, hz0, hr0⟩ := sum_named ⟨#[]⟩ p (by show 0 + p.size ≤ _; omega)
  have e0 : s0 = p := by rw [hs0]; exact ByteArray.empty_append
  subst e0
  obtain ⟨s1, hs1, hz1, hr1⟩ := sum_named s0 ⟨#[32]⟩ (by rw [size32]; omega)
  rw [size32] at hz1
  obtain ⟨s2, hs2, hz2, hr2⟩ := sum_named s1 D (by omega)
  obtain ⟨s3, hs3, hz3, hr3⟩ := sum_named s2 ⟨#[58, 32]⟩ (by rw [size58]; omega)
  rw [size58] at hz3
  obtain ⟨s4, hs4, hz4, hr4⟩ := sum_named s3 (ew e) (by omega)
  have HS : Hid (s4 = fwG s0 D (ew e)) := Lib.hid (by rw [hs4, hs3, hs2, hs1]; rfl)
  clear hg hs0 hz0 hs1 hs2 hs3 hs4 hz1 hz2 hz3 hz4 hI he
  obtain ⟨s, hs⟩ : ∃ s, s = ew e := ⟨_, rfl⟩
  rw [← hs] at SH hr4 hes HS
  rw [← hs]
  clear hs
  have c0 := T0.out.box.cell 0
  have c1 := T0.out.box.cell 1
  go_enter Tryz.func41, Tryz.ntmps41
  go_wp2_with fail
  refine wp_loop_rounds 2 ?_
  rw [rounds_succ]
  go_wp2_with fail
  refine wp_region_held_drew (S := fun w' => w'.cell? ⟨w.heap.size, 0, none⟩ = some (.slice (some ⟨g, 0, none⟩) 1 1) ∧ w'.cell? ⟨g, 0, none⟩ = some (.string s0) ∧ w'.cell? ⟨g, 1, none⟩ = some (.int .i64 n)) (by kernel_rfl) (T0.out.cells) (fun hHeld => ?_)
  refine wpAnyH_take (i := 0) (oi := { dst := some 12, op := Op.move (Operand.tmp 3), type := 9, pos := "ref.go:62", after := #[], guard := none }) (v := ?vw0) rfl (by kernel_rfl) (by kernel_rfl) (by kernel_rfl) (fun _ _ _ h => h) (Or.inl ⟨by rfl, ?yw0⟩) (by assumption) ?rw0
  case yw0 => (intro w' hSw; (try dsimp only at hSw); go_simp; try with_reducible rfl)
  try simp only [Act.put, List.setIfInBounds_toArray, List.set_cons_zero, List.set_cons_succ]
  refine wpAnyH_take (i := 1) (oi := { dst := some 13, op := Op.fieldAddr 31 (Operand.tmp 1) 0, type := 0, pos := "ref.go:62", after := #[], guard := none }) (v := ?vw1) rfl (by kernel_rfl) (by kernel_rfl) (by kernel_rfl) (fun _ _ _ h => h) (Or.inl ⟨by rfl, ?yw1⟩) (by assumption) ?rw1
  case yw1 => (intro w' hSw; (try dsimp only at hSw); go_simp; try with_reducible rfl)
  try simp only [Act.put, List.setIfInBounds_toArray, List.set_cons_zero, List.set_cons_succ]
  refine wpAnyH_take (i := 2) (oi := { dst := some 14, op := Op.load 29 (Operand.tmp 13), type := 29, pos := "ref.go:62", after := #[{ on := 1, ground := Ground.data }], guard := none }) (v := ?vw2) rfl (by kernel_rfl) (by kernel_rfl) (by kernel_rfl) (fun _ _ _ h => h) (Or.inl ⟨by rfl, ?yw2⟩) (by assumption) ?rw2
  case yw2 => (intro w' hSw; (try dsimp only at hSw); go_simp; try with_reducible rfl)
  try simp only [Act.put, List.setIfInBounds_toArray, List.set_cons_zero, List.set_cons_succ]
  refine wpAnyH_take (i := 3) (oi := { dst := some 15, op := Op.move (Operand.tmp 4), type := 3, pos := "ref.go:62", after := #[], guard := none }) (v := ?vw3) rfl (by kernel_rfl) (by kernel_rfl) (by kernel_rfl) (fun _ _ _ h => h) (Or.inl ⟨by rfl, ?yw3⟩) (by assumption) ?rw3
  case yw3 => (intro w' hSw; (try dsimp only at hSw); go_simp; try with_reducible rfl)
  try simp only [Act.put, List.setIfInBounds_toArray, List.set_cons_zero, List.set_cons_succ]
  refine wpAnyH_take (i := 4) (oi := { dst := some 16, op := Op.indexAddr 29 (Operand.tmp 14) (Operand.tmp 15), type := 0, pos := "ref.go:62", after := #[{ on := 2, ground := Ground.data }, { on := 3, ground := Ground.data }], guard := none }) (v := ?vw4) rfl (by kernel_rfl) (by kernel_rfl) (by kernel_rfl) (fun _ _ _ h => h) (Or.inl ⟨by rfl, ?yw4⟩) (by assumption) ?rw4
  case yw4 => (intro w' hSw; (try dsimp only at hSw); go_simp; try with_reducible rfl)
  try simp only [Act.put, List.setIfInBounds_toArray, List.set_cons_zero, List.set_cons_succ]
  refine wpAnyH_take (i := 5) (oi := { dst := some 17, op := Op.fieldAddr 91 (Operand.tmp 16) 0, type := 0, pos := "ref.go:62", after := #[{ on := 4, ground := Ground.data }], guard := none }) (v := ?vw5) rfl (by kernel_rfl) (by kernel_rfl) (by kernel_rfl) (fun _ _ _ h => h) (Or.inl ⟨by rfl, ?yw5⟩) (by assumption) ?rw5
  case yw5 => (intro w' hSw; (try dsimp only at hSw); go_simp; try with_reducible rfl)
  try simp only [Act.put, List.setIfInBounds_toArray, List.set_cons_zero, List.set_cons_succ]
  refine wpAnyH_take (i := 6) (oi := { dst := some 18, op := Op.load 9 (Operand.tmp 17), type := 9, pos := "ref.go:62", after := #[{ on := 5, ground := Ground.data }], guard := none }) (v := ?vw6) rfl (by kernel_rfl) (by kernel_rfl) (by kernel_rfl) (fun _ _ _ h => h) (Or.inl ⟨by rfl, ?yw6⟩) (by assumption) ?rw6
  case yw6 => (intro w' hSw; (try dsimp only at hSw); go_simp; try with_reducible rfl)
  try simp only [Act.put, List.setIfInBounds_toArray, List.set_cons_zero, List.set_cons_succ]
  refine wpAnyH_take (i := 7) (oi := { dst := some 19, op := Op.binOp BinOp.add 9 (Operand.tmp 12) (Operand.tmp 18) 9, type := 9, pos := "ref.go:62", after := #[{ on := 0, ground := Ground.data }, { on := 6, ground := Ground.data }], guard := none }) (v := ?vw7) rfl (by kernel_rfl) (by kernel_rfl) (by kernel_rfl) (fun _ _ _ h => h) (Or.inl ⟨by rfl, ?yw7⟩) (by assumption) ?rw7
  case yw7 => (intro w' hSw; (try dsimp only at hSw); go_simp; try with_reducible rfl)
  try simp only [Act.put, List.setIfInBounds_toArray, List.set_cons_zero, List.set_cons_succ]
  refine wpAnyH_take (i := 8) (oi := { dst := some 20, op := Op.binOp BinOp.add 9 (Operand.tmp 19) (Operand.const (Value.string { data := #[32] })) 9, type := 9, pos := "ref.go:62", after := #[{ on := 7, ground := Ground.data }], guard := none }) (v := ?vw8) rfl (by kernel_rfl) (by kernel_rfl) (by kernel_rfl) (fun _ _ _ h => h) (Or.inl ⟨by rfl, ?yw8⟩) (by assumption) ?rw8
  case yw8 => (intro w' hSw; (try dsimp only at hSw); go_simp; try with_reducible rfl)
  try simp only [Act.put, List.setIfInBounds_toArray, List.set_cons_zero, List.set_cons_succ]
  refine wpAnyH_take (i := 9) (oi := { dst := some 21, op := Op.fieldAddr 31 (Operand.tmp 1) 0, type := 0, pos := "ref.go:62", after := #[], guard := none }) (v := ?vw9) rfl (by kernel_rfl) (by kernel_rfl) (by kernel_rfl) (fun _ _ _ h => h) (Or.inl ⟨by rfl, ?yw9⟩) (by assumption) ?rw9
  case yw9 => (intro w' hSw; (try dsimp only at hSw); go_simp; try with_reducible rfl)
  try simp only [Act.put, List.setIfInBounds_toArray, List.set_cons_zero, List.set_cons_succ]
  refine wpAnyH_take (i := 10) (oi := { dst := some 22, op := Op.load 29 (Operand.tmp 21), type := 29, pos := "ref.go:62", after := #[{ on := 9, ground := Ground.data }], guard := none }) (v := ?vw10) rfl (by kernel_rfl) (by kernel_rfl) (by kernel_rfl) (fun _ _ _ h => h) (Or.inl ⟨by rfl, ?yw10⟩) (by assumption) ?rw10
  case yw10 => (intro w' hSw; (try dsimp only at hSw); go_simp; try with_reducible rfl)
  try simp only [Act.put, List.setIfInBounds_toArray, List.set_cons_zero, List.set_cons_succ]
  refine wpAnyH_take (i := 11) (oi := { dst := some 23, op := Op.move (Operand.tmp 4), type := 3, pos := "ref.go:62", after := #[], guard := none }) (v := ?vw11) rfl (by kernel_rfl) (by kernel_rfl) (by kernel_rfl) (fun _ _ _ h => h) (Or.inl ⟨by rfl, ?yw11⟩) (by assumption) ?rw11
  case yw11 => (intro w' hSw; (try dsimp only at hSw); go_simp; try with_reducible rfl)
  try simp only [Act.put, List.setIfInBounds_toArray, List.set_cons_zero, List.set_cons_succ]
  refine wpAnyH_take (i := 12) (oi := { dst := some 24, op := Op.indexAddr 29 (Operand.tmp 22) (Operand.tmp 23), type := 0, pos := "ref.go:62", after := #[{ on := 10, ground := Ground.data }, { on := 11, ground := Ground.data }], guard := none }) (v := ?vw12) rfl (by kernel_rfl) (by kernel_rfl) (by kernel_rfl) (fun _ _ _ h => h) (Or.inl ⟨by rfl, ?yw12⟩) (by assumption) ?rw12
  case yw12 => (intro w' hSw; (try dsimp only at hSw); go_simp; try with_reducible rfl)
  try simp only [Act.put, List.setIfInBounds_toArray, List.set_cons_zero, List.set_cons_succ]
  refine wpAnyH_take (i := 13) (oi := { dst := some 25, op := Op.fieldAddr 91 (Operand.tmp 24) 1, type := 0, pos := "ref.go:62", after := #[{ on := 12, ground := Ground.data }], guard := none }) (v := ?vw13) rfl (by kernel_rfl) (by kernel_rfl) (by kernel_rfl) (fun _ _ _ h => h) (Or.inl ⟨by rfl, ?yw13⟩) (by assumption) ?rw13
  case yw13 => (intro w' hSw; (try dsimp only at hSw); go_simp; try with_reducible rfl)
  try simp only [Act.put, List.setIfInBounds_toArray, List.set_cons_zero, List.set_cons_succ]
  refine wpAnyH_take (i := 14) (oi := { dst := some 26, op := Op.load 3 (Operand.tmp 25), type := 3, pos := "ref.go:62", after := #[{ on := 13, ground := Ground.data }], guard := none }) (v := ?vw14) rfl (by kernel_rfl) (by kernel_rfl) (by kernel_rfl) (fun _ _ _ h => h) (Or.inl ⟨by rfl, ?yw14⟩) (by assumption) ?rw14
  case yw14 => (intro w' hSw; (try dsimp only at hSw); go_simp; try with_reducible rfl)
  try simp only [Act.put, List.setIfInBounds_toArray, List.set_cons_zero, List.set_cons_succ]
  refine wpAnyH_ready (rs := [15]) (by kernel_rfl) (by simp) ?_
  refine AllReadyH.cons (o := { dst := some 27, op := Op.call { callee := Callee.value (Operand.func 48), args := #[Operand.tmp 26], argTypes := #[3] }, type := 9, pos := "ref.go:62", after := #[{ on := 14, ground := Ground.data }], guard := none }) rfl (fun K hK => ?_) AllReadyH.nil
  go_simp
  go_at_call 48
  refine (DEC.out _).mono ?_
  rintro e w2 ⟨rfl, hb2⟩
  have T2 := Lib.hid (WG.drew T0.out hb2)
  go_wp2_with fail
  refine hK.out _ _ (T2.out.cells) (fun hHeldw15 => ?_)
  clear hK K hHeld
  try simp only [Act.put, List.setIfInBounds_toArray, List.set_cons_zero, List.set_cons_succ]
  refine wpAnyH_take (i := 16) (oi := { dst := some 28, op := Op.binOp BinOp.add 9 (Operand.tmp 20) (Operand.tmp 27) 9, type := 9, pos := "ref.go:62", after := #[{ on := 8, ground := Ground.data }, { on := 15, ground := Ground.data }], guard := none }) (v := ?vw16) rfl (by kernel_rfl) (by kernel_rfl) (by kernel_rfl) (fun _ _ _ h => h) (Or.inl ⟨by rfl, ?yw16⟩) (by assumption) ?rw16
  case yw16 => (intro w' hSw; (try dsimp only at hSw); go_simp; try with_reducible rfl)
  try simp only [Act.put, List.setIfInBounds_toArray, List.set_cons_zero, List.set_cons_succ]
  refine wpAnyH_take (i := 17) (oi := { dst := some 29, op := Op.binOp BinOp.add 9 (Operand.tmp 28) (Operand.const (Value.string { data := #[58, 32] })) 9, type := 9, pos := "ref.go:62", after := #[{ on := 16, ground := Ground.data }], guard := none }) (v := ?vw17) rfl (by kernel_rfl) (by kernel_rfl) (by kernel_rfl) (fun _ _ _ h => h) (Or.inl ⟨by rfl, ?yw17⟩) (by assumption) ?rw17
  case yw17 => (intro w' hSw; (try dsimp only at hSw); go_simp; try with_reducible rfl)
  try simp only [Act.put, List.setIfInBounds_toArray, List.set_cons_zero, List.set_cons_succ]
  refine wpAnyH_take (i := 18) (oi := { dst := some 3, op := Op.assign (Operand.tmp 29), type := 9, pos := "ref.go:62", after := #[{ on := 17, ground := Ground.data }, { on := 15, ground := Ground.chain }, { on := 0, ground := Ground.phase }, { on := 1, ground := Ground.phase }, { on := 2, ground := Ground.phase }, { on := 3, ground := Ground.phase }, { on := 4, ground := Ground.phase }, { on := 5, ground := Ground.phase }, { on := 6, ground := Ground.phase }, { on := 7, ground := Ground.phase }, { on := 8, ground := Ground.phase }, { on := 9, ground := Ground.phase }, { on := 10, ground := Ground.phase }, { on := 11, ground := Ground.phase }, { on := 12, ground := Ground.phase }, { on := 13, ground := Ground.phase }, { on := 14, ground := Ground.phase }, { on := 15, ground := Ground.phase }, { on := 16, ground := Ground.phase }, { on := 17, ground := Ground.phase }], guard := none }) (v := ?vw18) rfl (by kernel_rfl) (by kernel_rfl) (by kernel_rfl) (fun _ _ _ h => h) (Or.inl ⟨by rfl, ?yw18⟩) (by assumption) ?rw18
  case yw18 => (intro w' hSw; (try dsimp only at hSw); go_simp; try with_reducible rfl)
  try simp only [Act.put, List.setIfInBounds_toArray, List.set_cons_zero, List.set_cons_succ]
  refine wpAnyH_done (by kernel_rfl) ?_ _
  clear T0
  have c0 := T2.out.box.cell 0
  have c1 := T2.out.box.cell 1
  go_wp2_with fail
  rw [rounds_succ]
  go_wp2_with fail
  refine (SH.out _).mono ?_
  rintro x w3 ⟨rfl, hb3⟩
  go_wp2_with fail
  go_ret
  exact ⟨by rw [HS.out]; rfl, (T2.out.below hb3).bel⟩
#print axioms words_says
end Go.Proofs.YtanjcjnkppnhcaaGreatDoor

namespace Go.Proofs.YtanjcjnkppnhcaaGreatDoor
open Go Go.RowKit

/-- The listed table of powers of ten. -/
abbrev PowTab (w : World) : Prop := Lib.TabIs Tryz.prog w "internal/strconv.uint64pow10" .u64 Lib.pow10Tab
theorem tabIs_below {P : Program} {w w' : World} {name : String} {k : IntKind} {zs : List Int} (h : Lib.TabIs P w name k zs) (hb : Below w.heap.size w w') : Lib.TabIs P w' name k zs := by
  unfold Lib.TabIs World.var? at *
  cases hg : P.globalNamed name with
  | none => simp [hg] at h
  | some g =>
    simp only [hg, Option.bind_some] at h ⊢
    have hlt : g < w.heap.size := by
      rcases Nat.lt_or_ge g w.heap.size with h' | h'
      · exact h'
      · rw [Array.getElem?_eq_none h'] at h; simp at h
    rw [hb.block g hlt]
    exact h
theorem below_grow (w : World) (k : Nat) (os : Array Obj) : Below w.heap.size w (Go.Sort.grow (w.drewN k) os) := by
  refine ⟨rfl, rfl, rfl, ?_, fun j hj => ?_⟩
  · show w.heap.size ≤ (w.heap ++ os).size
    simp
  · show (w.heap ++ os)[j]? = w.heap[j]?
    rw [Array.getElem?_append_left hj]
theorem itoa_all (n : Int) (h0 : -9223372036854775808 ≤ n) (h1 : n ≤ 9223372036854775807) (w : World) (ht : PowTab w) :
    Calls Tryz.prog 46 #[.int .i64 n] w fun e w' => e = .returned (.string (numB n)) ∧ Below w.heap.size w w' := by
  refine (Tryz.strconv_Itoa n h0 h1 w ht).mono ?_
  rintro e w' ⟨rfl, k, os, rfl⟩
  exact ⟨rfl, below_grow _ _ _⟩

structure FG (w0 w : World) (F : Nat) (p : ByteArray) (n e : Int) : Prop where
  fault : Blk w F 78 #[.string p, .int .i64 n, .iface 73 (.int .i64 e)]
  tab : PowTab w
  bel : Below w0.heap.size w0 w
theorem FG.below {w0 w w' : World} {F : Nat} {p : ByteArray} {n e : Int} (h : FG w0 w F p n e) (hb : Below w.heap.size w w') : FG w0 w' F p n e :=
  ⟨h.fault.below hb h.fault.lt, tabIs_below h.tab hb, h.bel.trans (hb.mono h.bel.size)⟩
theorem FG.draws {w0 w : World} {F : Nat} {p : ByteArray} {n e : Int} (h : FG w0 w F p n e) (k : Nat) : FG w0 (w.drewN k) F p n e := h.below (below_drewN (Below.refl _ w) k)
theorem FG.cells {w0 w : World} {F : Nat} {p : ByteArray} {n e : Int} (h : FG w0 w F p n e) : w.cell? ⟨F, 0, none⟩ = some (.string p) ∧ w.cell? ⟨F, 1, none⟩ = some (.int .i64 n) ∧ w.cell? ⟨F, 2, none⟩ = some (.iface 73 (.int .i64 e)) := ⟨h.fault.cell 0, h.fault.cell 1, h.fault.cell 2⟩

attribute [-go_sem] run_string_add_if
set_option maxRecDepth 100000 in
set_option maxHeartbeats 4000000 in
theorem fault_all (w : World) (F : Nat) (p : ByteArray) (n e : Int) (hF : Blk w F 78 #[.string p, .int .i64 n, .iface 73 (.int .i64 e)]) (hp : p.size ≤ 1000) (h0 : -9223372036854775808 ≤ n) (h1 : n ≤ 9223372036854775807) (he : To14 e) (ht : PowTab w) :
    Calls Tryz.prog 181 #[.pointer (some ⟨F, 0, none⟩)] w fun x w' => x = .returned (.string (fwG p (numB n) (ew e))) ∧ Below w.heap.size w w' := by
  have T0 : Hid (FG w w F p n e) := Lib.hid ⟨hF, ht, Below.refl _ _⟩
  have T0d : Hid (FG w w.drew F p n e) := Lib.hid (T0.out.draws 1)
  have c0 := hF.cell 0
  have c1 := hF.cell 1
  have c2 := hF.cell 2
  have hFl := hF.lt
  have mE := invokeErrno
  have nE := nilErrno
  have IT := Lib.hid fun W (h : FG w W F p n e) => itoa_all n h0 h1 W h.tab
  have SH := Lib.hid fun W => errno_any e he W
  have hes := ew_size he
  have hd := numB_size h0 h1
  obtain ⟨s1, hs1, hz1, hr1⟩ := sum_named p ⟨#[32]⟩ (by rw [size32]; omega)
  rw [size32] at hz1
  obtain ⟨s2, hs2, hz2, hr2⟩ := sum_named s1 (numB n) (by omega)
  obtain ⟨s3, hs3, hz3, hr3⟩ := sum_named s2 ⟨#[58, 32]⟩ (by rw [size58]; omega)
  rw [size58] at hz3
  obtain ⟨s4, hs4, hz4, hr4⟩ := sum_named s3 (ew e) (by omega)
  have HS : Hid (s4 = fwG p (numB n) (ew e)) := Lib.hid (by rw [hs4, hs3, hs2, hs1]; rfl)
  clear hF hs1 hs2 hs3 hs4 hz1 hz2 hz3 hz4 he ht h0 h1
  obtain ⟨s, hs⟩ : ∃ s, s = ew e := ⟨_, rfl⟩
  rw [← hs] at SH hr4 hes HS
  rw [← hs]
  clear hs
  obtain ⟨D, hD⟩ : ∃ D, D = numB n := ⟨_, rfl⟩
  rw [← hD] at IT hr2 HS hd
  rw [← hD]
  clear hD
  go_enter Tryz.func181, Tryz.ntmps181
  go_wp2_with fail
  go_region_held3 (fun w' => w'.cell? ⟨F, 0, none⟩ = some (.string p) ∧ w'.cell? ⟨F, 1, none⟩ = some (.int .i64 n) ∧ w'.cell? ⟨F, 2, none⟩ = some (.iface 73 (.int .i64 e))) (first | exact T0d.out.cells | exact T1.out.cells) (first | (go_at_call 46; refine (IT.out _ T0d.out).mono ?_; rintro x w1 ⟨rfl, hb1⟩; have T1 := Lib.hid (T0d.out.below hb1)) | (go_at_call 180; refine (SH.out _).mono ?_; rintro x w2 ⟨rfl, rfl⟩))
  all_goals go_wp2_with fail
  all_goals go_ret
  all_goals exact ⟨by rw [HS.out]; rfl, T1.out.bel⟩
#print axioms fault_all
end Go.Proofs.YtanjcjnkppnhcaaGreatDoor

namespace Go.Proofs.YtanjcjnkppnhcaaGreatDoor
open Go Go.RowKit

attribute [-go_sem] run_string_add_if
/-- A step in words. -/
def stepG (x : Fl) : List UInt8 := x.1.data.toList ++ [32] ++ Lib.itoa x.2.1 ++ (if (x.1.toList == [114, 101, 119, 111, 114, 100]) = true then [32] ++ x.2.2.data.toList else []) ++ [10]
def stepsG (l : List Fl) : List UInt8 := l.flatMap stepG
def StepOkG (x : Fl) : Prop := x.1.size ≤ 1000 ∧ x.2.2.size ≤ 1000 ∧ -9223372036854775808 ≤ x.2.1 ∧ x.2.1 ≤ 9223372036854775807
theorem stepG_le {x : Fl} (h : StepOkG x) : (stepG x).length ≤ 3000 := by
  obtain ⟨h1, h2, h3, h4⟩ := h
  have hd := Lib.itoa_length_le x.2.1 h3 h4
  unfold stepG
  rw [← size_listB] at h1 h2
  split <;> simp only [List.length_append, List.length_cons, List.length_nil] <;> omega
theorem stepsG_le {l : List Fl} (h : ∀ x ∈ l, StepOkG x) : (stepsG l).length ≤ l.length * 3000 := by
  induction l with
  | nil => simp [stepsG]
  | cons x l ih =>
    have h1 := stepG_le (h x List.mem_cons_self)
    have h2 := ih fun y hy => h y (List.mem_cons_of_mem _ hy)
    unfold stepsG at h2 ⊢
    rw [List.flatMap_cons, List.length_append, List.length_cons, Nat.succ_mul]
    omega
set_option maxRecDepth 100000 in
set_option maxHeartbeats 8000000 in
theorem text_all (w : World) (v : Value) (l : List Fl) (h : Reads 3 cF w v l) (hl : l.length ≤ 100) (h2 : ∀ x ∈ l, StepOkG x) (hT : PowTab w) :
    Calls Tryz.prog 19 #[v] w fun e w' => e = .returned (.string ⟨(stepsG l).toArray⟩) ∧ Below w.heap.size w w' := by
  obtain ⟨A, c, rfl⟩ := h.form
  have HH := Lib.hid h
  have H2 := Lib.hid h2
  have HTB := Lib.hid hT
  have IB := Lib.hid (Lib.IsBuilderF.of (Lib.fresh_isBuilder 96 5 w))
  have d6 := (Below.refl w.heap.size w).alloc (Nat.le_refl _) (.cells #[.pointer none, .slice none 0 0] 96)
  have ln0 : (0 : Int) ≤ (l.length : Int) := Int.natCast_nonneg _
  have ln9 : (l.length : Int) ≤ 100 := by omega
  clear h h2 hT
  go_enter Tryz.func19, Tryz.ntmps19
  go_wp2_with fail
  obtain ⟨b, hb⟩ : ∃ b, b = w.heap.size := ⟨_, rfl⟩
  rw [← hb] at IB d6 ⊢
  have Hb := Lib.hid hb
  clear hb
  go_loopw [5, 8] (fun _ s8 wr => ∃ k : Nat, k ≤ l.length ∧ s8 = .int .i64 k ∧ Hid (Lib.IsBuilderF 96 5 b b (Lib.byteCells (stepsG (l.take k))) wr) ∧ Hid (Below b w wr)) (fun _ s8 _ => l.length - (intOf s8).toNat)
  case atStart => exact ⟨0, Nat.zero_le _, rfl, IB, Lib.hid d6⟩
  case round =>
    clear IB d6
    obtain ⟨k, hk, rfl, hI, hB⟩ := hrel
    have k0 : (0 : Int) ≤ (k : Int) := Int.natCast_nonneg _
    obtain ⟨wo, hwo⟩ : ∃ wo : World, wo = wr := ⟨_, rfl⟩
    rw [← hwo] at hI hB ⊢
    clear hwo
    have hbw : Hid (Below w.heap.size w wo) := Lib.hid (by have := Hb.out; rw [this] at hB; exact hB.out)
    have hbl : b ≤ wo.heap.size := by have := Hb.out; rw [this]; exact hbw.out.size
    by_cases hlt : k < l.length
    · have k1 : (k : Int) < (l.length : Int) := by omega
      obtain ⟨x, hx⟩ : ∃ x, l[k]? = some x := ⟨_, List.getElem?_eq_getElem hlt⟩
      obtain ⟨ad, rfl, c0, c1', c2'⟩ := Fils.at_ (HH.out.below hbw.out) hx
      obtain ⟨s1x, s2x, s3x, s4x⟩ := H2.out x (List.mem_of_getElem? hx)
      have hTL := stepsG_le (l := l.take k) (fun y hy => H2.out y (List.mem_of_mem_take hy))
      rw [List.length_take] at hTL
      have HTK := Lib.hid (show stepsG (l.take (k + 1)) = stepsG (l.take k) ++ stepG x by unfold stepsG; obtain ⟨hk', rfl⟩ := List.getElem?_eq_some_iff.1 hx; rw [List.take_succ_eq_append_getElem hk', List.flatMap_append]; simp)
      obtain ⟨vb, cc, tx⟩ := x
      dsimp only at c0 c1' c2' s1x s2x s3x s4x
      have y1 := numB_size s3x s4x
      have z1 : (ByteArray.mk #[32]).size = 1 := rfl
      obtain ⟨s1, e1, n1, p1⟩ := sum_namedT vb ⟨#[32]⟩ (by omega)
      obtain ⟨s2, e2, n2, p2⟩ := sum_namedT s1 (numB cc) (by omega)
      obtain ⟨s3, e3, n3, p3⟩ := sum_namedT ⟨#[32]⟩ tx (by omega)
      have eM : Hid (s2.data.toList = vb.data.toList ++ [32] ++ Lib.itoa cc) := Lib.hid (by rw [e2, e1, data_app, data_app]; unfold numB; simp)
      have eM3 : Hid (s3.data.toList = [32] ++ tx.data.toList) := Lib.hid (by rw [e3, data_app])
      have HSZ : Hid (s2.size ≤ 2000) := Lib.hid (by omega)
      have HSZ3 : Hid (s3.size ≤ 2000) := Lib.hid (by omega)
      have IT := Lib.hid fun W (h : PowTab W) => itoa_all cc s3x s4x W h
      have PT := Lib.hid (tabIs_below (tabIs_below HTB.out hbw.out) ((Below.refl wo.heap.size wo).alloc (Nat.le_refl _) (.cells #[.string vb, .int .i64 cc, .string tx] 41)))
      have BB := Lib.hid ((hB.out.alloc hbl (.cells #[.string vb, .int .i64 cc, .string tx] 41)))
      have KX := Lib.hid (Blk.new wo 41 #[.string vb, .int .i64 cc, .string tx])
      have IX := Lib.hid (isf_belowT hI.out ((Below.refl wo.heap.size wo).alloc (Nat.le_refl _) (.cells #[.string vb, .int .i64 cc, .string tx] 41)))
      have hneX : wo.heap.size ≠ b := by have h9 : b < wo.heap.size := hI.out.elim (·.lt) (·.lt); omega
      have hTL2 : (stepsG (l.take k)).length ≤ 300000 := by omega
      have HLT := Lib.hid hlt
      clear s3x s4x hx hTL hI hbw hB e1 e2 e3 n1 n2 n3 y1 z1 s1x s2x hlt hk
      generalize hT : stepsG (l.take k) = T at *
      clear hT
      go_upto_region 5 with fail
      generalize hW : wo.alloc (.cells #[.string vb, .int .i64 cc, .string tx] 41) = W at *
      have hbW : b ≤ W.heap.size := by rw [← hW]; simp; omega
      generalize wo.heap.size = X at *
      clear hW c0 c1' c2'
      have HBWd := Lib.hid (show b ≤ W.drew.heap.size from hbW)
      have KXd : Hid (Blk W.drew X 41 #[.string vb, .int .i64 cc, .string tx]) := Lib.hid KX.out
      have IXd : Hid (Lib.IsBuilderF 96 5 b b (Lib.byteCells T) W.drew) := Lib.hid (isf_belowT IX.out ((Below.refl _ _).drew))
      have PTd : Hid (PowTab W.drew) := Lib.hid (tabIs_below PT.out ((Below.refl _ _).drew))
      have q0 : W.drew.cell? ⟨X, 0, none⟩ = some (.string vb) ∧ W.drew.cell? ⟨X, 1, none⟩ = some (.int .i64 cc) := ⟨KX.out.cell 0, KX.out.cell 1⟩
      go_region_held3 (fun w' => w'.cell? ⟨X, 0, none⟩ = some (.string vb) ∧ w'.cell? ⟨X, 1, none⟩ = some (.int .i64 cc)) (first | exact q0 | exact q1 | exact q9) (first
        | (go_at_call 45; (with_reducible refine (writeKT b b _ s2 w1 I1.out (by rw [Lib.byteCells_length]; have := HSZ.out; omega) HBW1.out).mono ?_); rintro e w9 ⟨rfl, h9, d9, k9⟩; have K9 := K1.out.othersT k9 hneX (by decide); have q9 := (show w9.cell? ⟨X, 0, none⟩ = some (.string vb) ∧ w9.cell? ⟨X, 1, none⟩ = some (.int .i64 cc) from ⟨K9.cell 0, K9.cell 1⟩))
        | (go_at_call 46; (with_reducible refine (IT.out _ PTd.out).mono ?_); rintro e w1 ⟨rfl, b1⟩; have K1 := Lib.hid (KXd.out.below b1 KXd.out.lt); have I1 := Lib.hid (isf_belowT IXd.out b1); have HBW1 := Lib.hid (Nat.le_trans HBWd.out b1.size); have B1 := Lib.hid ((BB.out.drew).trans (b1.mono HBWd.out)); have q1 := (show w1.cell? ⟨X, 0, none⟩ = some (.string vb) ∧ w1.cell? ⟨X, 1, none⟩ = some (.int .i64 cc) from ⟨K1.out.cell 0, K1.out.cell 1⟩)))
      all_goals
        have B9 := Lib.hid (B1.out.trans d9)
        have I9 : Hid (Lib.IsBuilderF 96 5 b b (Lib.byteCells (T ++ (vb.data.toList ++ [32] ++ Lib.itoa cc))) w9) := Lib.hid (by rw [Lib.byteCells_append, ← eM.out]; exact .inr (by have := h9; rw [Lib.strCells_eq] at this; exact this))
        have x0 := K9.cell 0
        have x2 := K9.cell 2
        have HBW9 := Lib.hid (show b ≤ w9.heap.size from Nat.le_trans HBW1.out d9.size)
        have HL9 := Lib.hid (show (T ++ (vb.data.toList ++ [32] ++ Lib.itoa cc)).length ≤ 310000 by rw [← eM.out, List.length_append, size_listB]; have := HSZ.out; omega)
        clear h9 k9 K9 q0 q9 q1 KX KXd IX IXd BB p1 p2 IT d9 K1 I1 B1 b1 HBW1 PT PTd
        cases hr : (vb.toList == [114, 101, 119, 111, 114, 100]) with
        | false =>
          have HF := Lib.hid (show stepsG (l.take (k + 1)) = T ++ (vb.data.toList ++ [32] ++ Lib.itoa cc) ++ [10] by rw [HTK.out]; unfold stepG; dsimp only; rw [hr, if_neg (by simp)]; simp)
          clear p3 HTK
          go_wp2_with fail
          refine (writeKT b b _ ⟨#[10]⟩ _ I9.out (by rw [Lib.byteCells_length]; have := HL9.out; show _ + 1 ≤ _; omega) HBW9.out).mono ?_
          rintro e w10 ⟨rfl, h10, d10, k10⟩
          have I10 : Hid (Lib.IsBuilderF 96 5 b b (Lib.byteCells (stepsG (l.take (k + 1)))) w10) := Lib.hid (by rw [HF.out, Lib.byteCells_append]; exact .inr (by have := h10; rw [Lib.strCells_eq] at this; exact this))
          have B10 := Lib.hid (B9.out.trans d10)
          clear h10 k10 d10 I9 B9
          go_wp2_with fail
          go_roundw
          case rel => exact ⟨k + 1, by have := HLT.out; omega, by go_num, I10, B10⟩
          case measure => have := HLT.out; simp [intOf]; omega
        | true =>
          have HF := Lib.hid (show stepsG (l.take (k + 1)) = T ++ (vb.data.toList ++ [32] ++ Lib.itoa cc) ++ ([32] ++ tx.data.toList) ++ [10] by rw [HTK.out]; unfold stepG; dsimp only; rw [hr, if_pos rfl]; simp)
          clear HTK
          go_wp2_with fail
          refine (writeKT b b _ s3 _ I9.out (by rw [Lib.byteCells_length]; have := HL9.out; have := HSZ3.out; omega) HBW9.out).mono ?_
          rintro e w10 ⟨rfl, h10, d10, k10⟩
          have I10 : Hid (Lib.IsBuilderF 96 5 b b (Lib.byteCells (T ++ (vb.data.toList ++ [32] ++ Lib.itoa cc) ++ ([32] ++ tx.data.toList))) w10) := Lib.hid (by rw [Lib.byteCells_append, ← eM3.out]; exact .inr (by have := h10; rw [Lib.strCells_eq] at this; exact this))
          have HL10 := Lib.hid (show (T ++ (vb.data.toList ++ [32] ++ Lib.itoa cc) ++ ([32] ++ tx.data.toList)).length ≤ 320000 by rw [← eM3.out, List.length_append, size_listB]; have := HSZ3.out; have := HL9.out; omega)
          have B10 := Lib.hid (B9.out.trans d10)
          have HBW10 := Lib.hid (Nat.le_trans HBW9.out d10.size)
          clear h10 k10 d10 I9 B9
          go_wp2_with fail
          refine (writeKT b b _ ⟨#[10]⟩ _ I10.out (by rw [Lib.byteCells_length]; have := HL10.out; show _ + 1 ≤ _; omega) HBW10.out).mono ?_
          rintro e w11 ⟨rfl, h11, d11, k11⟩
          have I11 : Hid (Lib.IsBuilderF 96 5 b b (Lib.byteCells (stepsG (l.take (k + 1)))) w11) := Lib.hid (by rw [HF.out, Lib.byteCells_append]; exact .inr (by have := h11; rw [Lib.strCells_eq] at this; exact this))
          have B11 := Lib.hid (B10.out.trans d11)
          clear h11 k11 d11 I10 B10
          go_wp2_with fail
          go_roundw
          case rel => exact ⟨k + 1, by have := HLT.out; omega, by go_num, I11, B11⟩
          case measure => have := HLT.out; simp [intOf]; omega
    · obtain rfl : k = l.length := by omega
      have P := Lib.hid (stringFT b b _ wo (by have := hI.out; rw [List.take_length] at this; exact this) hbl)
      clear hI
      go_wp2_with fail
      refine P.out.mono ?_
      rintro e w6 ⟨rfl, -, d6⟩
      go_wp2_with fail
      go_ret
      exact ⟨rfl, by have := Hb.out; rw [this] at d6; exact hbw.out.trans d6⟩
end Go.Proofs.YtanjcjnkppnhcaaGreatDoor

namespace Go.Proofs.YtanjcjnkppnhcaaGreatDoor
open Go Go.RowKit

theorem word_pre {a r : List UInt8} (ha : a ≠ []) (h : ∀ c ∈ a, c ≠ 32) (hr : r = [] ∨ r.head? = some 32) : wordP (a ++ r) = (a, r) := by
  have hl := List.length_pos_iff.2 ha
  have key := word_at (l := a ++ r) (i := 0) (k := a.length) (Nat.zero_le _) (by simp) (fun j hj => by omega) (by
      rw [List.getElem?_append_left hl]
      intro e
      exact h _ (List.mem_of_getElem? e) rfl)
    (fun j _ hj e => by
      rw [List.getElem?_append_left hj] at e
      exact h _ (List.mem_of_getElem? e) rfl)
    (by
      rcases hr with rfl | hr
      · left; simp
      · right
        rw [List.getElem?_append_right (Nat.le_refl _), Nat.sub_self, ← List.head?_eq_getElem?, hr])
  rw [key]
  simp
theorem word_sp (l : List UInt8) : wordP (32 :: l) = wordP l := by
  have : Lib.trimLeftB (32 :: l) 32 = Lib.trimLeftB l 32 := by unfold Lib.trimLeftB; simp
  unfold wordP
  rw [this]
theorem digit_toNat {d : Nat} (h : d < 10) : (UInt8.ofNat (48 + d)).toNat = 48 + d := by
  rw [UInt8.toNat_ofNat']
  omega
theorem digit_is {d : Nat} (h : d < 10) : digB (UInt8.ofNat (48 + d)) = true := by
  unfold digB
  rw [digit_toNat h]
  simp; omega
theorem dd_digits (n : Nat) : (Lib.decDigits n).all digB = true := by
  induction n using Nat.strongRecOn with
  | _ n ih =>
    rw [Lib.decDigits]
    split
    · rename_i h
      simp only [List.all_cons, List.all_nil, digit_is h, Bool.and_true]
    · rename_i h
      rw [List.all_append, ih (n / 10) (by omega)]
      simp only [List.all_cons, List.all_nil, digit_is (Nat.mod_lt n (by decide : 10 > 0)), Bool.and_true]
theorem dd_num (n : Nat) : numV (Lib.decDigits n) = n := by
  induction n using Nat.strongRecOn with
  | _ n ih =>
    rw [Lib.decDigits]
    split
    · rename_i h
      have := numV_snoc [] (UInt8.ofNat (48 + n))
      rw [List.nil_append, digit_toNat h] at this
      rw [this]
      show 10 * 0 + _ = _
      omega
    · rename_i h
      rw [numV_snoc, ih (n / 10) (by omega), digit_toNat (Nat.mod_lt n (by decide : 10 > 0))]
      omega
theorem dd_ne (n : Nat) : Lib.decDigits n ≠ [] := by
  intro h
  have := Lib.decDigits_length n
  rw [h] at this
  have h1 := Lib.nDigits_pos n
  simp at this
  omega
theorem dd_head : ∀ n : Nat, 1 ≤ n → (Lib.decDigits n).head? ≠ some 48 := by
  intro n
  induction n using Nat.strongRecOn with
  | _ n ih =>
    intro h1
    rw [Lib.decDigits]
    split
    · rename_i h
      intro e
      have := Option.some.inj e
      have := congrArg UInt8.toNat this
      rw [digit_toNat h] at this
      have h48 : (48 : UInt8).toNat = 48 := rfl
      omega
    · rename_i h
      have := ih (n / 10) (by omega) (by omega)
      rw [List.head?_append]
      cases hd : Lib.decDigits (n / 10) with
      | nil => exact absurd hd (dd_ne _)
      | cons a l => rw [hd] at this; simpa using this
theorem nd_le : ∀ (k n : Nat), n < 10 ^ (k + 1) → Lib.nDigits n ≤ k + 1
  | 0, n, h => by rw [Lib.nDigits_small (by simpa using h)]; exact Nat.le_refl _
  | k + 1, n, h => by
    by_cases h10 : n < 10
    · rw [Lib.nDigits_small h10]; omega
    · rw [Lib.nDigits_big h10]
      have := nd_le k (n / 10) (by rw [Nat.pow_succ] at h; omega)
      omega
theorem num_dd {n : Nat} (h1 : 1 ≤ n) (h2 : n ≤ 1000000) : numP (Lib.decDigits n) = (n, true) := by
  have hl : (Lib.decDigits n).length ≤ 7 := by rw [Lib.decDigits_length]; exact nd_le 6 n (by omega)
  unfold numP
  rw [if_neg (by
      rintro (h | h | h)
      · exact dd_ne n h
      · omega
      · exact dd_head n h1 h.2), if_neg (by rw [dd_digits]; simp), dd_num, if_neg (by omega)]
/-- Verb of a reword. -/
abbrev isRw (v : ByteArray) : Bool := v.toList == [114, 101, 119, 111, 114, 100]
/-- A step that a text can have. -/
def StepCan (x : Fl) : Prop := knownV x.1 = true ∧ 1 ≤ x.2.1 ∧ x.2.1 ≤ 1000000 ∧ (isRw x.1 = true → x.2.2.data.toList ≠ [] ∧ x.2.2.size ≤ 256 ∧ (nls x.2.2.data.toList).length = 1)
/-- A step, as far as its text has it. -/
def nrmS (x : Fl) : Fl := (x.1, x.2.1, if isRw x.1 = true then x.2.2 else ⟨#[]⟩)
def tailL (x : Fl) : List UInt8 := if isRw x.1 = true then [32] ++ x.2.2.data.toList else []
def lineL (x : Fl) : List UInt8 := x.1.data.toList ++ (32 :: (Lib.itoa x.2.1 ++ tailL x))
theorem stepG_line (x : Fl) : stepG x = lineL x ++ [10] := by
  unfold stepG lineL tailL
  split <;> simp_all
theorem verb_bytes {v : ByteArray} (h : knownV v = true) : v.data.toList ≠ [] ∧ ∀ c ∈ v.data.toList, c ≠ 32 ∧ c ≠ 10 ∧ c ≠ 35 := by
  rw [← ByteArray.toList_eq]
  unfold knownV at h
  simp only [Bool.or_eq_true, beq_iff_eq] at h
  rcases h with ((((h | h) | h) | h) | h) | h <;> rw [h] <;> decide
theorem dig_bytes {l : List UInt8} (h : l.all digB = true) : ∀ c ∈ l, c ≠ 32 ∧ c ≠ 10 := by
  intro c hc
  have := List.all_eq_true.1 h c hc
  unfold digB at this
  simp only [Bool.and_eq_true, decide_eq_true_eq] at this
  constructor <;> (rintro rfl; revert this; decide)
theorem nls_two : ∀ l : List UInt8, (10 : UInt8) ∈ l → 2 ≤ (nls l).length
  | [], h => by cases h
  | a :: l, h => by
    have hn := List.length_pos_iff.2 (nls_ne l)
    by_cases ha : a = 10
    · rw [nls_ten ha, List.length_cons]; omega
    · have hm : (10 : UInt8) ∈ l := (List.mem_cons.1 h).resolve_left (fun e => ha e.symm)
      have := nls_two l hm
      cases hx : nls l with
      | nil => exact absurd hx (nls_ne l)
      | cons x xs => rw [nls_more ha hx]; rw [hx] at this; simpa using this
theorem nls_one {l : List UInt8} (h : (nls l).length = 1) : ∀ c ∈ l, c ≠ 10 := by
  intro c hc e
  subst e
  have := nls_two l hc
  omega
theorem line_bytes {x : Fl} (h : StepCan x) : ∀ c ∈ lineL x, c ≠ 10 := by
  obtain ⟨h1, h2, h3, h4⟩ := h
  intro c hc
  unfold lineL at hc
  rcases List.mem_append.1 hc with hc | hc
  · exact ((verb_bytes h1).2 c hc).2.1
  rcases List.mem_cons.1 hc with rfl | hc
  · decide
  rcases List.mem_append.1 hc with hc | hc
  · obtain ⟨n, hn⟩ : ∃ n : Nat, x.2.1 = (n : Int) := ⟨x.2.1.toNat, by omega⟩
    rw [hn, Lib.itoa_nonneg] at hc
    exact (dig_bytes (dd_digits n) c hc).2
  · unfold tailL at hc
    split at hc
    · rename_i hr
      rcases List.mem_append.1 hc with hc | hc
      · rw [List.mem_singleton.1 hc]; decide
      · exact nls_one (h4 hr).2.2 c hc
    · cases hc
theorem nls_line {a r : List UInt8} (h : ∀ c ∈ a, c ≠ 10) : nls (a ++ [10] ++ r) = a :: nls r := by
  have e : (a ++ [10] ++ r)[a.length]? = some 10 := by simp
  rw [nls_hit e (fun k hk e => by
    rw [List.append_assoc, List.getElem?_append_left hk] at e
    exact h _ (List.mem_of_getElem? e) rfl)]
  congr 1
  · simp
  · congr 1
    rw [List.append_assoc, List.drop_append, List.drop_eq_nil_of_le (by omega)]
    simp
theorem step_line {x : Fl} (h : StepCan x) : ¬ ((wordP (lineL x)).1 = [] ∨ (wordP (lineL x)).1.head? = some 35) ∧ stepP (lineL x) = (nrmS x, 0) := by
  obtain ⟨h1, h2, h3, h4⟩ := h
  obtain ⟨v1, v2⟩ := verb_bytes h1
  obtain ⟨n, hn⟩ : ∃ n : Nat, x.2.1 = (n : Int) := ⟨x.2.1.toNat, by omega⟩
  have W1 : wordP (lineL x) = (x.1.data.toList, 32 :: (Lib.itoa x.2.1 ++ tailL x)) := word_pre v1 (fun c hc => (v2 c hc).1) (.inr rfl)
  have W2 : wordP (32 :: (Lib.itoa x.2.1 ++ tailL x)) = (Lib.decDigits n, tailL x) := by
    rw [word_sp, hn, Lib.itoa_nonneg]
    exact word_pre (dd_ne n) (fun c hc => (dig_bytes (dd_digits n) c hc).1) (by unfold tailL; split <;> simp)
  refine ⟨?_, ?_⟩
  · rw [W1]
    rintro (e | e)
    · exact v1 e
    · exact (v2 35 (List.mem_of_mem_head? e)).2.2 rfl
  · have T : textP x.1 (tailL x) = ((nrmS x).2.2.data.toList, 0) := by
      unfold textP nrmS tailL
      cases hr : isRw x.1 with
      | false =>
        have hr' : (x.1.toList == [114, 101, 119, 111, 114, 100]) = false := hr
        rw [if_pos hr']; simp only [Bool.false_eq_true, if_false]; rw [if_pos (show Lib.trimB [] 32 = [] from rfl)]
      | true =>
        obtain ⟨t1, t2, -⟩ := h4 hr
        have e : Lib.trimPrefix ([32] ++ x.2.2.data.toList) [32] = x.2.2.data.toList := by unfold Lib.trimPrefix Lib.hasPrefix; simp
        rw [if_neg (by unfold isRw at hr; rw [hr]; simp), if_pos rfl, e, if_neg t1, if_neg (by rw [size_listB]; omega)]
        simp
    unfold stepP
    rw [W1]
    dsimp only
    rw [W2]
    dsimp only
    rw [mkW_list, num_dd (by omega) (by omega), T, if_neg (dd_ne n), if_neg (by rw [h1]; simp), if_neg (by simp; omega), if_neg (by simp)]
    unfold nrmS
    rw [hn, mkW_list]
theorem parse_back : ∀ (l : List Fl) (i : Nat) (acc : List Fl), acc.length + l.length ≤ 32 → (∀ x ∈ l, StepCan x) → parseP (nls (stepsG l)) i acc = .inl (acc ++ l.map nrmS)
  | [], i, acc, _, _ => by
    have e : nls (stepsG []) = [[]] := rfl
    rw [e, parse_skip (.inl (by decide)), parseP]
    simp
  | x :: l, i, acc, h, hx => by
    have e : stepsG (x :: l) = lineL x ++ [10] ++ stepsG l := by unfold stepsG; rw [List.flatMap_cons, stepG_line]
    obtain ⟨a, b⟩ := step_line (hx x List.mem_cons_self)
    rw [List.length_cons] at h
    rw [e, nls_line (line_bytes (hx x List.mem_cons_self)), parse_step a, b, if_neg (by simp), if_neg (by omega), parse_back l (i + 1) (acc ++ [nrmS x]) (by simp; omega) (fun y hy => hx y (List.mem_cons_of_mem _ hy))]
    simp
#print axioms parse_back
end Go.Proofs.YtanjcjnkppnhcaaGreatDoor

namespace Go.Proofs.YtanjcjnkppnhcaaGreatDoor
open Go Go.RowKit

attribute [-go_sem] run_string_add_if
set_option maxRecDepth 100000 in
set_option maxHeartbeats 8000000 in
theorem refText_all (w : World) (v : Value) (l : List Fl) (h : Reads 3 cF w v l) (hl : l.length ≤ 100) (h2 : ∀ x ∈ l, StepOkG x) :
    Calls Tryz.prog 20 #[v] w fun e w' => e = .returned (.string ⟨(stepsG l).toArray⟩) ∧ Below w.heap.size w w' := by
  obtain ⟨A, c, rfl⟩ := h.form
  have HH := Lib.hid h
  have H2 := Lib.hid h2
  have ln0 : (0 : Int) ≤ (l.length : Int) := Int.natCast_nonneg _
  have ln9 : (l.length : Int) ≤ 100 := by omega
  clear h h2
  go_enter Tryz.func20, Tryz.ntmps20
  go_wp2_with fail
  go_loopw [3, 4] (fun s3 s4 wr => ∃ (k : Nat) (t : ByteArray), k ≤ l.length ∧ s4 = .int .i64 k ∧ s3 = .string t ∧ Hid (t.data.toList = stepsG (l.take k)) ∧ Hid (Below w.heap.size w wr)) (fun _ s4 _ => l.length - (intOf s4).toNat)
  case atStart => exact ⟨0, ⟨#[]⟩, Nat.zero_le _, rfl, rfl, Lib.hid rfl, Lib.hid (Below.refl _ _)⟩
  case round =>
    obtain ⟨k, t, hk, rfl, rfl, hI, hB⟩ := hrel
    have k0 : (0 : Int) ≤ (k : Int) := Int.natCast_nonneg _
    by_cases hlt : k < l.length
    · have k1 : (k : Int) < (l.length : Int) := by omega
      obtain ⟨x, hx⟩ : ∃ x, l[k]? = some x := ⟨_, List.getElem?_eq_getElem hlt⟩
      obtain ⟨ad, rfl, c0, c1, c2⟩ := Fils.at_ (HH.out.below hB.out) hx
      obtain ⟨s1x, s2x, s3x, s4x⟩ := H2.out x (List.mem_of_getElem? hx)
      have hTL := stepsG_le (l := l.take k) (fun y hy => H2.out y (List.mem_of_mem_take hy))
      rw [List.length_take] at hTL
      have htz : t.size ≤ 300000 := by rw [← size_listB, hI.out]; omega
      have HTK := Lib.hid (show stepsG (l.take (k + 1)) = stepsG (l.take k) ++ stepG x by unfold stepsG; obtain ⟨hk', rfl⟩ := List.getElem?_eq_some_iff.1 hx; rw [List.take_succ_eq_append_getElem hk', List.flatMap_append]; simp)
      obtain ⟨vb, cc, tx⟩ := x
      dsimp only at c0 c1 c2 s1x s2x s3x s4x
      have y1 := numB_size s3x s4x
      have z1 : (ByteArray.mk #[32]).size = 1 := rfl
      have z2 : (ByteArray.mk #[10]).size = 1 := rfl
      obtain ⟨s1, e1, n1, p1⟩ := sum_namedT t vb (by omega)
      obtain ⟨s2, e2, n2, p2⟩ := sum_namedT s1 ⟨#[32]⟩ (by omega)
      obtain ⟨s3, e3, n3, p3⟩ := sum_namedT s2 (numB cc) (by omega)
      obtain ⟨s4, e4, n4, p4⟩ := sum_namedT s3 ⟨#[32]⟩ (by omega)
      obtain ⟨s5, e5, n5, p5⟩ := sum_namedT s4 tx (by omega)
      obtain ⟨s6, e6, n6, p6⟩ := sum_namedT s3 ⟨#[10]⟩ (by omega)
      obtain ⟨s7, e7, n7, p7⟩ := sum_namedT s5 ⟨#[10]⟩ (by omega)
      have eM : Hid (s6.data.toList = stepsG (l.take k) ++ vb.data.toList ++ [32] ++ Lib.itoa cc ++ [10]) := Lib.hid (by rw [e6, e3, e2, e1, data_app, data_app, data_app, data_app, hI.out]; unfold numB; simp)
      have eM7 : Hid (s7.data.toList = stepsG (l.take k) ++ vb.data.toList ++ [32] ++ Lib.itoa cc ++ [32] ++ tx.data.toList ++ [10]) := Lib.hid (by rw [e7, e5, e4, e3, e2, e1, data_app, data_app, data_app, data_app, data_app, data_app, hI.out]; unfold numB; simp)
      have DC := Lib.hid fun W => refDecimal_all cc s3x s4x W
      have HLT := Lib.hid hlt
      have q0 : (wr.drew).cell? (ad.add (k * 3)) = some (.string vb) ∧ (wr.drew).cell? ⟨(ad.add (k * 3)).block, (ad.add (k * 3)).off + 1, none⟩ = some (.int .i64 cc) := ⟨c0, c1⟩
      have Q2 := Lib.hid c2
      have dd : Below wr.heap.size wr wr.drew := (Below.refl _ _).drew
      have LT0 := Lib.hid (World.block_lt_of_cell? _ _ c0)
      have LT2 := Lib.hid (World.block_lt_of_cell? _ _ c2)
      have DD := Lib.hid dd
      clear hx hTL hI e1 e2 e3 e4 e5 e6 e7 n1 n2 n3 n4 n5 n6 n7 z1 z2 s1x s2x s3x s4x hlt hk htz dd c2
      go_upto_region 5 with fail
      go_region_held3 (fun w' => w'.cell? (ad.add (k * 3)) = some (.string vb) ∧ w'.cell? ⟨(ad.add (k * 3)).block, (ad.add (k * 3)).off + 1, none⟩ = some (.int .i64 cc)) (first | exact q0 | exact q1) (first | (go_at_call 48; (with_reducible refine (DC.out _).mono ?_); rintro e w1 ⟨rfl, b1⟩; have B1 := Lib.hid (hB.out.trans ((DD.out.trans (b1.mono DD.out.size)).mono hB.out.size)); have q1 := (show w1.cell? (ad.add (k * 3)) = some (.string vb) ∧ w1.cell? ⟨(ad.add (k * 3)).block, (ad.add (k * 3)).off + 1, none⟩ = some (.int .i64 cc) from ⟨(b1.cell LT0.out).trans q0.1, (b1.cell (p := ⟨(ad.add (k * 3)).block, (ad.add (k * 3)).off + 1, none⟩) LT0.out).trans q0.2⟩); have r2 := ((b1.cell LT2.out).trans Q2.out : w1.cell? ⟨(ad.add (k * 3)).block, (ad.add (k * 3)).off + 2, none⟩ = some (.string tx))))
      all_goals
        obtain ⟨r0, r1⟩ := q1
        clear q0 c0 c1 b1 hB
        cases hr : (vb.toList == [114, 101, 119, 111, 114, 100]) with
        | false =>
          have HF := Lib.hid (show s6.data.toList = stepsG (l.take (k + 1)) by rw [HTK.out, eM.out]; unfold stepG; dsimp only; rw [hr, if_neg (by simp)]; simp)
          clear p1 p2 p3 p4 p5 p7
          go_wp2_with fail
          go_roundw
          case rel => exact ⟨k + 1, s6, by have := HLT.out; omega, by go_num, rfl, HF, B1⟩
          case measure => have := HLT.out; simp [intOf]; omega
        | true =>
          have HF := Lib.hid (show s7.data.toList = stepsG (l.take (k + 1)) by rw [HTK.out, eM7.out]; unfold stepG; dsimp only; rw [hr, if_pos rfl]; simp)
          clear p1 p2 p3 p6
          go_wp2_with fail
          go_roundw
          case rel => exact ⟨k + 1, s7, by have := HLT.out; omega, by go_num, rfl, HF, B1⟩
          case measure => have := HLT.out; simp [intOf]; omega
    · obtain rfl : k = l.length := by omega
      clear hlt
      go_wp2
      go_ret
      refine ⟨?_, hB.out⟩
      have := hI.out
      rw [List.take_length] at this
      rw [← this]
      rfl
#print axioms refText_all
end Go.Proofs.YtanjcjnkppnhcaaGreatDoor
