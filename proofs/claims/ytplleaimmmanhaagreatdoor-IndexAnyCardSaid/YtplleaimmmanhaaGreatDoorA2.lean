/-
  A Fault's Error and the document's Words, at any part, any number whose digits are known, any Errno.
  rectoref14.CheckIndex: what is wrong first, as the program's Check tells it.
  What is wrong with entries has one of the fourteen words, and stands at one of them.
  rectoref14.Encode: the document's bytes of entries are the program's; or what is wrong.
  A Dec that ends too early.
  A Dec that ends too early: fail, Int, Err, Left.
  errors.As at a Fault: the Fault itself.
  errors.Is at a Fault that wraps an Errno.
  Tells: a Fault of one part is told as the document tells it.
-/
import Derived.Test.YtplleaimmmanhaaGreatDoorA1
import Derived.Test.YtplleaimmmanhaaGreatDoorP4
import Derived.Test.YtplleaimmmanhaaGreatDoorP6
import Derived.Test.YtplleaimmmanhaaGreatDoorP7
import Derived.LaidEql
import Derived.Stop.Asserts
import Derived.RowKitTokens
namespace Go.Proofs.YtplleaimmmanhaaGreatDoor
open Go Go.RowKit

/-- 'part digits: word'. -/
def fwG (p D s : ByteArray) : ByteArray := (((p ++ ⟨#[32]⟩) ++ D) ++ ⟨#[58, 32]⟩) ++ s
abbrev wrongG (g : Nat) (e : Int) : Value := .agg #[.slice (some ⟨g, 0, none⟩) 1 1, .int .i64 e]
theorem size32 : (ByteArray.mk #[32]).size = 1 := rfl
theorem size58 : (ByteArray.mk #[58, 32]).size = 2 := rfl

attribute [-go_sem] run_string_add_if
set_option maxRecDepth 100000 in
set_option maxHeartbeats 4000000 in
theorem fault_says (w : World) (F : Nat) (p D : ByteArray) (n e : Int) (hF : Blk w F 93 #[.string p, .int .i64 n, .iface 88 (.int .i64 e)]) (hp : p.size ≤ 1000) (hd : D.size ≤ 100) (he : To14 e)
    (hI : ∀ W, Calls Tryz.prog 195 #[.int .i64 n] W fun x w' => x = .returned (.string D) ∧ w' = W) :
    Calls Tryz.prog 193 #[.pointer (some ⟨F, 0, none⟩)] w fun x w' => x = .returned (.string (fwG p D (ew e))) ∧ ∃ k, w' = w.drewN k := by
  have c0 := hF.cell 0
  have c1 := hF.cell 1
  have c2 := hF.cell 2
  have hFl := hF.lt
  have mE := invokeErrno
  have nE := nilErrno
  have IT := Lib.hid hI
  have SH := Lib.hid fun W => errno_any e he W
  have hes := ew_size he
  obtain ⟨s1, hs1, hz1, hr1⟩ := sum_named p ⟨#[32]⟩ (by rw [size32]; omega)
  rw [size32] at hz1
  obtain ⟨s2, hs2, hz2, hr2⟩ := sum_named s1 D (by omega)
  obtain ⟨s3, hs3, hz3, hr3⟩ := sum_named s2 ⟨#[58, 32]⟩ (by rw [size58]; omega)
  rw [size58] at hz3
  obtain ⟨s4, hs4, hz4, hr4⟩ := sum_named s3 (ew e) (by omega)
  have HS : Hid (s4 = fwG p D (ew e)) := Lib.hid (by rw [hs4, hs3, hs2, hs1]; rfl)
  clear hF hs1 hs2 hs3 hs4 hz1 hz2 hz3 hz4 hI he
  obtain ⟨s, hs⟩ : ∃ s, s = ew e := ⟨_, rfl⟩
  rw [← hs] at SH hr4 hes HS
  rw [← hs]
  clear hs
  go_enter Tryz.func193, Tryz.ntmps193
  go_wp2_with fail
  go_quiet ((first | (go_at_call 195; exact Calls.quiet_of_same (IT.out _)) | (go_at_call 192; exact Calls.quiet_of_same (SH.out _))))
  go_wp2_with fail
  go_ret
  exact ⟨by rw [HS.out]; rfl, nq, rfl⟩

structure WG (w0 w : World) (B1 g : Nat) (p : ByteArray) (n e : Int) : Prop where
  box : Blk w B1 36 #[.slice (some ⟨g, 0, none⟩) 1 1, .int .i64 e]
  part : Blk w g 95 #[.string p, .int .i64 n]
  bel : Below w0.heap.size w0 w
theorem WG.below {w0 w w' : World} {B1 g : Nat} {p : ByteArray} {n e : Int} (h : WG w0 w B1 g p n e) (hb : Below w.heap.size w w') : WG w0 w' B1 g p n e :=
  ⟨h.box.below hb h.box.lt, h.part.below hb h.part.lt, h.bel.trans (hb.mono h.bel.size)⟩
theorem WG.drew {w0 w w' : World} {B1 g : Nat} {p : ByteArray} {n e : Int} (h : WG w0 w B1 g p n e) (hb : Below w.drew.heap.size w.drew w') : WG w0 w' B1 g p n e := (h.below (below_drewN (Below.refl _ w) 1)).below hb
theorem WG.cells {w0 w : World} {B1 g : Nat} {p : ByteArray} {n e : Int} (h : WG w0 w B1 g p n e) : w.cell? ⟨B1, 0, none⟩ = some (.slice (some ⟨g, 0, none⟩) 1 1) ∧ w.cell? ⟨g, 0, none⟩ = some (.string p) ∧ w.cell? ⟨g, 1, none⟩ = some (.int .i64 n) := ⟨h.box.cell 0, h.part.cell 0, h.part.cell 1⟩

set_option maxRecDepth 100000 in
set_option maxHeartbeats 4000000 in
theorem words_says (w : World) (g : Nat) (p D : ByteArray) (n e : Int) (hg : Blk w g 95 #[.string p, .int .i64 n]) (hp : p.size ≤ 1000) (hd : D.size ≤ 100) (he : To14 e)
    (hI : ∀ W, Calls Tryz.prog 93 #[.int .i64 n] W fun x w' => x = .returned (.string D) ∧ Below W.heap.size W w') :
    Calls Tryz.prog 45 #[wrongG g e] w fun x w' => x = .returned (.string (fwG p D (ew e))) ∧ Below w.heap.size w w' := by
  have T0 := Lib.hid (WG.mk (w0 := w) (heap_alloc_new w (.cells #[.slice (some ⟨g, 0, none⟩) 1 1, .int .i64 e] 36)) (hg.below ((Below.refl _ _).alloc (Nat.le_refl _) _) hg.lt) ((Below.refl _ _).alloc (Nat.le_refl _) _))
  have DEC := Lib.hid hI
  have SH := Lib.hid fun W => refWord_any e he W
  have hes := ew_size he
  obtain ⟨s0, hs0, hz0, hr0⟩ := sum_named ⟨#[]⟩ p (by show 0 + p.size ≤ _; omega)
  have e0 : s0 = p := by rw [hs0]; exact ByteArray.empty_append
  subst e0
  obtain ⟨s1, hs1, hz1, hr1⟩ := sum_named s0 ⟨#[32]⟩ (by rw [size32]; omega)
  rw [size32] at hz1
  obtain ⟨s2, hs2, hz2, hr2⟩ := sum_named s1 D (by omega)
  obtain ⟨s3, hs3, hz3, hr3⟩ := sum_named s2 ⟨#[58, 32]⟩ (by rw [size58]; omega)
  rw [size58] at hz3
  obtain ⟨s4, hs4, hz4, hr4⟩ := sum_named s3 (ew e) (by omega)
  have HS : Hid (s4 = fwG s0 D (ew e)) := Lib.hid (by rw [hs4, hs3, hs2, hs1]; rfl)
  clear hg hs0 hz0 hs1 hs2 hs3 hs4 hz1 hz2 hz3 hz4 hI he
  obtain ⟨s, hs⟩ : ∃ s, s = ew e := ⟨_, rfl⟩
  rw [← hs] at SH hr4 hes HS
  rw [← hs]
  clear hs
  have c0 := T0.out.box.cell 0
  have c1 := T0.out.box.cell 1
  go_enter Tryz.func45, Tryz.ntmps45
  go_wp2_with fail
  refine wp_loop_rounds 2 ?_
  rw [rounds_succ]
  go_wp2_with fail
  refine wp_region_held_drew (S := fun w' => w'.cell? ⟨w.heap.size, 0, none⟩ = some (.slice (some ⟨g, 0, none⟩) 1 1) ∧ w'.cell? ⟨g, 0, none⟩ = some (.string s0) ∧ w'.cell? ⟨g, 1, none⟩ = some (.int .i64 n)) (by kernel_rfl) (T0.out.cells) (fun hHeld => ?_)
  refine wpAnyH_take (i := 0) (oi := { dst := some 12, op := Op.move (Operand.tmp 3), type := 9, pos := "ref.go:62", after := #[], guard := none }) (v := ?vw0) rfl (by kernel_rfl) (by kernel_rfl) (by kernel_rfl) (fun _ _ _ h => h) (Or.inl ⟨by rfl, ?yw0⟩) (by assumption) ?rw0
  case yw0 => (intro w' hSw; (try dsimp only at hSw); go_simp; try with_reducible rfl)
  try simp only [Act.put, List.setIfInBounds_toArray, List.set_cons_zero, List.set_cons_succ]
  refine wpAnyH_take (i := 1) (oi := { dst := some 13, op := Op.fieldAddr 36 (Operand.tmp 1) 0, type := 0, pos := "ref.go:62", after := #[], guard := none }) (v := ?vw1) rfl (by kernel_rfl) (by kernel_rfl) (by kernel_rfl) (fun _ _ _ h => h) (Or.inl ⟨by rfl, ?yw1⟩) (by assumption) ?rw1
  case yw1 => (intro w' hSw; (try dsimp only at hSw); go_simp; try with_reducible rfl)
  try simp only [Act.put, List.setIfInBounds_toArray, List.set_cons_zero, List.set_cons_succ]
  refine wpAnyH_take (i := 2) (oi := { dst := some 14, op := Op.load 34 (Operand.tmp 13), type := 34, pos := "ref.go:62", after := #[{ on := 1, ground := Ground.data }], guard := none }) (v := ?vw2) rfl (by kernel_rfl) (by kernel_rfl) (by kernel_rfl) (fun _ _ _ h => h) (Or.inl ⟨by rfl, ?yw2⟩) (by assumption) ?rw2
  case yw2 => (intro w' hSw; (try dsimp only at hSw); go_simp; try with_reducible rfl)
  try simp only [Act.put, List.setIfInBounds_toArray, List.set_cons_zero, List.set_cons_succ]
  refine wpAnyH_take (i := 3) (oi := { dst := some 15, op := Op.move (Operand.tmp 4), type := 3, pos := "ref.go:62", after := #[], guard := none }) (v := ?vw3) rfl (by kernel_rfl) (by kernel_rfl) (by kernel_rfl) (fun _ _ _ h => h) (Or.inl ⟨by rfl, ?yw3⟩) (by assumption) ?rw3
  case yw3 => (intro w' hSw; (try dsimp only at hSw); go_simp; try with_reducible rfl)
  try simp only [Act.put, List.setIfInBounds_toArray, List.set_cons_zero, List.set_cons_succ]
  refine wpAnyH_take (i := 4) (oi := { dst := some 16, op := Op.indexAddr 34 (Operand.tmp 14) (Operand.tmp 15), type := 0, pos := "ref.go:62", after := #[{ on := 2, ground := Ground.data }, { on := 3, ground := Ground.data }], guard := none }) (v := ?vw4) rfl (by kernel_rfl) (by kernel_rfl) (by kernel_rfl) (fun _ _ _ h => h) (Or.inl ⟨by rfl, ?yw4⟩) (by assumption) ?rw4
  case yw4 => (intro w' hSw; (try dsimp only at hSw); go_simp; try with_reducible rfl)
  try simp only [Act.put, List.setIfInBounds_toArray, List.set_cons_zero, List.set_cons_succ]
  refine wpAnyH_take (i := 5) (oi := { dst := some 17, op := Op.fieldAddr 95 (Operand.tmp 16) 0, type := 0, pos := "ref.go:62", after := #[{ on := 4, ground := Ground.data }], guard := none }) (v := ?vw5) rfl (by kernel_rfl) (by kernel_rfl) (by kernel_rfl) (fun _ _ _ h => h) (Or.inl ⟨by rfl, ?yw5⟩) (by assumption) ?rw5
  case yw5 => (intro w' hSw; (try dsimp only at hSw); go_simp; try with_reducible rfl)
  try simp only [Act.put, List.setIfInBounds_toArray, List.set_cons_zero, List.set_cons_succ]
  refine wpAnyH_take (i := 6) (oi := { dst := some 18, op := Op.load 9 (Operand.tmp 17), type := 9, pos := "ref.go:62", after := #[{ on := 5, ground := Ground.data }], guard := none }) (v := ?vw6) rfl (by kernel_rfl) (by kernel_rfl) (by kernel_rfl) (fun _ _ _ h => h) (Or.inl ⟨by rfl, ?yw6⟩) (by assumption) ?rw6
  case yw6 => (intro w' hSw; (try dsimp only at hSw); go_simp; try with_reducible rfl)
  try simp only [Act.put, List.setIfInBounds_toArray, List.set_cons_zero, List.set_cons_succ]
  refine wpAnyH_take (i := 7) (oi := { dst := some 19, op := Op.binOp BinOp.add 9 (Operand.tmp 12) (Operand.tmp 18) 9, type := 9, pos := "ref.go:62", after := #[{ on := 0, ground := Ground.data }, { on := 6, ground := Ground.data }], guard := none }) (v := ?vw7) rfl (by kernel_rfl) (by kernel_rfl) (by kernel_rfl) (fun _ _ _ h => h) (Or.inl ⟨by rfl, ?yw7⟩) (by assumption) ?rw7
  case yw7 => (intro w' hSw; (try dsimp only at hSw); go_simp; try with_reducible rfl)
  try simp only [Act.put, List.setIfInBounds_toArray, List.set_cons_zero, List.set_cons_succ]
  refine wpAnyH_take (i := 8) (oi := { dst := some 20, op := Op.binOp BinOp.add 9 (Operand.tmp 19) (Operand.const (Value.string { data := #[32] })) 9, type := 9, pos := "ref.go:62", after := #[{ on := 7, ground := Ground.data }], guard := none }) (v := ?vw8) rfl (by kernel_rfl) (by kernel_rfl) (by kernel_rfl) (fun _ _ _ h => h) (Or.inl ⟨by rfl, ?yw8⟩) (by assumption) ?rw8
  case yw8 => (intro w' hSw; (try dsimp only at hSw); go_simp; try with_reducible rfl)
  try simp only [Act.put, List.setIfInBounds_toArray, List.set_cons_zero, List.set_cons_succ]
  refine wpAnyH_take (i := 9) (oi := { dst := some 21, op := Op.fieldAddr 36 (Operand.tmp 1) 0, type := 0, pos := "ref.go:62", after := #[], guard := none }) (v := ?vw9) rfl (by kernel_rfl) (by kernel_rfl) (by kernel_rfl) (fun _ _ _ h => h) (Or.inl ⟨by rfl, ?yw9⟩) (by assumption) ?rw9
  case yw9 => (intro w' hSw; (try dsimp only at hSw); go_simp; try with_reducible rfl)
  try simp only [Act.put, List.setIfInBounds_toArray, List.set_cons_zero, List.set_cons_succ]
  refine wpAnyH_take (i := 10) (oi := { dst := some 22, op := Op.load 34 (Operand.tmp 21), type := 34, pos := "ref.go:62", after := #[{ on := 9, ground := Ground.data }], guard := none }) (v := ?vw10) rfl (by kernel_rfl) (by kernel_rfl) (by kernel_rfl) (fun _ _ _ h => h) (Or.inl ⟨by rfl, ?yw10⟩) (by assumption) ?rw10
  case yw10 => (intro w' hSw; (try dsimp only at hSw); go_simp; try with_reducible rfl)
  try simp only [Act.put, List.setIfInBounds_toArray, List.set_cons_zero, List.set_cons_succ]
  refine wpAnyH_take (i := 11) (oi := { dst := some 23, op := Op.move (Operand.tmp 4), type := 3, pos := "ref.go:62", after := #[], guard := none }) (v := ?vw11) rfl (by kernel_rfl) (by kernel_rfl) (by kernel_rfl) (fun _ _ _ h => h) (Or.inl ⟨by rfl, ?yw11⟩) (by assumption) ?rw11
  case yw11 => (intro w' hSw; (try dsimp only at hSw); go_simp; try with_reducible rfl)
  try simp only [Act.put, List.setIfInBounds_toArray, List.set_cons_zero, List.set_cons_succ]
  refine wpAnyH_take (i := 12) (oi := { dst := some 24, op := Op.indexAddr 34 (Operand.tmp 22) (Operand.tmp 23), type := 0, pos := "ref.go:62", after := #[{ on := 10, ground := Ground.data }, { on := 11, ground := Ground.data }], guard := none }) (v := ?vw12) rfl (by kernel_rfl) (by kernel_rfl) (by kernel_rfl) (fun _ _ _ h => h) (Or.inl ⟨by rfl, ?yw12⟩) (by assumption) ?rw12
  case yw12 => (intro w' hSw; (try dsimp only at hSw); go_simp; try with_reducible rfl)
  try simp only [Act.put, List.setIfInBounds_toArray, List.set_cons_zero, List.set_cons_succ]
  refine wpAnyH_take (i := 13) (oi := { dst := some 25, op := Op.fieldAddr 95 (Operand.tmp 24) 1, type := 0, pos := "ref.go:62", after := #[{ on := 12, ground := Ground.data }], guard := none }) (v := ?vw13) rfl (by kernel_rfl) (by kernel_rfl) (by kernel_rfl) (fun _ _ _ h => h) (Or.inl ⟨by rfl, ?yw13⟩) (by assumption) ?rw13
  case yw13 => (intro w' hSw; (try dsimp only at hSw); go_simp; try with_reducible rfl)
  try simp only [Act.put, List.setIfInBounds_toArray, List.set_cons_zero, List.set_cons_succ]
  refine wpAnyH_take (i := 14) (oi := { dst := some 26, op := Op.load 3 (Operand.tmp 25), type := 3, pos := "ref.go:62", after := #[{ on := 13, ground := Ground.data }], guard := none }) (v := ?vw14) rfl (by kernel_rfl) (by kernel_rfl) (by kernel_rfl) (fun _ _ _ h => h) (Or.inl ⟨by rfl, ?yw14⟩) (by assumption) ?rw14
  case yw14 => (intro w' hSw; (try dsimp only at hSw); go_simp; try with_reducible rfl)
  try simp only [Act.put, List.setIfInBounds_toArray, List.set_cons_zero, List.set_cons_succ]
  refine wpAnyH_ready (rs := [15]) (by kernel_rfl) (by simp) ?_
  refine AllReadyH.cons (o := { dst := some 27, op := Op.call { callee := Callee.value (Operand.func 93), args := #[Operand.tmp 26], argTypes := #[3] }, type := 9, pos := "ref.go:62", after := #[{ on := 14, ground := Ground.data }], guard := none }) rfl (fun K hK => ?_) AllReadyH.nil
  go_simp
  go_at_call 93
  refine (DEC.out _).mono ?_
  rintro e w2 ⟨rfl, hb2⟩
  have T2 := Lib.hid (WG.drew T0.out hb2)
  go_wp2_with fail
  refine hK.out _ _ (T2.out.cells) (fun hHeldw15 => ?_)
  clear hK K hHeld
  try simp only [Act.put, List.setIfInBounds_toArray, List.set_cons_zero, List.set_cons_succ]
  refine wpAnyH_take (i := 16) (oi := { dst := some 28, op := Op.binOp BinOp.add 9 (Operand.tmp 20) (Operand.tmp 27) 9, type := 9, pos := "ref.go:62", after := #[{ on := 8, ground := Ground.data }, { on := 15, ground := Ground.data }], guard := none }) (v := ?vw16) rfl (by kernel_rfl) (by kernel_rfl) (by kernel_rfl) (fun _ _ _ h => h) (Or.inl ⟨by rfl, ?yw16⟩) (by assumption) ?rw16
  case yw16 => (intro w' hSw; (try dsimp only at hSw); go_simp; try with_reducible rfl)
  try simp only [Act.put, List.setIfInBounds_toArray, List.set_cons_zero, List.set_cons_succ]
  refine wpAnyH_take (i := 17) (oi := { dst := some 29, op := Op.binOp BinOp.add 9 (Operand.tmp 28) (Operand.const (Value.string { data := #[58, 32] })) 9, type := 9, pos := "ref.go:62", after := #[{ on := 16, ground := Ground.data }], guard := none }) (v := ?vw17) rfl (by kernel_rfl) (by kernel_rfl) (by kernel_rfl) (fun _ _ _ h => h) (Or.inl ⟨by rfl, ?yw17⟩) (by assumption) ?rw17
  case yw17 => (intro w' hSw; (try dsimp only at hSw); go_simp; try with_reducible rfl)
  try simp only [Act.put, List.setIfInBounds_toArray, List.set_cons_zero, List.set_cons_succ]
  refine wpAnyH_take (i := 18) (oi := { dst := some 3, op := Op.assign (Operand.tmp 29), type := 9, pos := "ref.go:62", after := #[{ on := 17, ground := Ground.data }, { on := 15, ground := Ground.chain }, { on := 0, ground := Ground.phase }, { on := 1, ground := Ground.phase }, { on := 2, ground := Ground.phase }, { on := 3, ground := Ground.phase }, { on := 4, ground := Ground.phase }, { on := 5, ground := Ground.phase }, { on := 6, ground := Ground.phase }, { on := 7, ground := Ground.phase }, { on := 8, ground := Ground.phase }, { on := 9, ground := Ground.phase }, { on := 10, ground := Ground.phase }, { on := 11, ground := Ground.phase }, { on := 12, ground := Ground.phase }, { on := 13, ground := Ground.phase }, { on := 14, ground := Ground.phase }, { on := 15, ground := Ground.phase }, { on := 16, ground := Ground.phase }, { on := 17, ground := Ground.phase }], guard := none }) (v := ?vw18) rfl (by kernel_rfl) (by kernel_rfl) (by kernel_rfl) (fun _ _ _ h => h) (Or.inl ⟨by rfl, ?yw18⟩) (by assumption) ?rw18
  case yw18 => (intro w' hSw; (try dsimp only at hSw); go_simp; try with_reducible rfl)
  try simp only [Act.put, List.setIfInBounds_toArray, List.set_cons_zero, List.set_cons_succ]
  refine wpAnyH_done (by kernel_rfl) ?_ _
  clear T0
  have c0 := T2.out.box.cell 0
  have c1 := T2.out.box.cell 1
  go_wp2_with fail
  rw [rounds_succ]
  go_wp2_with fail
  refine (SH.out _).mono ?_
  rintro x w3 ⟨rfl, hb3⟩
  go_wp2_with fail
  go_ret
  exact ⟨by rw [HS.out]; rfl, (T2.out.below hb3).bel⟩
end Go.Proofs.YtplleaimmmanhaaGreatDoor
namespace Go.Proofs.YtplleaimmmanhaaGreatDoor
open Go Go.RowKit

set_option maxHeartbeats 1000000 in
theorem refAtE_any (p : ByteArray) (n e : Int) (w : World) : Calls Tryz.prog 49 #[.string p, .int .i64 n, .int .i64 e] w fun x w' => ∃ g, x = .returned (wrongG g e) ∧ Blk w' g 95 #[.string p, .int .i64 n] ∧ w.heap.size ≤ g ∧ Below w.heap.size w w' := by
  go_enter Tryz.func49, Tryz.ntmps49
  go_wp2
  refine bodyPost_ret (results_cell_row (fn := Tryz.f49) rfl _ _ w.heap.size 36 #[.slice (some ⟨w.heap.size + 1, 0, none⟩) 1 1, .int .i64 e] (0, 0) _ rfl ((Blk.new w 36 _).alloc _) Tryz.underlying36 rfl (by kernel_rfl)) rfl ⟨w.heap.size + 1, rfl, ?_, by omega, ((Below.refl _ _).alloc (Nat.le_refl _) _).alloc (by simp) _⟩
  have h := heap_alloc_new (w.alloc (.cells #[.slice (some ⟨w.heap.size + 1, 0, none⟩) 1 1, .int .i64 e] 36)) (.cells #[.string p, .int .i64 n] 95)
  rw [show (w.alloc (.cells #[.slice (some ⟨w.heap.size + 1, 0, none⟩) 1 1, .int .i64 e] 36)).heap.size = w.heap.size + 1 by simp] at h
  exact h

/-- What the document's check of entries answers. -/
def WrongE (l : List En) (w : World) (e : Ending) (w' : World) : Prop :=
  (chkE l = none ∧ e = .returned (.agg #[.slice none 0 0, .int .i64 0]) ∧ Below w.heap.size w w') ∨ ∃ (i : Nat) (k : Int) (g : Nat), chkE l = some (i, k) ∧ e = .returned (wrongG g k) ∧ w.heap.size ≤ g ∧ Blk w' g 95 #[.string bEntry, .int .i64 i] ∧ Below w.heap.size w w'
set_option maxRecDepth 100000 in
set_option maxHeartbeats 4000000 in
theorem checkIndexW_any (w : World) (v : Value) (l : List En) (h : Reads 6 cE w v l) (hl : l.length ≤ 256) (hs : ∀ x ∈ l, x.1.size ≤ 1000000) :
    Calls Tryz.prog 26 #[v] w (WrongE l w) := by
  have EN := Lib.hid fun W i x (hW : Below w.heap.size w W) (hx : l[i]? = some x) => entryE_any W v l i x hx (h.below hW) (by omega) hs
  obtain ⟨A, c, rfl⟩ := h.form
  have hn0 : ¬ (256 : Int) < (l.length : Int) := by omega
  obtain ⟨w1, hw1⟩ : ∃ w1, w1 = w.alloc (.cells #[.slice none 0 0, .int .i64 0] 36) := ⟨_, rfl⟩
  have B1 : Below w.heap.size w w1 := by rw [hw1]; exact (Below.refl _ _).alloc (Nat.le_refl _) _
  obtain ⟨G, hG⟩ : ∃ G, G = w.heap.size := ⟨_, rfl⟩
  have k1 : w1.heap[G]? = some (.cells #[.slice none 0 0, .int .i64 0] 36 (0, 0)) := by rw [hw1, hG]; exact heap_alloc_new w _
  have HG : Hid (w.heap.size ≤ G) := Lib.hid (by rw [hG]; exact Nat.le_refl _)
  have K1 := Lib.hid k1
  have s1 := B1.size
  clear h hs k1
  go_enter Tryz.func26, Tryz.ntmps26
  go_wp2
  rw [← hw1, ← hG]
  clear hw1 hG
  go_loopw [3] (fun s3 wr => ∃ i : Nat, i ≤ l.length ∧ s3 = .int .i64 i ∧ Hid (GoodTo l i) ∧ Below w1.heap.size w1 wr) (fun s3 _ => l.length - (intOf s3).toNat)
  case atStart => exact ⟨0, Nat.zero_le _, rfl, Lib.hid (fun j _ hj => absurd hj (Nat.not_lt_zero _)), Below.refl _ _⟩
  case round =>
    obtain ⟨i, hil, rfl, hp, hb⟩ := hrel
    have Bw : Below w.heap.size w wr := B1.trans (hb.mono s1)
    have sw := Bw.size
    have k2 : wr.heap[G]? = some (.cells #[.slice none 0 0, .int .i64 0] 36 (0, 0)) := (hb.block G (Array.getElem?_eq_some_iff.1 K1.out).1).trans K1.out
    have i0 : (0 : Int) ≤ (i : Int) := Int.natCast_nonneg _
    by_cases hlt : i < l.length
    · have i1 : (i : Int) < (l.length : Int) := by omega
      obtain ⟨x, hx⟩ : ∃ x, l[i]? = some x := ⟨_, List.getElem?_eq_getElem hlt⟩
      have E := Lib.hid (EN.out wr i x Bw hx)
      have HX := Lib.hid hx
      have HRW := Lib.hid (refWr_eq (x := x) (hp.out.rise hl))
      clear hx
      have K2 := Lib.hid k2
      clear k2
      go_wp2_with fail
      refine E.out.mono ?_
      rintro e w2 ⟨n, rfl, hok0, b2⟩
      have hok : Hid (n = wrE (l.take i) x) := Lib.hid (hok0.trans HRW.out)
      clear hok0
      have K3 := Lib.hid ((b2.block G (Array.getElem?_eq_some_iff.1 K2.out).1).trans K2.out)
      have B2 := Bw.trans (b2.mono sw)
      have s2 := B2.size
      by_cases hn : n = 0
      · have HK : Hid (wrE (l.take i) x = 0) := Lib.hid (by rw [← hok.out]; exact hn)
        subst hn
        clear hok
        go_wp2_with fail
        go_roundw
        case rel => exact ⟨i + 1, by omega, by go_num, Lib.hid (hp.out.step HX.out HK.out), hb.trans (b2.mono hb.size)⟩
        case measure => simp [intOf]; omega
      · have hnb : (n == 0) = false := by simpa using hn
        have HN : Hid (chkE l ≠ none) := Lib.hid fun h0 => hn (by rw [hok.out]; exact chkE_at h0 HX.out)
        have HN0 := Lib.hid hn
        have HCHK : Hid (chkE l = some (i, n)) := Lib.hid (by rw [hok.out]; exact chkE_bad (by omega) hp.out HX.out (by rw [← hok.out]; exact hn))
        clear hok hn
        go_wp2_with fail
        refine (refAtE_any bEntry (i : Int) n w2).mono ?_
        rintro e w3 ⟨g, rfl, hg3, hgl3, b3⟩
        have HG3 := Lib.hid hg3
        have HGL : Hid (g ≠ G) := Lib.hid (by have := (Array.getElem?_eq_some_iff.1 K3.out).1; omega)
        have HGS : Hid (w.heap.size ≤ g) := Lib.hid (by omega)
        clear hg3 hgl3
        have B3 := B2.trans (b3.mono s2)
        have k3 := (b3.block G (Array.getElem?_eq_some_iff.1 K3.out).1).trans K3.out
        have d0 : w3.cell? ⟨G, 0, none⟩ = some (.slice none 0 0) := cell_of_row w3 G 0 _ _ (0, 0) k3
        have d1 : w3.cell? ⟨G, 1, none⟩ = some (.int .i64 0) := cell_of_row w3 G 1 _ _ (0, 0) k3
        have e0 : w3.frozen? ⟨G, 0, none⟩ = false := by simp [World.frozen?, k3]
        have e1 : w3.frozen? ⟨G, 1, none⟩ = false := by simp [World.frozen?, k3]
        have K4 := Lib.hid k3
        clear k3
        go_wp2_with fail
        refine bodyPost_ret (results_cell_row (fn := Tryz.f26) rfl _ _ G 36 #[.slice (some ⟨g, 0, none⟩) 1 1, .int .i64 n] (0, 0) _ rfl (by first | exact set_row _ _ _ _ _ _ _ (set_row _ _ _ _ _ _ _ K4.out) | simpa using set_row _ _ _ _ _ _ _ (set_row _ _ _ _ _ _ _ K4.out)) Tryz.underlying36 rfl wrongSize) rfl (.inr ⟨i, n, g, HCHK.out, rfl, HGS.out, (HG3.out.far (p := ⟨G, 0, none⟩) HGL.out _).far (p := ⟨G, 1, none⟩) HGL.out _, ?_⟩)
        exact (B3.setCell (p := ⟨G, 0, none⟩) HG.out _).setCell (p := ⟨G, 1, none⟩) HG.out _
    · obtain rfl : i = l.length := by omega
      have d0 : wr.cell? ⟨G, 0, none⟩ = some (.slice none 0 0) := cell_of_row wr G 0 _ _ (0, 0) k2
      have d1 : wr.cell? ⟨G, 1, none⟩ = some (.int .i64 0) := cell_of_row wr G 1 _ _ (0, 0) k2
      have e0 : wr.frozen? ⟨G, 0, none⟩ = false := by simp [World.frozen?, k2]
      have e1 : wr.frozen? ⟨G, 1, none⟩ = false := by simp [World.frozen?, k2]
      have K4 := Lib.hid k2
      clear k2
      go_wp2_with fail
      refine bodyPost_ret (results_cell_row (fn := Tryz.f26) rfl _ _ G 36 #[.slice none 0 0, .int .i64 0] (0, 0) _ rfl (by first | exact set_row _ _ _ _ _ _ _ (set_row _ _ _ _ _ _ _ K4.out) | simpa using set_row _ _ _ _ _ _ _ (set_row _ _ _ _ _ _ _ K4.out)) Tryz.underlying36 rfl wrongSize) rfl (.inl ⟨chkE_good (by omega) fun j f hf => hp.out j f (List.getElem?_eq_some_iff.1 hf).1 hf, rfl, ?_⟩)
      exact (Bw.setCell (p := ⟨G, 0, none⟩) HG.out _).setCell (p := ⟨G, 1, none⟩) HG.out _
end Go.Proofs.YtplleaimmmanhaaGreatDoor
namespace Go.Proofs.YtplleaimmmanhaaGreatDoor
open Go Go.RowKit

theorem chk_145 (l : List UInt8) : chk l = 0 ∨ chk l = 4 ∨ chk l = 5 := by
  unfold chk
  split
  · exact .inr (.inl rfl)
  · split
    · exact .inr (.inr rfl)
    · split
      · exact .inl rfl
      · exact .inr (.inr rfl)
theorem ownE_cases (x : En) : ownE x = 0 ∨ ownE x = 1 ∨ ownE x = 4 ∨ ownE x = 5 := by
  unfold ownE
  rcases chk_145 x.1.data.toList with h | h | h
  · rw [h]; simp only [ne_eq, not_true_eq_false, if_false]
    split
    · exact .inr (.inl rfl)
    · split
      · exact .inr (.inr (.inl rfl))
      · exact .inl rfl
  · rw [h]; exact .inr (.inr (.inl rfl))
  · rw [h]; exact .inr (.inr (.inr rfl))
theorem wrE_14 {a : List En} {x : En} (h : wrE a x ≠ 0) : To14 (wrE a x) := by
  unfold wrE at *
  rcases ownE_cases x with hc | hc | hc | hc
  · rw [hc] at h ⊢
    simp only [ne_eq, not_true_eq_false, if_false] at h ⊢
    split
    · exact to14 (by decide) (by decide)
    · split
      · exact to14 (by decide) (by decide)
      · rename_i h1 h2; rw [if_neg h1, if_neg h2] at h; exact absurd rfl h
  all_goals
    rw [if_pos (by rw [hc]; decide), hc]
    exact to14 (by decide) (by decide)
theorem wrongsE_14 : ∀ (a r : List En) {i : Nat} {k : Int}, wrongsE a r = some (i, k) → To14 k ∧ k ≠ 0 ∧ i < a.length + r.length
  | _, [], _, _, h => by simp [wrongsE] at h
  | a, f :: r, i, k, h => by
    unfold wrongsE at h
    by_cases hr : wrE a f = 0
    · rw [if_neg (by rw [hr]; simp)] at h
      have := wrongsE_14 (a ++ [f]) r h
      refine ⟨this.1, this.2.1, ?_⟩
      have h2 := this.2.2
      simp at h2 ⊢; omega
    · rw [if_pos hr] at h
      cases h
      exact ⟨wrE_14 hr, hr, by simp⟩
theorem chkE_14 {l : List En} (hl : l.length ≤ 80) {i : Nat} {k : Int} (h : chkE l = some (i, k)) : To14 k ∧ k ≠ 0 ∧ i ≤ 79 := by
  unfold chkE at h
  rw [if_neg (by omega)] at h
  have := wrongsE_14 [] l h
  refine ⟨this.1, this.2.1, ?_⟩
  have h2 := this.2.2
  simp at h2; omega
end Go.Proofs.YtplleaimmmanhaaGreatDoor
namespace Go.Proofs.YtplleaimmmanhaaGreatDoor
open Go Go.RowKit

theorem results_tmp_row {fn : Func} {t p : Tmp} {ty : TypeId} (h : fn.results = #[.tmp t, .cell p ty]) {P : Program} (tmps : Array Value) (w : World) (g : Nat) (tt : TypeId) (cs : Array Value) (fr : Nat × Nat) {fs : Array Field}
    (hp : tmps.getD p undef = .pointer (some ⟨g, 0, none⟩)) (hg : w.heap[g]? = some (.cells cs tt fr))
    (hu : P.underlying ty = some (.struct fs)) (hi : (P.info? ty).map (·.size) = some cs.size) :
    (results fn tmps).run P w = .ok (.tuple #[tmps.getD t undef, .agg cs]) w := by
  have hp' : tmps[p]?.getD undef = .pointer (some ⟨g, 0, none⟩) := by simpa using hp
  simp [results, h, hp', asAddr, run_loadVar_row w g tt ty cs fr (.struct fs) hg hu rfl hi, Result.andThen]

/-- Bytes behind a row of bytes of one's own. -/
theorem app_own {w : World} {B B2 : Nat} {v u : Value} {l m : List UInt8} (ho : BOwn w B v l) (hu : BOwn w B2 u m) (hm : 0 < m.length) (hl : l.length + m.length ≤ 1000000) (hB : B ≤ w.heap.size) :
    ∃ v' w', (∀ ty, (Builtin.append_ #[54, 54] ty #[v, u]).run Tryz.prog w = .ok v' w') ∧ BOwn w' B v' (l ++ m) ∧ w.grownBy w' v.ownBlock := by
  obtain ⟨i0, hi0, hz0, hz1, hz2⟩ := info_parts byteInfo
  obtain ⟨g, cap, rfl, hcap, hcm, hg⟩ := own_first hu hm
  have hcs := BOwn.cells hu
  obtain ⟨v', w', hr, h2, h3, _, _⟩ := run_append_own_at (P := Tryz.prog) w B 54 54 5 i0 (.int .u8 0) 1 1 Tryz.underlying54 hi0 hz0 hz1 hz2 rfl (by decide) v l.length (bc l) ho ⟨g, 0, none⟩ m.length cap (bc m) (by rw [Lib.byteCells_length, Nat.mul_one]) (fun j x hj => by rw [Addr.add_lit, Nat.zero_add]; exact hcs j x hj) (bc_one m) (by unfold maxLen; omega) (by omega) hB
  refine ⟨v', w', fun ty => hr, ?_, h3⟩
  show w'.ownsRow B 5 1 v' _ (Lib.byteCells _)
  rw [Lib.byteCells_append, List.length_append]
  exact h2
theorem encI_pos (n : Int) : 0 < (encI n).length := by
  have := encIs_one_pos n []
  simpa [encIs] using this
theorem encT_pos (s : ByteArray) : 0 < (encT s).length := by
  unfold encT
  rw [List.length_append]
  have := encI_pos s.size
  omega
def EncodedTo (l : List En) (w : World) (e : Ending) (w' : World) : Prop :=
  (chkE l = none ∧ ∃ v', e = .returned (.tuple #[v', .agg #[.slice none 0 0, .int .i64 0]]) ∧ BOwn w' w.heap.size v' (seald (encL l)) ∧ Below w.heap.size w w') ∨
    ∃ (i : Nat) (k : Int) (g : Nat), chkE l = some (i, k) ∧ e = .returned (.tuple #[.slice none 0 0, wrongG g k]) ∧ w.heap.size ≤ g ∧ Blk w' g 95 #[.string bEntry, .int .i64 i] ∧ Below w.heap.size w w'

set_option maxRecDepth 100000 in
set_option maxHeartbeats 8000000 in
theorem refEncode_any (w : World) (v : Value) (l : List En) (h : Reads 6 cE w v l) (hs : SizedDE l) (hf : chkE l = none → ∀ x ∈ l, FitE x) (hl : l.length ≤ 80) :
    Calls Tryz.prog 28 #[v] w (EncodedTo l w) := by
  obtain ⟨W1, hW1⟩ : ∃ W1, W1 = w.alloc (.cells #[.slice none 0 0, .int .i64 0] 36) := ⟨_, rfl⟩
  have b1 : Below w.heap.size w W1 := by rw [hW1]; exact (Below.refl _ _).alloc (Nat.le_refl _) _
  obtain ⟨Y, hY⟩ : ∃ Y, Y = w.heap.size := ⟨_, rfl⟩
  have KY : Blk W1 Y 36 #[.slice none 0 0, .int .i64 0] := by rw [hW1, hY]; exact heap_alloc_new w _
  have hYl := KY.lt
  have CI := Lib.hid (checkIndexW_any W1 v l (h.below b1) (by omega) hs.paths)
  have HR := Lib.hid (h.below b1)
  obtain ⟨A, c, rfl⟩ := h.form
  have hlc : l.length ≤ c := h.len.2.1
  have hcm : c ≤ 9223372036854775807 := by have := h.len.2.2; unfold maxLen at this; omega
  have HB1 := Lib.hid b1
  have HKY := Lib.hid KY
  have HF := Lib.hid hf
  have hYw : Hid (w.heap.size ≤ Y) := Lib.hid (by rw [hY]; exact Nat.le_refl _)
  have b1s := b1.size
  clear h hs hf b1 KY
  go_enter Tryz.func28, Tryz.ntmps28
  go_wp2_with fail
  rw [← hW1, ← hY]
  clear hW1 hY
  refine CI.out.mono ?_
  rintro e w2 h2
  rcases h2 with ⟨hn, rfl, b2⟩ | ⟨i, k, g, hsome, rfl, hg, hgb, b2⟩
  · have HF2 := Lib.hid (HF.out hn)
    have HN := Lib.hid hn
    have B2 := Lib.hid (HB1.out.trans (b2.mono b1s))
    have KY2 := Lib.hid (HKY.out.below b2 hYl)
    have R2 := Lib.hid (HR.out.below b2)
    clear hn b2 CI HF
    obtain ⟨W3, hW3⟩ : ∃ W3, W3 = w2.alloc (.cells #[.slice none 0 0, .int .i64 0] 36) := ⟨_, rfl⟩
    have b3 : Below w2.heap.size w2 W3 := by rw [hW3]; exact (Below.refl _ _).alloc (Nat.le_refl _) _
    obtain ⟨X, hX⟩ : ∃ X, X = w2.heap.size := ⟨_, rfl⟩
    have KX3 : Blk W3 X 36 #[.slice none 0 0, .int .i64 0] := by rw [hW3, hX]; exact heap_alloc_new w2 _
    have HKX := Lib.hid KX3
    have KY3 := Lib.hid (KY2.out.below b3 KY2.out.lt)
    have R3 := Lib.hid (R2.out.below b3)
    have B3 := Lib.hid (B2.out.trans (b3.mono B2.out.size))
    have HXY : Hid (Y ≠ X) := Lib.hid (by have := KY2.out.lt; omega)
    have hwX : Hid (w.heap.size ≤ X) := Lib.hid (by rw [hX]; exact B2.out.size)
    have c0 := KX3.cell 0
    have c1 := KX3.cell 1
    have xl := KX3.lt
    have IN := Lib.hid (refInt_any W3 (l.length : Int) ⟨by omega, by omega⟩)
    obtain ⟨B, hB⟩ : ∃ B, B = W3.heap.size := ⟨_, rfl⟩
    have hXB : X < B := by rw [hB]; exact xl
    have hYB : Y < B := by rw [hB]; exact KY3.out.lt
    have hwB : Hid (w.heap.size ≤ B) := Lib.hid (by rw [hB]; exact B3.out.size)
    have HBW := Lib.hid hB
    clear KX3 b3 R2 KY2 hB
    go_wp2_with fail
    rw [← hW3, ← hX]
    clear hW3 hX
    go_wp2_with fail
    refine IN.out.mono ?_
    rintro e w4 ⟨v4, rfl, o4, b4⟩
    rw [← HBW.out] at o4 b4
    have O4 := Lib.hid o4
    have B4 := Lib.hid b4
    clear o4 b4 IN c0 c1
    go_wp2_with fail
    go_loopw [5, 6] (fun s5 s6 wr => ∃ k : Nat, k ≤ l.length ∧ s6 = .int .i64 k ∧ Hid (BOwn wr B s5 (encI (l.length : Int) ++ encEs (l.take k))) ∧ Hid (Below B W3 wr)) (fun _ s6 _ => l.length - (intOf s6).toNat)
    case atStart => exact ⟨0, Nat.zero_le _, rfl, Lib.hid (by simpa [encEs] using O4.out), B4⟩
    case round =>
      obtain ⟨k, hk, rfl, hO, hB⟩ := hrel
      have k0 : (0 : Int) ≤ (k : Int) := Int.natCast_nonneg _
      have hBs : B ≤ wr.heap.size := by have := hB.out.size; rw [← HBW.out] at this; exact this
      by_cases hlt : k < l.length
      · have k1 : (k : Int) < (l.length : Int) := by omega
        obtain ⟨x, hx⟩ : ∃ x, l[k]? = some x := ⟨_, List.getElem?_eq_getElem hlt⟩
        have FX := Lib.hid (HF2.out x (List.mem_of_getElem? hx))
        have LN := Lib.hid (encEs_len HF2.out k)
        have L1 := Lib.hid (encI_len (n := (l.length : Int)) ⟨by omega, by omega⟩)
        have HX := Lib.hid (encEs_take hx)
        have EA := Lib.hid (show ∀ V, Below B W3 V → ∃ ad, A = some ad ∧ V.cell? (ad.add (k * 6)) = some (.string x.1) ∧ V.cell? ⟨(ad.add (k * 6)).block, (ad.add (k * 6)).off + 1, none⟩ = some (.int .i64 x.2.1) ∧ V.cell? ⟨(ad.add (k * 6)).block, (ad.add (k * 6)).off + 2, none⟩ = some (.int .i64 x.2.2.1) ∧
            V.cell? ⟨(ad.add (k * 6)).block, (ad.add (k * 6)).off + 3, none⟩ = some (.string x.2.2.2.1) ∧ V.cell? ⟨(ad.add (k * 6)).block, (ad.add (k * 6)).off + 4, none⟩ = some (.int .i64 x.2.2.2.2.1) ∧ V.cell? ⟨(ad.add (k * 6)).block, (ad.add (k * 6)).off + 5, none⟩ = some (.int .i64 x.2.2.2.2.2) from
          fun V hV => Ents.at_ (R3.out.below (by rw [HBW.out] at hV; exact hV)) hx)
        obtain ⟨p, st, m, d, tm, sz⟩ := x
        obtain ⟨ad, rfl, c0, c1, c2, c3, c4, c5⟩ := EA.out wr hB.out
        have EB := Lib.hid (fun V (hV : Below B W3 V) => (by obtain ⟨ad2, h2, hcs⟩ := EA.out V hV; obtain rfl := Option.some.inj h2; exact hcs : V.cell? (ad.add (k * 6)) = some (.string p) ∧ V.cell? ⟨(ad.add (k * 6)).block, (ad.add (k * 6)).off + 1, none⟩ = some (.int .i64 st) ∧ V.cell? ⟨(ad.add (k * 6)).block, (ad.add (k * 6)).off + 2, none⟩ = some (.int .i64 m) ∧
            V.cell? ⟨(ad.add (k * 6)).block, (ad.add (k * 6)).off + 3, none⟩ = some (.string d) ∧ V.cell? ⟨(ad.add (k * 6)).block, (ad.add (k * 6)).off + 4, none⟩ = some (.int .i64 tm) ∧ V.cell? ⟨(ad.add (k * 6)).block, (ad.add (k * 6)).off + 5, none⟩ = some (.int .i64 sz)))
        clear hx
        have FP : Hid (p.size ≤ 100 ∧ d.size ≤ 5000 ∧ In64i st ∧ In64i m ∧ In64i tm ∧ In64i sz) := FX
        have P0 := hO
        have Q0 := hB
        have hs0 : B ≤ wr.heap.size := hBs
        have LEN0 : Hid ((encI (l.length : Int) ++ encEs (l.take k)).length ≤ 490000) := Lib.hid (by rw [List.length_append]; have := LN.out; have := L1.out; omega)
        have hcl0 := World.block_lt_of_cell? _ _ c0
        have C1 := Lib.hid (refText_any wr p (by have := FP.out.1; omega))
        go_wp2_with fail
        refine C1.out.mono ?_
        rintro e w1a ⟨v1, rfl, o1, bb1⟩
        have hle1 := encT_len' FP.out.1 (by decide)
        have O1 := Lib.hid (own_keep P0.out bb1)
        obtain ⟨y1v, w1b, hr1, ho1, hg1⟩ := app_own O1.out o1 (encT_pos _) (by have := LEN0.out; omega) (Nat.le_trans hs0 bb1.size)
        have P1 := Lib.hid ho1
        have Q1 : Hid (Below B W3 w1b) := Lib.hid ((Q0.out.trans (bb1.mono hs0)).grown hg1 (Nat.le_trans hs0 bb1.size) (fun z hz => (O1.out.lt z hz).1))
        have hs1 : B ≤ w1b.heap.size := by have := Q1.out.size; rw [← HBW.out] at this; exact this
        have LEN1 : Hid ((encI (l.length : Int) ++ encEs (l.take k) ++ encT p).length ≤ 495200) := Lib.hid (by rw [List.length_append]; have := LEN0.out; omega)
        have HRR1 := Lib.hid hr1
        obtain ⟨A1, n1, e1, rfl⟩ : ∃ A n c, v1 = .slice A n c := by obtain ⟨A, c, h⟩ := own_form o1; exact ⟨A, _, c, h⟩
        obtain ⟨A1', n1', e1', rfl⟩ : ∃ A n c, y1v = .slice A n c := by obtain ⟨A, c, h⟩ := own_form ho1; exact ⟨A, _, c, h⟩
        clear C1 o1 bb1 hr1 ho1 hg1 P0 Q0 O1 c0 c1 c2 c3 c4 c5 hcl0 hle1
        obtain ⟨c0, c1, c2, c3, c4, c5⟩ := EB.out w1b Q1.out
        have hcl1 := World.block_lt_of_cell? _ _ c0
        go_wp2_with (at_builtin; refine Lib.wpList_append_run _ rfl _ _ _ _ rfl _ _ rfl rfl _ _ (HRR1.out _) ?_)
        have C2 := Lib.hid (refInt_any w1b st FP.out.2.2.1)
        refine C2.out.mono ?_
        rintro e w2a ⟨v2, rfl, o2, bb2⟩
        have hle2 := encI_len FP.out.2.2.1
        have O2 := Lib.hid (own_keep P1.out bb2)
        obtain ⟨y2v, w2b, hr2, ho2, hg2⟩ := app_own O2.out o2 (encI_pos _) (by have := LEN1.out; omega) (Nat.le_trans hs1 bb2.size)
        have P2 := Lib.hid ho2
        have Q2 : Hid (Below B W3 w2b) := Lib.hid ((Q1.out.trans (bb2.mono hs1)).grown hg2 (Nat.le_trans hs1 bb2.size) (fun z hz => (O2.out.lt z hz).1))
        have hs2 : B ≤ w2b.heap.size := by have := Q2.out.size; rw [← HBW.out] at this; exact this
        have LEN2 : Hid ((encI (l.length : Int) ++ encEs (l.take k) ++ encT p ++ encI st).length ≤ 500400) := Lib.hid (by rw [List.length_append]; have := LEN1.out; omega)
        have HRR2 := Lib.hid hr2
        obtain ⟨A2, n2, e2, rfl⟩ : ∃ A n c, v2 = .slice A n c := by obtain ⟨A, c, h⟩ := own_form o2; exact ⟨A, _, c, h⟩
        obtain ⟨A2', n2', e2', rfl⟩ : ∃ A n c, y2v = .slice A n c := by obtain ⟨A, c, h⟩ := own_form ho2; exact ⟨A, _, c, h⟩
        clear C2 o2 bb2 hr2 ho2 hg2 P1 Q1 O2 c0 c1 c2 c3 c4 c5 hcl1 hle2
        obtain ⟨c0, c1, c2, c3, c4, c5⟩ := EB.out w2b Q2.out
        have hcl2 := World.block_lt_of_cell? _ _ c0
        go_wp2_with (at_builtin; refine Lib.wpList_append_run _ rfl _ _ _ _ rfl _ _ rfl rfl _ _ (HRR2.out _) ?_)
        have C3 := Lib.hid (refInt_any w2b m FP.out.2.2.2.1)
        refine C3.out.mono ?_
        rintro e w3a ⟨v3, rfl, o3, bb3⟩
        have hle3 := encI_len FP.out.2.2.2.1
        have O3 := Lib.hid (own_keep P2.out bb3)
        obtain ⟨y3v, w3b, hr3, ho3, hg3⟩ := app_own O3.out o3 (encI_pos _) (by have := LEN2.out; omega) (Nat.le_trans hs2 bb3.size)
        have P3 := Lib.hid ho3
        have Q3 : Hid (Below B W3 w3b) := Lib.hid ((Q2.out.trans (bb3.mono hs2)).grown hg3 (Nat.le_trans hs2 bb3.size) (fun z hz => (O3.out.lt z hz).1))
        have hs3 : B ≤ w3b.heap.size := by have := Q3.out.size; rw [← HBW.out] at this; exact this
        have LEN3 : Hid ((encI (l.length : Int) ++ encEs (l.take k) ++ encT p ++ encI st ++ encI m).length ≤ 505600) := Lib.hid (by rw [List.length_append]; have := LEN2.out; omega)
        have HRR3 := Lib.hid hr3
        obtain ⟨A3, n3, e3, rfl⟩ : ∃ A n c, v3 = .slice A n c := by obtain ⟨A, c, h⟩ := own_form o3; exact ⟨A, _, c, h⟩
        obtain ⟨A3', n3', e3', rfl⟩ : ∃ A n c, y3v = .slice A n c := by obtain ⟨A, c, h⟩ := own_form ho3; exact ⟨A, _, c, h⟩
        clear C3 o3 bb3 hr3 ho3 hg3 P2 Q2 O3 c0 c1 c2 c3 c4 c5 hcl2 hle3
        obtain ⟨c0, c1, c2, c3, c4, c5⟩ := EB.out w3b Q3.out
        have hcl3 := World.block_lt_of_cell? _ _ c0
        go_wp2_with (at_builtin; refine Lib.wpList_append_run _ rfl _ _ _ _ rfl _ _ rfl rfl _ _ (HRR3.out _) ?_)
        have C4 := Lib.hid (refText_any w3b d (by have := FP.out.2.1; omega))
        refine C4.out.mono ?_
        rintro e w4a ⟨v4, rfl, o4, bb4⟩
        have hle4 := encT_len' FP.out.2.1 (by decide)
        have O4 := Lib.hid (own_keep P3.out bb4)
        obtain ⟨y4v, w4b, hr4, ho4, hg4⟩ := app_own O4.out o4 (encT_pos _) (by have := LEN3.out; omega) (Nat.le_trans hs3 bb4.size)
        have P4 := Lib.hid ho4
        have Q4 : Hid (Below B W3 w4b) := Lib.hid ((Q3.out.trans (bb4.mono hs3)).grown hg4 (Nat.le_trans hs3 bb4.size) (fun z hz => (O4.out.lt z hz).1))
        have hs4 : B ≤ w4b.heap.size := by have := Q4.out.size; rw [← HBW.out] at this; exact this
        have LEN4 : Hid ((encI (l.length : Int) ++ encEs (l.take k) ++ encT p ++ encI st ++ encI m ++ encT d).length ≤ 510800) := Lib.hid (by rw [List.length_append]; have := LEN3.out; omega)
        have HRR4 := Lib.hid hr4
        obtain ⟨A4, n4, e4, rfl⟩ : ∃ A n c, v4 = .slice A n c := by obtain ⟨A, c, h⟩ := own_form o4; exact ⟨A, _, c, h⟩
        obtain ⟨A4', n4', e4', rfl⟩ : ∃ A n c, y4v = .slice A n c := by obtain ⟨A, c, h⟩ := own_form ho4; exact ⟨A, _, c, h⟩
        clear C4 o4 bb4 hr4 ho4 hg4 P3 Q3 O4 c0 c1 c2 c3 c4 c5 hcl3 hle4
        obtain ⟨c0, c1, c2, c3, c4, c5⟩ := EB.out w4b Q4.out
        have hcl4 := World.block_lt_of_cell? _ _ c0
        go_wp2_with (at_builtin; refine Lib.wpList_append_run _ rfl _ _ _ _ rfl _ _ rfl rfl _ _ (HRR4.out _) ?_)
        have C5 := Lib.hid (refInt_any w4b tm FP.out.2.2.2.2.1)
        refine C5.out.mono ?_
        rintro e w5a ⟨v5, rfl, o5, bb5⟩
        have hle5 := encI_len FP.out.2.2.2.2.1
        have O5 := Lib.hid (own_keep P4.out bb5)
        obtain ⟨y5v, w5b, hr5, ho5, hg5⟩ := app_own O5.out o5 (encI_pos _) (by have := LEN4.out; omega) (Nat.le_trans hs4 bb5.size)
        have P5 := Lib.hid ho5
        have Q5 : Hid (Below B W3 w5b) := Lib.hid ((Q4.out.trans (bb5.mono hs4)).grown hg5 (Nat.le_trans hs4 bb5.size) (fun z hz => (O5.out.lt z hz).1))
        have hs5 : B ≤ w5b.heap.size := by have := Q5.out.size; rw [← HBW.out] at this; exact this
        have LEN5 : Hid ((encI (l.length : Int) ++ encEs (l.take k) ++ encT p ++ encI st ++ encI m ++ encT d ++ encI tm).length ≤ 516000) := Lib.hid (by rw [List.length_append]; have := LEN4.out; omega)
        have HRR5 := Lib.hid hr5
        obtain ⟨A5, n5, e5, rfl⟩ : ∃ A n c, v5 = .slice A n c := by obtain ⟨A, c, h⟩ := own_form o5; exact ⟨A, _, c, h⟩
        obtain ⟨A5', n5', e5', rfl⟩ : ∃ A n c, y5v = .slice A n c := by obtain ⟨A, c, h⟩ := own_form ho5; exact ⟨A, _, c, h⟩
        clear C5 o5 bb5 hr5 ho5 hg5 P4 Q4 O5 c0 c1 c2 c3 c4 c5 hcl4 hle5
        obtain ⟨c0, c1, c2, c3, c4, c5⟩ := EB.out w5b Q5.out
        have hcl5 := World.block_lt_of_cell? _ _ c0
        go_wp2_with (at_builtin; refine Lib.wpList_append_run _ rfl _ _ _ _ rfl _ _ rfl rfl _ _ (HRR5.out _) ?_)
        have C6 := Lib.hid (refInt_any w5b sz FP.out.2.2.2.2.2)
        refine C6.out.mono ?_
        rintro e w6a ⟨v6, rfl, o6, bb6⟩
        have hle6 := encI_len FP.out.2.2.2.2.2
        have O6 := Lib.hid (own_keep P5.out bb6)
        obtain ⟨y6v, w6b, hr6, ho6, hg6⟩ := app_own O6.out o6 (encI_pos _) (by have := LEN5.out; omega) (Nat.le_trans hs5 bb6.size)
        have P6 := Lib.hid ho6
        have Q6 : Hid (Below B W3 w6b) := Lib.hid ((Q5.out.trans (bb6.mono hs5)).grown hg6 (Nat.le_trans hs5 bb6.size) (fun z hz => (O6.out.lt z hz).1))
        have hs6 : B ≤ w6b.heap.size := by have := Q6.out.size; rw [← HBW.out] at this; exact this
        have LEN6 : Hid ((encI (l.length : Int) ++ encEs (l.take k) ++ encT p ++ encI st ++ encI m ++ encT d ++ encI tm ++ encI sz).length ≤ 521200) := Lib.hid (by rw [List.length_append]; have := LEN5.out; omega)
        have HRR6 := Lib.hid hr6
        obtain ⟨A6, n6, e6, rfl⟩ : ∃ A n c, v6 = .slice A n c := by obtain ⟨A, c, h⟩ := own_form o6; exact ⟨A, _, c, h⟩
        obtain ⟨A6', n6', e6', rfl⟩ : ∃ A n c, y6v = .slice A n c := by obtain ⟨A, c, h⟩ := own_form ho6; exact ⟨A, _, c, h⟩
        clear C6 o6 bb6 hr6 ho6 hg6 P5 Q5 O6 c0 c1 c2 c3 c4 c5 hcl5 hle6
        obtain ⟨c0, c1, c2, c3, c4, c5⟩ := EB.out w6b Q6.out
        have hcl6 := World.block_lt_of_cell? _ _ c0
        go_wp2_with (at_builtin; refine Lib.wpList_append_run _ rfl _ _ _ _ rfl _ _ rfl rfl _ _ (HRR6.out _) ?_)
        have HEND : Hid (BOwn w6b B (.slice A6' n6' e6') (encI (l.length : Int) ++ encEs (l.take (k + 1)))) := Lib.hid (by
          have := P6.out
          rw [HX.out, encE_eq]
          simpa only [List.append_assoc] using this)
        clear P6
        go_wp2_with fail
        go_roundw
        case rel => exact ⟨k + 1, hlt, by go_num, HEND, Q6⟩
        case measure => simp [intOf]; omega
      · obtain rfl : k = l.length := by omega
        have HO : Hid (BOwn wr B u5 (encL l)) := Lib.hid (by have := hO.out; rw [List.take_length] at this; rw [encL_eq]; exact this)
        have KXr := HKX.out.below hB.out hXB
        have KYr := KY3.out.below hB.out hYB
        have LL : (encL l).length ≤ 900000 := encL_len HF2.out (by omega)
        have PU := Lib.hid (fun V (hV : Below wr.heap.size wr V) => refPutS_any V u5 (encL l) (ReadsB.of_own (own_keep HO.out hV)) (encIs_one_pos _ _) LL)
        have c0 := KXr.cell 0
        have c1 := KXr.cell 1
        have y0 := KYr.cell 0
        have y1 := KYr.cell 1
        have f0 := KYr.frozen 0
        have f1 := KYr.frozen 1
        have xlr := KXr.lt
        have ylr := KYr.lt
        have BR : Hid (Below w.heap.size w wr) := Lib.hid (B3.out.trans (hB.out.mono hwB.out))
        have KXV := Lib.hid (fun V (hV : Below wr.heap.size wr V) => KXr.below hV xlr)
        have KYV := Lib.hid (fun V (hV : Below wr.heap.size wr V) => KYr.below hV ylr)
        obtain ⟨A5, n5, c5, rfl⟩ : ∃ A n c, u5 = .slice A n c := by obtain ⟨A, c, h⟩ := own_form HO.out; exact ⟨A, _, c, h⟩
        clear KXr KYr LL hO hB
        go_wp2_with fail
        go_region_with (go_at_call 67; refine (PU.out _ (by first | exact Below.refl _ _ | exact (Below.refl _ _).drew | exact below_drewN (Below.refl _ _) _)).mono ?_; rintro e w9 ⟨v9, rfl, o9, b9⟩; have KX9 := KXV.out w9 (by first | exact b9 | exact (Below.refl _ _).drew.trans b9); have KY9 := KYV.out w9 (by first | exact b9 | exact (Below.refl _ _).drew.trans b9); have c0 := KX9.cell 0; have c1 := KX9.cell 1; have y0 := KY9.cell 0; have y1 := KY9.cell 1; have f0 := KY9.frozen 0; have f1 := KY9.frozen 1; have xl9 := KX9.lt; have yl9 := KY9.lt)
        all_goals
          have b9' : Below wr.heap.size wr w9 := by first | exact b9 | exact (Below.refl _ _).drew.trans b9
          have hne9 : v9.ownBlock = none ∨ v9.ownBlock ≠ some Y := by
            cases hv : v9.ownBlock with
            | none => exact .inl rfl
            | some z =>
              refine .inr fun e => ?_
              have h1 : wr.heap.size ≤ z := (o9.lt z hv).1
              have h2 := Option.some.inj e
              omega
          have O9 := Lib.hid (own_base (B' := w.heap.size) ((o9.kept (grown_cell w9 Y 0 (.slice none 0 0)) hne9).kept (grown_cell (w9.setCell ⟨Y, 0, none⟩ (.slice none 0 0)) Y 1 (.int .i64 0)) hne9) (by have := BR.out.size; exact this))
          have B9 := Lib.hid (((BR.out.trans (b9'.mono BR.out.size)).setCell (p := ⟨Y, 0, none⟩) hYw.out (.slice none 0 0)).setCell (p := ⟨Y, 1, none⟩) hYw.out (.int .i64 0))
          have K9 := Lib.hid (((KYV.out w9 b9').set_ 0 (.slice none 0 0)).set_ 1 (.int .i64 0))
          clear o9 b9 b9' hne9
          obtain ⟨A9, n9, c9, rfl⟩ : ∃ A n c, v9 = .slice A n c := by obtain ⟨A, c, h⟩ := own_form O9.out; exact ⟨A, _, c, h⟩
          go_wp2_with fail
          refine bodyPost_ret (results_tmp_row (fn := Tryz.f28) rfl _ _ Y 36 #[.slice none 0 0, .int .i64 0] (0, 0) rfl (by first | exact K9.out | simpa using K9.out) Tryz.underlying36 (by kernel_rfl)) rfl (.inl ⟨HN.out, _, rfl, ?_, ?_⟩)
          · exact O9.out
          · first | exact B9.out | exact B9.out.drew
  · have hk0 := (chkE_14 hl hsome).2.1
    have hkb : (k != 0) = true := by simpa using hk0
    have HKN := Lib.hid hsome
    have B2 := Lib.hid (HB1.out.trans (b2.mono b1s))
    have KY2 := HKY.out.below b2 hYl
    have HGB := Lib.hid hgb
    have HGW := Lib.hid hg
    obtain ⟨W3, hW3⟩ : ∃ W3, W3 = w2.alloc (.cells #[.slice (some ⟨g, 0, none⟩) 1 1, .int .i64 k] 36) := ⟨_, rfl⟩
    have b3 : Below w2.heap.size w2 W3 := by rw [hW3]; exact (Below.refl _ _).alloc (Nat.le_refl _) _
    obtain ⟨X, hX⟩ : ∃ X, X = w2.heap.size := ⟨_, rfl⟩
    have KX3 : Blk W3 X 36 #[.slice (some ⟨g, 0, none⟩) 1 1, .int .i64 k] := by rw [hW3, hX]; exact heap_alloc_new w2 _
    have KY3 := KY2.below b3 KY2.lt
    have KG3 := Lib.hid (hgb.below b3 hgb.lt)
    have HYG := Lib.hid (KY3.ne_ KG3.out (by decide))
    have B3 := Lib.hid (B2.out.trans (b3.mono B2.out.size))
    have c0 := KX3.cell 0
    have c1 := KX3.cell 1
    have y0 := KY3.cell 0
    have y1 := KY3.cell 1
    have f0 := KY3.frozen 0
    have f1 := KY3.frozen 1
    have xl := KX3.lt
    have yl := KY3.lt
    have HKY3 := Lib.hid KY3
    have HXY : Y ≠ X := by have := KY2.lt; omega
    have HXY2 : X ≠ Y := fun e => HXY e.symm
    clear hsome hgb hg b2 b3 KY2 KX3 KY3 CI hk0
    go_wp2_with fail
    rw [← hW3, ← hX]
    clear hW3 hX
    go_wp2_with fail
    go_region
    go_wp2_with fail
    refine bodyPost_ret (results_tmp_row (fn := Tryz.f28) rfl _ _ Y 36 #[.slice (some ⟨g, 0, none⟩) 1 1, .int .i64 k] (0, 0) rfl (by first | exact (HKY3.out.set_ 0 _).set_ 1 _ | simpa using (HKY3.out.set_ 0 (.slice (some ⟨g, 0, none⟩) 1 1)).set_ 1 (.int .i64 k)) Tryz.underlying36 (by kernel_rfl)) rfl (.inr ⟨i, k, g, HKN.out, rfl, Nat.le_trans HB1.out.size HGW.out, (KG3.out.far (p := ⟨Y, 0, none⟩) (fun e => HYG.out e.symm) _).far (p := ⟨Y, 1, none⟩) (fun e => HYG.out e.symm) _, ?_⟩)
    exact ((B3.out.setCell (p := ⟨Y, 0, none⟩) hYw.out _).setCell (p := ⟨Y, 1, none⟩) hYw.out _).drew
end Go.Proofs.YtplleaimmmanhaaGreatDoor
namespace Go.Proofs.YtplleaimmmanhaaGreatDoor
open Go Go.RowKit

/-- The front of a number, not the whole of it: all its bytes are 128 or more. -/
theorem enc_front : ∀ (k u : Nat), k < (enc u).length → ∀ j b, j < k → (enc u)[j]? = some b → 128 ≤ b.toNat
  | 0, _, _, _, _, h, _ => absurd h (by omega)
  | k + 1, u, hk, j, b, hj, hb => by
    by_cases h : u < 128
    · rw [enc_small h] at hk; simp at hk
    · rw [enc_big h] at hk hb
      cases j with
      | zero =>
        simp only [List.getElem?_cons_zero, Option.some.injEq] at hb
        rw [← hb, UInt8.toNat_ofNat']
        omega
      | succ j =>
        simp only [List.length_cons, List.getElem?_cons_succ] at hk hb
        exact enc_front k (u / 128) (by omega) j b (by omega) hb
/-- All bytes are 128 or more, at most nine. -/
def High (M : List UInt8) : Prop := M.length ≤ 9 ∧ ∀ (j : Nat) (b : UInt8), M[j]? = some b → 128 ≤ b.toNat
theorem enc_high {k u : Nat} (hu : u < 18446744073709551616) (hk : k < (enc u).length) : High ((enc u).take k) := by
  have h10 := enc_len hu
  refine ⟨by rw [List.length_take]; omega, fun j b hj => ?_⟩
  have hlt := (List.getElem?_eq_some_iff.1 hj).1
  rw [List.length_take] at hlt
  rw [List.getElem?_take_of_lt (by omega)] at hj
  exact enc_front k u hk j b (by omega) hj

set_option maxRecDepth 100000 in
set_option maxHeartbeats 2000000 in
theorem num_short (w : World) (A : Option Addr) (c : Nat) (M : List UInt8) (hM : High M) (hr : ∀ j b, M[j]? = some b → ∃ g o, A = some ⟨g, o, none⟩ ∧ w.cell? ⟨g, o + j, none⟩ = some (.int .u8 b.toNat)) :
    Calls Tryz.prog 122 #[.slice A M.length c] w fun e w' => e = .returned (.tuple #[.int .u64 0, .int .i64 0, .int .i64 3]) ∧ w' = w := by
  have HM := Lib.hid hM
  have HR := Lib.hid hr
  have hl := hM.1
  clear hM hr
  go_enter Tryz.func122, Tryz.ntmps122
  go_wp2_with fail
  go_loopw [2, 9] (fun s2 s9 wr => ∃ (k : Nat) (X : Int), s2 = .int .u64 X ∧ s9 = .int .i64 k ∧ wr = w ∧ k ≤ M.length) (fun _ s9 _ => M.length - (intOf s9).toNat)
  case atStart => exact ⟨0, 0, rfl, rfl, rfl, by omega⟩
  case round =>
    obtain ⟨k, X, rfl, rfl, rfl, hk⟩ := hrel
    have k0 : (0 : Int) ≤ (k : Int) := Int.natCast_nonneg _
    rcases Nat.lt_or_ge k M.length with hkl | hkl
    · obtain ⟨b, hb⟩ : ∃ b, M[k]? = some b := ⟨_, List.getElem?_eq_getElem hkl⟩
      obtain ⟨g, o, rfl, x0⟩ := HR.out k b hb
      have b0 := HM.out.2 k b hb
      obtain ⟨y, hy⟩ : ∃ y, y = b.toNat := ⟨_, rfl⟩
      rw [← hy] at x0 b0
      have y1 : (128 : Int) ≤ (y : Int) := by omega
      have k1 : (k : Int) < (M.length : Int) := by omega
      have g9 : ((k : Int) == 9) = false := by simp; omega
      generalize hq : bits .and .u8 (y : Int) 127 = q
      clear hy hb
      go_wp2_with fail
      go_roundw
      case rel => exact ⟨k + 1, _, rfl, by go_num, trivial, hkl⟩
      case measure => simp [intOf]; omega
    · obtain rfl : k = M.length := by omega
      have k1 : ¬ ((M.length : Int) < (M.length : Int)) := by omega
      go_wp2_with fail
      go_ret3
      exact ⟨rfl, rfl⟩
end Go.Proofs.YtplleaimmmanhaaGreatDoor
namespace Go.Proofs.YtplleaimmmanhaaGreatDoor
open Go Go.RowKit

set_option maxHeartbeats 2000000 in
theorem fail_any (w : World) (D : Nat) (v x : Value) (n e : Int) (h : Blk w D 175 #[v, x, .int .i64 0, .int .i64 0]) :
    Calls Tryz.prog 123 #[.pointer (some ⟨D, 0, none⟩), .int .i64 n, .int .i64 e] w fun r w' => r = .returned (.tuple #[]) ∧ w' = (w.setCell ⟨D, 2, none⟩ (.int .i64 e)).setCell ⟨D, 3, none⟩ (.int .i64 n) := by
  have c2 := h.cell 2
  have c3 := h.cell 3
  have f2 := h.frozen 2
  have f3 := h.frozen 3
  have hlt := h.lt
  clear h
  go_enter Tryz.func123, Tryz.ntmps123
  go_wp2
  exact ⟨rfl, _, (by first | rfl | kernel_rfl), rfl, rfl⟩

/-- A Dec that has failed: it ended too early, at n. -/
def Bad (w : World) (D : Nat) (v : Value) (n : Nat) : Prop := Blk w D 175 #[v, .int .i64 n, .int .i64 3, .int .i64 n]

set_option maxRecDepth 100000 in
set_option maxHeartbeats 2000000 in
theorem decInt_short (w : World) (B D at_ : Nat) (v : Value) (L : List UInt8) (h : DecAt w B D v L at_) (hM : High (L.drop at_)) (ha : at_ ≤ L.length) (h0 : 0 < L.length) (hl : L.length ≤ 1000000) :
    Calls Tryz.prog 71 #[.pointer (some ⟨D, 0, none⟩)] w fun e w' => e = .returned (.int .i64 0) ∧ Bad w' D v at_ ∧ Touch w w' D none := by
  obtain ⟨A, c, rfl⟩ := own_form h.own
  rcases h.own.2 with ⟨_, e0⟩ | ⟨g, cap, cur, hv, _, hh, hnc, hm, _⟩
  · omega
  injection hv with e1 _ e3
  subst e1; subst e3
  have hcells := BOwn.cells h.own
  have c0 := h.blk.cell 0
  have c1 := h.blk.cell 1
  have c2 := h.blk.cell 2
  have hDl := h.blk.lt
  have NUM := Lib.hid (fun W A2 (c2 : Nat) (hr : ∀ j b, (L.drop at_)[j]? = some b → ∃ g o, A2 = some ⟨g, o, none⟩ ∧ W.cell? ⟨g, o + j, none⟩ = some (.int .u8 b.toNat)) => num_short W A2 c2 (L.drop at_) hM hr)
  have RD : Hid (∀ j b, (L.drop at_)[j]? = some b → ∀ W : World, (∀ a, W.cell? a = w.cell? a) → W.cell? ⟨g, at_ + j, none⟩ = some (.int .u8 b.toNat)) := Lib.hid fun j b hj W hW => by
    rw [List.getElem?_drop] at hj
    rw [hW]
    exact hcells _ _ (bc_at hj)
  have ZERO : Hid (c = at_ → ∀ (j : Nat) (b : UInt8), (L.drop at_)[j]? = some b → False) := Lib.hid fun e j b hj => by
    have := (List.getElem?_eq_some_iff.1 hj).1
    rw [List.length_drop] at this
    omega
  have hst : Hid (∀ k, Bad (((w.drewN k).setCell ⟨D, 2, none⟩ (.int .i64 3)).setCell ⟨D, 3, none⟩ (.int .i64 at_)) D (.slice (some ⟨g, 0, none⟩) L.length c) at_ ∧ Touch w (((w.drewN k).setCell ⟨D, 2, none⟩ (.int .i64 3)).setCell ⟨D, 3, none⟩ (.int .i64 at_)) D none) := Lib.hid fun k => by
    have t1 : Touch w ((w.drewN k).setCell ⟨D, 2, none⟩ (.int .i64 3)) D none := ⟨rfl, rfl, rfl, by simp, fun j _ hj _ => Below.heap_setCell _ _ _ _ hj⟩
    have t2 : Touch ((w.drewN k).setCell ⟨D, 2, none⟩ (.int .i64 3)) (((w.drewN k).setCell ⟨D, 2, none⟩ (.int .i64 3)).setCell ⟨D, 3, none⟩ (.int .i64 at_)) D none := ⟨rfl, rfl, rfl, by simp, fun j _ hj _ => Below.heap_setCell _ _ _ _ hj⟩
    exact ⟨((h.blk.drewN k).set_ 2 (.int .i64 3)).set_ 3 (.int .i64 at_), t1.trans (.inl rfl) t2⟩
  have FL := Lib.hid fun k => fail_any (w.drewN k) D _ _ at_ 3 (h.blk.drewN k)
  rw [List.length_drop] at NUM
  have a0 : (0 : Int) ≤ (at_ : Int) := Int.natCast_nonneg _
  have a1 : (at_ : Int) ≤ (L.length : Int) := by omega
  have a2 : at_ ≤ L.length := by omega
  unfold maxLen at hm
  clear h hM hcells hh
  by_cases hcap : c = at_
  · go_enter Tryz.func71, Tryz.ntmps71
    go_wp2_with fail
    go_quiet ((go_at_call 122; exact Calls.quiet_of_same (NUM.out _ _ _ (fun j b hj => absurd hj (fun hj => ZERO.out hcap j b hj)))))
    go_wp2_with fail
    refine (FL.out _).mono ?_
    rintro e w' ⟨rfl, rfl⟩
    go_wp2_with fail
    go_ret
    exact ⟨rfl, hst.out _⟩
  · go_enter Tryz.func71, Tryz.ntmps71
    go_wp2_with fail
    go_quiet ((go_at_call 122; exact Calls.quiet_of_same (NUM.out _ _ _ (fun j b hj => ⟨_, _, rfl, RD.out j b hj _ (fun a => rfl)⟩))))
    go_wp2_with fail
    refine (FL.out _).mono ?_
    rintro e w' ⟨rfl, rfl⟩
    go_wp2_with fail
    go_ret
    exact ⟨rfl, hst.out _⟩

set_option maxRecDepth 100000 in
set_option maxHeartbeats 2000000 in
theorem decErr_short (w : World) (D n : Nat) (v : Value) (h : Bad w D v n) :
    Calls Tryz.prog 72 #[.pointer (some ⟨D, 0, none⟩)] w fun e w' => ∃ F, e = .returned (.iface 89 (.pointer (some ⟨F, 0, none⟩))) ∧ Blk w' F 93 #[.string bByte, .int .i64 n, .iface 88 (.int .i64 3)] ∧ w.heap.size ≤ F ∧ Below w.heap.size w w' := by
  have c2 := Blk.cell h 2
  have c3 := Blk.cell h 3
  have hD := Blk.lt h
  clear h
  go_enter Tryz.func72, Tryz.ntmps72
  go_wp2_with fail
  refine wp_region_held_drew (S := fun w' => w'.cell? ⟨D, 3, none⟩ = some (.int .i64 n) ∧ w'.cell? ⟨D, 2, none⟩ = some (.int .i64 3)) (by kernel_rfl) (⟨c3, c2⟩) (fun hHeld => ?_)
  refine wpAnyH_take (i := 0) (oi := { dst := some 8, op := Op.move (Operand.tmp 0), type := 118, pos := "codec.go:118", after := #[], guard := none }) (v := ?ve0) rfl (by kernel_rfl) (by kernel_rfl) (by kernel_rfl) (fun _ _ _ h => h) (Or.inl ⟨by rfl, ?ye0⟩) (by assumption) ?re0
  case ye0 => (intro w' hSw; (try dsimp only at hSw); go_simp; try with_reducible rfl)
  try simp only [Act.put, List.setIfInBounds_toArray, List.set_cons_zero, List.set_cons_succ]
  refine wpAnyH_take (i := 1) (oi := { dst := some 9, op := Op.nilCheck (Operand.tmp 8), type := 0, pos := "codec.go:118", after := #[{ on := 0, ground := Ground.data }], guard := none }) (v := ?ve1) rfl (by kernel_rfl) (by kernel_rfl) (by kernel_rfl) (fun _ _ _ h => h) (Or.inl ⟨by rfl, ?ye1⟩) (by assumption) ?re1
  case ye1 => (intro w' hSw; (try dsimp only at hSw); go_simp; try with_reducible rfl)
  try simp only [Act.put, List.setIfInBounds_toArray, List.set_cons_zero, List.set_cons_succ]
  refine wpAnyH_take (i := 2) (oi := { dst := some 10, op := Op.fieldAddr 175 (Operand.tmp 9) 3, type := 0, pos := "codec.go:118", after := #[{ on := 1, ground := Ground.data }], guard := none }) (v := ?ve2) rfl (by kernel_rfl) (by kernel_rfl) (by kernel_rfl) (fun _ _ _ h => h) (Or.inl ⟨by rfl, ?ye2⟩) (by assumption) ?re2
  case ye2 => (intro w' hSw; (try dsimp only at hSw); go_simp; try with_reducible rfl)
  try simp only [Act.put, List.setIfInBounds_toArray, List.set_cons_zero, List.set_cons_succ]
  refine wpAnyH_take (i := 3) (oi := { dst := some 11, op := Op.load 3 (Operand.tmp 10), type := 3, pos := "codec.go:118", after := #[{ on := 2, ground := Ground.data }], guard := none }) (v := ?ve3) rfl (by kernel_rfl) (by kernel_rfl) (by kernel_rfl) (fun _ _ _ h => h) (Or.inl ⟨by rfl, ?ye3⟩) (by assumption) ?re3
  case ye3 => (intro w' hSw; (try dsimp only at hSw); go_simp; try with_reducible rfl)
  try simp only [Act.put, List.setIfInBounds_toArray, List.set_cons_zero, List.set_cons_succ]
  refine wpAnyH_take (i := 4) (oi := { dst := some 12, op := Op.move (Operand.tmp 0), type := 118, pos := "codec.go:118", after := #[], guard := none }) (v := ?ve4) rfl (by kernel_rfl) (by kernel_rfl) (by kernel_rfl) (fun _ _ _ h => h) (Or.inl ⟨by rfl, ?ye4⟩) (by assumption) ?re4
  case ye4 => (intro w' hSw; (try dsimp only at hSw); go_simp; try with_reducible rfl)
  try simp only [Act.put, List.setIfInBounds_toArray, List.set_cons_zero, List.set_cons_succ]
  refine wpAnyH_take (i := 5) (oi := { dst := some 13, op := Op.nilCheck (Operand.tmp 12), type := 0, pos := "codec.go:118", after := #[{ on := 4, ground := Ground.data }], guard := none }) (v := ?ve5) rfl (by kernel_rfl) (by kernel_rfl) (by kernel_rfl) (fun _ _ _ h => h) (Or.inl ⟨by rfl, ?ye5⟩) (by assumption) ?re5
  case ye5 => (intro w' hSw; (try dsimp only at hSw); go_simp; try with_reducible rfl)
  try simp only [Act.put, List.setIfInBounds_toArray, List.set_cons_zero, List.set_cons_succ]
  refine wpAnyH_take (i := 6) (oi := { dst := some 14, op := Op.fieldAddr 175 (Operand.tmp 13) 2, type := 0, pos := "codec.go:118", after := #[{ on := 5, ground := Ground.data }], guard := none }) (v := ?ve6) rfl (by kernel_rfl) (by kernel_rfl) (by kernel_rfl) (fun _ _ _ h => h) (Or.inl ⟨by rfl, ?ye6⟩) (by assumption) ?re6
  case ye6 => (intro w' hSw; (try dsimp only at hSw); go_simp; try with_reducible rfl)
  try simp only [Act.put, List.setIfInBounds_toArray, List.set_cons_zero, List.set_cons_succ]
  refine wpAnyH_take (i := 7) (oi := { dst := some 15, op := Op.load 88 (Operand.tmp 14), type := 88, pos := "codec.go:118", after := #[{ on := 6, ground := Ground.data }], guard := none }) (v := ?ve7) rfl (by kernel_rfl) (by kernel_rfl) (by kernel_rfl) (fun _ _ _ h => h) (Or.inl ⟨by rfl, ?ye7⟩) (by assumption) ?re7
  case ye7 => (intro w' hSw; (try dsimp only at hSw); go_simp; try with_reducible rfl)
  try simp only [Act.put, List.setIfInBounds_toArray, List.set_cons_zero, List.set_cons_succ]
  refine wpAnyH_take (i := 8) (oi := { dst := some 16, op := Op.makeInterface 88 (Operand.tmp 15), type := 32, pos := "codec.go:118", after := #[{ on := 7, ground := Ground.data }], guard := none }) (v := ?ve8) rfl (by kernel_rfl) (by kernel_rfl) (by kernel_rfl) (fun _ _ _ h => h) (Or.inl ⟨by rfl, ?ye8⟩) (by assumption) ?re8
  case ye8 => (intro w' hSw; (try dsimp only at hSw); go_simp; try with_reducible rfl)
  try simp only [Act.put, List.setIfInBounds_toArray, List.set_cons_zero, List.set_cons_succ]
  refine wpAnyH_take (i := 9) (oi := { dst := some 17, op := Op.build 93 #[(0, Operand.const (Value.string { data := #[98, 121, 116, 101] })), (1, Operand.tmp 11), (2, Operand.tmp 16)], type := 93, pos := "codec.go:118", after := #[{ on := 3, ground := Ground.data }, { on := 8, ground := Ground.data }], guard := none }) (v := ?ve9) rfl (by kernel_rfl) (by kernel_rfl) (by kernel_rfl) (fun _ _ _ h => h) (Or.inl ⟨by rfl, ?ye9⟩) (by assumption) ?re9
  case ye9 => (intro w' hSw; (try dsimp only at hSw); go_simp; try with_reducible rfl)
  try simp only [Act.put, List.setIfInBounds_toArray, List.set_cons_zero, List.set_cons_succ]
  refine wpAnyH_ready (rs := [10]) (by kernel_rfl) (by simp) ?_
  refine AllReadyH.cons (o := { dst := some 18, op := Op.box 93 (Operand.tmp 17), type := 89, pos := "codec.go:118", after := #[{ on := 9, ground := Ground.data }], guard := none }) rfl (fun K hK => ?_) AllReadyH.nil
  go_simp
  refine hK.out _ _ (⟨(World.cell?_alloc_lt _ _ ⟨D, 3, none⟩ hD).trans c3, (World.cell?_alloc_lt _ _ ⟨D, 2, none⟩ hD).trans c2⟩) (fun hHelde10 => ?_)
  clear hK K hHeld
  try simp only [Act.put, List.setIfInBounds_toArray, List.set_cons_zero, List.set_cons_succ]
  refine wpAnyH_take (i := 11) (oi := { dst := some 19, op := Op.makeInterface 89 (Operand.tmp 18), type := 32, pos := "codec.go:118", after := #[{ on := 10, ground := Ground.data }], guard := none }) (v := ?ve11) rfl (by kernel_rfl) (by kernel_rfl) (by kernel_rfl) (fun _ _ _ h => h) (Or.inl ⟨by rfl, ?ye11⟩) (by assumption) ?re11
  case ye11 => (intro w' hSw; (try dsimp only at hSw); go_simp; try with_reducible rfl)
  try simp only [Act.put, List.setIfInBounds_toArray, List.set_cons_zero, List.set_cons_succ]
  refine wpAnyH_take (i := 12) (oi := { dst := some 2, op := Op.assign (Operand.tmp 19), type := 32, pos := "codec.go:118", after := #[{ on := 11, ground := Ground.data }, { on := 0, ground := Ground.phase }, { on := 1, ground := Ground.phase }, { on := 2, ground := Ground.phase }, { on := 3, ground := Ground.phase }, { on := 4, ground := Ground.phase }, { on := 5, ground := Ground.phase }, { on := 6, ground := Ground.phase }, { on := 7, ground := Ground.phase }, { on := 8, ground := Ground.phase }, { on := 9, ground := Ground.phase }, { on := 10, ground := Ground.phase }, { on := 11, ground := Ground.phase }], guard := none }) (v := ?ve12) rfl (by kernel_rfl) (by kernel_rfl) (by kernel_rfl) (fun _ _ _ h => h) (Or.inl ⟨by rfl, ?ye12⟩) (by assumption) ?re12
  case ye12 => (intro w' hSw; (try dsimp only at hSw); go_simp; try with_reducible rfl)
  try simp only [Act.put, List.setIfInBounds_toArray, List.set_cons_zero, List.set_cons_succ]
  refine wpAnyH_done (by kernel_rfl) ?_ _
  go_wp2_with fail
  go_ret
  exact ⟨_, rfl, heap_alloc_new _ _, Nat.le_refl _, (below_drewN (Below.refl _ w) 1).alloc (Nat.le_refl _) _⟩

set_option maxHeartbeats 2000000 in
theorem decLeft_short (w : World) (D n : Nat) (v : Value) (h : Bad w D v n) :
    Calls Tryz.prog 74 #[.pointer (some ⟨D, 0, none⟩)] w fun e w' => e = .returned (.int .i64 0) ∧ w' = w := by
  have c2 := Blk.cell h 2
  have hD := Blk.lt h
  clear h
  go_enter Tryz.func74, Tryz.ntmps74
  go_wp2_with fail
  go_ret
  exact ⟨rfl, rfl⟩
end Go.Proofs.YtplleaimmmanhaaGreatDoor
namespace Go.Proofs.YtplleaimmmanhaaGreatDoor
open Go Go.RowKit Go.Extern.Stop Go.Stop Go.Extern

theorem valueOfPP (t : Addr) (w : World) : (ReflectliteValue.unpack (.iface 91 (.pointer (some t)))).run Tryz.prog w
    = .ok (.agg #[.pointer (some ⟨8, 91, none⟩), .pointer (some ⟨w.heap.size, 0, none⟩), .int .u64 150]) (w.alloc (.cells #[.pointer (some t)] 91)) := by kernel_rfl
theorem typePP (a : Addr) (w : World) : (ReflectliteValue.methodAny (ReflectliteValue.valueError "reflectlite.Value.Type" 0) (fun t _ _ _ => ReflectliteType.toType t) #[.agg #[.pointer (some ⟨8, 91, none⟩), .pointer (some a), .int .u64 150]]).run Tryz.prog w
    = .ok (.iface 186 (.agg #[.pointer (some ⟨8, 91, none⟩)])) w := by kernel_rfl
theorem methodKind (h : Value) (w : World) : (Go.method 377 186 (.agg #[h]) "Kind").run Tryz.prog w = .ok (189, h) w := by kernel_rfl
theorem kindPP (w : World) : ((ReflectliteType.abiMethod fun t => (fun a : Nat => Value.int IntKind.u8 (a : Int)) <$> Rtype.kind t) #[.pointer (some ⟨8, 91, none⟩)]).run Tryz.prog w = .ok (.int .u8 22) w := by kernel_rfl
theorem kindP (w : World) : ((ReflectliteType.abiMethod fun t => (fun a : Nat => Value.int IntKind.u8 (a : Int)) <$> Rtype.kind t) #[.pointer (some ⟨8, 89, none⟩)]).run Tryz.prog w = .ok (.int .u8 22) w := by kernel_rfl
theorem partsPP (a : Addr) (w : World) : (ReflectliteValue.parts (.agg #[.pointer (some ⟨8, 91, none⟩), .pointer (some a), .int .u64 150])).run Tryz.prog w = .ok (some (91, a, 150)) w := by kernel_rfl
theorem isNilPP (a p : Addr) (W : World) (ha : W.cell? a = some (.pointer (some p))) :
    (ReflectliteValue.method (ReflectliteValue.valueError "reflectlite.Value.IsNil" 0) ReflectliteValue.isNil #[.agg #[.pointer (some ⟨8, 91, none⟩), .pointer (some a), .int .u64 150]]).run Tryz.prog W = .ok (.bool false) W := by
  change Sem.run Tryz.prog (ReflectliteValue.parts (.agg #[.pointer (some ⟨8, 91, none⟩), .pointer (some a), .int .u64 150]) >>= _) W = _
  rw [Sem.run_bind, partsPP]
  dsimp only [Result.andThen]
  simp [ReflectliteValue.isNil, loadVar, isAgg, underlying, Tryz.underlying91, ha, Result.andThen]
theorem methodElem (h : Value) (w : World) : (Go.method 377 186 (.agg #[h]) "Elem").run Tryz.prog w = .ok (214, .agg #[h]) w := by kernel_rfl
theorem methodImplements (h : Value) (w : World) : (Go.method 377 186 (.agg #[h]) "Implements").run Tryz.prog w = .ok (215, .agg #[h]) w := by kernel_rfl
theorem methodAssignableTo (h : Value) (w : World) : (Go.method 377 186 (.agg #[h]) "AssignableTo").run Tryz.prog w = .ok (212, .agg #[h]) w := by kernel_rfl
theorem elemPP (w : World) : (ReflectliteType.method ReflectliteType.elem #[.agg #[.pointer (some ⟨8, 91, none⟩)]]).run Tryz.prog w = .ok (.iface 186 (.agg #[.pointer (some ⟨8, 89, none⟩)])) w := by kernel_rfl
theorem implementsP (w : World) : (ReflectliteType.relation "Implements" ReflectliteType.implements_ #[.agg #[.pointer (some ⟨8, 89, none⟩)], .iface 186 (.agg #[.pointer (some ⟨8, 32, none⟩)])]).run Tryz.prog w = .ok (.bool true) w := by kernel_rfl
theorem typeOfP (v : Value) (w : World) : (ReflectliteType.typeOf #[.iface 89 v]).run Tryz.prog w = .ok (.iface 186 (.agg #[.pointer (some ⟨8, 89, none⟩)])) w := by kernel_rfl
theorem assignableP (w : World) : (ReflectliteType.relation "AssignableTo" ReflectliteType.assignableTo #[.agg #[.pointer (some ⟨8, 89, none⟩)], .iface 186 (.agg #[.pointer (some ⟨8, 89, none⟩)])]).run Tryz.prog w = .ok (.bool true) w := by kernel_rfl
theorem valueOfP (e : Addr) (w : World) : (ReflectliteValue.unpack (.iface 89 (.pointer (some e)))).run Tryz.prog w
    = .ok (.agg #[.pointer (some ⟨8, 89, none⟩), .pointer (some ⟨w.heap.size, 0, none⟩), .int .u64 150]) (w.alloc (.cells #[.pointer (some e)] 89)) := by kernel_rfl
theorem elemOfPP (w : World) : (Rtype.elem? 91).run Tryz.prog w = .ok (some 89) w := by kernel_rfl
theorem mkP (p : Addr) (w : World) : (ReflectliteValue.mk 89 p ReflectliteValue.flagAddr).run Tryz.prog w = .ok (.agg #[.pointer (some ⟨8, 89, none⟩), .pointer (some p), .int .u64 406]) w := by kernel_rfl
theorem elemVPP (a p : Addr) (W : World) (ha : W.cell? a = some (.pointer (some p))) :
    (ReflectliteValue.method (ReflectliteValue.valueError "reflectlite.Value.Elem" 0) ReflectliteValue.elem #[.agg #[.pointer (some ⟨8, 91, none⟩), .pointer (some a), .int .u64 150]]).run Tryz.prog W
      = .ok (.agg #[.pointer (some ⟨8, 89, none⟩), .pointer (some p), .int .u64 406]) W := by
  change Sem.run Tryz.prog (ReflectliteValue.parts (.agg #[.pointer (some ⟨8, 91, none⟩), .pointer (some a), .int .u64 150]) >>= _) W = _
  rw [Sem.run_bind, partsPP]
  dsimp only [Result.andThen]
  simp [ReflectliteValue.elem, loadVar, isAgg, underlying, Tryz.underlying91, ha, Result.andThen, elemOfPP, mkP]
theorem partsPa (a : Addr) (w : World) : (ReflectliteValue.parts (.agg #[.pointer (some ⟨8, 89, none⟩), .pointer (some a), .int .u64 406])).run Tryz.prog w = .ok (some (89, a, 406)) w := by kernel_rfl
theorem partsP (a : Addr) (w : World) : (ReflectliteValue.parts (.agg #[.pointer (some ⟨8, 89, none⟩), .pointer (some a), .int .u64 150])).run Tryz.prog w = .ok (some (89, a, 150)) w := by kernel_rfl
theorem directP (w : World) : (Rtype.directlyAssignable 89 89).run Tryz.prog w = .ok true w := by kernel_rfl
theorem sizeP (w : World) : (sizeOf 89).run Tryz.prog w = .ok 1 w := by kernel_rfl
theorem setP (ta b e : Addr) (old : Value) (W : World) (hb : W.cell? b = some (.pointer (some e))) (ht : W.cell? ta = some old) (hf : W.frozen? ta = false) :
    (ReflectliteValue.set #[.agg #[.pointer (some ⟨8, 89, none⟩), .pointer (some ta), .int .u64 406], .agg #[.pointer (some ⟨8, 89, none⟩), .pointer (some b), .int .u64 150]]).run Tryz.prog W
      = .ok (.tuple #[]) (W.setCell ta (.pointer (some e))) := by
  change Sem.run Tryz.prog (ReflectliteValue.parts (.agg #[.pointer (some ⟨8, 89, none⟩), .pointer (some ta), .int .u64 406]) >>= _) W = _
  rw [Sem.run_bind, partsPa]
  dsimp only [Result.andThen]
  change Sem.run Tryz.prog (ReflectliteValue.parts (.agg #[.pointer (some ⟨8, 89, none⟩), .pointer (some b), .int .u64 150]) >>= _) W = _
  rw [Sem.run_bind, partsP]
  dsimp only [Result.andThen]
  simp [ReflectliteValue.flagAddr, loadVar, isAgg, underlying, Tryz.underlying89, hb, Result.andThen, directP, storeVar, Value.cells, storeCells, Addr.add]
  rw [run_store Tryz.prog W ta _ _ (by rfl)]
  simp [ht, hf]
/-- errors.errorType as the program's text lays it. -/
abbrev ErrType (w : World) : Prop := w.cell? ⟨0, 0, none⟩ = some (.iface 186 (.agg #[.pointer (some ⟨8, 32, none⟩)]))

set_option maxHeartbeats 4000000 in
theorem as_hit (e t : Addr) (old : Value) (w : World) (hg : ErrType w) (ht0 : w.cell? t = some old) (hf0 : w.frozen? t = false) :
    Calls Tryz.prog 47 #[.iface 89 (.pointer (some e)), .iface 91 (.pointer (some t))] w fun ev w' => ev = .returned (.bool true) ∧ w' = ((((w.alloc (.cells #[.pointer (some t)] 91)).alloc (.cells #[.pointer (some ⟨8, 91, none⟩), .pointer (some ⟨w.heap.size, 0, none⟩), .int .u64 150] 146)).alloc (.cells #[.pointer (some ⟨8, 91, none⟩), .pointer (some ⟨w.heap.size, 0, none⟩), .int .u64 150] 146)).alloc (.cells #[.pointer (some e)] 89)).setCell t (.pointer (some e)) := by
  have h6 := @run_callFunc_extern Tryz.prog 97 _ (fun args => ReflectliteValue.unpack (args.getD 0 (.tuple #[]))) Tryz.func97 (by kernel_rfl) (by kernel_rfl) (by kernel_rfl) (by kernel_rfl)
  have h7 := @run_callFunc_extern Tryz.prog 98 _ (ReflectliteValue.methodAny (ReflectliteValue.valueError "reflectlite.Value.Type" 0) (fun t _ _ _ => ReflectliteType.toType t)) Tryz.func98 (by kernel_rfl) (by kernel_rfl) (by kernel_rfl) (by kernel_rfl)
  have h8 := @run_callFunc_extern Tryz.prog 99 _ (ReflectliteValue.method (ReflectliteValue.valueError "reflectlite.Value.IsNil" 0) ReflectliteValue.isNil) Tryz.func99 (by kernel_rfl) (by kernel_rfl) (by kernel_rfl) (by kernel_rfl)
  have h27 := @run_callFunc_extern Tryz.prog 189 _ (ReflectliteType.abiMethod fun t => do pure (.int .u8 (← Rtype.kind t))) Tryz.func189 (by kernel_rfl) (by kernel_rfl) (by kernel_rfl) (by kernel_rfl)
  have h37 := @run_callFunc_extern Tryz.prog 214 _ (ReflectliteType.method ReflectliteType.elem) Tryz.func214 (by kernel_rfl) (by kernel_rfl) (by kernel_rfl) (by kernel_rfl)
  have h38 := @run_callFunc_extern Tryz.prog 215 _ (ReflectliteType.relation "Implements" ReflectliteType.implements_) Tryz.func215 (by kernel_rfl) (by kernel_rfl) (by kernel_rfl) (by kernel_rfl)
  have h10 := @run_callFunc_extern Tryz.prog 95 _ ReflectliteType.typeOf Tryz.func95 (by kernel_rfl) (by kernel_rfl) (by kernel_rfl) (by kernel_rfl)
  have h35 := @run_callFunc_extern Tryz.prog 212 _ (ReflectliteType.relation "AssignableTo" ReflectliteType.assignableTo) Tryz.func212 (by kernel_rfl) (by kernel_rfl) (by kernel_rfl) (by kernel_rfl)
  have h11 := @run_callFunc_extern Tryz.prog 133 _ (ReflectliteValue.method (ReflectliteValue.valueError "reflectlite.Value.Elem" 0) ReflectliteValue.elem) Tryz.func133 (by kernel_rfl) (by kernel_rfl) (by kernel_rfl) (by kernel_rfl)
  have h12 := @run_callFunc_extern Tryz.prog 134 _ ReflectliteValue.set Tryz.func134 (by kernel_rfl) (by kernel_rfl) (by kernel_rfl) (by kernel_rfl)
  have tO := typeOfP
  have mA := methodAssignableTo
  have a25 := assignableP
  have v25 := valueOfP
  have f6 := valueOfPP
  have f7 := typePP
  have mK := methodKind
  have mE := methodElem
  have mI := methodImplements
  have k27 := kindPP
  have k25 := kindP
  have e27 := elemPP
  have i25 := implementsP
  have n8 := isNilPP ⟨w.heap.size, 0, none⟩ t ((w.alloc (.cells #[.pointer (some t)] 91)).alloc (.cells #[.pointer (some ⟨8, 91, none⟩), .pointer (some ⟨w.heap.size, 0, none⟩), .int .u64 150] 146)) (by simp)
  have hlt : 0 < w.heap.size := by
    rcases Nat.lt_or_ge 0 w.heap.size with h | h
    · exact h
    · simp [ErrType, World.cell?, Array.getElem?_eq_none h] at hg
  have hg2 : ((w.alloc (.cells #[.pointer (some t)] 91)).alloc (.cells #[.pointer (some ⟨8, 91, none⟩), .pointer (some ⟨w.heap.size, 0, none⟩), .int .u64 150] 146)).cell? ⟨0, 0, none⟩ = some (.iface 186 (.agg #[.pointer (some ⟨8, 32, none⟩)])) := by
    rw [World.cell?_alloc_lt _ _ ⟨0, 0, none⟩ (by simp <;> omega), World.cell?_alloc_lt _ _ ⟨0, 0, none⟩ hlt]; exact hg
  have htl : t.block < w.heap.size := by
    rcases Nat.lt_or_ge t.block w.heap.size with h | h
    · exact h
    · simp [World.cell?, Array.getElem?_eq_none h] at ht0
  have el := elemVPP ⟨w.heap.size, 0, none⟩ t (((w.alloc (.cells #[.pointer (some t)] 91)).alloc (.cells #[.pointer (some ⟨8, 91, none⟩), .pointer (some ⟨w.heap.size, 0, none⟩), .int .u64 150] 146)).alloc (.cells #[.pointer (some ⟨8, 91, none⟩), .pointer (some ⟨w.heap.size, 0, none⟩), .int .u64 150] 146)) (by rw [World.cell?_alloc_lt _ _ ⟨w.heap.size, 0, none⟩ (by simp; omega)]; simp)
  have st := setP t ⟨w.heap.size + 1 + 1 + 1, 0, none⟩ e old ((((w.alloc (.cells #[.pointer (some t)] 91)).alloc (.cells #[.pointer (some ⟨8, 91, none⟩), .pointer (some ⟨w.heap.size, 0, none⟩), .int .u64 150] 146)).alloc (.cells #[.pointer (some ⟨8, 91, none⟩), .pointer (some ⟨w.heap.size, 0, none⟩), .int .u64 150] 146)).alloc (.cells #[.pointer (some e)] 89))
    (by rw [World.cell?_alloc_at _ _ _ _ (by simp)]; rfl)
    (by rw [World.cell?_alloc_lt _ _ t (by simp; omega), World.cell?_alloc_lt _ _ t (by simp; omega), World.cell?_alloc_lt _ _ t (by simp; omega), World.cell?_alloc_lt _ _ t htl]; exact ht0)
    (by rw [World.frozen?_alloc_old _ _ t (by simp; omega), World.frozen?_alloc_old _ _ t (by simp; omega), World.frozen?_alloc_old _ _ t (by simp; omega), World.frozen?_alloc_old _ _ t (Nat.ne_of_lt htl)]; exact hf0)
  go_enter Tryz.func47, Tryz.ntmps47
  go_wp2
  refine wp_loop_rounds 1 ?_
  rw [rounds_succ]
  go_wp2
  go_ret
  exact ⟨rfl, rfl⟩
end Go.Proofs.YtplleaimmmanhaaGreatDoor
namespace Go.Proofs.YtplleaimmmanhaaGreatDoor
open Go Go.RowKit Go.Extern.Stop Go.Stop Go.Extern

theorem typeOfE (v : Value) (w : World) : (ReflectliteType.typeOf #[.iface 88 v]).run Tryz.prog w = .ok (.iface 186 (.agg #[.pointer (some ⟨8, 88, none⟩)])) w := by kernel_rfl
theorem comparableE (w : World) : ((ReflectliteType.method fun t => do Rtype.noPackHeld "Comparable" t; (fun a => Value.bool a.comparable) <$> typeInfo t) #[.agg #[.pointer (some ⟨8, 88, none⟩)]]).run Tryz.prog w = .ok (.bool true) w := by kernel_rfl
theorem methodComparable (v : Value) (w : World) : (Go.method 377 186 v "Comparable").run Tryz.prog w = .ok (213, v) w := by kernel_rfl
theorem noIsF (v : Value) (xT : TypeId) (w : World) : (Instr.typeAssert (.iface 89 v) xT 188 true).run Tryz.prog w = .ok (.tuple #[.nilIface, .bool false]) w := run_typeAssert_lacksB Tryz.underlying188 (by kernel_rfl) (by kernel_rfl) v xT w
theorem hasUnwrapF (v : Value) (xT : TypeId) (w : World) : (Instr.typeAssert (.iface 89 v) xT 191 true).run Tryz.prog w = .ok (.tuple #[.iface 89 v, .bool true]) w := run_typeAssert_hasB Tryz.underlying191 (by kernel_rfl) v xT w
theorem methodUnwrap (v : Value) (w : World) : (Go.method 377 89 v "Unwrap").run Tryz.prog w = .ok (194, v) w := by kernel_rfl
theorem eqlFE (a : Addr) (c : Int) (w : World) : (binOp .eql 32 (.iface 89 (.pointer (some a))) (.iface 88 (.int .i64 c))).run Tryz.prog w = .ok (.bool false) w := by kernel_rfl
theorem nilE (c : Int) (w : World) : (binOp .eql 32 (.iface 88 (.int .i64 c)) .nilIface).run Tryz.prog w = .ok (.bool false) w := by kernel_rfl
theorem nilF (a : Addr) (w : World) : (binOp .eql 32 (.iface 89 (.pointer (some a))) .nilIface).run Tryz.prog w = .ok (.bool false) w := by kernel_rfl
theorem eqlE3 (w : World) : (binOp .eql 32 (.iface 88 (.int .i64 3)) (.iface 88 (.int .i64 3))).run Tryz.prog w = .ok (.bool true) w := by kernel_rfl
theorem eqlE2 (w : World) : (binOp .eql 32 (.iface 88 (.int .i64 2)) (.iface 88 (.int .i64 2))).run Tryz.prog w = .ok (.bool true) w := by kernel_rfl

set_option maxRecDepth 100000 in
set_option maxHeartbeats 4000000 in
/-- errors.Is(f, c), f a Fault whose Err is the Errno c. -/
theorem is_hit (F : Nat) (c : Int) (w : World) (h1 : w.cell? ⟨F, 2, none⟩ = some (.iface 88 (.int .i64 c)))
    (heq : ∀ w, (binOp .eql 32 (.iface 88 (.int .i64 c)) (.iface 88 (.int .i64 c))).run Tryz.prog w = .ok (.bool true) w) :
    Calls Tryz.prog 46 #[.iface 89 (.pointer (some ⟨F, 0, none⟩)), .iface 88 (.int .i64 c)] w fun e w' => e = .returned (.bool true) ∧ w' = w := by
  have h8 := @run_callFunc_extern Tryz.prog 95 _ ReflectliteType.typeOf Tryz.func95 (by kernel_rfl) (by kernel_rfl) (by kernel_rfl) (by kernel_rfl)
  have h32 := @run_callFunc_extern Tryz.prog 213 _ (ReflectliteType.method fun t => do Rtype.noPackHeld "Comparable" t; pure (.bool (← typeInfo t).comparable)) Tryz.func213 (by kernel_rfl) (by kernel_rfl) (by kernel_rfl) (by kernel_rfl)
  have tT := typeOfE
  have cT := comparableE
  have mR := methodComparable
  have nW := noIsF
  have uW := hasUnwrapF
  have mU := methodUnwrap
  have e1 := eqlFE
  have e2 := nilE
  have e3 := nilF
  go_enter Tryz.func46, Tryz.ntmps46
  go_wp2
  refine wp_loop_rounds 2 ?_
  rw [rounds_succ]
  go_wp2
  rw [rounds_succ]
  go_wp2
  go_ret
  exact ⟨rfl, rfl⟩
end Go.Proofs.YtplleaimmmanhaaGreatDoor
namespace Go.Proofs.YtplleaimmmanhaaGreatDoor
open Go Go.RowKit

theorem below_cell {w w' : World} (h : Below w.heap.size w w') {a : Addr} {v : Value} (hc : w.cell? a = some v) : w'.cell? a = some v := by
  have := h.block a.block (World.block_lt_of_cell? w a hc)
  simp only [World.cell?] at hc ⊢
  rw [this]; exact hc
theorem ErrType.below {w w' : World} (h : ErrType w) (hb : Below w.heap.size w w') : ErrType w' := below_cell hb h

theorem as_fault (F t : Nat) (w : World) (hg : ErrType w) (ht : Blk w t 89 #[.pointer none]) :
    Calls Tryz.prog 47 #[.iface 89 (.pointer (some ⟨F, 0, none⟩)), .iface 91 (.pointer (some ⟨t, 0, none⟩))] w fun e w' => e = .returned (.bool true) ∧ Blk w' t 89 #[.pointer (some ⟨F, 0, none⟩)] ∧ Touch w w' t none := by
  refine (as_hit ⟨F, 0, none⟩ ⟨t, 0, none⟩ (.pointer none) w hg (ht.cell 0) (ht.frozen 0)).mono ?_
  rintro e w' ⟨rfl, rfl⟩
  refine ⟨rfl, ((((ht.alloc _).alloc _).alloc _).alloc _).set_ 0 _, rfl, rfl, rfl, by simp; omega, fun j hj hne _ => ?_⟩
  refine (Below.heap_setCell _ _ _ _ hne).trans ?_
  exact (((((Below.refl w.heap.size w).alloc (Nat.le_refl _) _).alloc (by simp) _).alloc (by simp; omega) _).alloc (by simp; omega) _).block j hj

structure TT (w0 w : World) (F g n : Nat) : Prop where
  box : Blk w w0.heap.size 36 #[.slice (some ⟨g, 0, none⟩) 1 1, .int .i64 3]
  part : Blk w g 95 #[.string bByte, .int .i64 n]
  fault : Blk w F 93 #[.string bByte, .int .i64 n, .iface 88 (.int .i64 3)]
  err : ErrType w
  bel : Below w0.heap.size w0 w
theorem TT.below {w0 w w' : World} {F g n : Nat} (h : TT w0 w F g n) (hb : Below w.heap.size w w') : TT w0 w' F g n :=
  ⟨h.box.below hb h.box.lt, h.part.below hb h.part.lt, h.fault.below hb h.fault.lt, h.err.below hb, h.bel.trans (hb.mono h.bel.size)⟩
theorem TT.draws {w0 w : World} {F g n : Nat} (h : TT w0 w F g n) (k : Nat) : TT w0 (w.drewN k) F g n := h.below (below_drewN (Below.refl _ w) k)
theorem TT.cells {w0 w : World} {F g n : Nat} (h : TT w0 w F g n) : w.cell? ⟨w0.heap.size, 0, none⟩ = some (.slice (some ⟨g, 0, none⟩) 1 1) ∧ w.cell? ⟨w0.heap.size, 1, none⟩ = some (.int .i64 3) := ⟨h.box.cell 0, h.box.cell 1⟩

set_option maxRecDepth 100000 in
set_option maxHeartbeats 4000000 in
theorem tells_short (w : World) (F g n : Nat) (hF : Blk w F 93 #[.string bByte, .int .i64 n, .iface 88 (.int .i64 3)]) (hg : WrongAt w g n) (hn : To10 n) (hE : ErrType w) :
    Calls Tryz.prog 10 #[.iface 89 (.pointer (some ⟨F, 0, none⟩)), wrong1 g] w fun e w' => e = .returned (.bool true) ∧ Below w.heap.size w w' := by
  have hb0 := (Below.refl w.heap.size w).alloc (Nat.le_refl _) (.cells #[.slice (some ⟨g, 0, none⟩) 1 1, .int .i64 3] 36)
  have T0 := Lib.hid (TT.mk (w0 := w) (heap_alloc_new w (.cells #[.slice (some ⟨g, 0, none⟩) 1 1, .int .i64 3] 36)) (Blk.below hg hb0 (Blk.lt hg)) (hF.below hb0 hF.lt) (hE.below hb0) hb0)
  have T0d : Hid (TT w (w.alloc (.cells #[.slice (some ⟨g, 0, none⟩) 1 1, .int .i64 3] 36)).drew F g n) := Lib.hid (T0.out.draws 1)
  have ER := Lib.hid fun W (h : Blk W F 93 #[.string bByte, .int .i64 n, .iface 88 (.int .i64 3)]) => fault_error W F n h hn
  have WO := Lib.hid fun W (h : Blk W g 95 #[.string bByte, .int .i64 n]) => words_any W g n h hn
  have IS := Lib.hid fun W (h : Blk W F 93 #[.string bByte, .int .i64 n, .iface 88 (.int .i64 3)]) => is_hit F 3 W (h.cell 2) eqlE3
  have AS := Lib.hid fun W t => as_fault F t W
  have mF := invokeFault
  have nF := nilF
  have c0 := T0.out.box.cell 0
  have c1 := T0.out.box.cell 1
  obtain ⟨s, hs⟩ : ∃ s, s = fw n := ⟨_, rfl⟩
  rw [← hs] at ER WO
  clear hs hF hg hE hb0
  go_enter Tryz.func10, Tryz.ntmps10
  go_wp2_with fail
  refine wp_region_held_drew (S := fun w' => w'.cell? ⟨w.heap.size, 0, none⟩ = some (.slice (some ⟨g, 0, none⟩) 1 1) ∧ w'.cell? ⟨w.heap.size, 1, none⟩ = some (.int .i64 3)) (by kernel_rfl) (T0d.out.cells) (fun hHeld => ?_)
  refine wpAnyH_take (i := 0) (oi := { dst := some 11, op := Op.move (Operand.tmp 0), type := 32, pos := "law.go:25", after := #[], guard := none }) (v := ?vt0) rfl (by kernel_rfl) (by kernel_rfl) (by kernel_rfl) (fun _ _ _ h => h) (Or.inl ⟨by rfl, ?yt0⟩) (by assumption) ?rt0
  case yt0 => (intro w' hSw; (try dsimp only at hSw); go_simp; try with_reducible rfl)
  try simp only [Act.put, List.setIfInBounds_toArray, List.set_cons_zero, List.set_cons_succ]
  refine wpAnyH_take (i := 1) (oi := { dst := some 12, op := Op.binOp BinOp.eql 32 (Operand.tmp 11) (Operand.const Value.nilIface) 32, type := 4, pos := "law.go:25", after := #[{ on := 0, ground := Ground.data }], guard := none }) (v := ?vt1) rfl (by kernel_rfl) (by kernel_rfl) (by kernel_rfl) (fun _ _ _ h => h) (Or.inl ⟨by rfl, ?yt1⟩) (by assumption) ?rt1
  case yt1 => (intro w' hSw; (try dsimp only at hSw); go_simp; try with_reducible rfl)
  try simp only [Act.put, List.setIfInBounds_toArray, List.set_cons_zero, List.set_cons_succ]
  refine wpAnyH_take (i := 2) (oi := { dst := some 13, op := Op.move (Operand.tmp 12), type := 4, pos := "law.go:25", after := #[{ on := 1, ground := Ground.data }], guard := none }) (v := ?vt2) rfl (by kernel_rfl) (by kernel_rfl) (by kernel_rfl) (fun _ _ _ h => h) (Or.inl ⟨by rfl, ?yt2⟩) (by assumption) ?rt2
  case yt2 => (intro w' hSw; (try dsimp only at hSw); go_simp; try with_reducible rfl)
  try simp only [Act.put, List.setIfInBounds_toArray, List.set_cons_zero, List.set_cons_succ]
  refine wpAnyH_take (i := 3) (oi := { dst := some 14, op := Op.move (Operand.tmp 0), type := 32, pos := "law.go:25", after := #[{ on := 2, ground := Ground.guard }], guard := some (2, false) }) (v := ?vt3) rfl (by kernel_rfl) (by kernel_rfl) (by kernel_rfl) (fun _ _ _ h => h) (Or.inl ⟨by rfl, ?yt3⟩) (by assumption) ?rt3
  case yt3 => (intro w' hSw; (try dsimp only at hSw); go_simp; try with_reducible rfl)
  try simp only [Act.put, List.setIfInBounds_toArray, List.set_cons_zero, List.set_cons_succ]
  refine wpAnyH_take (i := 5) (oi := { dst := some 16, op := Op.load 36 (Operand.tmp 3), type := 36, pos := "law.go:25", after := #[{ on := 2, ground := Ground.guard }], guard := some (2, false) }) (v := ?vt5) rfl (by kernel_rfl) (by kernel_rfl) (by kernel_rfl) (fun _ _ _ h => h) (Or.inl ⟨by rfl, ?yt5⟩) (by assumption) ?rt5
  case yt5 => (intro w' hSw; (try dsimp only at hSw); go_simp; try with_reducible rfl)
  try simp only [Act.put, List.setIfInBounds_toArray, List.set_cons_zero, List.set_cons_succ]
  refine wpAnyH_ready (rs := [4]) (by kernel_rfl) (by simp) ?_
  refine AllReadyH.cons (o := { dst := some 15, op := Op.call { callee := Callee.invoke (Operand.tmp 14) "Error", args := #[], argTypes := #[] }, type := 9, pos := "law.go:25", after := #[{ on := 3, ground := Ground.data }, { on := 2, ground := Ground.chain }, { on := 2, ground := Ground.guard }], guard := some (2, false) }) rfl (fun K hK => ?_) AllReadyH.nil
  go_simp
  go_at_call 193
  refine (ER.out _ (TT.fault T0d.out)).mono ?_
  rintro e w1 ⟨rfl, k1, rfl⟩
  have T1 : Hid (TT w ((w.alloc (.cells #[.slice (some ⟨g, 0, none⟩) 1 1, .int .i64 3] 36)).drewN (1 + k1)) F g n) := Lib.hid (T0.out.draws (1 + k1))
  go_wp2_with fail
  refine hK.out _ _ (T1.out.cells) (fun hHeldt4 => ?_)
  clear hK K hHeld
  try simp only [Act.put, List.setIfInBounds_toArray, List.set_cons_zero, List.set_cons_succ]
  refine wpAnyH_ready (rs := [6]) (by kernel_rfl) (by simp) ?_
  refine AllReadyH.cons (o := { dst := some 17, op := Op.call { callee := Callee.value (Operand.func 45), args := #[Operand.tmp 16], argTypes := #[36] }, type := 9, pos := "law.go:25", after := #[{ on := 5, ground := Ground.data }, { on := 4, ground := Ground.chain }, { on := 2, ground := Ground.guard }], guard := some (2, false) }) rfl (fun K hK => ?_) AllReadyH.nil
  go_simp
  go_at_call 45
  refine (WO.out _ (TT.part T1.out)).mono ?_
  rintro e w2 ⟨rfl, hb2⟩
  have T2 := Lib.hid (T1.out.below hb2)
  go_wp2_with fail
  refine hK.out _ _ (T2.out.cells) (fun hHeldt6 => ?_)
  clear hK K hHeldt4
  try simp only [Act.put, List.setIfInBounds_toArray, List.set_cons_zero, List.set_cons_succ]
  refine wpAnyH_take (i := 7) (oi := { dst := some 18, op := Op.binOp BinOp.neq 9 (Operand.tmp 15) (Operand.tmp 17) 9, type := 4, pos := "law.go:25", after := #[{ on := 4, ground := Ground.data }, { on := 6, ground := Ground.data }, { on := 2, ground := Ground.guard }], guard := some (2, false) }) (v := ?vt7) rfl (by kernel_rfl) (by kernel_rfl) (by kernel_rfl) (fun _ _ _ h => h) (Or.inl ⟨by rfl, ?yt7⟩) (by assumption) ?rt7
  case yt7 => (intro w' hSw; (try dsimp only at hSw); go_simp; try with_reducible rfl)
  try simp only [Act.put, List.setIfInBounds_toArray, List.set_cons_zero, List.set_cons_succ]
  refine wpAnyH_take (i := 8) (oi := { dst := some 19, op := Op.pick (Operand.tmp 13) (Operand.const (Value.bool true)) (Operand.tmp 18), type := 4, pos := "law.go:25", after := #[{ on := 2, ground := Ground.data }, { on := 7, ground := Ground.data }], guard := none }) (v := ?vt8) rfl (by kernel_rfl) (by kernel_rfl) (by kernel_rfl) (fun _ _ _ h => h) (Or.inl ⟨by rfl, ?yt8⟩) (by assumption) ?rt8
  case yt8 => (intro w' hSw; (try dsimp only at hSw); go_simp; try with_reducible rfl)
  try simp only [Act.put, List.setIfInBounds_toArray, List.set_cons_zero, List.set_cons_succ]
  refine wpAnyH_take (i := 9) (oi := { dst := some 20, op := Op.move (Operand.tmp 19), type := 4, pos := "law.go:25", after := #[{ on := 8, ground := Ground.data }, { on := 6, ground := Ground.chain }], guard := none }) (v := ?vt9) rfl (by kernel_rfl) (by kernel_rfl) (by kernel_rfl) (fun _ _ _ h => h) (Or.inl ⟨by rfl, ?yt9⟩) (by assumption) ?rt9
  case yt9 => (intro w' hSw; (try dsimp only at hSw); go_simp; try with_reducible rfl)
  try simp only [Act.put, List.setIfInBounds_toArray, List.set_cons_zero, List.set_cons_succ]
  refine wpAnyH_take (i := 10) (oi := { dst := some 21, op := Op.move (Operand.tmp 0), type := 32, pos := "law.go:25", after := #[{ on := 9, ground := Ground.guard }], guard := some (9, false) }) (v := ?vt10) rfl (by kernel_rfl) (by kernel_rfl) (by kernel_rfl) (fun _ _ _ h => h) (Or.inl ⟨by rfl, ?yt10⟩) (by assumption) ?rt10
  case yt10 => (intro w' hSw; (try dsimp only at hSw); go_simp; try with_reducible rfl)
  try simp only [Act.put, List.setIfInBounds_toArray, List.set_cons_zero, List.set_cons_succ]
  refine wpAnyH_take (i := 11) (oi := { dst := some 22, op := Op.fieldAddr 36 (Operand.tmp 3) 1, type := 0, pos := "law.go:25", after := #[{ on := 9, ground := Ground.guard }], guard := some (9, false) }) (v := ?vt11) rfl (by kernel_rfl) (by kernel_rfl) (by kernel_rfl) (fun _ _ _ h => h) (Or.inl ⟨by rfl, ?yt11⟩) (by assumption) ?rt11
  case yt11 => (intro w' hSw; (try dsimp only at hSw); go_simp; try with_reducible rfl)
  try simp only [Act.put, List.setIfInBounds_toArray, List.set_cons_zero, List.set_cons_succ]
  refine wpAnyH_take (i := 12) (oi := { dst := some 23, op := Op.load 3 (Operand.tmp 22), type := 3, pos := "law.go:25", after := #[{ on := 11, ground := Ground.data }, { on := 9, ground := Ground.guard }], guard := some (9, false) }) (v := ?vt12) rfl (by kernel_rfl) (by kernel_rfl) (by kernel_rfl) (fun _ _ _ h => h) (Or.inl ⟨by rfl, ?yt12⟩) (by assumption) ?rt12
  case yt12 => (intro w' hSw; (try dsimp only at hSw); go_simp; try with_reducible rfl)
  try simp only [Act.put, List.setIfInBounds_toArray, List.set_cons_zero, List.set_cons_succ]
  refine wpAnyH_take (i := 13) (oi := { dst := some 24, op := Op.makeInterface 88 (Operand.tmp 23), type := 32, pos := "law.go:25", after := #[{ on := 12, ground := Ground.data }, { on := 9, ground := Ground.guard }], guard := some (9, false) }) (v := ?vt13) rfl (by kernel_rfl) (by kernel_rfl) (by kernel_rfl) (fun _ _ _ h => h) (Or.inl ⟨by rfl, ?yt13⟩) (by assumption) ?rt13
  case yt13 => (intro w' hSw; (try dsimp only at hSw); go_simp; try with_reducible rfl)
  try simp only [Act.put, List.setIfInBounds_toArray, List.set_cons_zero, List.set_cons_succ]
  refine wpAnyH_ready (rs := [14]) (by kernel_rfl) (by simp) ?_
  refine AllReadyH.cons (o := { dst := some 25, op := Op.call { callee := Callee.value (Operand.func 46), args := #[Operand.tmp 21, Operand.tmp 24], argTypes := #[32, 32] }, type := 4, pos := "law.go:25", after := #[{ on := 10, ground := Ground.data }, { on := 13, ground := Ground.data }, { on := 9, ground := Ground.chain }, { on := 9, ground := Ground.guard }], guard := some (9, false) }) rfl (fun K hK => ?_) AllReadyH.nil
  go_simp
  go_at_call 46
  refine (IS.out _ (TT.fault T2.out)).mono ?_
  rintro e w3 ⟨rfl, rfl⟩
  go_wp2_with fail
  refine hK.out _ _ (T2.out.cells) (fun hHeldt14 => ?_)
  clear hK K hHeldt6
  try simp only [Act.put, List.setIfInBounds_toArray, List.set_cons_zero, List.set_cons_succ]
  refine wpAnyH_take (i := 15) (oi := { dst := some 26, op := Op.unOp UnOp.not 4 (Operand.tmp 25), type := 4, pos := "law.go:25", after := #[{ on := 14, ground := Ground.data }, { on := 9, ground := Ground.guard }], guard := some (9, false) }) (v := ?vt15) rfl (by kernel_rfl) (by kernel_rfl) (by kernel_rfl) (fun _ _ _ h => h) (Or.inl ⟨by rfl, ?yt15⟩) (by assumption) ?rt15
  case yt15 => (intro w' hSw; (try dsimp only at hSw); go_simp; try with_reducible rfl)
  try simp only [Act.put, List.setIfInBounds_toArray, List.set_cons_zero, List.set_cons_succ]
  refine wpAnyH_take (i := 16) (oi := { dst := some 27, op := Op.pick (Operand.tmp 20) (Operand.const (Value.bool true)) (Operand.tmp 26), type := 4, pos := "law.go:25", after := #[{ on := 9, ground := Ground.data }, { on := 15, ground := Ground.data }], guard := none }) (v := ?vt16) rfl (by kernel_rfl) (by kernel_rfl) (by kernel_rfl) (fun _ _ _ h => h) (Or.inl ⟨by rfl, ?yt16⟩) (by assumption) ?rt16
  case yt16 => (intro w' hSw; (try dsimp only at hSw); go_simp; try with_reducible rfl)
  try simp only [Act.put, List.setIfInBounds_toArray, List.set_cons_zero, List.set_cons_succ]
  refine wpAnyH_done (by kernel_rfl) ?_ _
  have c0 := T2.out.box.cell 0
  have c1 := T2.out.box.cell 1
  have HBk := Lib.hid (Blk.new w3 89 #[.pointer none])
  have T3 := Lib.hid (T2.out.below ((Below.refl _ _).alloc (Nat.le_refl _) (.cells #[.pointer none] 89)))
  clear T0 T0d T1 ER WO IS
  go_wp2_with fail
  refine (AS.out _ _ T3.out.err HBk.out).mono ?_
  rintro e w4 ⟨rfl, hbk, hT⟩
  have C0 := hbk.cell 0
  have d0 := (hT.blk T3.out.box (T3.out.box.ne_ HBk.out (by decide)) (by simp)).cell 0
  have d1 := (hT.blk T3.out.box (T3.out.box.ne_ HBk.out (by decide)) (by simp)).cell 1
  have p0 := (hT.blk T3.out.part (T3.out.part.ne_ HBk.out (by decide)) (by simp)).cell 0
  have p1 := (hT.blk T3.out.part (T3.out.part.ne_ HBk.out (by decide)) (by simp)).cell 1
  have q0 := (hT.blk T3.out.fault (T3.out.fault.ne_ HBk.out (by decide)) (by simp)).cell 0
  have q1 := (hT.blk T3.out.fault (T3.out.fault.ne_ HBk.out (by decide)) (by simp)).cell 1
  have HBF : Hid (Below w.heap.size w w4) := Lib.hid (T2.out.bel.trans (((Below.refl _ _).alloc T2.out.bel.size (.cells #[.pointer none] 89)).trans (hT.below (by have := T2.out.bel.size; simp; omega) T2.out.bel.size (fun _ h => by cases h))))
  clear hbk hT T3 HBk T2 AS
  go_wp2_with fail
  go_quiet (fail)
  go_wp2_with fail
  go_ret
  exact ⟨rfl, below_drewN HBF.out _⟩
end Go.Proofs.YtplleaimmmanhaaGreatDoor
