/-
  A Fault's Error and the document's Words, at any part, any number whose digits are known, any Errno.
-/
import Derived.Test.YtanjcjnkppnhcaaGreatDoorQAK
import Derived.Test.YtanjcjnkppnhcaaGreatDoorQAL

namespace Go.Proofs.YtanjcjnkppnhcaaGreatDoor
open Go Go.RowKit

/-- 'part digits: word'. -/
def fwG (p D s : ByteArray) : ByteArray := (((p ++ ⟨#[32]⟩) ++ D) ++ ⟨#[58, 32]⟩) ++ s
abbrev wrongG (g : Nat) (e : Int) : Value := .agg #[.slice (some ⟨g, 0, none⟩) 1 1, .int .i64 e]
theorem size32 : (ByteArray.mk #[32]).size = 1 := rfl
theorem size58 : (ByteArray.mk #[58, 32]).size = 2 := rfl

attribute [-go_sem] run_string_add_if
structure WG (w0 w : World) (B1 g : Nat) (p : ByteArray) (n e : Int) : Prop where
  box : Blk w B1 31 #[.slice (some ⟨g, 0, none⟩) 1 1, .int .i64 e]
  part : Blk w g 91 #[.string p, .int .i64 n]
  bel : Below w0.heap.size w0 w
theorem WG.below {w0 w w' : World} {B1 g : Nat} {p : ByteArray} {n e : Int} (h : WG w0 w B1 g p n e) (hb : Below w.heap.size w w') : WG w0 w' B1 g p n e :=
  ⟨h.box.below hb h.box.lt, h.part.below hb h.part.lt, h.bel.trans (hb.mono h.bel.size)⟩
theorem WG.drew {w0 w w' : World} {B1 g : Nat} {p : ByteArray} {n e : Int} (h : WG w0 w B1 g p n e) (hb : Below w.drew.heap.size w.drew w') : WG w0 w' B1 g p n e := (h.below (below_drewN (Below.refl _ w) 1)).below hb
theorem WG.cells {w0 w : World} {B1 g : Nat} {p : ByteArray} {n e : Int} (h : WG w0 w B1 g p n e) : w.cell? ⟨B1, 0, none⟩ = some (.slice (some ⟨g, 0, none⟩) 1 1) ∧ w.cell? ⟨g, 0, none⟩ = some (.string p) ∧ w.cell? ⟨g, 1, none⟩ = some (.int .i64 n) := ⟨h.box.cell 0, h.part.cell 0, h.part.cell 1⟩

set_option maxRecDepth 100000 in
set_option maxHeartbeats 4000000 in
theorem words_says (w : World) (g : Nat) (p D : ByteArray) (n e : Int) (hg : Blk w g 91 #[.string p, .int .i64 n]) (hp : p.size ≤ 1000) (hd : D.size ≤ 100) (he : To14 e)
    (hI : ∀ W, Calls Tryz.prog 48 #[.int .i64 n] W fun x w' => x = .returned (.string D) ∧ Below W.heap.size W w') :
    Calls Tryz.prog 41 #[wrongG g e] w fun x w' => x = .returned (.string (fwG p D (ew e))) ∧ Below w.heap.size w w' := by
  have T0 := Lib.hid (WG.mk (w0 := w) (heap_alloc_new w (.cells #[.slice (some ⟨g, 0, none⟩) 1 1, .int .i64 e] 31)) (hg.below ((Below.refl _ _).alloc (Nat.le_refl _) _) hg.lt) ((Below.refl _ _).alloc (Nat.le_refl _) _))
  have DEC := Lib.hid hI
  have SH := Lib.hid fun W => refErr_any e he W
  have hes := ew_size he
  obtain ⟨s0, hs0, hz0, hr0⟩ := sum_named ⟨#[]⟩ p (by show 0 + p.size ≤ _; omega)
  have e0 : s0 = p := by rw [hs0]; exact ByteArray.empty_append
  subst e0
  obtain ⟨s1, hs1, hz1, hr1⟩ := sum_named s0 ⟨#[32]⟩ (by rw [size32]; omega)
  rw [size32] at hz1
  obtain ⟨s2, hs2, hz2, hr2⟩ := sum_named s1 D (by omega)
  obtain ⟨s3, hs3, hz3, hr3⟩ := sum_named s2 ⟨#[58, 32]⟩ (by rw [size58]; omega)
  rw [size58] at hz3
  obtain ⟨s4, hs4, hz4, hr4⟩ := sum_named s3 (ew e) (by omega)
  have HS : Hid (s4 = fwG s0 D (ew e)) := Lib.hid (by rw [hs4, hs3, hs2, hs1]; rfl)
  clear hg hs0 hz0 hs1 hs2 hs3 hs4 hz1 hz2 hz3 hz4 hI he
  obtain ⟨s, hs⟩ : ∃ s, s = ew e := ⟨_, rfl⟩
  rw [← hs] at SH hr4 hes HS
  rw [← hs]
  clear hs
  have c0 := T0.out.box.cell 0
  have c1 := T0.out.box.cell 1
  go_enter Tryz.func41, Tryz.ntmps41
  go_wp2_with fail
  refine wp_loop_rounds 2 ?_
  rw [rounds_succ]
  go_wp2_with fail
  refine wp_region_held_drew (S := fun w' => w'.cell? ⟨w.heap.size, 0, none⟩ = some (.slice (some ⟨g, 0, none⟩) 1 1) ∧ w'.cell? ⟨g, 0, none⟩ = some (.string s0) ∧ w'.cell? ⟨g, 1, none⟩ = some (.int .i64 n)) (by kernel_rfl) (T0.out.cells) (fun hHeld => ?_)
  refine wpAnyH_take (i := 0) (oi := { dst := some 12, op := Op.move (Operand.tmp 3), type := 9, pos := "ref.go:62", after := #[], guard := none }) (v := ?vw0) rfl (by kernel_rfl) (by kernel_rfl) (by kernel_rfl) (fun _ _ _ h => h) (Or.inl ⟨by rfl, ?yw0⟩) (by assumption) ?rw0
  case yw0 => (intro w' hSw; (try dsimp only at hSw); go_simp; try with_reducible rfl)
  try simp only [Act.put, List.setIfInBounds_toArray, List.set_cons_zero, List.set_cons_succ]
  refine wpAnyH_take (i := 1) (oi := { dst := some 13, op := Op.fieldAddr 31 (Operand.tmp 1) 0, type := 0, pos := "ref.go:62", after := #[], guard := none }) (v := ?vw1) rfl (by kernel_rfl) (by kernel_rfl) (by kernel_rfl) (fun _ _ _ h => h) (Or.inl ⟨by rfl, ?yw1⟩) (by assumption) ?rw1
  case yw1 => (intro w' hSw; (try dsimp only at hSw); go_simp; try with_reducible rfl)
  try simp only [Act.put, List.setIfInBounds_toArray, List.set_cons_zero, List.set_cons_succ]
  refine wpAnyH_take (i := 2) (oi := { dst := some 14, op := Op.load 29 (Operand.tmp 13), type := 29, pos := "ref.go:62", after := #[{ on := 1, ground := Ground.data }], guard := none }) (v := ?vw2) rfl (by kernel_rfl) (by kernel_rfl) (by kernel_rfl) (fun _ _ _ h => h) (Or.inl ⟨by rfl, ?yw2⟩) (by assumption) ?rw2
  case yw2 => (intro w' hSw; (try dsimp only at hSw); go_simp; try with_reducible rfl)
  try simp only [Act.put, List.setIfInBounds_toArray, List.set_cons_zero, List.set_cons_succ]
  refine wpAnyH_take (i := 3) (oi := { dst := some 15, op := Op.move (Operand.tmp 4), type := 3, pos := "ref.go:62", after := #[], guard := none }) (v := ?vw3) rfl (by kernel_rfl) (by kernel_rfl) (by kernel_rfl) (fun _ _ _ h => h) (Or.inl ⟨by rfl, ?yw3⟩) (by assumption) ?rw3
  case yw3 => (intro w' hSw; (try dsimp only at hSw); go_simp; try with_reducible rfl)
  try simp only [Act.put, List.setIfInBounds_toArray, List.set_cons_zero, List.set_cons_succ]
  refine wpAnyH_take (i := 4) (oi := { dst := some 16, op := Op.indexAddr 29 (Operand.tmp 14) (Operand.tmp 15), type := 0, pos := "ref.go:62", after := #[{ on := 2, ground := Ground.data }, { on := 3, ground := Ground.data }], guard := none }) (v := ?vw4) rfl (by kernel_rfl) (by kernel_rfl) (by kernel_rfl) (fun _ _ _ h => h) (Or.inl ⟨by rfl, ?yw4⟩) (by assumption) ?rw4
  case yw4 => (intro w' hSw; (try dsimp only at hSw); go_simp; try with_reducible rfl)
  try simp only [Act.put, List.setIfInBounds_toArray, List.set_cons_zero, List.set_cons_succ]
  refine wpAnyH_take (i := 5) (oi := { dst := some 17, op := Op.fieldAddr 91 (Operand.tmp 16) 0, type := 0, pos := "ref.go:62", after := #[{ on := 4, ground := Ground.data }], guard := none }) (v := ?vw5) rfl (by kernel_rfl) (by kernel_rfl) (by kernel_rfl) (fun _ _ _ h => h) (Or.inl ⟨by rfl, ?yw5⟩) (by assumption) ?rw5
  case yw5 => (intro w' hSw; (try dsimp only at hSw); go_simp; try with_reducible rfl)
  try simp only [Act.put, List.setIfInBounds_toArray, List.set_cons_zero, List.set_cons_succ]
  refine wpAnyH_take (i := 6) (oi := { dst := some 18, op := Op.load 9 (Operand.tmp 17), type := 9, pos := "ref.go:62", after := #[{ on := 5, ground := Ground.data }], guard := none }) (v := ?vw6) rfl (by kernel_rfl) (by kernel_rfl) (by kernel_rfl) (fun _ _ _ h => h) (Or.inl ⟨by rfl, ?yw6⟩) (by assumption) ?rw6
  case yw6 => (intro w' hSw; (try dsimp only at hSw); go_simp; try with_reducible rfl)
  try simp only [Act.put, List.setIfInBounds_toArray, List.set_cons_zero, List.set_cons_succ]
  refine wpAnyH_take (i := 7) (oi := { dst := some 19, op := Op.binOp BinOp.add 9 (Operand.tmp 12) (Operand.tmp 18) 9, type := 9, pos := "ref.go:62", after := #[{ on := 0, ground := Ground.data }, { on := 6, ground := Ground.data }], guard := none }) (v := ?vw7) rfl (by kernel_rfl) (by kernel_rfl) (by kernel_rfl) (fun _ _ _ h => h) (Or.inl ⟨by rfl, ?yw7⟩) (by assumption) ?rw7
  case yw7 => (intro w' hSw; (try dsimp only at hSw); go_simp; try with_reducible rfl)
  try simp only [Act.put, List.setIfInBounds_toArray, List.set_cons_zero, List.set_cons_succ]
  refine wpAnyH_take (i := 8) (oi := { dst := some 20, op := Op.binOp BinOp.add 9 (Operand.tmp 19) (Operand.const (Value.string { data := #[32] })) 9, type := 9, pos := "ref.go:62", after := #[{ on := 7, ground := Ground.data }], guard := none }) (v := ?vw8) rfl (by kernel_rfl) (by kernel_rfl) (by kernel_rfl) (fun _ _ _ h => h) (Or.inl ⟨by rfl, ?yw8⟩) (by assumption) ?rw8
  case yw8 => (intro w' hSw; (try dsimp only at hSw); go_simp; try with_reducible rfl)
  try simp only [Act.put, List.setIfInBounds_toArray, List.set_cons_zero, List.set_cons_succ]
  refine wpAnyH_take (i := 9) (oi := { dst := some 21, op := Op.fieldAddr 31 (Operand.tmp 1) 0, type := 0, pos := "ref.go:62", after := #[], guard := none }) (v := ?vw9) rfl (by kernel_rfl) (by kernel_rfl) (by kernel_rfl) (fun _ _ _ h => h) (Or.inl ⟨by rfl, ?yw9⟩) (by assumption) ?rw9
  case yw9 => (intro w' hSw; (try dsimp only at hSw); go_simp; try with_reducible rfl)
  try simp only [Act.put, List.setIfInBounds_toArray, List.set_cons_zero, List.set_cons_succ]
  refine wpAnyH_take (i := 10) (oi := { dst := some 22, op := Op.load 29 (Operand.tmp 21), type := 29, pos := "ref.go:62", after := #[{ on := 9, ground := Ground.data }], guard := none }) (v := ?vw10) rfl (by kernel_rfl) (by kernel_rfl) (by kernel_rfl) (fun _ _ _ h => h) (Or.inl ⟨by rfl, ?yw10⟩) (by assumption) ?rw10
  case yw10 => (intro w' hSw; (try dsimp only at hSw); go_simp; try with_reducible rfl)
  try simp only [Act.put, List.setIfInBounds_toArray, List.set_cons_zero, List.set_cons_succ]
  refine wpAnyH_take (i := 11) (oi := { dst := some 23, op := Op.move (Operand.tmp 4), type := 3, pos := "ref.go:62", after := #[], guard := none }) (v := ?vw11) rfl (by kernel_rfl) (by kernel_rfl) (by kernel_rfl) (fun _ _ _ h => h) (Or.inl ⟨by rfl, ?yw11⟩) (by assumption) ?rw11
  case yw11 => (intro w' hSw; (try dsimp only at hSw); go_simp; try with_reducible rfl)
  try simp only [Act.put, List.setIfInBounds_toArray, List.set_cons_zero, List.set_cons_succ]
  refine wpAnyH_take (i := 12) (oi := { dst := some 24, op := Op.indexAddr 29 (Operand.tmp 22) (Operand.tmp 23), type := 0, pos := "ref.go:62", after := #[{ on := 10, ground := Ground.data }, { on := 11, ground := Ground.data }], guard := none }) (v := ?vw12) rfl (by kernel_rfl) (by kernel_rfl) (by kernel_rfl) (fun _ _ _ h => h) (Or.inl ⟨by rfl, ?yw12⟩) (by assumption) ?rw12
  case yw12 => (intro w' hSw; (try dsimp only at hSw); go_simp; try with_reducible rfl)
  try simp only [Act.put, List.setIfInBounds_toArray, List.set_cons_zero, List.set_cons_succ]
  refine wpAnyH_take (i := 13) (oi := { dst := some 25, op := Op.fieldAddr 91 (Operand.tmp 24) 1, type := 0, pos := "ref.go:62", after := #[{ on := 12, ground := Ground.data }], guard := none }) (v := ?vw13) rfl (by kernel_rfl) (by kernel_rfl) (by kernel_rfl) (fun _ _ _ h => h) (Or.inl ⟨by rfl, ?yw13⟩) (by assumption) ?rw13
  case yw13 => (intro w' hSw; (try dsimp only at hSw); go_simp; try with_reducible rfl)
  try simp only [Act.put, List.setIfInBounds_toArray, List.set_cons_zero, List.set_cons_succ]
  refine wpAnyH_take (i := 14) (oi := { dst := some 26, op := Op.load 3 (Operand.tmp 25), type := 3, pos := "ref.go:62", after := #[{ on := 13, ground := Ground.data }], guard := none }) (v := ?vw14) rfl (by kernel_rfl) (by kernel_rfl) (by kernel_rfl) (fun _ _ _ h => h) (Or.inl ⟨by rfl, ?yw14⟩) (by assumption) ?rw14
  case yw14 => (intro w' hSw; (try dsimp only at hSw); go_simp; try with_reducible rfl)
  try simp only [Act.put, List.setIfInBounds_toArray, List.set_cons_zero, List.set_cons_succ]
  refine wpAnyH_ready (rs := [15]) (by kernel_rfl) (by simp) ?_
  refine AllReadyH.cons (o := { dst := some 27, op := Op.call { callee := Callee.value (Operand.func 48), args := #[Operand.tmp 26], argTypes := #[3] }, type := 9, pos := "ref.go:62", after := #[{ on := 14, ground := Ground.data }], guard := none }) rfl (fun K hK => ?_) AllReadyH.nil
  go_simp
  go_at_call 48
  refine (DEC.out _).mono ?_
  rintro e w2 ⟨rfl, hb2⟩
  have T2 := Lib.hid (WG.drew T0.out hb2)
  go_wp2_with fail
  refine hK.out _ _ (T2.out.cells) (fun hHeldw15 => ?_)
  clear hK K hHeld
  try simp only [Act.put, List.setIfInBounds_toArray, List.set_cons_zero, List.set_cons_succ]
  refine wpAnyH_take (i := 16) (oi := { dst := some 28, op := Op.binOp BinOp.add 9 (Operand.tmp 20) (Operand.tmp 27) 9, type := 9, pos := "ref.go:62", after := #[{ on := 8, ground := Ground.data }, { on := 15, ground := Ground.data }], guard := none }) (v := ?vw16) rfl (by kernel_rfl) (by kernel_rfl) (by kernel_rfl) (fun _ _ _ h => h) (Or.inl ⟨by rfl, ?yw16⟩) (by assumption) ?rw16
  case yw16 => (intro w' hSw; (try dsimp only at hSw); go_simp; try with_reducible rfl)
  try simp only [Act.put, List.setIfInBounds_toArray, List.set_cons_zero, List.set_cons_succ]
  refine wpAnyH_take (i := 17) (oi := { dst := some 29, op := Op.binOp BinOp.add 9 (Operand.tmp 28) (Operand.const (Value.string { data := #[58, 32] })) 9, type := 9, pos := "ref.go:62", after := #[{ on := 16, ground := Ground.data }], guard := none }) (v := ?vw17) rfl (by kernel_rfl) (by kernel_rfl) (by kernel_rfl) (fun _ _ _ h => h) (Or.inl ⟨by rfl, ?yw17⟩) (by assumption) ?rw17
  case yw17 => (intro w' hSw; (try dsimp only at hSw); go_simp; try with_reducible rfl)
  try simp only [Act.put, List.setIfInBounds_toArray, List.set_cons_zero, List.set_cons_succ]
  refine wpAnyH_take (i := 18) (oi := { dst := some 3, op := Op.assign (Operand.tmp 29), type := 9, pos := "ref.go:62", after := #[{ on := 17, ground := Ground.data }, { on := 15, ground := Ground.chain }, { on := 0, ground := Ground.phase }, { on := 1, ground := Ground.phase }, { on := 2, ground := Ground.phase }, { on := 3, ground := Ground.phase }, { on := 4, ground := Ground.phase }, { on := 5, ground := Ground.phase }, { on := 6, ground := Ground.phase }, { on := 7, ground := Ground.phase }, { on := 8, ground := Ground.phase }, { on := 9, ground := Ground.phase }, { on := 10, ground := Ground.phase }, { on := 11, ground := Ground.phase }, { on := 12, ground := Ground.phase }, { on := 13, ground := Ground.phase }, { on := 14, ground := Ground.phase }, { on := 15, ground := Ground.phase }, { on := 16, ground := Ground.phase }, { on := 17, ground := Ground.phase }], guard := none }) (v := ?vw18) rfl (by kernel_rfl) (by kernel_rfl) (by kernel_rfl) (fun _ _ _ h => h) (Or.inl ⟨by rfl, ?yw18⟩) (by assumption) ?rw18
  case yw18 => (intro w' hSw; (try dsimp only at hSw); go_simp; try with_reducible rfl)
  try simp only [Act.put, List.setIfInBounds_toArray, List.set_cons_zero, List.set_cons_succ]
  refine wpAnyH_done (by kernel_rfl) ?_ _
  clear T0
  have c0 := T2.out.box.cell 0
  have c1 := T2.out.box.cell 1
  go_wp2_with fail
  rw [rounds_succ]
  go_wp2_with fail
  refine (SH.out _).mono ?_
  rintro x w3 ⟨rfl, hb3⟩
  go_wp2_with fail
  go_ret
  exact ⟨by rw [HS.out]; rfl, (T2.out.below hb3).bel⟩
end Go.Proofs.YtanjcjnkppnhcaaGreatDoor
