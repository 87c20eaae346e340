/-
  A Dec that ends too early: fail, Int, Err, Left.
-/
import Derived.Test.YtpkikibcfkdodaaDoorTDec
namespace Go.Proofs.YtpkikibcfkdodaaDoor
open Go Go.RowKit

set_option maxHeartbeats 2000000 in
theorem fail_any (w : World) (D : Nat) (v x : Value) (n e : Int) (h : Blk w D 89 #[v, x, .int .i64 0, .int .i64 0]) :
    Calls Tryd.prog 46 #[.pointer (some ⟨D, 0, none⟩), .int .i64 n, .int .i64 e] w fun r w' => r = .returned (.tuple #[]) ∧ w' = (w.setCell ⟨D, 2, none⟩ (.int .i64 e)).setCell ⟨D, 3, none⟩ (.int .i64 n) := by
  have c2 := h.cell 2
  have c3 := h.cell 3
  have f2 := h.frozen 2
  have f3 := h.frozen 3
  have hlt := h.lt
  clear h
  go_enter Tryd.func46, Tryd.ntmps46
  go_wp2
  exact ⟨rfl, _, (by first | rfl | kernel_rfl), rfl, rfl⟩
#print axioms fail_any

/-- A Dec that has failed: it ended too early, at n. -/
def Bad (w : World) (D : Nat) (v : Value) (n : Nat) : Prop := Blk w D 89 #[v, .int .i64 n, .int .i64 3, .int .i64 n]

set_option maxRecDepth 100000 in
set_option maxHeartbeats 2000000 in
theorem decInt_short (w : World) (B D at_ : Nat) (v : Value) (L : List UInt8) (h : DecAt w B D v L at_) (hM : High (L.drop at_)) (ha : at_ ≤ L.length) (h0 : 0 < L.length) (hl : L.length ≤ 1000000) :
    Calls Tryd.prog 16 #[.pointer (some ⟨D, 0, none⟩)] w fun e w' => e = .returned (.int .i64 0) ∧ Bad w' D v at_ ∧ Touch w w' D none := by
  obtain ⟨A, c, rfl⟩ := own_form h.own
  rcases h.own.2 with ⟨_, e0⟩ | ⟨g, cap, cur, hv, _, hh, hnc, hm, _⟩
  · omega
  injection hv with e1 _ e3
  subst e1; subst e3
  have hcells := BOwn.cells h.own
  have c0 := h.blk.cell 0
  have c1 := h.blk.cell 1
  have c2 := h.blk.cell 2
  have hDl := h.blk.lt
  have NUM := Lib.hid (fun W A2 (c2 : Nat) (hr : ∀ j b, (L.drop at_)[j]? = some b → ∃ g o, A2 = some ⟨g, o, none⟩ ∧ W.cell? ⟨g, o + j, none⟩ = some (.int .u8 b.toNat)) => num_short W A2 c2 (L.drop at_) hM hr)
  have RD : Hid (∀ j b, (L.drop at_)[j]? = some b → ∀ W : World, (∀ a, W.cell? a = w.cell? a) → W.cell? ⟨g, at_ + j, none⟩ = some (.int .u8 b.toNat)) := Lib.hid fun j b hj W hW => by
    rw [List.getElem?_drop] at hj
    rw [hW]
    exact hcells _ _ (bc_at hj)
  have ZERO : Hid (c = at_ → ∀ (j : Nat) (b : UInt8), (L.drop at_)[j]? = some b → False) := Lib.hid fun e j b hj => by
    have := (List.getElem?_eq_some_iff.1 hj).1
    rw [List.length_drop] at this
    omega
  have hst : Hid (∀ k, Bad (((w.drewN k).setCell ⟨D, 2, none⟩ (.int .i64 3)).setCell ⟨D, 3, none⟩ (.int .i64 at_)) D (.slice (some ⟨g, 0, none⟩) L.length c) at_ ∧ Touch w (((w.drewN k).setCell ⟨D, 2, none⟩ (.int .i64 3)).setCell ⟨D, 3, none⟩ (.int .i64 at_)) D none) := Lib.hid fun k => by
    have t1 : Touch w ((w.drewN k).setCell ⟨D, 2, none⟩ (.int .i64 3)) D none := ⟨rfl, rfl, rfl, by simp, fun j _ hj _ => Below.heap_setCell _ _ _ _ hj⟩
    have t2 : Touch ((w.drewN k).setCell ⟨D, 2, none⟩ (.int .i64 3)) (((w.drewN k).setCell ⟨D, 2, none⟩ (.int .i64 3)).setCell ⟨D, 3, none⟩ (.int .i64 at_)) D none := ⟨rfl, rfl, rfl, by simp, fun j _ hj _ => Below.heap_setCell _ _ _ _ hj⟩
    exact ⟨((h.blk.drewN k).set_ 2 (.int .i64 3)).set_ 3 (.int .i64 at_), t1.trans (.inl rfl) t2⟩
  have FL := Lib.hid fun k => fail_any (w.drewN k) D _ _ at_ 3 (h.blk.drewN k)
  rw [List.length_drop] at NUM
  have a0 : (0 : Int) ≤ (at_ : Int) := Int.natCast_nonneg _
  have a1 : (at_ : Int) ≤ (L.length : Int) := by omega
  have a2 : at_ ≤ L.length := by omega
  unfold maxLen at hm
  clear h hM hcells hh
  by_cases hcap : c = at_
  · go_enter Tryd.func16, Tryd.ntmps16
    go_wp2_with fail
    go_quiet ((go_at_call 45; exact Calls.quiet_of_same (NUM.out _ _ _ (fun j b hj => absurd hj (fun hj => ZERO.out hcap j b hj)))))
    go_wp2_with fail
    refine (FL.out _).mono ?_
    rintro e w' ⟨rfl, rfl⟩
    go_wp2_with fail
    go_ret
    exact ⟨rfl, hst.out _⟩
  · go_enter Tryd.func16, Tryd.ntmps16
    go_wp2_with fail
    go_quiet ((go_at_call 45; exact Calls.quiet_of_same (NUM.out _ _ _ (fun j b hj => ⟨_, _, rfl, RD.out j b hj _ (fun a => rfl)⟩))))
    go_wp2_with fail
    refine (FL.out _).mono ?_
    rintro e w' ⟨rfl, rfl⟩
    go_wp2_with fail
    go_ret
    exact ⟨rfl, hst.out _⟩
#print axioms decInt_short

set_option maxRecDepth 100000 in
set_option maxHeartbeats 2000000 in
theorem decErr_short (w : World) (D n : Nat) (v : Value) (h : Bad w D v n) :
    Calls Tryd.prog 22 #[.pointer (some ⟨D, 0, none⟩)] w fun e w' => ∃ F, e = .returned (.iface 81 (.pointer (some ⟨F, 0, none⟩))) ∧ Blk w' F 85 #[.string bByte, .int .i64 n, .iface 73 (.int .i64 3)] ∧ w.heap.size ≤ F ∧ Below w.heap.size w w' := by
  have c2 := Blk.cell h 2
  have c3 := Blk.cell h 3
  have hD := Blk.lt h
  clear h
  go_enter Tryd.func22, Tryd.ntmps22
  go_wp2_with fail
  refine wp_region_held_drew (S := fun w' => w'.cell? ⟨D, 3, none⟩ = some (.int .i64 n) ∧ w'.cell? ⟨D, 2, none⟩ = some (.int .i64 3)) (by kernel_rfl) (⟨c3, c2⟩) (fun hHeld => ?_)
  refine wpAnyH_take (i := 0) (oi := { dst := some 8, op := Op.move (Operand.tmp 0), type := 41, pos := "codec.go:118", after := #[], guard := none }) (v := ?ve0) rfl (by kernel_rfl) (by kernel_rfl) (by kernel_rfl) (fun _ _ _ h => h) (Or.inl ⟨by rfl, ?ye0⟩) (by assumption) ?re0
  case ye0 => (intro w' hSw; (try dsimp only at hSw); go_simp; try with_reducible rfl)
  try simp only [Act.put, List.setIfInBounds_toArray, List.set_cons_zero, List.set_cons_succ]
  refine wpAnyH_take (i := 1) (oi := { dst := some 9, op := Op.nilCheck (Operand.tmp 8), type := 0, pos := "codec.go:118", after := #[{ on := 0, ground := Ground.data }], guard := none }) (v := ?ve1) rfl (by kernel_rfl) (by kernel_rfl) (by kernel_rfl) (fun _ _ _ h => h) (Or.inl ⟨by rfl, ?ye1⟩) (by assumption) ?re1
  case ye1 => (intro w' hSw; (try dsimp only at hSw); go_simp; try with_reducible rfl)
  try simp only [Act.put, List.setIfInBounds_toArray, List.set_cons_zero, List.set_cons_succ]
  refine wpAnyH_take (i := 2) (oi := { dst := some 10, op := Op.fieldAddr 89 (Operand.tmp 9) 3, type := 0, pos := "codec.go:118", after := #[{ on := 1, ground := Ground.data }], guard := none }) (v := ?ve2) rfl (by kernel_rfl) (by kernel_rfl) (by kernel_rfl) (fun _ _ _ h => h) (Or.inl ⟨by rfl, ?ye2⟩) (by assumption) ?re2
  case ye2 => (intro w' hSw; (try dsimp only at hSw); go_simp; try with_reducible rfl)
  try simp only [Act.put, List.setIfInBounds_toArray, List.set_cons_zero, List.set_cons_succ]
  refine wpAnyH_take (i := 3) (oi := { dst := some 11, op := Op.load 3 (Operand.tmp 10), type := 3, pos := "codec.go:118", after := #[{ on := 2, ground := Ground.data }], guard := none }) (v := ?ve3) rfl (by kernel_rfl) (by kernel_rfl) (by kernel_rfl) (fun _ _ _ h => h) (Or.inl ⟨by rfl, ?ye3⟩) (by assumption) ?re3
  case ye3 => (intro w' hSw; (try dsimp only at hSw); go_simp; try with_reducible rfl)
  try simp only [Act.put, List.setIfInBounds_toArray, List.set_cons_zero, List.set_cons_succ]
  refine wpAnyH_take (i := 4) (oi := { dst := some 12, op := Op.move (Operand.tmp 0), type := 41, pos := "codec.go:118", after := #[], guard := none }) (v := ?ve4) rfl (by kernel_rfl) (by kernel_rfl) (by kernel_rfl) (fun _ _ _ h => h) (Or.inl ⟨by rfl, ?ye4⟩) (by assumption) ?re4
  case ye4 => (intro w' hSw; (try dsimp only at hSw); go_simp; try with_reducible rfl)
  try simp only [Act.put, List.setIfInBounds_toArray, List.set_cons_zero, List.set_cons_succ]
  refine wpAnyH_take (i := 5) (oi := { dst := some 13, op := Op.nilCheck (Operand.tmp 12), type := 0, pos := "codec.go:118", after := #[{ on := 4, ground := Ground.data }], guard := none }) (v := ?ve5) rfl (by kernel_rfl) (by kernel_rfl) (by kernel_rfl) (fun _ _ _ h => h) (Or.inl ⟨by rfl, ?ye5⟩) (by assumption) ?re5
  case ye5 => (intro w' hSw; (try dsimp only at hSw); go_simp; try with_reducible rfl)
  try simp only [Act.put, List.setIfInBounds_toArray, List.set_cons_zero, List.set_cons_succ]
  refine wpAnyH_take (i := 6) (oi := { dst := some 14, op := Op.fieldAddr 89 (Operand.tmp 13) 2, type := 0, pos := "codec.go:118", after := #[{ on := 5, ground := Ground.data }], guard := none }) (v := ?ve6) rfl (by kernel_rfl) (by kernel_rfl) (by kernel_rfl) (fun _ _ _ h => h) (Or.inl ⟨by rfl, ?ye6⟩) (by assumption) ?re6
  case ye6 => (intro w' hSw; (try dsimp only at hSw); go_simp; try with_reducible rfl)
  try simp only [Act.put, List.setIfInBounds_toArray, List.set_cons_zero, List.set_cons_succ]
  refine wpAnyH_take (i := 7) (oi := { dst := some 15, op := Op.load 73 (Operand.tmp 14), type := 73, pos := "codec.go:118", after := #[{ on := 6, ground := Ground.data }], guard := none }) (v := ?ve7) rfl (by kernel_rfl) (by kernel_rfl) (by kernel_rfl) (fun _ _ _ h => h) (Or.inl ⟨by rfl, ?ye7⟩) (by assumption) ?re7
  case ye7 => (intro w' hSw; (try dsimp only at hSw); go_simp; try with_reducible rfl)
  try simp only [Act.put, List.setIfInBounds_toArray, List.set_cons_zero, List.set_cons_succ]
  refine wpAnyH_take (i := 8) (oi := { dst := some 16, op := Op.makeInterface 73 (Operand.tmp 15), type := 26, pos := "codec.go:118", after := #[{ on := 7, ground := Ground.data }], guard := none }) (v := ?ve8) rfl (by kernel_rfl) (by kernel_rfl) (by kernel_rfl) (fun _ _ _ h => h) (Or.inl ⟨by rfl, ?ye8⟩) (by assumption) ?re8
  case ye8 => (intro w' hSw; (try dsimp only at hSw); go_simp; try with_reducible rfl)
  try simp only [Act.put, List.setIfInBounds_toArray, List.set_cons_zero, List.set_cons_succ]
  refine wpAnyH_take (i := 9) (oi := { dst := some 17, op := Op.build 85 #[(0, Operand.const (Value.string { data := #[98, 121, 116, 101] })), (1, Operand.tmp 11), (2, Operand.tmp 16)], type := 85, pos := "codec.go:118", after := #[{ on := 3, ground := Ground.data }, { on := 8, ground := Ground.data }], guard := none }) (v := ?ve9) rfl (by kernel_rfl) (by kernel_rfl) (by kernel_rfl) (fun _ _ _ h => h) (Or.inl ⟨by rfl, ?ye9⟩) (by assumption) ?re9
  case ye9 => (intro w' hSw; (try dsimp only at hSw); go_simp; try with_reducible rfl)
  try simp only [Act.put, List.setIfInBounds_toArray, List.set_cons_zero, List.set_cons_succ]
  refine wpAnyH_ready (rs := [10]) (by kernel_rfl) (by simp) ?_
  refine AllReadyH.cons (o := { dst := some 18, op := Op.box 85 (Operand.tmp 17), type := 81, pos := "codec.go:118", after := #[{ on := 9, ground := Ground.data }], guard := none }) rfl (fun K hK => ?_) AllReadyH.nil
  go_simp
  refine hK.out _ _ (⟨(World.cell?_alloc_lt _ _ ⟨D, 3, none⟩ hD).trans c3, (World.cell?_alloc_lt _ _ ⟨D, 2, none⟩ hD).trans c2⟩) (fun hHelde10 => ?_)
  clear hK K hHeld
  try simp only [Act.put, List.setIfInBounds_toArray, List.set_cons_zero, List.set_cons_succ]
  refine wpAnyH_take (i := 11) (oi := { dst := some 19, op := Op.makeInterface 81 (Operand.tmp 18), type := 26, pos := "codec.go:118", after := #[{ on := 10, ground := Ground.data }], guard := none }) (v := ?ve11) rfl (by kernel_rfl) (by kernel_rfl) (by kernel_rfl) (fun _ _ _ h => h) (Or.inl ⟨by rfl, ?ye11⟩) (by assumption) ?re11
  case ye11 => (intro w' hSw; (try dsimp only at hSw); go_simp; try with_reducible rfl)
  try simp only [Act.put, List.setIfInBounds_toArray, List.set_cons_zero, List.set_cons_succ]
  refine wpAnyH_take (i := 12) (oi := { dst := some 2, op := Op.assign (Operand.tmp 19), type := 26, pos := "codec.go:118", after := #[{ on := 11, ground := Ground.data }, { on := 0, ground := Ground.phase }, { on := 1, ground := Ground.phase }, { on := 2, ground := Ground.phase }, { on := 3, ground := Ground.phase }, { on := 4, ground := Ground.phase }, { on := 5, ground := Ground.phase }, { on := 6, ground := Ground.phase }, { on := 7, ground := Ground.phase }, { on := 8, ground := Ground.phase }, { on := 9, ground := Ground.phase }, { on := 10, ground := Ground.phase }, { on := 11, ground := Ground.phase }], guard := none }) (v := ?ve12) rfl (by kernel_rfl) (by kernel_rfl) (by kernel_rfl) (fun _ _ _ h => h) (Or.inl ⟨by rfl, ?ye12⟩) (by assumption) ?re12
  case ye12 => (intro w' hSw; (try dsimp only at hSw); go_simp; try with_reducible rfl)
  try simp only [Act.put, List.setIfInBounds_toArray, List.set_cons_zero, List.set_cons_succ]
  refine wpAnyH_done (by kernel_rfl) ?_ _
  go_wp2_with fail
  go_ret
  exact ⟨_, rfl, heap_alloc_new _ _, Nat.le_refl _, (below_drewN (Below.refl _ w) 1).alloc (Nat.le_refl _) _⟩
#print axioms decErr_short

set_option maxHeartbeats 2000000 in
theorem decLeft_short (w : World) (D n : Nat) (v : Value) (h : Bad w D v n) :
    Calls Tryd.prog 20 #[.pointer (some ⟨D, 0, none⟩)] w fun e w' => e = .returned (.int .i64 0) ∧ w' = w := by
  have c2 := Blk.cell h 2
  have hD := Blk.lt h
  clear h
  go_enter Tryd.func20, Tryd.ntmps20
  go_wp2_with fail
  go_ret
  exact ⟨rfl, rfl⟩
#print axioms decLeft_short
end Go.Proofs.YtpkikibcfkdodaaDoor
