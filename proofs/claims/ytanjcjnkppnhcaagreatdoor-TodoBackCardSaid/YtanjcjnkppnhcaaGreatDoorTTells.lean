/-
  Tells: a Fault of one part is told as the document tells it.
-/
import Derived.Test.YtanjcjnkppnhcaaGreatDoorTRef
import Derived.Test.YtanjcjnkppnhcaaGreatDoorTIs
namespace Go.Proofs.YtanjcjnkppnhcaaGreatDoor
open Go Go.RowKit

theorem below_cell {w w' : World} (h : Below w.heap.size w w') {a : Addr} {v : Value} (hc : w.cell? a = some v) : w'.cell? a = some v := by
  have := h.block a.block (World.block_lt_of_cell? w a hc)
  simp only [World.cell?] at hc ⊢
  rw [this]; exact hc
theorem ErrType.below {w w' : World} (h : ErrType w) (hb : Below w.heap.size w w') : ErrType w' := below_cell hb h

theorem as_fault (F t : Nat) (w : World) (hg : ErrType w) (ht : Blk w t 76 #[.pointer none]) :
    Calls Tryz.prog 43 #[.iface 76 (.pointer (some ⟨F, 0, none⟩)), .iface 89 (.pointer (some ⟨t, 0, none⟩))] w fun e w' => e = .returned (.bool true) ∧ Blk w' t 76 #[.pointer (some ⟨F, 0, none⟩)] ∧ Touch w w' t none := by
  refine (as_hit ⟨F, 0, none⟩ ⟨t, 0, none⟩ (.pointer none) w hg (ht.cell 0) (ht.frozen 0)).mono ?_
  rintro e w' ⟨rfl, rfl⟩
  refine ⟨rfl, ((((ht.alloc _).alloc _).alloc _).alloc _).set_ 0 _, rfl, rfl, rfl, by simp; omega, fun j hj hne _ => ?_⟩
  refine (Below.heap_setCell _ _ _ _ hne).trans ?_
  exact (((((Below.refl w.heap.size w).alloc (Nat.le_refl _) _).alloc (by simp) _).alloc (by simp; omega) _).alloc (by simp; omega) _).block j hj

structure TT (w0 w : World) (F g n : Nat) : Prop where
  box : Blk w w0.heap.size 31 #[.slice (some ⟨g, 0, none⟩) 1 1, .int .i64 3]
  part : Blk w g 91 #[.string bByte, .int .i64 n]
  fault : Blk w F 78 #[.string bByte, .int .i64 n, .iface 73 (.int .i64 3)]
  err : ErrType w
  bel : Below w0.heap.size w0 w
theorem TT.below {w0 w w' : World} {F g n : Nat} (h : TT w0 w F g n) (hb : Below w.heap.size w w') : TT w0 w' F g n :=
  ⟨h.box.below hb h.box.lt, h.part.below hb h.part.lt, h.fault.below hb h.fault.lt, h.err.below hb, h.bel.trans (hb.mono h.bel.size)⟩
theorem TT.draws {w0 w : World} {F g n : Nat} (h : TT w0 w F g n) (k : Nat) : TT w0 (w.drewN k) F g n := h.below (below_drewN (Below.refl _ w) k)
theorem TT.cells {w0 w : World} {F g n : Nat} (h : TT w0 w F g n) : w.cell? ⟨w0.heap.size, 0, none⟩ = some (.slice (some ⟨g, 0, none⟩) 1 1) ∧ w.cell? ⟨w0.heap.size, 1, none⟩ = some (.int .i64 3) := ⟨h.box.cell 0, h.box.cell 1⟩

set_option maxRecDepth 100000 in
set_option maxHeartbeats 4000000 in
theorem tells_short (w : World) (F g n : Nat) (hF : Blk w F 78 #[.string bByte, .int .i64 n, .iface 73 (.int .i64 3)]) (hg : WrongAt w g n) (hn : To10 n) (hE : ErrType w) :
    Calls Tryz.prog 11 #[.iface 76 (.pointer (some ⟨F, 0, none⟩)), wrong1 g] w fun e w' => e = .returned (.bool true) ∧ Below w.heap.size w w' := by
  have hb0 := (Below.refl w.heap.size w).alloc (Nat.le_refl _) (.cells #[.slice (some ⟨g, 0, none⟩) 1 1, .int .i64 3] 31)
  have T0 := Lib.hid (TT.mk (w0 := w) (heap_alloc_new w (.cells #[.slice (some ⟨g, 0, none⟩) 1 1, .int .i64 3] 31)) (Blk.below hg hb0 (Blk.lt hg)) (hF.below hb0 hF.lt) (hE.below hb0) hb0)
  have T0d : Hid (TT w (w.alloc (.cells #[.slice (some ⟨g, 0, none⟩) 1 1, .int .i64 3] 31)).drew F g n) := Lib.hid (T0.out.draws 1)
  have ER := Lib.hid fun W (h : Blk W F 78 #[.string bByte, .int .i64 n, .iface 73 (.int .i64 3)]) => fault_error W F n h hn
  have WO := Lib.hid fun W (h : Blk W g 91 #[.string bByte, .int .i64 n]) => words_any W g n h hn
  have IS := Lib.hid fun W (h : Blk W F 78 #[.string bByte, .int .i64 n, .iface 73 (.int .i64 3)]) => is_hit F 3 W (h.cell 2) eqlE3
  have AS := Lib.hid fun W t => as_fault F t W
  have mF := invokeFault
  have nF := nilF
  have c0 := T0.out.box.cell 0
  have c1 := T0.out.box.cell 1
  obtain ⟨s, hs⟩ : ∃ s, s = fw n := ⟨_, rfl⟩
  rw [← hs] at ER WO
  clear hs hF hg hE hb0
  go_enter Tryz.func11, Tryz.ntmps11
  go_wp2_with fail
  refine wp_region_held_drew (S := fun w' => w'.cell? ⟨w.heap.size, 0, none⟩ = some (.slice (some ⟨g, 0, none⟩) 1 1) ∧ w'.cell? ⟨w.heap.size, 1, none⟩ = some (.int .i64 3)) (by kernel_rfl) (T0d.out.cells) (fun hHeld => ?_)
  refine wpAnyH_take (i := 0) (oi := { dst := some 11, op := Op.move (Operand.tmp 0), type := 25, pos := "law.go:25", after := #[], guard := none }) (v := ?vt0) rfl (by kernel_rfl) (by kernel_rfl) (by kernel_rfl) (fun _ _ _ h => h) (Or.inl ⟨by rfl, ?yt0⟩) (by assumption) ?rt0
  case yt0 => (intro w' hSw; (try dsimp only at hSw); go_simp; try with_reducible rfl)
  try simp only [Act.put, List.setIfInBounds_toArray, List.set_cons_zero, List.set_cons_succ]
  refine wpAnyH_take (i := 1) (oi := { dst := some 12, op := Op.binOp BinOp.eql 25 (Operand.tmp 11) (Operand.const Value.nilIface) 25, type := 4, pos := "law.go:25", after := #[{ on := 0, ground := Ground.data }], guard := none }) (v := ?vt1) rfl (by kernel_rfl) (by kernel_rfl) (by kernel_rfl) (fun _ _ _ h => h) (Or.inl ⟨by rfl, ?yt1⟩) (by assumption) ?rt1
  case yt1 => (intro w' hSw; (try dsimp only at hSw); go_simp; try with_reducible rfl)
  try simp only [Act.put, List.setIfInBounds_toArray, List.set_cons_zero, List.set_cons_succ]
  refine wpAnyH_take (i := 2) (oi := { dst := some 13, op := Op.move (Operand.tmp 12), type := 4, pos := "law.go:25", after := #[{ on := 1, ground := Ground.data }], guard := none }) (v := ?vt2) rfl (by kernel_rfl) (by kernel_rfl) (by kernel_rfl) (fun _ _ _ h => h) (Or.inl ⟨by rfl, ?yt2⟩) (by assumption) ?rt2
  case yt2 => (intro w' hSw; (try dsimp only at hSw); go_simp; try with_reducible rfl)
  try simp only [Act.put, List.setIfInBounds_toArray, List.set_cons_zero, List.set_cons_succ]
  refine wpAnyH_take (i := 3) (oi := { dst := some 14, op := Op.move (Operand.tmp 0), type := 25, pos := "law.go:25", after := #[{ on := 2, ground := Ground.guard }], guard := some (2, false) }) (v := ?vt3) rfl (by kernel_rfl) (by kernel_rfl) (by kernel_rfl) (fun _ _ _ h => h) (Or.inl ⟨by rfl, ?yt3⟩) (by assumption) ?rt3
  case yt3 => (intro w' hSw; (try dsimp only at hSw); go_simp; try with_reducible rfl)
  try simp only [Act.put, List.setIfInBounds_toArray, List.set_cons_zero, List.set_cons_succ]
  refine wpAnyH_take (i := 5) (oi := { dst := some 16, op := Op.load 31 (Operand.tmp 3), type := 31, pos := "law.go:25", after := #[{ on := 2, ground := Ground.guard }], guard := some (2, false) }) (v := ?vt5) rfl (by kernel_rfl) (by kernel_rfl) (by kernel_rfl) (fun _ _ _ h => h) (Or.inl ⟨by rfl, ?yt5⟩) (by assumption) ?rt5
  case yt5 => (intro w' hSw; (try dsimp only at hSw); go_simp; try with_reducible rfl)
  try simp only [Act.put, List.setIfInBounds_toArray, List.set_cons_zero, List.set_cons_succ]
  refine wpAnyH_ready (rs := [4]) (by kernel_rfl) (by simp) ?_
  refine AllReadyH.cons (o := { dst := some 15, op := Op.call { callee := Callee.invoke (Operand.tmp 14) "Error", args := #[], argTypes := #[] }, type := 9, pos := "law.go:25", after := #[{ on := 3, ground := Ground.data }, { on := 2, ground := Ground.chain }, { on := 2, ground := Ground.guard }], guard := some (2, false) }) rfl (fun K hK => ?_) AllReadyH.nil
  go_simp
  go_at_call 181
  refine (ER.out _ (TT.fault T0d.out)).mono ?_
  rintro e w1 ⟨rfl, k1, rfl⟩
  have T1 : Hid (TT w ((w.alloc (.cells #[.slice (some ⟨g, 0, none⟩) 1 1, .int .i64 3] 31)).drewN (1 + k1)) F g n) := Lib.hid (T0.out.draws (1 + k1))
  go_wp2_with fail
  refine hK.out _ _ (T1.out.cells) (fun hHeldt4 => ?_)
  clear hK K hHeld
  try simp only [Act.put, List.setIfInBounds_toArray, List.set_cons_zero, List.set_cons_succ]
  refine wpAnyH_ready (rs := [6]) (by kernel_rfl) (by simp) ?_
  refine AllReadyH.cons (o := { dst := some 17, op := Op.call { callee := Callee.value (Operand.func 41), args := #[Operand.tmp 16], argTypes := #[31] }, type := 9, pos := "law.go:25", after := #[{ on := 5, ground := Ground.data }, { on := 4, ground := Ground.chain }, { on := 2, ground := Ground.guard }], guard := some (2, false) }) rfl (fun K hK => ?_) AllReadyH.nil
  go_simp
  go_at_call 41
  refine (WO.out _ (TT.part T1.out)).mono ?_
  rintro e w2 ⟨rfl, hb2⟩
  have T2 := Lib.hid (T1.out.below hb2)
  go_wp2_with fail
  refine hK.out _ _ (T2.out.cells) (fun hHeldt6 => ?_)
  clear hK K hHeldt4
  try simp only [Act.put, List.setIfInBounds_toArray, List.set_cons_zero, List.set_cons_succ]
  refine wpAnyH_take (i := 7) (oi := { dst := some 18, op := Op.binOp BinOp.neq 9 (Operand.tmp 15) (Operand.tmp 17) 9, type := 4, pos := "law.go:25", after := #[{ on := 4, ground := Ground.data }, { on := 6, ground := Ground.data }, { on := 2, ground := Ground.guard }], guard := some (2, false) }) (v := ?vt7) rfl (by kernel_rfl) (by kernel_rfl) (by kernel_rfl) (fun _ _ _ h => h) (Or.inl ⟨by rfl, ?yt7⟩) (by assumption) ?rt7
  case yt7 => (intro w' hSw; (try dsimp only at hSw); go_simp; try with_reducible rfl)
  try simp only [Act.put, List.setIfInBounds_toArray, List.set_cons_zero, List.set_cons_succ]
  refine wpAnyH_take (i := 8) (oi := { dst := some 19, op := Op.pick (Operand.tmp 13) (Operand.const (Value.bool true)) (Operand.tmp 18), type := 4, pos := "law.go:25", after := #[{ on := 2, ground := Ground.data }, { on := 7, ground := Ground.data }], guard := none }) (v := ?vt8) rfl (by kernel_rfl) (by kernel_rfl) (by kernel_rfl) (fun _ _ _ h => h) (Or.inl ⟨by rfl, ?yt8⟩) (by assumption) ?rt8
  case yt8 => (intro w' hSw; (try dsimp only at hSw); go_simp; try with_reducible rfl)
  try simp only [Act.put, List.setIfInBounds_toArray, List.set_cons_zero, List.set_cons_succ]
  refine wpAnyH_take (i := 9) (oi := { dst := some 20, op := Op.move (Operand.tmp 19), type := 4, pos := "law.go:25", after := #[{ on := 8, ground := Ground.data }, { on := 6, ground := Ground.chain }], guard := none }) (v := ?vt9) rfl (by kernel_rfl) (by kernel_rfl) (by kernel_rfl) (fun _ _ _ h => h) (Or.inl ⟨by rfl, ?yt9⟩) (by assumption) ?rt9
  case yt9 => (intro w' hSw; (try dsimp only at hSw); go_simp; try with_reducible rfl)
  try simp only [Act.put, List.setIfInBounds_toArray, List.set_cons_zero, List.set_cons_succ]
  refine wpAnyH_take (i := 10) (oi := { dst := some 21, op := Op.move (Operand.tmp 0), type := 25, pos := "law.go:25", after := #[{ on := 9, ground := Ground.guard }], guard := some (9, false) }) (v := ?vt10) rfl (by kernel_rfl) (by kernel_rfl) (by kernel_rfl) (fun _ _ _ h => h) (Or.inl ⟨by rfl, ?yt10⟩) (by assumption) ?rt10
  case yt10 => (intro w' hSw; (try dsimp only at hSw); go_simp; try with_reducible rfl)
  try simp only [Act.put, List.setIfInBounds_toArray, List.set_cons_zero, List.set_cons_succ]
  refine wpAnyH_take (i := 11) (oi := { dst := some 22, op := Op.fieldAddr 31 (Operand.tmp 3) 1, type := 0, pos := "law.go:25", after := #[{ on := 9, ground := Ground.guard }], guard := some (9, false) }) (v := ?vt11) rfl (by kernel_rfl) (by kernel_rfl) (by kernel_rfl) (fun _ _ _ h => h) (Or.inl ⟨by rfl, ?yt11⟩) (by assumption) ?rt11
  case yt11 => (intro w' hSw; (try dsimp only at hSw); go_simp; try with_reducible rfl)
  try simp only [Act.put, List.setIfInBounds_toArray, List.set_cons_zero, List.set_cons_succ]
  refine wpAnyH_take (i := 12) (oi := { dst := some 23, op := Op.load 3 (Operand.tmp 22), type := 3, pos := "law.go:25", after := #[{ on := 11, ground := Ground.data }, { on := 9, ground := Ground.guard }], guard := some (9, false) }) (v := ?vt12) rfl (by kernel_rfl) (by kernel_rfl) (by kernel_rfl) (fun _ _ _ h => h) (Or.inl ⟨by rfl, ?yt12⟩) (by assumption) ?rt12
  case yt12 => (intro w' hSw; (try dsimp only at hSw); go_simp; try with_reducible rfl)
  try simp only [Act.put, List.setIfInBounds_toArray, List.set_cons_zero, List.set_cons_succ]
  refine wpAnyH_take (i := 13) (oi := { dst := some 24, op := Op.makeInterface 73 (Operand.tmp 23), type := 25, pos := "law.go:25", after := #[{ on := 12, ground := Ground.data }, { on := 9, ground := Ground.guard }], guard := some (9, false) }) (v := ?vt13) rfl (by kernel_rfl) (by kernel_rfl) (by kernel_rfl) (fun _ _ _ h => h) (Or.inl ⟨by rfl, ?yt13⟩) (by assumption) ?rt13
  case yt13 => (intro w' hSw; (try dsimp only at hSw); go_simp; try with_reducible rfl)
  try simp only [Act.put, List.setIfInBounds_toArray, List.set_cons_zero, List.set_cons_succ]
  refine wpAnyH_ready (rs := [14]) (by kernel_rfl) (by simp) ?_
  refine AllReadyH.cons (o := { dst := some 25, op := Op.call { callee := Callee.value (Operand.func 42), args := #[Operand.tmp 21, Operand.tmp 24], argTypes := #[25, 25] }, type := 4, pos := "law.go:25", after := #[{ on := 10, ground := Ground.data }, { on := 13, ground := Ground.data }, { on := 9, ground := Ground.chain }, { on := 9, ground := Ground.guard }], guard := some (9, false) }) rfl (fun K hK => ?_) AllReadyH.nil
  go_simp
  go_at_call 42
  refine (IS.out _ (TT.fault T2.out)).mono ?_
  rintro e w3 ⟨rfl, rfl⟩
  go_wp2_with fail
  refine hK.out _ _ (T2.out.cells) (fun hHeldt14 => ?_)
  clear hK K hHeldt6
  try simp only [Act.put, List.setIfInBounds_toArray, List.set_cons_zero, List.set_cons_succ]
  refine wpAnyH_take (i := 15) (oi := { dst := some 26, op := Op.unOp UnOp.not 4 (Operand.tmp 25), type := 4, pos := "law.go:25", after := #[{ on := 14, ground := Ground.data }, { on := 9, ground := Ground.guard }], guard := some (9, false) }) (v := ?vt15) rfl (by kernel_rfl) (by kernel_rfl) (by kernel_rfl) (fun _ _ _ h => h) (Or.inl ⟨by rfl, ?yt15⟩) (by assumption) ?rt15
  case yt15 => (intro w' hSw; (try dsimp only at hSw); go_simp; try with_reducible rfl)
  try simp only [Act.put, List.setIfInBounds_toArray, List.set_cons_zero, List.set_cons_succ]
  refine wpAnyH_take (i := 16) (oi := { dst := some 27, op := Op.pick (Operand.tmp 20) (Operand.const (Value.bool true)) (Operand.tmp 26), type := 4, pos := "law.go:25", after := #[{ on := 9, ground := Ground.data }, { on := 15, ground := Ground.data }], guard := none }) (v := ?vt16) rfl (by kernel_rfl) (by kernel_rfl) (by kernel_rfl) (fun _ _ _ h => h) (Or.inl ⟨by rfl, ?yt16⟩) (by assumption) ?rt16
  case yt16 => (intro w' hSw; (try dsimp only at hSw); go_simp; try with_reducible rfl)
  try simp only [Act.put, List.setIfInBounds_toArray, List.set_cons_zero, List.set_cons_succ]
  refine wpAnyH_done (by kernel_rfl) ?_ _
  have c0 := T2.out.box.cell 0
  have c1 := T2.out.box.cell 1
  have HBk := Lib.hid (Blk.new w3 76 #[.pointer none])
  have T3 := Lib.hid (T2.out.below ((Below.refl _ _).alloc (Nat.le_refl _) (.cells #[.pointer none] 76)))
  clear T0 T0d T1 ER WO IS
  go_wp2_with fail
  refine (AS.out _ _ T3.out.err HBk.out).mono ?_
  rintro e w4 ⟨rfl, hbk, hT⟩
  have C0 := hbk.cell 0
  have d0 := (hT.blk T3.out.box (T3.out.box.ne_ HBk.out (by decide)) (by simp)).cell 0
  have d1 := (hT.blk T3.out.box (T3.out.box.ne_ HBk.out (by decide)) (by simp)).cell 1
  have p0 := (hT.blk T3.out.part (T3.out.part.ne_ HBk.out (by decide)) (by simp)).cell 0
  have p1 := (hT.blk T3.out.part (T3.out.part.ne_ HBk.out (by decide)) (by simp)).cell 1
  have q0 := (hT.blk T3.out.fault (T3.out.fault.ne_ HBk.out (by decide)) (by simp)).cell 0
  have q1 := (hT.blk T3.out.fault (T3.out.fault.ne_ HBk.out (by decide)) (by simp)).cell 1
  have HBF : Hid (Below w.heap.size w w4) := Lib.hid (T2.out.bel.trans (((Below.refl _ _).alloc T2.out.bel.size (.cells #[.pointer none] 76)).trans (hT.below (by have := T2.out.bel.size; simp; omega) T2.out.bel.size (fun _ h => by cases h))))
  clear hbk hT T3 HBk T2 AS
  go_wp2_with fail
  go_quiet (fail)
  go_wp2_with fail
  go_ret
  exact ⟨rfl, below_drewN HBF.out _⟩
#print axioms tells_short
end Go.Proofs.YtanjcjnkppnhcaaGreatDoor
