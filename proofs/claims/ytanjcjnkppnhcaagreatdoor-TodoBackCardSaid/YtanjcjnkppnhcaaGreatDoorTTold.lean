/-
  Tells, at any part, any number whose digits are known, any Errno.
-/
import Derived.Test.YtanjcjnkppnhcaaGreatDoorTTells
import Derived.Test.YtanjcjnkppnhcaaGreatDoorTSays
namespace Go.Proofs.YtanjcjnkppnhcaaGreatDoor
open Go Go.RowKit

theorem eqlE_any {e : Int} (he : To14 e) (w : World) : (binOp .eql 25 (.iface 73 (.int .i64 e)) (.iface 73 (.int .i64 e))).run Tryz.prog w = .ok (.bool true) w := by
  rcases he with rfl | rfl | rfl | rfl | rfl | rfl | rfl | rfl | rfl | rfl | rfl | rfl | rfl | rfl <;> kernel_rfl

structure TG (w0 w : World) (F g : Nat) (p : ByteArray) (n e : Int) : Prop where
  box : Blk w w0.heap.size 31 #[.slice (some ⟨g, 0, none⟩) 1 1, .int .i64 e]
  part : Blk w g 91 #[.string p, .int .i64 n]
  fault : Blk w F 78 #[.string p, .int .i64 n, .iface 73 (.int .i64 e)]
  err : ErrType w
  bel : Below w0.heap.size w0 w
theorem TG.below {w0 w w' : World} {F g : Nat} {p : ByteArray} {n e : Int} (h : TG w0 w F g p n e) (hb : Below w.heap.size w w') : TG w0 w' F g p n e :=
  ⟨h.box.below hb h.box.lt, h.part.below hb h.part.lt, h.fault.below hb h.fault.lt, h.err.below hb, h.bel.trans (hb.mono h.bel.size)⟩
theorem TG.draws {w0 w : World} {F g : Nat} {p : ByteArray} {n e : Int} (h : TG w0 w F g p n e) (k : Nat) : TG w0 (w.drewN k) F g p n e := h.below (below_drewN (Below.refl _ w) k)
theorem TG.cells {w0 w : World} {F g : Nat} {p : ByteArray} {n e : Int} (h : TG w0 w F g p n e) : w.cell? ⟨w0.heap.size, 0, none⟩ = some (.slice (some ⟨g, 0, none⟩) 1 1) ∧ w.cell? ⟨w0.heap.size, 1, none⟩ = some (.int .i64 e) := ⟨h.box.cell 0, h.box.cell 1⟩

set_option maxRecDepth 100000 in
set_option maxHeartbeats 4000000 in
theorem tells_says (w : World) (F g : Nat) (p D : ByteArray) (n e : Int) (hF : Blk w F 78 #[.string p, .int .i64 n, .iface 73 (.int .i64 e)]) (hg : Blk w g 91 #[.string p, .int .i64 n]) (hp : p.size ≤ 1000) (hd : D.size ≤ 100) (he : To14 e) (hE : ErrType w)
    (hI : ∀ W, Calls Tryz.prog 46 #[.int .i64 n] W fun x w' => x = .returned (.string D) ∧ w' = W)
    (hJ : ∀ W, Calls Tryz.prog 48 #[.int .i64 n] W fun x w' => x = .returned (.string D) ∧ Below W.heap.size W w') :
    Calls Tryz.prog 11 #[.iface 76 (.pointer (some ⟨F, 0, none⟩)), wrongG g e] w fun x w' => x = .returned (.bool true) ∧ Below w.heap.size w w' := by
  have hb0 := (Below.refl w.heap.size w).alloc (Nat.le_refl _) (.cells #[.slice (some ⟨g, 0, none⟩) 1 1, .int .i64 e] 31)
  have T0 := Lib.hid (TG.mk (w0 := w) (heap_alloc_new w (.cells #[.slice (some ⟨g, 0, none⟩) 1 1, .int .i64 e] 31)) (Blk.below hg hb0 (Blk.lt hg)) (hF.below hb0 hF.lt) (hE.below hb0) hb0)
  have T0d : Hid (TG w (w.alloc (.cells #[.slice (some ⟨g, 0, none⟩) 1 1, .int .i64 e] 31)).drew F g p n e) := Lib.hid (T0.out.draws 1)
  have ER := Lib.hid fun W (h : Blk W F 78 #[.string p, .int .i64 n, .iface 73 (.int .i64 e)]) => fault_says W F p D n e h hp hd he hI
  have WO := Lib.hid fun W (h : Blk W g 91 #[.string p, .int .i64 n]) => words_says W g p D n e h hp hd he hJ
  have IS := Lib.hid fun W (h : Blk W F 78 #[.string p, .int .i64 n, .iface 73 (.int .i64 e)]) => is_hit F e W (h.cell 2) (eqlE_any he)
  have AS := Lib.hid fun W t => as_fault F t W
  have mF := invokeFault
  have nF := nilF
  have c0 := T0.out.box.cell 0
  have c1 := T0.out.box.cell 1
  have hne0 : (e == 0) = false := by
    have h1 : ¬ e = 0 := by unfold To14 at he; omega
    simpa using h1
  obtain ⟨s, hs⟩ : ∃ s, s = fwG p D (ew e) := ⟨_, rfl⟩
  rw [← hs] at ER WO
  clear hs hF hg hE hb0 hI hJ hp hd he
  go_enter Tryz.func11, Tryz.ntmps11
  go_wp2_with fail
  refine wp_region_held_drew (S := fun w' => w'.cell? ⟨w.heap.size, 0, none⟩ = some (.slice (some ⟨g, 0, none⟩) 1 1) ∧ w'.cell? ⟨w.heap.size, 1, none⟩ = some (.int .i64 e)) (by kernel_rfl) (T0d.out.cells) (fun hHeld => ?_)
  refine wpAnyH_take (i := 0) (oi := { dst := some 11, op := Op.move (Operand.tmp 0), type := 25, pos := "law.go:25", after := #[], guard := none }) (v := ?vt0) rfl (by kernel_rfl) (by kernel_rfl) (by kernel_rfl) (fun _ _ _ h => h) (Or.inl ⟨by rfl, ?yt0⟩) (by assumption) ?rt0
  case yt0 => (intro w' hSw; (try dsimp only at hSw); go_simp; try with_reducible rfl)
  try simp only [Act.put, List.setIfInBounds_toArray, List.set_cons_zero, List.set_cons_succ]
  refine wpAnyH_take (i := 1) (oi := { dst := some 12, op := Op.binOp BinOp.eql 25 (Operand.tmp 11) (Operand.const Value.nilIface) 25, type := 4, pos := "law.go:25", after := #[{ on := 0, ground := Ground.data }], guard := none }) (v := ?vt1) rfl (by kernel_rfl) (by kernel_rfl) (by kernel_rfl) (fun _ _ _ h => h) (Or.inl ⟨by rfl, ?yt1⟩) (by assumption) ?rt1
  case yt1 => (intro w' hSw; (try dsimp only at hSw); go_simp; try with_reducible rfl)
  try simp only [Act.put, List.setIfInBounds_toArray, List.set_cons_zero, List.set_cons_succ]
  refine wpAnyH_take (i := 2) (oi := { dst := some 13, op := Op.move (Operand.tmp 12), type := 4, pos := "law.go:25", after := #[{ on := 1, ground := Ground.data }], guard := none }) (v := ?vt2) rfl (by kernel_rfl) (by kernel_rfl) (by kernel_rfl) (fun _ _ _ h => h) (Or.inl ⟨by rfl, ?yt2⟩) (by assumption) ?rt2
  case yt2 => (intro w' hSw; (try dsimp only at hSw); go_simp; try with_reducible rfl)
  try simp only [Act.put, List.setIfInBounds_toArray, List.set_cons_zero, List.set_cons_succ]
  refine wpAnyH_take (i := 3) (oi := { dst := some 14, op := Op.move (Operand.tmp 0), type := 25, pos := "law.go:25", after := #[{ on := 2, ground := Ground.guard }], guard := some (2, false) }) (v := ?vt3) rfl (by kernel_rfl) (by kernel_rfl) (by kernel_rfl) (fun _ _ _ h => h) (Or.inl ⟨by rfl, ?yt3⟩) (by assumption) ?rt3
  case yt3 => (intro w' hSw; (try dsimp only at hSw); go_simp; try with_reducible rfl)
  try simp only [Act.put, List.setIfInBounds_toArray, List.set_cons_zero, List.set_cons_succ]
  refine wpAnyH_take (i := 5) (oi := { dst := some 16, op := Op.load 31 (Operand.tmp 3), type := 31, pos := "law.go:25", after := #[{ on := 2, ground := Ground.guard }], guard := some (2, false) }) (v := ?vt5) rfl (by kernel_rfl) (by kernel_rfl) (by kernel_rfl) (fun _ _ _ h => h) (Or.inl ⟨by rfl, ?yt5⟩) (by assumption) ?rt5
  case yt5 => (intro w' hSw; (try dsimp only at hSw); go_simp; try with_reducible rfl)
  try simp only [Act.put, List.setIfInBounds_toArray, List.set_cons_zero, List.set_cons_succ]
  refine wpAnyH_ready (rs := [4]) (by kernel_rfl) (by simp) ?_
  refine AllReadyH.cons (o := { dst := some 15, op := Op.call { callee := Callee.invoke (Operand.tmp 14) "Error", args := #[], argTypes := #[] }, type := 9, pos := "law.go:25", after := #[{ on := 3, ground := Ground.data }, { on := 2, ground := Ground.chain }, { on := 2, ground := Ground.guard }], guard := some (2, false) }) rfl (fun K hK => ?_) AllReadyH.nil
  go_simp
  go_at_call 181
  refine (ER.out _ (TG.fault T0d.out)).mono ?_
  rintro x w1 ⟨rfl, k1, rfl⟩
  have T1 : Hid (TG w ((w.alloc (.cells #[.slice (some ⟨g, 0, none⟩) 1 1, .int .i64 e] 31)).drewN (1 + k1)) F g p n e) := Lib.hid (T0.out.draws (1 + k1))
  go_wp2_with fail
  refine hK.out _ _ (T1.out.cells) (fun hHeldt4 => ?_)
  clear hK K hHeld
  try simp only [Act.put, List.setIfInBounds_toArray, List.set_cons_zero, List.set_cons_succ]
  refine wpAnyH_ready (rs := [6]) (by kernel_rfl) (by simp) ?_
  refine AllReadyH.cons (o := { dst := some 17, op := Op.call { callee := Callee.value (Operand.func 41), args := #[Operand.tmp 16], argTypes := #[31] }, type := 9, pos := "law.go:25", after := #[{ on := 5, ground := Ground.data }, { on := 4, ground := Ground.chain }, { on := 2, ground := Ground.guard }], guard := some (2, false) }) rfl (fun K hK => ?_) AllReadyH.nil
  go_simp
  go_at_call 41
  refine (WO.out _ (TG.part T1.out)).mono ?_
  rintro x w2 ⟨rfl, hb2⟩
  have T2 := Lib.hid (T1.out.below hb2)
  go_wp2_with fail
  refine hK.out _ _ (T2.out.cells) (fun hHeldt6 => ?_)
  clear hK K hHeldt4
  try simp only [Act.put, List.setIfInBounds_toArray, List.set_cons_zero, List.set_cons_succ]
  refine wpAnyH_take (i := 7) (oi := { dst := some 18, op := Op.binOp BinOp.neq 9 (Operand.tmp 15) (Operand.tmp 17) 9, type := 4, pos := "law.go:25", after := #[{ on := 4, ground := Ground.data }, { on := 6, ground := Ground.data }, { on := 2, ground := Ground.guard }], guard := some (2, false) }) (v := ?vt7) rfl (by kernel_rfl) (by kernel_rfl) (by kernel_rfl) (fun _ _ _ h => h) (Or.inl ⟨by rfl, ?yt7⟩) (by assumption) ?rt7
  case yt7 => (intro w' hSw; (try dsimp only at hSw); go_simp; try with_reducible rfl)
  try simp only [Act.put, List.setIfInBounds_toArray, List.set_cons_zero, List.set_cons_succ]
  refine wpAnyH_take (i := 8) (oi := { dst := some 19, op := Op.pick (Operand.tmp 13) (Operand.const (Value.bool true)) (Operand.tmp 18), type := 4, pos := "law.go:25", after := #[{ on := 2, ground := Ground.data }, { on := 7, ground := Ground.data }], guard := none }) (v := ?vt8) rfl (by kernel_rfl) (by kernel_rfl) (by kernel_rfl) (fun _ _ _ h => h) (Or.inl ⟨by rfl, ?yt8⟩) (by assumption) ?rt8
  case yt8 => (intro w' hSw; (try dsimp only at hSw); go_simp; try with_reducible rfl)
  try simp only [Act.put, List.setIfInBounds_toArray, List.set_cons_zero, List.set_cons_succ]
  refine wpAnyH_take (i := 9) (oi := { dst := some 20, op := Op.move (Operand.tmp 19), type := 4, pos := "law.go:25", after := #[{ on := 8, ground := Ground.data }, { on := 6, ground := Ground.chain }], guard := none }) (v := ?vt9) rfl (by kernel_rfl) (by kernel_rfl) (by kernel_rfl) (fun _ _ _ h => h) (Or.inl ⟨by rfl, ?yt9⟩) (by assumption) ?rt9
  case yt9 => (intro w' hSw; (try dsimp only at hSw); go_simp; try with_reducible rfl)
  try simp only [Act.put, List.setIfInBounds_toArray, List.set_cons_zero, List.set_cons_succ]
  refine wpAnyH_take (i := 10) (oi := { dst := some 21, op := Op.move (Operand.tmp 0), type := 25, pos := "law.go:25", after := #[{ on := 9, ground := Ground.guard }], guard := some (9, false) }) (v := ?vt10) rfl (by kernel_rfl) (by kernel_rfl) (by kernel_rfl) (fun _ _ _ h => h) (Or.inl ⟨by rfl, ?yt10⟩) (by assumption) ?rt10
  case yt10 => (intro w' hSw; (try dsimp only at hSw); go_simp; try with_reducible rfl)
  try simp only [Act.put, List.setIfInBounds_toArray, List.set_cons_zero, List.set_cons_succ]
  refine wpAnyH_take (i := 11) (oi := { dst := some 22, op := Op.fieldAddr 31 (Operand.tmp 3) 1, type := 0, pos := "law.go:25", after := #[{ on := 9, ground := Ground.guard }], guard := some (9, false) }) (v := ?vt11) rfl (by kernel_rfl) (by kernel_rfl) (by kernel_rfl) (fun _ _ _ h => h) (Or.inl ⟨by rfl, ?yt11⟩) (by assumption) ?rt11
  case yt11 => (intro w' hSw; (try dsimp only at hSw); go_simp; try with_reducible rfl)
  try simp only [Act.put, List.setIfInBounds_toArray, List.set_cons_zero, List.set_cons_succ]
  refine wpAnyH_take (i := 12) (oi := { dst := some 23, op := Op.load 3 (Operand.tmp 22), type := 3, pos := "law.go:25", after := #[{ on := 11, ground := Ground.data }, { on := 9, ground := Ground.guard }], guard := some (9, false) }) (v := ?vt12) rfl (by kernel_rfl) (by kernel_rfl) (by kernel_rfl) (fun _ _ _ h => h) (Or.inl ⟨by rfl, ?yt12⟩) (by assumption) ?rt12
  case yt12 => (intro w' hSw; (try dsimp only at hSw); go_simp; try with_reducible rfl)
  try simp only [Act.put, List.setIfInBounds_toArray, List.set_cons_zero, List.set_cons_succ]
  refine wpAnyH_take (i := 13) (oi := { dst := some 24, op := Op.makeInterface 73 (Operand.tmp 23), type := 25, pos := "law.go:25", after := #[{ on := 12, ground := Ground.data }, { on := 9, ground := Ground.guard }], guard := some (9, false) }) (v := ?vt13) rfl (by kernel_rfl) (by kernel_rfl) (by kernel_rfl) (fun _ _ _ h => h) (Or.inl ⟨by rfl, ?yt13⟩) (by assumption) ?rt13
  case yt13 => (intro w' hSw; (try dsimp only at hSw); go_simp; try with_reducible rfl)
  try simp only [Act.put, List.setIfInBounds_toArray, List.set_cons_zero, List.set_cons_succ]
  refine wpAnyH_ready (rs := [14]) (by kernel_rfl) (by simp) ?_
  refine AllReadyH.cons (o := { dst := some 25, op := Op.call { callee := Callee.value (Operand.func 42), args := #[Operand.tmp 21, Operand.tmp 24], argTypes := #[25, 25] }, type := 4, pos := "law.go:25", after := #[{ on := 10, ground := Ground.data }, { on := 13, ground := Ground.data }, { on := 9, ground := Ground.chain }, { on := 9, ground := Ground.guard }], guard := some (9, false) }) rfl (fun K hK => ?_) AllReadyH.nil
  go_simp
  go_at_call 42
  refine (IS.out _ (TG.fault T2.out)).mono ?_
  rintro x w3 ⟨rfl, rfl⟩
  go_wp2_with fail
  refine hK.out _ _ (T2.out.cells) (fun hHeldt14 => ?_)
  clear hK K hHeldt6
  try simp only [Act.put, List.setIfInBounds_toArray, List.set_cons_zero, List.set_cons_succ]
  refine wpAnyH_take (i := 15) (oi := { dst := some 26, op := Op.unOp UnOp.not 4 (Operand.tmp 25), type := 4, pos := "law.go:25", after := #[{ on := 14, ground := Ground.data }, { on := 9, ground := Ground.guard }], guard := some (9, false) }) (v := ?vt15) rfl (by kernel_rfl) (by kernel_rfl) (by kernel_rfl) (fun _ _ _ h => h) (Or.inl ⟨by rfl, ?yt15⟩) (by assumption) ?rt15
  case yt15 => (intro w' hSw; (try dsimp only at hSw); go_simp; try with_reducible rfl)
  try simp only [Act.put, List.setIfInBounds_toArray, List.set_cons_zero, List.set_cons_succ]
  refine wpAnyH_take (i := 16) (oi := { dst := some 27, op := Op.pick (Operand.tmp 20) (Operand.const (Value.bool true)) (Operand.tmp 26), type := 4, pos := "law.go:25", after := #[{ on := 9, ground := Ground.data }, { on := 15, ground := Ground.data }], guard := none }) (v := ?vt16) rfl (by kernel_rfl) (by kernel_rfl) (by kernel_rfl) (fun _ _ _ h => h) (Or.inl ⟨by rfl, ?yt16⟩) (by assumption) ?rt16
  case yt16 => (intro w' hSw; (try dsimp only at hSw); go_simp; try with_reducible rfl)
  try simp only [Act.put, List.setIfInBounds_toArray, List.set_cons_zero, List.set_cons_succ]
  refine wpAnyH_done (by kernel_rfl) ?_ _
  have c0 := T2.out.box.cell 0
  have c1 := T2.out.box.cell 1
  have HBk := Lib.hid (Blk.new w3 76 #[.pointer none])
  have T3 := Lib.hid (T2.out.below ((Below.refl _ _).alloc (Nat.le_refl _) (.cells #[.pointer none] 76)))
  clear T0 T0d T1 ER WO IS
  go_wp2_with fail
  refine (AS.out _ _ T3.out.err HBk.out).mono ?_
  rintro x w4 ⟨rfl, hbk, hT⟩
  have C0 := hbk.cell 0
  have d0 := (hT.blk T3.out.box (T3.out.box.ne_ HBk.out (by decide)) (by simp)).cell 0
  have d1 := (hT.blk T3.out.box (T3.out.box.ne_ HBk.out (by decide)) (by simp)).cell 1
  have p0 := (hT.blk T3.out.part (T3.out.part.ne_ HBk.out (by decide)) (by simp)).cell 0
  have p1 := (hT.blk T3.out.part (T3.out.part.ne_ HBk.out (by decide)) (by simp)).cell 1
  have q0 := (hT.blk T3.out.fault (T3.out.fault.ne_ HBk.out (by decide)) (by simp)).cell 0
  have q1 := (hT.blk T3.out.fault (T3.out.fault.ne_ HBk.out (by decide)) (by simp)).cell 1
  have HBF : Hid (Below w.heap.size w w4) := Lib.hid (T2.out.bel.trans (((Below.refl _ _).alloc T2.out.bel.size (.cells #[.pointer none] 76)).trans (hT.below (by have := T2.out.bel.size; simp; omega) T2.out.bel.size (fun _ h => by cases h))))
  clear hbk hT T3 HBk T2 AS
  go_wp2_with fail
  go_quiet (fail)
  go_wp2_with fail
  go_ret
  exact ⟨rfl, below_drewN HBF.out _⟩
#print axioms tells_says
end Go.Proofs.YtanjcjnkppnhcaaGreatDoor
