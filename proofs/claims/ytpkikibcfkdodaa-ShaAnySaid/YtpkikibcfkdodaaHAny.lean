/-
  ShaAny: the walk.
-/
import Derived.Test.YtpkikibcfkdodaaHRsum
import Derived.Test.YtpkikibcfkdodaaHAgain
import Derived.Test.YtpkikibcfkdodaaHRefS
namespace Go.Proofs.Ytpkikibcfkdodaa
open Go Go.RowKit
attribute [-go_sem] loadCells storeCells run_index_string Instr.buildSlice run_string_add_if
theorem BytesAt.zero {w : World} {A : Option Addr} {l : List UInt8} (h : BytesAt w A l) {c : Nat} (hc : A = none → c = 0) : BytesAt0 w A l c :=
  ⟨fun e => ⟨h.nil e, hc e⟩, fun a e j u hj => by
    have hjl : j < l.length := by have := (List.getElem?_eq_some_iff.1 hj).1; rwa [bc_len] at this
    have h2 := h.at_ a e j hjl
    have h3 := bc_at (List.getElem?_eq_getElem hjl)
    rw [hj] at h3
    rw [h3]; exact h2⟩
/-- Two names that are alike, each in a block. -/
structure Tw (w0 wb w : World) (X Y : Nat) (cm : List Value) : Prop where
  x : Blk w X 25 cm.toArray
  y : Blk w Y 25 cm.toArray
  bel : Below w0.heap.size w0 w
  bel0 : Below wb.heap.size wb w
section
variable {w0 wb w w' : World} {X Y : Nat} {cm : List Value}
theorem Tw.below (h : Tw w0 wb w X Y cm) (hb : Below w.heap.size w w') : Tw w0 wb w' X Y cm := ⟨h.x.below hb h.x.lt, h.y.below hb h.y.lt, h.bel.trans (hb.mono h.bel.size), h.bel0.trans (hb.mono h.bel0.size)⟩
theorem Tw.drew (h : Tw w0 wb w X Y cm) : Tw w0 wb w.drew X Y cm := ⟨h.x.drewN 1, h.y.drewN 1, below_drewN h.bel 1, below_drewN h.bel0 1⟩
theorem Tw.ld (h : Tw w0 wb w X Y cm) (hc : cm.toArray.size = 32) : (loadCells ⟨X, 0, none⟩ 32).run Try.prog w = .ok cm.toArray w ∧ (loadCells ⟨Y, 0, none⟩ 32).run Try.prog w = .ok cm.toArray w := ⟨ld_blk h.x hc, ld_blk h.y hc⟩
end
set_option maxRecDepth 100000 in
set_option maxHeartbeats 1000000 in
theorem any_long (w : World) (A : Option Addr) (n c : Nat) (h : 500 < n) : Calls Try.prog 3 #[.slice A n c] w (YesA w) := by
  have h1 : (500 : Int) < (n : Int) := by omega
  go_enter Try.func3, Try.ntmps3
  go_wp2_with fail
  refine (known_any w).mono ?_
  rintro e w1 ⟨rfl, hb1⟩
  go_wp2
  go_ret
  exact ⟨rfl, hb1⟩
set_option maxRecDepth 100000 in
set_option maxHeartbeats 8000000 in
theorem any_short (w : World) (A : Option Addr) (l : List UInt8) (c : Nat) (hl : l.length ≤ 500) (hc : l.length ≤ c) (hA : BytesAt w A l) (hc0 : A = none → c = 0) : Calls Try.prog 3 #[.slice A l.length c] w (YesA w) := by
  have HA := Lib.hid hA
  have HL := Lib.hid hl
  have HC := Lib.hid hc
  have h1 : ¬ (500 : Int) < (l.length : Int) := by omega
  obtain ⟨cm, hcm⟩ : ∃ cm, cm = bc (sumF l) := ⟨_, rfl⟩
  have hlen : (sumF l).length = 32 := by unfold sumF; kernel_rfl
  have hcl : cm.length = 32 := by rw [hcm, bc_len, hlen]
  have hcz : cm.toArray.size = 32 := by simpa using hcl
  have HCZ := Lib.hid hcz
  have hone : cm.toArray.all (·.oneCell') = true := by rw [hcm, List.all_toArray, List.all_eq_true]; exact bc_one _
  have hst := fun W => st_new W cm hcl hone
  have SUM : Hid (∀ (W : World) (B : Option Addr) (d : Nat), l.length ≤ d → RD W B l → Calls Try.prog 8 #[.slice B l.length d] W fun e w' => e = .returned (.agg cm.toArray) ∧ Below W.heap.size W w') := Lib.hid (by rw [hcm]; exact fun W B d hd hr => sum_any W B l d (by omega) hd hr)
  have RSUM : Hid (∀ (W : World), BytesAt0 W A l c → Calls Try.prog 11 #[.slice A l.length c] W fun e w' => e = .returned (.agg cm.toArray) ∧ Below W.heap.size W w') := Lib.hid (by rw [hcm]; exact fun W h => rsum_any W A l c hl h)
  have STR : Hid (∀ W : World, Calls Try.prog 10 #[.agg cm.toArray] W fun e w' => e = .returned (.string (hexS (sumF l))) ∧ Below W.heap.size W w') := Lib.hid (by rw [hcm]; exact fun W => string_any W (sumF l) hlen)
  have RST : Hid (∀ W : World, Calls Try.prog 12 #[.agg cm.toArray] W fun e w' => e = .returned (.string (hexS (sumF l))) ∧ Below W.heap.size W w') := Lib.hid (by rw [hcm]; exact fun W => rstring_any W (sumF l) hlen)
  have PAR : Hid (∀ W : World, Calls Try.prog 9 #[.string (hexS (sumF l))] W fun e w' => e = .returned (.tuple #[.agg cm.toArray, .nilIface]) ∧ Below W.heap.size W w') := Lib.hid (by rw [hcm]; exact fun W => parse_any W (sumF l) hlen)
  have heq : ∀ W : World, (Op.equalIn 10000 25 (.agg cm.toArray) (.agg cm.toArray)).run Try.prog W = .ok true W := by rw [hcm]; exact fun W => by rw [eq25 W _ _ hlen hlen]; simp
  have heq2 : ∀ W : World, (Op.equalIn 10000 32 (.agg cm.toArray) (.agg cm.toArray)).run Try.prog W = .ok true W := by rw [hcm]; exact fun W => by rw [eq32 W _ _ hlen hlen]; simp
  obtain ⟨hs, hhs⟩ : ∃ s, s = hexS (sumF l) := ⟨_, rfl⟩
  rw [← hhs] at STR RST PAR
  have HC0 := Lib.hid hc0
  clear hA hl hc hcm hlen hcl hone hhs hc0
  go_enter Try.func3, Try.ntmps3
  go_upto_region 5 with (go_at_call 7; refine (known_any w).mono ?_; rintro e w1 ⟨rfl, hb1⟩)
  have A1 := Lib.hid (HA.out.below hb1)
  have B1 := Lib.hid hb1
  clear hb1
  go_upto_region 6 with (go_at_call 8; refine (SUM.out _ _ _ HC.out A1.out.rd).mono ?_; rintro e w2 ⟨rfl, hb2⟩)
  have hX := Blk.new w2 25 cm.toArray
  have A2 := Lib.hid (A1.out.below (hb2.alloc hb2.size (.cells cm.toArray 25)))
  have B2 := Lib.hid (B1.out.trans ((hb2.alloc hb2.size (.cells cm.toArray 25)).mono B1.out.size))
  obtain ⟨X, hXX⟩ : ∃ X, X = w2.heap.size := ⟨_, rfl⟩
  obtain ⟨W2, hW2⟩ : ∃ W, W = w2.alloc (.cells cm.toArray 25) := ⟨_, rfl⟩
  rw [← hXX, ← hW2] at hX
  rw [← hW2] at A2 B2
  rw [← hXX, ← hW2]
  have X2 := Lib.hid hX
  have hld := ld_blk hX hcz
  clear hXX hW2 hX hb2 A1 B1
  go_upto_region 7 with (first | (go_at_call 10; refine (STR.out _).mono ?_; rintro e w3 ⟨rfl, hb3⟩) | (go_at_call 9; refine (PAR.out _).mono ?_; rintro e w4 ⟨rfl, hb4⟩))
  have hbb := (hb3.trans (hb4.mono hb3.size)).alloc (hb3.trans (hb4.mono hb3.size)).size (.cells cm.toArray 25)
  have AB : Hid (BytesAt0 w A l c) := Lib.hid (HA.out.zero HC0.out)
  have T6 : Tw w w (w4.alloc (.cells cm.toArray 25)) X w4.heap.size cm := ⟨X2.out.below hbb X2.out.lt, Blk.new w4 25 cm.toArray, B2.out.trans (hbb.mono B2.out.size), B2.out.trans (hbb.mono B2.out.size)⟩
  obtain ⟨Y, hYY⟩ : ∃ X, X = w4.heap.size := ⟨_, rfl⟩
  obtain ⟨W5, hW5⟩ : ∃ W, W = w4.alloc (.cells cm.toArray 25) := ⟨_, rfl⟩
  rw [← hYY, ← hW5] at T6
  rw [← hYY, ← hW5]
  have T7 := Lib.hid T6.drew
  have S0 := T7.out.ld hcz
  clear hYY hW5 hbb hb3 hb4 T6 X2 A2 B2 hld hst hcz
  refine wp_region_held_drew (S := fun w' => (loadCells ⟨X, 0, none⟩ 32).run Try.prog w' = .ok cm.toArray w' ∧ (loadCells ⟨Y, 0, none⟩ 32).run Try.prog w' = .ok cm.toArray w') (by kernel_rfl) (S0) (fun hHeld => ?_)
  refine wpAnyH_take (i := 0) (oi := { dst := some 19, op := Op.load 25 (Operand.tmp 3), type := 25, pos := "law.go:48", after := #[], guard := none }) (v := ?va0) rfl (by kernel_rfl) (by kernel_rfl) (by kernel_rfl) (fun _ _ _ h => h) (Or.inl ⟨by rfl, ?ya0⟩) (by assumption) ?ra0
  case ya0 => (intro w' hSw; (try dsimp only at hSw); go_simp; try with_reducible rfl)
  try simp only [Act.put, List.setIfInBounds_toArray, List.set_cons_zero, List.set_cons_succ]
  refine wpAnyH_take (i := 1) (oi := { dst := some 20, op := Op.move (Operand.tmp 0), type := 22, pos := "law.go:48", after := #[], guard := none }) (v := ?va1) rfl (by kernel_rfl) (by kernel_rfl) (by kernel_rfl) (fun _ _ _ h => h) (Or.inl ⟨by rfl, ?ya1⟩) (by assumption) ?ra1
  case ya1 => (intro w' hSw; (try dsimp only at hSw); go_simp; try with_reducible rfl)
  try simp only [Act.put, List.setIfInBounds_toArray, List.set_cons_zero, List.set_cons_succ]
  refine wpAnyH_ready (rs := [2]) (by kernel_rfl) (by simp) ?_
  refine AllReadyH.cons (o := { dst := some 21, op := Op.call { callee := Callee.value (Operand.func 11), args := #[Operand.tmp 20], argTypes := #[22] }, type := 32, pos := "law.go:48", after := #[{ on := 1, ground := Ground.data }], guard := none }) rfl (fun K hK => ?_) AllReadyH.nil
  go_simp
  go_at_call 11
  refine (RSUM.out _ (AB.out.below (T7.out.bel0))).mono ?_
  rintro e w8 ⟨rfl, hb8⟩
  have T8 := Lib.hid (T7.out.below hb8)
  dsimp only
  go_wp2_with fail
  refine hK.out _ _ (T8.out.ld HCZ.out) (fun hHelda2 => ?_)
  clear hK K hHeld
  try simp only [Act.put, List.setIfInBounds_toArray, List.set_cons_zero, List.set_cons_succ]
  refine wpAnyH_take (i := 3) (oi := { dst := some 22, op := Op.binOp BinOp.eql 32 (Operand.tmp 19) (Operand.tmp 21) 32, type := 4, pos := "law.go:48", after := #[{ on := 0, ground := Ground.data }, { on := 2, ground := Ground.data }], guard := none }) (v := ?va3) rfl (by kernel_rfl) (by kernel_rfl) (by kernel_rfl) (fun _ _ _ h => h) (Or.inl ⟨by rfl, ?ya3⟩) (by assumption) ?ra3
  case ya3 => (intro w' hSw; (try dsimp only at hSw); go_simp; try with_reducible rfl)
  try simp only [Act.put, List.setIfInBounds_toArray, List.set_cons_zero, List.set_cons_succ]
  refine wpAnyH_take (i := 4) (oi := { dst := some 23, op := Op.move (Operand.tmp 22), type := 4, pos := "law.go:48", after := #[{ on := 3, ground := Ground.data }, { on := 2, ground := Ground.chain }], guard := none }) (v := ?va4) rfl (by kernel_rfl) (by kernel_rfl) (by kernel_rfl) (fun _ _ _ h => h) (Or.inl ⟨by rfl, ?ya4⟩) (by assumption) ?ra4
  case ya4 => (intro w' hSw; (try dsimp only at hSw); go_simp; try with_reducible rfl)
  try simp only [Act.put, List.setIfInBounds_toArray, List.set_cons_zero, List.set_cons_succ]
  refine wpAnyH_take (i := 5) (oi := { dst := some 24, op := Op.load 25 (Operand.tmp 3), type := 25, pos := "law.go:48", after := #[{ on := 4, ground := Ground.guard }], guard := some (4, true) }) (v := ?va5) rfl (by kernel_rfl) (by kernel_rfl) (by kernel_rfl) (fun _ _ _ h => h) (Or.inl ⟨by rfl, ?ya5⟩) (by assumption) ?ra5
  case ya5 => (intro w' hSw; (try dsimp only at hSw); go_simp; try with_reducible rfl)
  try simp only [Act.put, List.setIfInBounds_toArray, List.set_cons_zero, List.set_cons_succ]
  refine wpAnyH_take (i := 7) (oi := { dst := some 26, op := Op.load 25 (Operand.tmp 3), type := 25, pos := "law.go:48", after := #[{ on := 4, ground := Ground.guard }], guard := some (4, true) }) (v := ?va7) rfl (by kernel_rfl) (by kernel_rfl) (by kernel_rfl) (fun _ _ _ h => h) (Or.inl ⟨by rfl, ?ya7⟩) (by assumption) ?ra7
  case ya7 => (intro w' hSw; (try dsimp only at hSw); go_simp; try with_reducible rfl)
  try simp only [Act.put, List.setIfInBounds_toArray, List.set_cons_zero, List.set_cons_succ]
  refine wpAnyH_ready (rs := [6]) (by kernel_rfl) (by simp) ?_
  refine AllReadyH.cons (o := { dst := some 25, op := Op.call { callee := Callee.value (Operand.func 10), args := #[Operand.tmp 24], argTypes := #[25] }, type := 9, pos := "law.go:48", after := #[{ on := 5, ground := Ground.data }, { on := 4, ground := Ground.chain }, { on := 4, ground := Ground.guard }], guard := some (4, true) }) rfl (fun K hK => ?_) AllReadyH.nil
  go_simp
  go_at_call 10
  refine (STR.out _).mono ?_
  rintro e w9 ⟨rfl, hb9⟩
  have T9 := Lib.hid (T8.out.below hb9)
  dsimp only
  go_wp2_with fail
  refine hK.out _ _ (T9.out.ld HCZ.out) (fun hHelda6 => ?_)
  clear hK K hHelda2
  try simp only [Act.put, List.setIfInBounds_toArray, List.set_cons_zero, List.set_cons_succ]
  refine wpAnyH_ready (rs := [8]) (by kernel_rfl) (by simp) ?_
  refine AllReadyH.cons (o := { dst := some 27, op := Op.call { callee := Callee.value (Operand.func 12), args := #[Operand.tmp 26], argTypes := #[32] }, type := 9, pos := "law.go:48", after := #[{ on := 7, ground := Ground.data }, { on := 6, ground := Ground.chain }, { on := 4, ground := Ground.guard }], guard := some (4, true) }) rfl (fun K hK => ?_) AllReadyH.nil
  go_simp
  go_at_call 12
  refine (RST.out _).mono ?_
  rintro e w10 ⟨rfl, hb10⟩
  have T10 := Lib.hid (T9.out.below hb10)
  dsimp only
  go_wp2_with fail
  refine hK.out _ _ (T10.out.ld HCZ.out) (fun hHelda8 => ?_)
  clear hK K hHelda6
  try simp only [Act.put, List.setIfInBounds_toArray, List.set_cons_zero, List.set_cons_succ]
  refine wpAnyH_take (i := 9) (oi := { dst := some 28, op := Op.binOp BinOp.eql 9 (Operand.tmp 25) (Operand.tmp 27) 9, type := 4, pos := "law.go:48", after := #[{ on := 6, ground := Ground.data }, { on := 8, ground := Ground.data }, { on := 4, ground := Ground.guard }], guard := some (4, true) }) (v := ?va9) rfl (by kernel_rfl) (by kernel_rfl) (by kernel_rfl) (fun _ _ _ h => h) (Or.inl ⟨by rfl, ?ya9⟩) (by assumption) ?ra9
  case ya9 => (intro w' hSw; (try dsimp only at hSw); go_simp; try with_reducible rfl)
  try simp only [Act.put, List.setIfInBounds_toArray, List.set_cons_zero, List.set_cons_succ]
  refine wpAnyH_take (i := 10) (oi := { dst := some 29, op := Op.pick (Operand.tmp 23) (Operand.tmp 28) (Operand.const (Value.bool false)), type := 4, pos := "law.go:48", after := #[{ on := 4, ground := Ground.data }, { on := 9, ground := Ground.data }], guard := none }) (v := ?va10) rfl (by kernel_rfl) (by kernel_rfl) (by kernel_rfl) (fun _ _ _ h => h) (Or.inl ⟨by rfl, ?ya10⟩) (by assumption) ?ra10
  case ya10 => (intro w' hSw; (try dsimp only at hSw); go_simp; try with_reducible rfl)
  try simp only [Act.put, List.setIfInBounds_toArray, List.set_cons_zero, List.set_cons_succ]
  refine wpAnyH_take (i := 11) (oi := { dst := some 30, op := Op.move (Operand.tmp 29), type := 4, pos := "law.go:48", after := #[{ on := 10, ground := Ground.data }, { on := 8, ground := Ground.chain }], guard := none }) (v := ?va11) rfl (by kernel_rfl) (by kernel_rfl) (by kernel_rfl) (fun _ _ _ h => h) (Or.inl ⟨by rfl, ?ya11⟩) (by assumption) ?ra11
  case ya11 => (intro w' hSw; (try dsimp only at hSw); go_simp; try with_reducible rfl)
  try simp only [Act.put, List.setIfInBounds_toArray, List.set_cons_zero, List.set_cons_succ]
  refine wpAnyH_take (i := 12) (oi := { dst := some 31, op := Op.move (Operand.tmp 5), type := 28, pos := "law.go:48", after := #[{ on := 11, ground := Ground.guard }], guard := some (11, true) }) (v := ?va12) rfl (by kernel_rfl) (by kernel_rfl) (by kernel_rfl) (fun _ _ _ h => h) (Or.inl ⟨by rfl, ?ya12⟩) (by assumption) ?ra12
  case ya12 => (intro w' hSw; (try dsimp only at hSw); go_simp; try with_reducible rfl)
  try simp only [Act.put, List.setIfInBounds_toArray, List.set_cons_zero, List.set_cons_succ]
  refine wpAnyH_take (i := 13) (oi := { dst := some 32, op := Op.binOp BinOp.eql 28 (Operand.tmp 31) (Operand.const Value.nilIface) 28, type := 4, pos := "law.go:48", after := #[{ on := 12, ground := Ground.data }, { on := 11, ground := Ground.guard }], guard := some (11, true) }) (v := ?va13) rfl (by kernel_rfl) (by kernel_rfl) (by kernel_rfl) (fun _ _ _ h => h) (Or.inl ⟨by rfl, ?ya13⟩) (by assumption) ?ra13
  case ya13 => (intro w' hSw; (try dsimp only at hSw); go_simp; try with_reducible rfl)
  try simp only [Act.put, List.setIfInBounds_toArray, List.set_cons_zero, List.set_cons_succ]
  refine wpAnyH_take (i := 14) (oi := { dst := some 33, op := Op.pick (Operand.tmp 30) (Operand.tmp 32) (Operand.const (Value.bool false)), type := 4, pos := "law.go:48", after := #[{ on := 11, ground := Ground.data }, { on := 13, ground := Ground.data }], guard := none }) (v := ?va14) rfl (by kernel_rfl) (by kernel_rfl) (by kernel_rfl) (fun _ _ _ h => h) (Or.inl ⟨by rfl, ?ya14⟩) (by assumption) ?ra14
  case ya14 => (intro w' hSw; (try dsimp only at hSw); go_simp; try with_reducible rfl)
  try simp only [Act.put, List.setIfInBounds_toArray, List.set_cons_zero, List.set_cons_succ]
  refine wpAnyH_take (i := 15) (oi := { dst := some 34, op := Op.move (Operand.tmp 33), type := 4, pos := "law.go:48", after := #[{ on := 14, ground := Ground.data }, { on := 11, ground := Ground.chain }], guard := none }) (v := ?va15) rfl (by kernel_rfl) (by kernel_rfl) (by kernel_rfl) (fun _ _ _ h => h) (Or.inl ⟨by rfl, ?ya15⟩) (by assumption) ?ra15
  case ya15 => (intro w' hSw; (try dsimp only at hSw); go_simp; try with_reducible rfl)
  try simp only [Act.put, List.setIfInBounds_toArray, List.set_cons_zero, List.set_cons_succ]
  refine wpAnyH_take (i := 16) (oi := { dst := some 35, op := Op.load 25 (Operand.tmp 4), type := 25, pos := "law.go:48", after := #[{ on := 15, ground := Ground.guard }], guard := some (15, true) }) (v := ?va16) rfl (by kernel_rfl) (by kernel_rfl) (by kernel_rfl) (fun _ _ _ h => h) (Or.inl ⟨by rfl, ?ya16⟩) (by assumption) ?ra16
  case ya16 => (intro w' hSw; (try dsimp only at hSw); go_simp; try with_reducible rfl)
  try simp only [Act.put, List.setIfInBounds_toArray, List.set_cons_zero, List.set_cons_succ]
  refine wpAnyH_take (i := 17) (oi := { dst := some 36, op := Op.load 25 (Operand.tmp 3), type := 25, pos := "law.go:48", after := #[{ on := 15, ground := Ground.guard }], guard := some (15, true) }) (v := ?va17) rfl (by kernel_rfl) (by kernel_rfl) (by kernel_rfl) (fun _ _ _ h => h) (Or.inl ⟨by rfl, ?ya17⟩) (by assumption) ?ra17
  case ya17 => (intro w' hSw; (try dsimp only at hSw); go_simp; try with_reducible rfl)
  try simp only [Act.put, List.setIfInBounds_toArray, List.set_cons_zero, List.set_cons_succ]
  refine wpAnyH_take (i := 18) (oi := { dst := some 37, op := Op.binOp BinOp.eql 25 (Operand.tmp 35) (Operand.tmp 36) 25, type := 4, pos := "law.go:48", after := #[{ on := 16, ground := Ground.data }, { on := 17, ground := Ground.data }, { on := 15, ground := Ground.guard }], guard := some (15, true) }) (v := ?va18) rfl (by kernel_rfl) (by kernel_rfl) (by kernel_rfl) (fun _ _ _ h => h) (Or.inl ⟨by rfl, ?ya18⟩) (by assumption) ?ra18
  case ya18 => (intro w' hSw; (try dsimp only at hSw); go_simp; try with_reducible rfl)
  try simp only [Act.put, List.setIfInBounds_toArray, List.set_cons_zero, List.set_cons_succ]
  refine wpAnyH_take (i := 19) (oi := { dst := some 38, op := Op.pick (Operand.tmp 34) (Operand.tmp 37) (Operand.const (Value.bool false)), type := 4, pos := "law.go:48", after := #[{ on := 15, ground := Ground.data }, { on := 18, ground := Ground.data }], guard := none }) (v := ?va19) rfl (by kernel_rfl) (by kernel_rfl) (by kernel_rfl) (fun _ _ _ h => h) (Or.inl ⟨by rfl, ?ya19⟩) (by assumption) ?ra19
  case ya19 => (intro w' hSw; (try dsimp only at hSw); go_simp; try with_reducible rfl)
  try simp only [Act.put, List.setIfInBounds_toArray, List.set_cons_zero, List.set_cons_succ]
  refine wpAnyH_take (i := 20) (oi := { dst := some 2, op := Op.assign (Operand.tmp 38), type := 4, pos := "law.go:48", after := #[{ on := 19, ground := Ground.data }, { on := 15, ground := Ground.chain }, { on := 0, ground := Ground.phase }, { on := 1, ground := Ground.phase }, { on := 2, ground := Ground.phase }, { on := 3, ground := Ground.phase }, { on := 4, ground := Ground.phase }, { on := 5, ground := Ground.phase }, { on := 6, ground := Ground.phase }, { on := 7, ground := Ground.phase }, { on := 8, ground := Ground.phase }, { on := 9, ground := Ground.phase }, { on := 10, ground := Ground.phase }, { on := 11, ground := Ground.phase }, { on := 12, ground := Ground.phase }, { on := 13, ground := Ground.phase }, { on := 14, ground := Ground.phase }, { on := 15, ground := Ground.phase }, { on := 16, ground := Ground.phase }, { on := 17, ground := Ground.phase }, { on := 18, ground := Ground.phase }, { on := 19, ground := Ground.phase }], guard := none }) (v := ?va20) rfl (by kernel_rfl) (by kernel_rfl) (by kernel_rfl) (fun _ _ _ h => h) (Or.inl ⟨by rfl, ?ya20⟩) (by assumption) ?ra20
  case ya20 => (intro w' hSw; (try dsimp only at hSw); go_simp; try with_reducible rfl)
  try simp only [Act.put, List.setIfInBounds_toArray, List.set_cons_zero, List.set_cons_succ]
  refine wpAnyH_done (by kernel_rfl) ?_ _
  clear S0
  go_wp2_with fail
  go_ret
  exact ⟨rfl, T10.out.bel⟩
#print axioms any_short
end Go.Proofs.Ytpkikibcfkdodaa
