/-
  block.
-/
import Derived.Test.YtpkikibcfkdodaaHNot
import Derived.Deep.DeepCutAuto
import Derived.Deep.CutBlock
import Derived.Deep.RegionHeld
import Derived.StillTailTactics
namespace Go.Proofs.Ytpkikibcfkdodaa
open Go Go.RowKit

theorem u32_add {a b : Nat} : IntKind.u32.wrap ((a : Int) + (b : Int)) = (((a + b) % M32 : Nat) : Int) := by
  rw [IntKind.wrap_u32']
  show _ = (((a + b) % 4294967296 : Nat) : Int)
  omega
/-- The cells from o on read as M. -/
def Reads4 (w : World) (g o : Nat) (M : List UInt8) : Prop := ∀ j b, M[j]? = some b → w.cell? ⟨g, o + j, none⟩ = some (.int .u8 b.toNat)

set_option maxRecDepth 100000 in
set_option maxHeartbeats 40000000 in
theorem block_any (w : World) (H K g o c : Nat) (s : St8) (ks : List Nat) (m : List UInt8) (hH : Blk w H 60 s.cells) (hK : Blk w K 62 (arr 64 ks)) (hs : s.ok) (hk : ks.length = 64) (hkw : Words ks) (hm : m.length = 64) (hr : Reads4 w g o m) (hgl : g < w.heap.size) :
    Calls Try.prog 30 #[.pointer (some ⟨H, 0, none⟩), .pointer (some ⟨K, 0, none⟩), .slice (some ⟨g, o, none⟩) 64 c] w fun e w' => e = .returned (.tuple #[]) ∧ Blk w' H 60 (blockF s ks m).cells ∧ Touch w w' H none := by
  have HH := Lib.hid hH
  have HK := Lib.hid hK
  have HR := Lib.hid hr
  have HS := Lib.hid hs
  have HKW := Lib.hid hkw
  have HM := Lib.hid hm
  have HKL := Lib.hid hk
  clear hH hK hr hs hkw hm hk
  go_enter Try.func30, Try.ntmps30
  go_wp2_with fail
  have B0 := (Below.refl w.heap.size w).alloc (Nat.le_refl _) (.cells (arr 64 []) 62)
  have X0 : Blk (w.alloc (.cells (arr 64 []) 62)) w.heap.size 62 (arr 64 []) := heap_alloc_new _ _
  obtain ⟨W0, hW0⟩ : ∃ W0, W0 = w.alloc (.cells (arr 64 []) 62) := ⟨_, rfl⟩
  obtain ⟨X, hX⟩ : ∃ X, X = w.heap.size := ⟨_, rfl⟩
  have HXX := Lib.hid hX
  show Code.wp Try.prog _ _ _ (w.alloc (.cells (arr 64 []) 62))
  rw [← hW0, ← hX] at X0
  rw [← hW0, ← hX] at B0
  rw [← hW0]
  rw [← hX]
  have HWW := Lib.hid hW0
  clear hX hW0
  go_loopw [16] (fun s16 wr => ∃ i : Nat, s16 = .int .i64 i ∧ i ≤ 16 ∧ Blk wr X 62 (arr 64 (wordsOf m i)) ∧ Below X w wr) (fun s16 _ => 16 - (intOf s16).toNat)
  case atStart => exact ⟨0, rfl, by omega, X0, B0⟩
  case round =>
    obtain ⟨i, rfl, hi, hb, hB⟩ := hrel
    have i0 : (0 : Int) ≤ (i : Int) := Int.natCast_nonneg _
    by_cases hlt : i < 16
    · have i1 : (i : Int) < 16 := by omega
      obtain ⟨p0, hp0⟩ : ∃ p, p = 4 * i := ⟨_, rfl⟩
      obtain ⟨p1, hp1⟩ : ∃ p, p = 4 * i + 1 := ⟨_, rfl⟩
      obtain ⟨p2, hp2⟩ : ∃ p, p = 4 * i + 2 := ⟨_, rfl⟩
      obtain ⟨p3, hp3⟩ : ∃ p, p = 4 * i + 3 := ⟨_, rfl⟩
      have cell : ∀ p, p < 64 → wr.cell? ⟨g, o + p, none⟩ = some (.int .u8 (byteAt m p : Int)) := fun p hp => by
        have hpm : p < m.length := by rw [HM.out]; exact hp
        have h0 := HR.out p _ (List.getElem?_eq_getElem hpm)
        have e : byteAt m p = (m[p]).toNat := by unfold byteAt; rw [List.getElem?_eq_getElem hpm]; rfl
        rw [e, ← h0]
        have := hB.block g (by rw [HXX.out]; exact hgl)
        simp only [World.cell?, this]
      have x0 := cell p0 (by omega)
      have x1 := cell p1 (by omega)
      have x2 := cell p2 (by omega)
      have x3 := cell p3 (by omega)
      have hw := word_go (byteAt_lt m p0) (byteAt_lt m p1) (byteAt_lt m p2) (byteAt_lt m p3)
      have HW : Hid (wordsOf m (i + 1) = wordsOf m i ++ [word (byteAt m p0) (byteAt m p1) (byteAt m p2) (byteAt m p3)]) := Lib.hid (by rw [hp0, hp1, hp2, hp3]; rfl)
      have l0 := byteAt_lt m p0
      have l1 := byteAt_lt m p1
      have l2 := byteAt_lt m p2
      have l3 := byteAt_lt m p3
      generalize byteAt m p0 = b0 at *
      generalize byteAt m p1 = b1 at *
      generalize byteAt m p2 = b2 at *
      generalize byteAt m p3 = b3 at *
      have e0 : IntKind.i64.wrap (4 * (i : Int)) = (p0 : Int) := by rw [IntKind.wrap_i64]; omega
      have e1 : IntKind.i64.wrap ((p0 : Int) + 1) = (p1 : Int) := by rw [IntKind.wrap_i64]; omega
      have e2 : IntKind.i64.wrap ((p0 : Int) + 2) = (p2 : Int) := by rw [IntKind.wrap_i64]; omega
      have e3 : IntKind.i64.wrap ((p0 : Int) + 3) = (p3 : Int) := by rw [IntKind.wrap_i64]; omega
      have m0 : (b0 : Int) < 256 := by omega
      have m1 : (b1 : Int) < 256 := by omega
      have m2 : (b2 : Int) < 256 := by omega
      have m3 : (b3 : Int) < 256 := by omega
      have q0 : (p0 : Int) < 64 := by omega
      have q1 : (p1 : Int) < 64 := by omega
      have q2 : (p2 : Int) < 64 := by omega
      have q3 : (p3 : Int) < 64 := by omega
      have i2 : (i : Int) < 64 := by omega
      have r0 : IntKind.u32.wrap (b0 : Int) = (b0 : Int) := by rw [IntKind.wrap_u32']; omega
      have r1 : IntKind.u32.wrap (b1 : Int) = (b1 : Int) := by rw [IntKind.wrap_u32']; omega
      have r2 : IntKind.u32.wrap (b2 : Int) = (b2 : Int) := by rw [IntKind.wrap_u32']; omega
      have r3 : IntKind.u32.wrap (b3 : Int) = (b3 : Int) := by rw [IntKind.wrap_u32']; omega
      have s0 : IntKind.u32.wrap ((b0 : Int) * 16777216) = (b0 : Int) * 16777216 := by rw [IntKind.wrap_u32']; omega
      have s1 : IntKind.u32.wrap ((b1 : Int) * 65536) = (b1 : Int) * 65536 := by rw [IntKind.wrap_u32']; omega
      have s2 : IntKind.u32.wrap ((b2 : Int) * 256) = (b2 : Int) * 256 := by rw [IntKind.wrap_u32']; omega
      have hXg : X ≠ g := by rw [HXX.out]; omega
      have hc : wr.cell? ⟨X, i, none⟩ = some (.int .u32 0) := by rw [hb.cell, arr_zero (by rw [wordsOf_len]; omega) (by omega)]
      have hf := hb.frozen i
      have HBk := Lib.hid hb
      have HBw := Lib.hid hB
      clear hb hB hp0 hp1 hp2 hp3 cell l0 l1 l2 l3
      go_wp2_with fail
      refine wp_region_held_drew (S := fun w' => w'.cell? ⟨g, o + p0, none⟩ = some (.int .u8 (b0 : Int)) ∧ w'.cell? ⟨g, o + p1, none⟩ = some (.int .u8 (b1 : Int)) ∧ w'.cell? ⟨g, o + p2, none⟩ = some (.int .u8 (b2 : Int)) ∧ w'.cell? ⟨g, o + p3, none⟩ = some (.int .u8 (b3 : Int))) (by kernel_rfl) (⟨x0, x1, x2, x3⟩) (fun hHeld => ?_)
      refine wpAnyH_take (i := 0) (oi := { dst := some 19, op := Op.move (Operand.tmp 7), type := 3, pos := "sha.go:55", after := #[], guard := none }) (v := ?vp0) rfl (by kernel_rfl) (by kernel_rfl) (by kernel_rfl) (fun _ _ _ h => h) (Or.inl ⟨by rfl, ?yp0⟩) (by assumption) ?rp0
      case yp0 => (intro w' hSw; (try dsimp only at hSw); go_simp; try with_reducible rfl)
      try simp only [Act.put, List.setIfInBounds_toArray, List.set_cons_zero, List.set_cons_succ]
      refine wpAnyH_take (i := 1) (oi := { dst := some 20, op := Op.move (Operand.tmp 2), type := 22, pos := "sha.go:55", after := #[], guard := none }) (v := ?vp1) rfl (by kernel_rfl) (by kernel_rfl) (by kernel_rfl) (fun _ _ _ h => h) (Or.inl ⟨by rfl, ?yp1⟩) (by assumption) ?rp1
      case yp1 => (intro w' hSw; (try dsimp only at hSw); go_simp; try with_reducible rfl)
      try simp only [Act.put, List.setIfInBounds_toArray, List.set_cons_zero, List.set_cons_succ]
      refine wpAnyH_take (i := 2) (oi := { dst := some 21, op := Op.move (Operand.tmp 7), type := 3, pos := "sha.go:55", after := #[], guard := none }) (v := ?vp2) rfl (by kernel_rfl) (by kernel_rfl) (by kernel_rfl) (fun _ _ _ h => h) (Or.inl ⟨by rfl, ?yp2⟩) (by assumption) ?rp2
      case yp2 => (intro w' hSw; (try dsimp only at hSw); go_simp; try with_reducible rfl)
      try simp only [Act.put, List.setIfInBounds_toArray, List.set_cons_zero, List.set_cons_succ]
      refine wpAnyH_take (i := 3) (oi := { dst := some 22, op := Op.binOp BinOp.mul 3 (Operand.const (Value.int IntKind.i64 4)) (Operand.tmp 21) 3, type := 3, pos := "sha.go:55", after := #[{ on := 2, ground := Ground.data }], guard := none }) (v := ?vp3) rfl (by kernel_rfl) (by kernel_rfl) (by kernel_rfl) (fun _ _ _ h => h) (Or.inl ⟨by rfl, ?yp3⟩) (by assumption) ?rp3
      case yp3 => (intro w' hSw; (try dsimp only at hSw); go_simp; try with_reducible rfl)
      try simp only [Act.put, List.setIfInBounds_toArray, List.set_cons_zero, List.set_cons_succ]
      refine wpAnyH_take (i := 4) (oi := { dst := some 23, op := Op.indexAddr 22 (Operand.tmp 20) (Operand.tmp 22), type := 0, pos := "sha.go:55", after := #[{ on := 1, ground := Ground.data }, { on := 3, ground := Ground.data }], guard := none }) (v := ?vp4) rfl (by kernel_rfl) (by kernel_rfl) (by kernel_rfl) (fun _ _ _ h => h) (Or.inl ⟨by rfl, ?yp4⟩) (by assumption) ?rp4
      case yp4 => (intro w' hSw; (try dsimp only at hSw); go_simp; try with_reducible rfl)
      try simp only [Act.put, List.setIfInBounds_toArray, List.set_cons_zero, List.set_cons_succ]
      refine wpAnyH_take (i := 5) (oi := { dst := some 24, op := Op.load 5 (Operand.tmp 23), type := 5, pos := "sha.go:55", after := #[{ on := 4, ground := Ground.data }], guard := none }) (v := ?vp5) rfl (by kernel_rfl) (by kernel_rfl) (by kernel_rfl) (fun _ _ _ h => h) (Or.inl ⟨by rfl, ?yp5⟩) (by assumption) ?rp5
      case yp5 => (intro w' hSw; (try dsimp only at hSw); go_simp; try with_reducible rfl)
      try simp only [Act.put, List.setIfInBounds_toArray, List.set_cons_zero, List.set_cons_succ]
      refine wpAnyH_take (i := 6) (oi := { dst := some 25, op := Op.convert 5 59 (Operand.tmp 24), type := 59, pos := "sha.go:55", after := #[{ on := 5, ground := Ground.data }], guard := none }) (v := ?vp6) rfl (by kernel_rfl) (by kernel_rfl) (by kernel_rfl) (fun _ _ _ h => h) (Or.inl ⟨by rfl, ?yp6⟩) (by assumption) ?rp6
      case yp6 => (intro w' hSw; (try dsimp only at hSw); go_simp; try with_reducible rfl)
      try simp only [Act.put, List.setIfInBounds_toArray, List.set_cons_zero, List.set_cons_succ]
      refine wpAnyH_take (i := 7) (oi := { dst := some 26, op := Op.binOp BinOp.shl 59 (Operand.tmp 25) (Operand.const (Value.int IntKind.u64 24)) 68, type := 59, pos := "sha.go:55", after := #[{ on := 6, ground := Ground.data }], guard := none }) (v := ?vp7) rfl (by kernel_rfl) (by kernel_rfl) (by kernel_rfl) (fun _ _ _ h => h) (Or.inl ⟨by rfl, ?yp7⟩) (by assumption) ?rp7
      case yp7 => (intro w' hSw; (try dsimp only at hSw); go_simp; try with_reducible rfl)
      try simp only [Act.put, List.setIfInBounds_toArray, List.set_cons_zero, List.set_cons_succ]
      refine wpAnyH_take (i := 8) (oi := { dst := some 27, op := Op.move (Operand.tmp 2), type := 22, pos := "sha.go:55", after := #[], guard := none }) (v := ?vp8) rfl (by kernel_rfl) (by kernel_rfl) (by kernel_rfl) (fun _ _ _ h => h) (Or.inl ⟨by rfl, ?yp8⟩) (by assumption) ?rp8
      case yp8 => (intro w' hSw; (try dsimp only at hSw); go_simp; try with_reducible rfl)
      try simp only [Act.put, List.setIfInBounds_toArray, List.set_cons_zero, List.set_cons_succ]
      refine wpAnyH_take (i := 9) (oi := { dst := some 28, op := Op.move (Operand.tmp 7), type := 3, pos := "sha.go:55", after := #[], guard := none }) (v := ?vp9) rfl (by kernel_rfl) (by kernel_rfl) (by kernel_rfl) (fun _ _ _ h => h) (Or.inl ⟨by rfl, ?yp9⟩) (by assumption) ?rp9
      case yp9 => (intro w' hSw; (try dsimp only at hSw); go_simp; try with_reducible rfl)
      try simp only [Act.put, List.setIfInBounds_toArray, List.set_cons_zero, List.set_cons_succ]
      refine wpAnyH_take (i := 10) (oi := { dst := some 29, op := Op.binOp BinOp.mul 3 (Operand.const (Value.int IntKind.i64 4)) (Operand.tmp 28) 3, type := 3, pos := "sha.go:55", after := #[{ on := 9, ground := Ground.data }], guard := none }) (v := ?vp10) rfl (by kernel_rfl) (by kernel_rfl) (by kernel_rfl) (fun _ _ _ h => h) (Or.inl ⟨by rfl, ?yp10⟩) (by assumption) ?rp10
      case yp10 => (intro w' hSw; (try dsimp only at hSw); go_simp; try with_reducible rfl)
      try simp only [Act.put, List.setIfInBounds_toArray, List.set_cons_zero, List.set_cons_succ]
      refine wpAnyH_take (i := 11) (oi := { dst := some 30, op := Op.binOp BinOp.add 3 (Operand.tmp 29) (Operand.const (Value.int IntKind.i64 1)) 3, type := 3, pos := "sha.go:55", after := #[{ on := 10, ground := Ground.data }], guard := none }) (v := ?vp11) rfl (by kernel_rfl) (by kernel_rfl) (by kernel_rfl) (fun _ _ _ h => h) (Or.inl ⟨by rfl, ?yp11⟩) (by assumption) ?rp11
      case yp11 => (intro w' hSw; (try dsimp only at hSw); go_simp; try with_reducible rfl)
      try simp only [Act.put, List.setIfInBounds_toArray, List.set_cons_zero, List.set_cons_succ]
      refine wpAnyH_take (i := 12) (oi := { dst := some 31, op := Op.indexAddr 22 (Operand.tmp 27) (Operand.tmp 30), type := 0, pos := "sha.go:55", after := #[{ on := 8, ground := Ground.data }, { on := 11, ground := Ground.data }], guard := none }) (v := ?vp12) rfl (by kernel_rfl) (by kernel_rfl) (by kernel_rfl) (fun _ _ _ h => h) (Or.inl ⟨by rfl, ?yp12⟩) (by assumption) ?rp12
      case yp12 => (intro w' hSw; (try dsimp only at hSw); go_simp; try with_reducible rfl)
      try simp only [Act.put, List.setIfInBounds_toArray, List.set_cons_zero, List.set_cons_succ]
      refine wpAnyH_take (i := 13) (oi := { dst := some 32, op := Op.load 5 (Operand.tmp 31), type := 5, pos := "sha.go:55", after := #[{ on := 12, ground := Ground.data }], guard := none }) (v := ?vp13) rfl (by kernel_rfl) (by kernel_rfl) (by kernel_rfl) (fun _ _ _ h => h) (Or.inl ⟨by rfl, ?yp13⟩) (by assumption) ?rp13
      case yp13 => (intro w' hSw; (try dsimp only at hSw); go_simp; try with_reducible rfl)
      try simp only [Act.put, List.setIfInBounds_toArray, List.set_cons_zero, List.set_cons_succ]
      refine wpAnyH_take (i := 14) (oi := { dst := some 33, op := Op.convert 5 59 (Operand.tmp 32), type := 59, pos := "sha.go:55", after := #[{ on := 13, ground := Ground.data }], guard := none }) (v := ?vp14) rfl (by kernel_rfl) (by kernel_rfl) (by kernel_rfl) (fun _ _ _ h => h) (Or.inl ⟨by rfl, ?yp14⟩) (by assumption) ?rp14
      case yp14 => (intro w' hSw; (try dsimp only at hSw); go_simp; try with_reducible rfl)
      try simp only [Act.put, List.setIfInBounds_toArray, List.set_cons_zero, List.set_cons_succ]
      refine wpAnyH_take (i := 15) (oi := { dst := some 34, op := Op.binOp BinOp.shl 59 (Operand.tmp 33) (Operand.const (Value.int IntKind.u64 16)) 68, type := 59, pos := "sha.go:55", after := #[{ on := 14, ground := Ground.data }], guard := none }) (v := ?vp15) rfl (by kernel_rfl) (by kernel_rfl) (by kernel_rfl) (fun _ _ _ h => h) (Or.inl ⟨by rfl, ?yp15⟩) (by assumption) ?rp15
      case yp15 => (intro w' hSw; (try dsimp only at hSw); go_simp; try with_reducible rfl)
      try simp only [Act.put, List.setIfInBounds_toArray, List.set_cons_zero, List.set_cons_succ]
      refine wpAnyH_take (i := 16) (oi := { dst := some 35, op := Op.binOp BinOp.or 59 (Operand.tmp 26) (Operand.tmp 34) 59, type := 59, pos := "sha.go:55", after := #[{ on := 7, ground := Ground.data }, { on := 15, ground := Ground.data }], guard := none }) (v := ?vp16) rfl (by kernel_rfl) (by kernel_rfl) (by kernel_rfl) (fun _ _ _ h => h) (Or.inl ⟨by rfl, ?yp16⟩) (by assumption) ?rp16
      case yp16 => (intro w' hSw; (try dsimp only at hSw); go_simp; try with_reducible rfl)
      try simp only [Act.put, List.setIfInBounds_toArray, List.set_cons_zero, List.set_cons_succ]
      refine wpAnyH_take (i := 17) (oi := { dst := some 36, op := Op.move (Operand.tmp 2), type := 22, pos := "sha.go:55", after := #[], guard := none }) (v := ?vp17) rfl (by kernel_rfl) (by kernel_rfl) (by kernel_rfl) (fun _ _ _ h => h) (Or.inl ⟨by rfl, ?yp17⟩) (by assumption) ?rp17
      case yp17 => (intro w' hSw; (try dsimp only at hSw); go_simp; try with_reducible rfl)
      try simp only [Act.put, List.setIfInBounds_toArray, List.set_cons_zero, List.set_cons_succ]
      refine wpAnyH_take (i := 18) (oi := { dst := some 37, op := Op.move (Operand.tmp 7), type := 3, pos := "sha.go:55", after := #[], guard := none }) (v := ?vp18) rfl (by kernel_rfl) (by kernel_rfl) (by kernel_rfl) (fun _ _ _ h => h) (Or.inl ⟨by rfl, ?yp18⟩) (by assumption) ?rp18
      case yp18 => (intro w' hSw; (try dsimp only at hSw); go_simp; try with_reducible rfl)
      try simp only [Act.put, List.setIfInBounds_toArray, List.set_cons_zero, List.set_cons_succ]
      refine wpAnyH_take (i := 19) (oi := { dst := some 38, op := Op.binOp BinOp.mul 3 (Operand.const (Value.int IntKind.i64 4)) (Operand.tmp 37) 3, type := 3, pos := "sha.go:55", after := #[{ on := 18, ground := Ground.data }], guard := none }) (v := ?vp19) rfl (by kernel_rfl) (by kernel_rfl) (by kernel_rfl) (fun _ _ _ h => h) (Or.inl ⟨by rfl, ?yp19⟩) (by assumption) ?rp19
      case yp19 => (intro w' hSw; (try dsimp only at hSw); go_simp; try with_reducible rfl)
      try simp only [Act.put, List.setIfInBounds_toArray, List.set_cons_zero, List.set_cons_succ]
      refine wpAnyH_take (i := 20) (oi := { dst := some 39, op := Op.binOp BinOp.add 3 (Operand.tmp 38) (Operand.const (Value.int IntKind.i64 2)) 3, type := 3, pos := "sha.go:55", after := #[{ on := 19, ground := Ground.data }], guard := none }) (v := ?vp20) rfl (by kernel_rfl) (by kernel_rfl) (by kernel_rfl) (fun _ _ _ h => h) (Or.inl ⟨by rfl, ?yp20⟩) (by assumption) ?rp20
      case yp20 => (intro w' hSw; (try dsimp only at hSw); go_simp; try with_reducible rfl)
      try simp only [Act.put, List.setIfInBounds_toArray, List.set_cons_zero, List.set_cons_succ]
      refine wpAnyH_take (i := 21) (oi := { dst := some 40, op := Op.indexAddr 22 (Operand.tmp 36) (Operand.tmp 39), type := 0, pos := "sha.go:55", after := #[{ on := 17, ground := Ground.data }, { on := 20, ground := Ground.data }], guard := none }) (v := ?vp21) rfl (by kernel_rfl) (by kernel_rfl) (by kernel_rfl) (fun _ _ _ h => h) (Or.inl ⟨by rfl, ?yp21⟩) (by assumption) ?rp21
      case yp21 => (intro w' hSw; (try dsimp only at hSw); go_simp; try with_reducible rfl)
      try simp only [Act.put, List.setIfInBounds_toArray, List.set_cons_zero, List.set_cons_succ]
      refine wpAnyH_take (i := 22) (oi := { dst := some 41, op := Op.load 5 (Operand.tmp 40), type := 5, pos := "sha.go:55", after := #[{ on := 21, ground := Ground.data }], guard := none }) (v := ?vp22) rfl (by kernel_rfl) (by kernel_rfl) (by kernel_rfl) (fun _ _ _ h => h) (Or.inl ⟨by rfl, ?yp22⟩) (by assumption) ?rp22
      case yp22 => (intro w' hSw; (try dsimp only at hSw); go_simp; try with_reducible rfl)
      try simp only [Act.put, List.setIfInBounds_toArray, List.set_cons_zero, List.set_cons_succ]
      refine wpAnyH_take (i := 23) (oi := { dst := some 42, op := Op.convert 5 59 (Operand.tmp 41), type := 59, pos := "sha.go:55", after := #[{ on := 22, ground := Ground.data }], guard := none }) (v := ?vp23) rfl (by kernel_rfl) (by kernel_rfl) (by kernel_rfl) (fun _ _ _ h => h) (Or.inl ⟨by rfl, ?yp23⟩) (by assumption) ?rp23
      case yp23 => (intro w' hSw; (try dsimp only at hSw); go_simp; try with_reducible rfl)
      try simp only [Act.put, List.setIfInBounds_toArray, List.set_cons_zero, List.set_cons_succ]
      refine wpAnyH_take (i := 24) (oi := { dst := some 43, op := Op.binOp BinOp.shl 59 (Operand.tmp 42) (Operand.const (Value.int IntKind.u64 8)) 68, type := 59, pos := "sha.go:55", after := #[{ on := 23, ground := Ground.data }], guard := none }) (v := ?vp24) rfl (by kernel_rfl) (by kernel_rfl) (by kernel_rfl) (fun _ _ _ h => h) (Or.inl ⟨by rfl, ?yp24⟩) (by assumption) ?rp24
      case yp24 => (intro w' hSw; (try dsimp only at hSw); go_simp; try with_reducible rfl)
      try simp only [Act.put, List.setIfInBounds_toArray, List.set_cons_zero, List.set_cons_succ]
      refine wpAnyH_take (i := 25) (oi := { dst := some 44, op := Op.binOp BinOp.or 59 (Operand.tmp 35) (Operand.tmp 43) 59, type := 59, pos := "sha.go:55", after := #[{ on := 16, ground := Ground.data }, { on := 24, ground := Ground.data }], guard := none }) (v := ?vp25) rfl (by kernel_rfl) (by kernel_rfl) (by kernel_rfl) (fun _ _ _ h => h) (Or.inl ⟨by rfl, ?yp25⟩) (by assumption) ?rp25
      case yp25 => (intro w' hSw; (try dsimp only at hSw); go_simp; try with_reducible rfl)
      try simp only [Act.put, List.setIfInBounds_toArray, List.set_cons_zero, List.set_cons_succ]
      refine wpAnyH_take (i := 26) (oi := { dst := some 45, op := Op.move (Operand.tmp 2), type := 22, pos := "sha.go:55", after := #[], guard := none }) (v := ?vp26) rfl (by kernel_rfl) (by kernel_rfl) (by kernel_rfl) (fun _ _ _ h => h) (Or.inl ⟨by rfl, ?yp26⟩) (by assumption) ?rp26
      case yp26 => (intro w' hSw; (try dsimp only at hSw); go_simp; try with_reducible rfl)
      try simp only [Act.put, List.setIfInBounds_toArray, List.set_cons_zero, List.set_cons_succ]
      refine wpAnyH_take (i := 27) (oi := { dst := some 46, op := Op.move (Operand.tmp 7), type := 3, pos := "sha.go:55", after := #[], guard := none }) (v := ?vp27) rfl (by kernel_rfl) (by kernel_rfl) (by kernel_rfl) (fun _ _ _ h => h) (Or.inl ⟨by rfl, ?yp27⟩) (by assumption) ?rp27
      case yp27 => (intro w' hSw; (try dsimp only at hSw); go_simp; try with_reducible rfl)
      try simp only [Act.put, List.setIfInBounds_toArray, List.set_cons_zero, List.set_cons_succ]
      refine wpAnyH_take (i := 28) (oi := { dst := some 47, op := Op.binOp BinOp.mul 3 (Operand.const (Value.int IntKind.i64 4)) (Operand.tmp 46) 3, type := 3, pos := "sha.go:55", after := #[{ on := 27, ground := Ground.data }], guard := none }) (v := ?vp28) rfl (by kernel_rfl) (by kernel_rfl) (by kernel_rfl) (fun _ _ _ h => h) (Or.inl ⟨by rfl, ?yp28⟩) (by assumption) ?rp28
      case yp28 => (intro w' hSw; (try dsimp only at hSw); go_simp; try with_reducible rfl)
      try simp only [Act.put, List.setIfInBounds_toArray, List.set_cons_zero, List.set_cons_succ]
      refine wpAnyH_take (i := 29) (oi := { dst := some 48, op := Op.binOp BinOp.add 3 (Operand.tmp 47) (Operand.const (Value.int IntKind.i64 3)) 3, type := 3, pos := "sha.go:55", after := #[{ on := 28, ground := Ground.data }], guard := none }) (v := ?vp29) rfl (by kernel_rfl) (by kernel_rfl) (by kernel_rfl) (fun _ _ _ h => h) (Or.inl ⟨by rfl, ?yp29⟩) (by assumption) ?rp29
      case yp29 => (intro w' hSw; (try dsimp only at hSw); go_simp; try with_reducible rfl)
      try simp only [Act.put, List.setIfInBounds_toArray, List.set_cons_zero, List.set_cons_succ]
      refine wpAnyH_take (i := 30) (oi := { dst := some 49, op := Op.indexAddr 22 (Operand.tmp 45) (Operand.tmp 48), type := 0, pos := "sha.go:55", after := #[{ on := 26, ground := Ground.data }, { on := 29, ground := Ground.data }], guard := none }) (v := ?vp30) rfl (by kernel_rfl) (by kernel_rfl) (by kernel_rfl) (fun _ _ _ h => h) (Or.inl ⟨by rfl, ?yp30⟩) (by assumption) ?rp30
      case yp30 => (intro w' hSw; (try dsimp only at hSw); go_simp; try with_reducible rfl)
      try simp only [Act.put, List.setIfInBounds_toArray, List.set_cons_zero, List.set_cons_succ]
      refine wpAnyH_take (i := 31) (oi := { dst := some 50, op := Op.load 5 (Operand.tmp 49), type := 5, pos := "sha.go:55", after := #[{ on := 30, ground := Ground.data }], guard := none }) (v := ?vp31) rfl (by kernel_rfl) (by kernel_rfl) (by kernel_rfl) (fun _ _ _ h => h) (Or.inl ⟨by rfl, ?yp31⟩) (by assumption) ?rp31
      case yp31 => (intro w' hSw; (try dsimp only at hSw); go_simp; try with_reducible rfl)
      try simp only [Act.put, List.setIfInBounds_toArray, List.set_cons_zero, List.set_cons_succ]
      refine wpAnyH_take (i := 32) (oi := { dst := some 51, op := Op.convert 5 59 (Operand.tmp 50), type := 59, pos := "sha.go:55", after := #[{ on := 31, ground := Ground.data }], guard := none }) (v := ?vp32) rfl (by kernel_rfl) (by kernel_rfl) (by kernel_rfl) (fun _ _ _ h => h) (Or.inl ⟨by rfl, ?yp32⟩) (by assumption) ?rp32
      case yp32 => (intro w' hSw; (try dsimp only at hSw); go_simp; try with_reducible rfl)
      try simp only [Act.put, List.setIfInBounds_toArray, List.set_cons_zero, List.set_cons_succ]
      refine wpAnyH_take (i := 33) (oi := { dst := some 52, op := Op.binOp BinOp.or 59 (Operand.tmp 44) (Operand.tmp 51) 59, type := 59, pos := "sha.go:55", after := #[{ on := 25, ground := Ground.data }, { on := 32, ground := Ground.data }], guard := none }) (v := ?vp33) rfl (by kernel_rfl) (by kernel_rfl) (by kernel_rfl) (fun _ _ _ h => h) (Or.inl ⟨by rfl, ?yp33⟩) (by assumption) ?rp33
      case yp33 => (intro w' hSw; (try dsimp only at hSw); go_simp; try with_reducible rfl)
      try simp only [Act.put, List.setIfInBounds_toArray, List.set_cons_zero, List.set_cons_succ]
      refine wpAnyH_take (i := 34) (oi := { dst := some 53, op := Op.indexAddr 62 (Operand.tmp 6) (Operand.tmp 19), type := 0, pos := "sha.go:55", after := #[{ on := 0, ground := Ground.data }, { on := 0, ground := Ground.phase }, { on := 1, ground := Ground.phase }, { on := 2, ground := Ground.phase }, { on := 3, ground := Ground.phase }, { on := 4, ground := Ground.phase }, { on := 5, ground := Ground.phase }, { on := 6, ground := Ground.phase }, { on := 7, ground := Ground.phase }, { on := 8, ground := Ground.phase }, { on := 9, ground := Ground.phase }, { on := 10, ground := Ground.phase }, { on := 11, ground := Ground.phase }, { on := 12, ground := Ground.phase }, { on := 13, ground := Ground.phase }, { on := 14, ground := Ground.phase }, { on := 15, ground := Ground.phase }, { on := 16, ground := Ground.phase }, { on := 17, ground := Ground.phase }, { on := 18, ground := Ground.phase }, { on := 19, ground := Ground.phase }, { on := 20, ground := Ground.phase }, { on := 21, ground := Ground.phase }, { on := 22, ground := Ground.phase }, { on := 23, ground := Ground.phase }, { on := 24, ground := Ground.phase }, { on := 25, ground := Ground.phase }, { on := 26, ground := Ground.phase }, { on := 27, ground := Ground.phase }, { on := 28, ground := Ground.phase }, { on := 29, ground := Ground.phase }, { on := 30, ground := Ground.phase }, { on := 31, ground := Ground.phase }, { on := 32, ground := Ground.phase }, { on := 33, ground := Ground.phase }], guard := none }) (v := ?vp34) rfl (by kernel_rfl) (by kernel_rfl) (by kernel_rfl) (fun _ _ _ h => h) (Or.inl ⟨by rfl, ?yp34⟩) (by assumption) ?rp34
      case yp34 => (intro w' hSw; (try dsimp only at hSw); go_simp; try with_reducible rfl)
      try simp only [Act.put, List.setIfInBounds_toArray, List.set_cons_zero, List.set_cons_succ]
      refine wpAnyH_ready (rs := [35]) (by kernel_rfl) (by simp) ?_
      refine AllReadyH.cons (o := { dst := none, op := Op.store 59 (Operand.tmp 53) (Operand.tmp 52), type := 0, pos := "sha.go:55", after := #[{ on := 34, ground := Ground.data }, { on := 33, ground := Ground.data }, { on := 0, ground := Ground.phase }, { on := 1, ground := Ground.phase }, { on := 2, ground := Ground.phase }, { on := 3, ground := Ground.phase }, { on := 4, ground := Ground.phase }, { on := 5, ground := Ground.phase }, { on := 6, ground := Ground.phase }, { on := 7, ground := Ground.phase }, { on := 8, ground := Ground.phase }, { on := 9, ground := Ground.phase }, { on := 10, ground := Ground.phase }, { on := 11, ground := Ground.phase }, { on := 12, ground := Ground.phase }, { on := 13, ground := Ground.phase }, { on := 14, ground := Ground.phase }, { on := 15, ground := Ground.phase }, { on := 16, ground := Ground.phase }, { on := 17, ground := Ground.phase }, { on := 18, ground := Ground.phase }, { on := 19, ground := Ground.phase }, { on := 20, ground := Ground.phase }, { on := 21, ground := Ground.phase }, { on := 22, ground := Ground.phase }, { on := 23, ground := Ground.phase }, { on := 24, ground := Ground.phase }, { on := 25, ground := Ground.phase }, { on := 26, ground := Ground.phase }, { on := 27, ground := Ground.phase }, { on := 28, ground := Ground.phase }, { on := 29, ground := Ground.phase }, { on := 30, ground := Ground.phase }, { on := 31, ground := Ground.phase }, { on := 32, ground := Ground.phase }, { on := 33, ground := Ground.phase }], guard := none }) rfl (fun K hK => ?_) AllReadyH.nil
      go_simp
      refine hK.out _ _ (⟨(World.cell?_setCell_far _ ⟨X, i, none⟩ _ _ hXg).trans x0, (World.cell?_setCell_far _ ⟨X, i, none⟩ _ _ hXg).trans x1, (World.cell?_setCell_far _ ⟨X, i, none⟩ _ _ hXg).trans x2, (World.cell?_setCell_far _ ⟨X, i, none⟩ _ _ hXg).trans x3⟩) (fun hHeldp35 => ?_)
      clear hK K hHeld
      try simp only [Act.put, List.setIfInBounds_toArray, List.set_cons_zero, List.set_cons_succ]
      refine wpAnyH_done (by kernel_rfl) ?_ _
      have HB2 : Hid (Blk ((wr.setCell ⟨X, i, none⟩ (.int .u32 (word b0 b1 b2 b3 : Nat))).drew) X 62 (arr 64 (wordsOf m (i + 1)))) := Lib.hid (by
        have h := HBk.out.set_ i (.int .u32 (word b0 b1 b2 b3 : Nat))
        have hl := wordsOf_len m i
        have h2 := arr_set (n := 64) (l := wordsOf m i) (x := word b0 b1 b2 b3) (by omega)
        rw [hl] at h2
        rw [HW.out, ← h2]; exact h)
      have HB3 := Lib.hid ((HBw.out.setCell (p := ⟨X, i, none⟩) (Nat.le_refl _) (.int .u32 (word b0 b1 b2 b3 : Nat))).drew)
      go_wp2_with fail
      go_roundw
      case rel => exact ⟨i + 1, by go_num, hlt, HB2.out, HB3.out⟩
      case measure => simp [intOf]; omega
    · obtain rfl : i = 16 := by omega
      have HB16 := Lib.hid hb
      have HBw16 := Lib.hid hB
      have hlw : (wordsOf m 16).length = 16 := wordsOf_len m 16
      have HLW := Lib.hid hlw
      have HWW16 := Lib.hid (wordsOf_words m 16)
      clear hb hB hlw
      obtain ⟨ws, hws⟩ : ∃ ws, ws = wordsOf m 16 := ⟨_, rfl⟩
      rw [← hws] at HB16 HLW HWW16
      have HWS := Lib.hid hws
      clear hws
      rw [show ((16 : Nat) : Int) = 16 from rfl]
      go_wp2_with fail
      go_loopw [8] (fun s8 wr => ∃ i n : Nat, s8 = .int .i64 i ∧ i = 16 + n ∧ n ≤ 48 ∧ Hid (Blk wr X 62 (arr 64 (sched ws n))) ∧ Hid (Below X w wr)) (fun s8 _ => 64 - (intOf s8).toNat)
      case atStart => exact ⟨16, 0, rfl, rfl, by omega, HB16, HBw16⟩
      case round =>
        obtain ⟨i, n, rfl, hin, hn, hb, hB⟩ := hrel
        have i0 : (0 : Int) ≤ (i : Int) := Int.natCast_nonneg _
        by_cases hlt : i < 64
        · have i1 : (i : Int) < 64 := by omega
          have hl : (sched ws n).length = i := by rw [sched_len, HLW.out]; omega
          have hW := sched_words HWW16.out n
          have HSC : Hid (sched ws (n + 1) = sched ws n ++ [nextW (sched ws n)]) := Lib.hid rfl
          obtain ⟨l, hll⟩ : ∃ l, l = sched ws n := ⟨_, rfl⟩
          rw [← hll] at hb hl hW HSC
          have HLL := Lib.hid hll
          clear hll
          obtain ⟨a0, ha0⟩ : ∃ a, a = i - 16 := ⟨_, rfl⟩
          obtain ⟨a1, ha1⟩ : ∃ a, a = i - 15 := ⟨_, rfl⟩
          obtain ⟨a2, ha2⟩ : ∃ a, a = i - 7 := ⟨_, rfl⟩
          obtain ⟨a3, ha3⟩ : ∃ a, a = i - 2 := ⟨_, rfl⟩
          have x0 : wr.cell? ⟨X, a0, none⟩ = some (.int .u32 (at0 l a0)) := by rw [hb.out.cell, arr_at (by omega)]
          have x1 : wr.cell? ⟨X, a1, none⟩ = some (.int .u32 (at0 l a1)) := by rw [hb.out.cell, arr_at (by omega)]
          have x2 : wr.cell? ⟨X, a2, none⟩ = some (.int .u32 (at0 l a2)) := by rw [hb.out.cell, arr_at (by omega)]
          have x3 : wr.cell? ⟨X, a3, none⟩ = some (.int .u32 (at0 l a3)) := by rw [hb.out.cell, arr_at (by omega)]
          have v0l := hW.at a0
          have v1l := hW.at a1
          have v2l := hW.at a2
          have v3l := hW.at a3
          have hnx : nextW l = (((at0 l a0 + turn2 7 18 3 (at0 l a1)) % M32 + at0 l a2) % M32 + turn2 17 19 10 (at0 l a3)) % M32 := by unfold nextW; rw [hl, ha0, ha1, ha2, ha3]
          have SM1 := Lib.hid fun W => small_any W (at0 l a1) 7 18 3 v1l (by omega) (by omega) (by omega)
          have SM2 := Lib.hid fun W => small_any W (at0 l a3) 17 19 10 v3l (by omega) (by omega) (by omega)
          have t1l := turn2_lt (a := 7) (b := 18) (c := 3) v1l
          have t2l := turn2_lt (a := 17) (b := 19) (c := 10) v3l
          generalize turn2 7 18 3 (at0 l a1) = t1 at *
          generalize turn2 17 19 10 (at0 l a3) = t2 at *
          generalize at0 l a0 = v0 at *
          generalize at0 l a1 = v1 at *
          generalize at0 l a2 = v2 at *
          generalize at0 l a3 = v3 at *
          obtain ⟨z1, hz1⟩ : ∃ z, z = (v0 + t1) % M32 := ⟨_, rfl⟩
          obtain ⟨z2, hz2⟩ : ∃ z, z = (z1 + v2) % M32 := ⟨_, rfl⟩
          obtain ⟨z3, hz3⟩ : ∃ z, z = (z2 + t2) % M32 := ⟨_, rfl⟩
          rw [← hz1, ← hz2, ← hz3] at hnx
          have HNX := Lib.hid hnx
          have y1 : IntKind.u32.wrap ((v0 : Int) + (t1 : Int)) = (z1 : Int) := by rw [u32_add, hz1]
          have y2 : IntKind.u32.wrap ((z1 : Int) + (v2 : Int)) = (z2 : Int) := by rw [u32_add, hz2]
          have y3 : IntKind.u32.wrap ((z2 : Int) + (t2 : Int)) = (z3 : Int) := by rw [u32_add, hz3]
          have e0 : IntKind.i64.wrap ((i : Int) - 16) = (a0 : Int) := by rw [IntKind.wrap_i64]; omega
          have e1 : IntKind.i64.wrap ((i : Int) - 15) = (a1 : Int) := by rw [IntKind.wrap_i64]; omega
          have e2 : IntKind.i64.wrap ((i : Int) - 7) = (a2 : Int) := by rw [IntKind.wrap_i64]; omega
          have e3 : IntKind.i64.wrap ((i : Int) - 2) = (a3 : Int) := by rw [IntKind.wrap_i64]; omega
          have q0 : (a0 : Int) < 64 := by omega
          have q1 : (a1 : Int) < 64 := by omega
          have q2 : (a2 : Int) < 64 := by omega
          have q3 : (a3 : Int) < 64 := by omega
          have h0 : (⟨X, i, none⟩ : Addr) ≠ ⟨X, a0, none⟩ := fun e => by injection e; omega
          have h1 : (⟨X, i, none⟩ : Addr) ≠ ⟨X, a1, none⟩ := fun e => by injection e; omega
          have h2 : (⟨X, i, none⟩ : Addr) ≠ ⟨X, a2, none⟩ := fun e => by injection e; omega
          have h3 : (⟨X, i, none⟩ : Addr) ≠ ⟨X, a3, none⟩ := fun e => by injection e; omega
          have hc : wr.cell? ⟨X, i, none⟩ = some (.int .u32 0) := by rw [hb.out.cell, arr_zero (by omega) hlt]
          have hf := hb.out.frozen i
          have HI := Lib.hid (And.intro hin hl)
          clear ha0 ha1 ha2 ha3 hnx hz1 hz2 hz3 v0l v1l v2l v3l t1l t2l hW hin hl
          go_wp2_with fail
          refine wp_region_held_drew (S := fun w' => w'.cell? ⟨X, a0, none⟩ = some (.int .u32 (v0 : Int)) ∧ w'.cell? ⟨X, a1, none⟩ = some (.int .u32 (v1 : Int)) ∧ w'.cell? ⟨X, a2, none⟩ = some (.int .u32 (v2 : Int)) ∧ w'.cell? ⟨X, a3, none⟩ = some (.int .u32 (v3 : Int))) (by kernel_rfl) (⟨x0, x1, x2, x3⟩) (fun hHeld => ?_)
          refine wpAnyH_take (i := 0) (oi := { dst := some 59, op := Op.move (Operand.tmp 8), type := 3, pos := "sha.go:58", after := #[], guard := none }) (v := ?vq0) rfl (by kernel_rfl) (by kernel_rfl) (by kernel_rfl) (fun _ _ _ h => h) (Or.inl ⟨by rfl, ?yq0⟩) (by assumption) ?rq0
          case yq0 => (intro w' hSw; (try dsimp only at hSw); go_simp; try with_reducible rfl)
          try simp only [Act.put, List.setIfInBounds_toArray, List.set_cons_zero, List.set_cons_succ]
          refine wpAnyH_take (i := 1) (oi := { dst := some 60, op := Op.move (Operand.tmp 8), type := 3, pos := "sha.go:58", after := #[], guard := none }) (v := ?vq1) rfl (by kernel_rfl) (by kernel_rfl) (by kernel_rfl) (fun _ _ _ h => h) (Or.inl ⟨by rfl, ?yq1⟩) (by assumption) ?rq1
          case yq1 => (intro w' hSw; (try dsimp only at hSw); go_simp; try with_reducible rfl)
          try simp only [Act.put, List.setIfInBounds_toArray, List.set_cons_zero, List.set_cons_succ]
          refine wpAnyH_take (i := 2) (oi := { dst := some 61, op := Op.binOp BinOp.sub 3 (Operand.tmp 60) (Operand.const (Value.int IntKind.i64 16)) 3, type := 3, pos := "sha.go:58", after := #[{ on := 1, ground := Ground.data }], guard := none }) (v := ?vq2) rfl (by kernel_rfl) (by kernel_rfl) (by kernel_rfl) (fun _ _ _ h => h) (Or.inl ⟨by rfl, ?yq2⟩) (by assumption) ?rq2
          case yq2 => (intro w' hSw; (try dsimp only at hSw); go_simp; try with_reducible rfl)
          try simp only [Act.put, List.setIfInBounds_toArray, List.set_cons_zero, List.set_cons_succ]
          refine wpAnyH_take (i := 3) (oi := { dst := some 62, op := Op.indexAddr 62 (Operand.tmp 6) (Operand.tmp 61), type := 0, pos := "sha.go:58", after := #[{ on := 2, ground := Ground.data }], guard := none }) (v := ?vq3) rfl (by kernel_rfl) (by kernel_rfl) (by kernel_rfl) (fun _ _ _ h => h) (Or.inl ⟨by rfl, ?yq3⟩) (by assumption) ?rq3
          case yq3 => (intro w' hSw; (try dsimp only at hSw); go_simp; try with_reducible rfl)
          try simp only [Act.put, List.setIfInBounds_toArray, List.set_cons_zero, List.set_cons_succ]
          refine wpAnyH_take (i := 4) (oi := { dst := some 63, op := Op.load 59 (Operand.tmp 62), type := 59, pos := "sha.go:58", after := #[{ on := 3, ground := Ground.data }], guard := none }) (v := ?vq4) rfl (by kernel_rfl) (by kernel_rfl) (by kernel_rfl) (fun _ _ _ h => h) (Or.inl ⟨by rfl, ?yq4⟩) (by assumption) ?rq4
          case yq4 => (intro w' hSw; (try dsimp only at hSw); go_simp; try with_reducible rfl)
          try simp only [Act.put, List.setIfInBounds_toArray, List.set_cons_zero, List.set_cons_succ]
          refine wpAnyH_take (i := 5) (oi := { dst := some 64, op := Op.move (Operand.tmp 8), type := 3, pos := "sha.go:58", after := #[], guard := none }) (v := ?vq5) rfl (by kernel_rfl) (by kernel_rfl) (by kernel_rfl) (fun _ _ _ h => h) (Or.inl ⟨by rfl, ?yq5⟩) (by assumption) ?rq5
          case yq5 => (intro w' hSw; (try dsimp only at hSw); go_simp; try with_reducible rfl)
          try simp only [Act.put, List.setIfInBounds_toArray, List.set_cons_zero, List.set_cons_succ]
          refine wpAnyH_take (i := 6) (oi := { dst := some 65, op := Op.binOp BinOp.sub 3 (Operand.tmp 64) (Operand.const (Value.int IntKind.i64 15)) 3, type := 3, pos := "sha.go:58", after := #[{ on := 5, ground := Ground.data }], guard := none }) (v := ?vq6) rfl (by kernel_rfl) (by kernel_rfl) (by kernel_rfl) (fun _ _ _ h => h) (Or.inl ⟨by rfl, ?yq6⟩) (by assumption) ?rq6
          case yq6 => (intro w' hSw; (try dsimp only at hSw); go_simp; try with_reducible rfl)
          try simp only [Act.put, List.setIfInBounds_toArray, List.set_cons_zero, List.set_cons_succ]
          refine wpAnyH_take (i := 7) (oi := { dst := some 66, op := Op.indexAddr 62 (Operand.tmp 6) (Operand.tmp 65), type := 0, pos := "sha.go:58", after := #[{ on := 6, ground := Ground.data }], guard := none }) (v := ?vq7) rfl (by kernel_rfl) (by kernel_rfl) (by kernel_rfl) (fun _ _ _ h => h) (Or.inl ⟨by rfl, ?yq7⟩) (by assumption) ?rq7
          case yq7 => (intro w' hSw; (try dsimp only at hSw); go_simp; try with_reducible rfl)
          try simp only [Act.put, List.setIfInBounds_toArray, List.set_cons_zero, List.set_cons_succ]
          refine wpAnyH_take (i := 8) (oi := { dst := some 67, op := Op.load 59 (Operand.tmp 66), type := 59, pos := "sha.go:58", after := #[{ on := 7, ground := Ground.data }], guard := none }) (v := ?vq8) rfl (by kernel_rfl) (by kernel_rfl) (by kernel_rfl) (fun _ _ _ h => h) (Or.inl ⟨by rfl, ?yq8⟩) (by assumption) ?rq8
          case yq8 => (intro w' hSw; (try dsimp only at hSw); go_simp; try with_reducible rfl)
          try simp only [Act.put, List.setIfInBounds_toArray, List.set_cons_zero, List.set_cons_succ]
          refine wpAnyH_take (i := 11) (oi := { dst := some 70, op := Op.move (Operand.tmp 8), type := 3, pos := "sha.go:58", after := #[], guard := none }) (v := ?vq11) rfl (by kernel_rfl) (by kernel_rfl) (by kernel_rfl) (fun _ _ _ h => h) (Or.inl ⟨by rfl, ?yq11⟩) (by assumption) ?rq11
          case yq11 => (intro w' hSw; (try dsimp only at hSw); go_simp; try with_reducible rfl)
          try simp only [Act.put, List.setIfInBounds_toArray, List.set_cons_zero, List.set_cons_succ]
          refine wpAnyH_take (i := 12) (oi := { dst := some 71, op := Op.binOp BinOp.sub 3 (Operand.tmp 70) (Operand.const (Value.int IntKind.i64 7)) 3, type := 3, pos := "sha.go:58", after := #[{ on := 11, ground := Ground.data }], guard := none }) (v := ?vq12) rfl (by kernel_rfl) (by kernel_rfl) (by kernel_rfl) (fun _ _ _ h => h) (Or.inl ⟨by rfl, ?yq12⟩) (by assumption) ?rq12
          case yq12 => (intro w' hSw; (try dsimp only at hSw); go_simp; try with_reducible rfl)
          try simp only [Act.put, List.setIfInBounds_toArray, List.set_cons_zero, List.set_cons_succ]
          refine wpAnyH_take (i := 13) (oi := { dst := some 72, op := Op.indexAddr 62 (Operand.tmp 6) (Operand.tmp 71), type := 0, pos := "sha.go:58", after := #[{ on := 12, ground := Ground.data }], guard := none }) (v := ?vq13) rfl (by kernel_rfl) (by kernel_rfl) (by kernel_rfl) (fun _ _ _ h => h) (Or.inl ⟨by rfl, ?yq13⟩) (by assumption) ?rq13
          case yq13 => (intro w' hSw; (try dsimp only at hSw); go_simp; try with_reducible rfl)
          try simp only [Act.put, List.setIfInBounds_toArray, List.set_cons_zero, List.set_cons_succ]
          refine wpAnyH_take (i := 14) (oi := { dst := some 73, op := Op.load 59 (Operand.tmp 72), type := 59, pos := "sha.go:58", after := #[{ on := 13, ground := Ground.data }], guard := none }) (v := ?vq14) rfl (by kernel_rfl) (by kernel_rfl) (by kernel_rfl) (fun _ _ _ h => h) (Or.inl ⟨by rfl, ?yq14⟩) (by assumption) ?rq14
          case yq14 => (intro w' hSw; (try dsimp only at hSw); go_simp; try with_reducible rfl)
          try simp only [Act.put, List.setIfInBounds_toArray, List.set_cons_zero, List.set_cons_succ]
          refine wpAnyH_take (i := 16) (oi := { dst := some 75, op := Op.move (Operand.tmp 8), type := 3, pos := "sha.go:58", after := #[], guard := none }) (v := ?vq16) rfl (by kernel_rfl) (by kernel_rfl) (by kernel_rfl) (fun _ _ _ h => h) (Or.inl ⟨by rfl, ?yq16⟩) (by assumption) ?rq16
          case yq16 => (intro w' hSw; (try dsimp only at hSw); go_simp; try with_reducible rfl)
          try simp only [Act.put, List.setIfInBounds_toArray, List.set_cons_zero, List.set_cons_succ]
          refine wpAnyH_take (i := 17) (oi := { dst := some 76, op := Op.binOp BinOp.sub 3 (Operand.tmp 75) (Operand.const (Value.int IntKind.i64 2)) 3, type := 3, pos := "sha.go:58", after := #[{ on := 16, ground := Ground.data }], guard := none }) (v := ?vq17) rfl (by kernel_rfl) (by kernel_rfl) (by kernel_rfl) (fun _ _ _ h => h) (Or.inl ⟨by rfl, ?yq17⟩) (by assumption) ?rq17
          case yq17 => (intro w' hSw; (try dsimp only at hSw); go_simp; try with_reducible rfl)
          try simp only [Act.put, List.setIfInBounds_toArray, List.set_cons_zero, List.set_cons_succ]
          refine wpAnyH_take (i := 18) (oi := { dst := some 77, op := Op.indexAddr 62 (Operand.tmp 6) (Operand.tmp 76), type := 0, pos := "sha.go:58", after := #[{ on := 17, ground := Ground.data }], guard := none }) (v := ?vq18) rfl (by kernel_rfl) (by kernel_rfl) (by kernel_rfl) (fun _ _ _ h => h) (Or.inl ⟨by rfl, ?yq18⟩) (by assumption) ?rq18
          case yq18 => (intro w' hSw; (try dsimp only at hSw); go_simp; try with_reducible rfl)
          try simp only [Act.put, List.setIfInBounds_toArray, List.set_cons_zero, List.set_cons_succ]
          refine wpAnyH_take (i := 19) (oi := { dst := some 78, op := Op.load 59 (Operand.tmp 77), type := 59, pos := "sha.go:58", after := #[{ on := 18, ground := Ground.data }], guard := none }) (v := ?vq19) rfl (by kernel_rfl) (by kernel_rfl) (by kernel_rfl) (fun _ _ _ h => h) (Or.inl ⟨by rfl, ?yq19⟩) (by assumption) ?rq19
          case yq19 => (intro w' hSw; (try dsimp only at hSw); go_simp; try with_reducible rfl)
          try simp only [Act.put, List.setIfInBounds_toArray, List.set_cons_zero, List.set_cons_succ]
          refine wpAnyH_ready (rs := [9]) (by kernel_rfl) (by simp) ?_
          refine AllReadyH.cons (o := { dst := some 68, op := Op.call { callee := Callee.value (Operand.func 41), args := #[Operand.tmp 67, Operand.const (Value.int IntKind.i64 7), Operand.const (Value.int IntKind.i64 18), Operand.const (Value.int IntKind.i64 3)], argTypes := #[59, 3, 3, 3] }, type := 59, pos := "sha.go:58", after := #[{ on := 8, ground := Ground.data }], guard := none }) rfl (fun K hK => ?_) AllReadyH.nil
          go_simp
          refine (SM1.out _).mono ?_
          rintro e w5 ⟨rfl, k5, rfl⟩
          go_wp2_with fail
          refine hK.out _ _ (⟨x0, x1, x2, x3⟩) (fun hHeldq9 => ?_)
          clear hK K hHeld
          try simp only [Act.put, List.setIfInBounds_toArray, List.set_cons_zero, List.set_cons_succ]
          refine wpAnyH_take (i := 10) (oi := { dst := some 69, op := Op.binOp BinOp.add 59 (Operand.tmp 63) (Operand.tmp 68) 59, type := 59, pos := "sha.go:58", after := #[{ on := 4, ground := Ground.data }, { on := 9, ground := Ground.data }], guard := none }) (v := ?vq10) rfl (by kernel_rfl) (by kernel_rfl) (by kernel_rfl) (fun _ _ _ h => h) (Or.inl ⟨by rfl, ?yq10⟩) (by assumption) ?rq10
          case yq10 => (intro w' hSw; (try dsimp only at hSw); go_simp; try with_reducible rfl)
          try simp only [Act.put, List.setIfInBounds_toArray, List.set_cons_zero, List.set_cons_succ]
          refine wpAnyH_take (i := 15) (oi := { dst := some 74, op := Op.binOp BinOp.add 59 (Operand.tmp 69) (Operand.tmp 73) 59, type := 59, pos := "sha.go:58", after := #[{ on := 10, ground := Ground.data }, { on := 14, ground := Ground.data }], guard := none }) (v := ?vq15) rfl (by kernel_rfl) (by kernel_rfl) (by kernel_rfl) (fun _ _ _ h => h) (Or.inl ⟨by rfl, ?yq15⟩) (by assumption) ?rq15
          case yq15 => (intro w' hSw; (try dsimp only at hSw); go_simp; try with_reducible rfl)
          try simp only [Act.put, List.setIfInBounds_toArray, List.set_cons_zero, List.set_cons_succ]
          refine wpAnyH_ready (rs := [20]) (by kernel_rfl) (by simp) ?_
          refine AllReadyH.cons (o := { dst := some 79, op := Op.call { callee := Callee.value (Operand.func 41), args := #[Operand.tmp 78, Operand.const (Value.int IntKind.i64 17), Operand.const (Value.int IntKind.i64 19), Operand.const (Value.int IntKind.i64 10)], argTypes := #[59, 3, 3, 3] }, type := 59, pos := "sha.go:58", after := #[{ on := 19, ground := Ground.data }, { on := 9, ground := Ground.chain }], guard := none }) rfl (fun K hK => ?_) AllReadyH.nil
          go_simp
          refine (SM2.out _).mono ?_
          rintro e w6 ⟨rfl, k6, rfl⟩
          go_wp2_with fail
          refine hK.out _ _ (⟨x0, x1, x2, x3⟩) (fun hHeldq20 => ?_)
          clear hK K hHeldq9
          try simp only [Act.put, List.setIfInBounds_toArray, List.set_cons_zero, List.set_cons_succ]
          refine wpAnyH_take (i := 21) (oi := { dst := some 80, op := Op.binOp BinOp.add 59 (Operand.tmp 74) (Operand.tmp 79) 59, type := 59, pos := "sha.go:58", after := #[{ on := 15, ground := Ground.data }, { on := 20, ground := Ground.data }], guard := none }) (v := ?vq21) rfl (by kernel_rfl) (by kernel_rfl) (by kernel_rfl) (fun _ _ _ h => h) (Or.inl ⟨by rfl, ?yq21⟩) (by assumption) ?rq21
          case yq21 => (intro w' hSw; (try dsimp only at hSw); go_simp; try with_reducible rfl)
          try simp only [Act.put, List.setIfInBounds_toArray, List.set_cons_zero, List.set_cons_succ]
          refine wpAnyH_take (i := 22) (oi := { dst := some 81, op := Op.indexAddr 62 (Operand.tmp 6) (Operand.tmp 59), type := 0, pos := "sha.go:58", after := #[{ on := 0, ground := Ground.data }, { on := 0, ground := Ground.phase }, { on := 1, ground := Ground.phase }, { on := 2, ground := Ground.phase }, { on := 3, ground := Ground.phase }, { on := 4, ground := Ground.phase }, { on := 5, ground := Ground.phase }, { on := 6, ground := Ground.phase }, { on := 7, ground := Ground.phase }, { on := 8, ground := Ground.phase }, { on := 9, ground := Ground.phase }, { on := 10, ground := Ground.phase }, { on := 11, ground := Ground.phase }, { on := 12, ground := Ground.phase }, { on := 13, ground := Ground.phase }, { on := 14, ground := Ground.phase }, { on := 15, ground := Ground.phase }, { on := 16, ground := Ground.phase }, { on := 17, ground := Ground.phase }, { on := 18, ground := Ground.phase }, { on := 19, ground := Ground.phase }, { on := 20, ground := Ground.phase }, { on := 21, ground := Ground.phase }], guard := none }) (v := ?vq22) rfl (by kernel_rfl) (by kernel_rfl) (by kernel_rfl) (fun _ _ _ h => h) (Or.inl ⟨by rfl, ?yq22⟩) (by assumption) ?rq22
          case yq22 => (intro w' hSw; (try dsimp only at hSw); go_simp; try with_reducible rfl)
          try simp only [Act.put, List.setIfInBounds_toArray, List.set_cons_zero, List.set_cons_succ]
          refine wpAnyH_ready (rs := [23]) (by kernel_rfl) (by simp) ?_
          refine AllReadyH.cons (o := { dst := none, op := Op.store 59 (Operand.tmp 81) (Operand.tmp 80), type := 0, pos := "sha.go:58", after := #[{ on := 22, ground := Ground.data }, { on := 21, ground := Ground.data }, { on := 20, ground := Ground.chain }, { on := 0, ground := Ground.phase }, { on := 1, ground := Ground.phase }, { on := 2, ground := Ground.phase }, { on := 3, ground := Ground.phase }, { on := 4, ground := Ground.phase }, { on := 5, ground := Ground.phase }, { on := 6, ground := Ground.phase }, { on := 7, ground := Ground.phase }, { on := 8, ground := Ground.phase }, { on := 9, ground := Ground.phase }, { on := 10, ground := Ground.phase }, { on := 11, ground := Ground.phase }, { on := 12, ground := Ground.phase }, { on := 13, ground := Ground.phase }, { on := 14, ground := Ground.phase }, { on := 15, ground := Ground.phase }, { on := 16, ground := Ground.phase }, { on := 17, ground := Ground.phase }, { on := 18, ground := Ground.phase }, { on := 19, ground := Ground.phase }, { on := 20, ground := Ground.phase }, { on := 21, ground := Ground.phase }], guard := none }) rfl (fun K hK => ?_) AllReadyH.nil
          go_simp
          refine hK.out _ _ (⟨(World.cell?_setCell_other _ ⟨X, i, none⟩ _ _ h0).trans x0, (World.cell?_setCell_other _ ⟨X, i, none⟩ _ _ h1).trans x1, (World.cell?_setCell_other _ ⟨X, i, none⟩ _ _ h2).trans x2, (World.cell?_setCell_other _ ⟨X, i, none⟩ _ _ h3).trans x3⟩) (fun hHeldq23 => ?_)
          clear hK K hHeldq20
          try simp only [Act.put, List.setIfInBounds_toArray, List.set_cons_zero, List.set_cons_succ]
          refine wpAnyH_done (by kernel_rfl) ?_ _
          have HB2 : Hid (∀ W : World, W.heap = (wr.setCell ⟨X, i, none⟩ (.int .u32 (z3 : Nat))).heap → Blk W X 62 (arr 64 (sched ws (n + 1)))) := Lib.hid (by
            intro W hW
            have h := hb.out.set_ i (.int .u32 (z3 : Nat))
            have h2 := arr_set (n := 64) (l := l) (x := z3) (by rw [HI.out.2]; exact hlt)
            rw [HI.out.2] at h2
            rw [HSC.out, HNX.out, ← h2]
            unfold Blk at h ⊢
            rw [hW]; exact h)
          have HB3 : Hid (∀ W : World, W.heap = (wr.setCell ⟨X, i, none⟩ (.int .u32 (z3 : Nat))).heap → W.os = wr.os → W.tape = wr.tape → W.output = wr.output → Below X w W) := Lib.hid (by
            intro W h1 h2 h3 h4
            have h := hB.out.setCell (p := ⟨X, i, none⟩) (Nat.le_refl _) (.int .u32 (z3 : Nat))
            exact ⟨h2.trans hB.out.os, h3.trans hB.out.tape, h4.trans hB.out.output, by rw [h1]; exact h.size, fun k hk => by rw [h1]; exact h.block k hk⟩)
          have hj : i + 1 = 16 + (n + 1) := by have := HI.out.1; omega
          have hn2 : n + 1 ≤ 48 := by have := HI.out.1; omega
          have HJ := Lib.hid (And.intro hj hn2)
          clear hj hn2
          go_wp2_with fail
          go_roundw
          case rel => exact ⟨i + 1, n + 1, by go_num, HJ.out.1, HJ.out.2, Lib.hid (HB2.out _ rfl), Lib.hid (HB3.out _ rfl rfl rfl rfl)⟩
          case measure => simp [intOf]; omega
        · obtain rfl : i = 64 := by omega
          obtain rfl : n = 48 := by omega
          rw [show ((64 : Nat) : Int) = 64 from rfl]
          have HB64 := Lib.hid hb.out
          have HBw64 := Lib.hid hB.out
          clear hb hB hin hn hlt
          have hbH : Blk wr H 60 s.cells := (HBw64.out.block H (by rw [HXX.out]; exact HH.out.lt)).trans HH.out
          have c0 : wr.cell? ⟨H, 0, none⟩ = some (.int .u32 s.a) := hbH.cell 0
          have c1 : wr.cell? ⟨H, 1, none⟩ = some (.int .u32 s.b) := hbH.cell 1
          have c2 : wr.cell? ⟨H, 2, none⟩ = some (.int .u32 s.c) := hbH.cell 2
          have c3 : wr.cell? ⟨H, 3, none⟩ = some (.int .u32 s.d) := hbH.cell 3
          have c4 : wr.cell? ⟨H, 4, none⟩ = some (.int .u32 s.e) := hbH.cell 4
          have c5 : wr.cell? ⟨H, 5, none⟩ = some (.int .u32 s.f) := hbH.cell 5
          have c6 : wr.cell? ⟨H, 6, none⟩ = some (.int .u32 s.g) := hbH.cell 6
          have c7 : wr.cell? ⟨H, 7, none⟩ = some (.int .u32 s.h) := hbH.cell 7
          have HbH := Lib.hid hbH
          clear hbH
          go_upto_region 11 with fail
          have hl64 : (sched ws 48).length = 64 := by rw [sched_len, HLW.out]
          have HWW := Lib.hid (sched_words HWW16.out 48)
          have HWE : Hid (sched ws 48 = sched (wordsOf m 16) 48) := Lib.hid (by rw [HWS.out])
          obtain ⟨ww, hww⟩ : ∃ ww, ww = sched ws 48 := ⟨_, rfl⟩
          rw [← hww] at hl64 HWW HWE HB64
          have HL64 := Lib.hid hl64
          clear hww hl64
          have A1 := Blk.new wr 60 #[.int .u32 (s.a : Int), .int .u32 (s.b : Int), .int .u32 (s.c : Int), .int .u32 (s.d : Int), .int .u32 (s.e : Int), .int .u32 (s.f : Int), .int .u32 (s.g : Int), .int .u32 (s.h : Int)]
          have A2 := HB64.out.alloc (.cells #[.int .u32 (s.a : Int), .int .u32 (s.b : Int), .int .u32 (s.c : Int), .int .u32 (s.d : Int), .int .u32 (s.e : Int), .int .u32 (s.f : Int), .int .u32 (s.g : Int), .int .u32 (s.h : Int)] 60)
          have A3 := HBw64.out.alloc (by rw [HXX.out]; exact HBw64.out.size) (.cells #[.int .u32 (s.a : Int), .int .u32 (s.b : Int), .int .u32 (s.c : Int), .int .u32 (s.d : Int), .int .u32 (s.e : Int), .int .u32 (s.f : Int), .int .u32 (s.g : Int), .int .u32 (s.h : Int)] 60)
          have HXV : Hid (X < wr.heap.size) := Lib.hid HB64.out.lt
          obtain ⟨W1, hW1⟩ : ∃ W1, W1 = wr.alloc (.cells #[.int .u32 (s.a : Int), .int .u32 (s.b : Int), .int .u32 (s.c : Int), .int .u32 (s.d : Int), .int .u32 (s.e : Int), .int .u32 (s.f : Int), .int .u32 (s.g : Int), .int .u32 (s.h : Int)] 60) := ⟨_, rfl⟩
          obtain ⟨V, hV⟩ : ∃ V, V = wr.heap.size := ⟨_, rfl⟩
          rw [← hW1, ← hV] at A1
          rw [← hW1] at A2 A3
          rw [← hV] at HXV
          rw [← hW1]
          rw [← hV]
          have A1 := Lib.hid A1
          have A2 := Lib.hid A2
          have A3 := Lib.hid A3
          clear hV hW1 c0 c1 c2 c3 c4 c5 c6 c7
          go_wp2_with fail
          go_loopw [85] (fun s85 wr => ∃ i : Nat, s85 = .int .i64 i ∧ i ≤ 64 ∧ Hid (Blk wr V 60 (rounds s ks ww i).cells) ∧ Hid (Blk wr X 62 (arr 64 ww)) ∧ Hid (Below X w wr)) (fun s85 _ => 64 - (intOf s85).toNat)
          case atStart => exact ⟨0, rfl, by omega, A1, A2, A3⟩
          case round =>
            clear HB64 HBw64 HbH A1 A2 A3
            obtain ⟨i, rfl, hi, hb, hx, hB⟩ := hrel
            have i0 : (0 : Int) ≤ (i : Int) := Int.natCast_nonneg _
            by_cases hlt : i < 64
            · have i1 : (i : Int) < 64 := by omega
              obtain ⟨r, hr⟩ : ∃ r, r = rounds s ks ww i := ⟨_, rfl⟩
              rw [← hr] at hb
              have HRO : r.ok := by rw [hr]; exact rounds_ok HS.out ks ww i
              have HRN : Hid (rounds s ks ww (i + 1) = round1 r (at0 ks i) (at0 ww i)) := Lib.hid (by rw [hr]; rfl)
              clear hr
              obtain ⟨ra, rb, rc, rd, re, rf, rg, rh⟩ := r
              obtain ⟨la, lb, lc, ld, le, lf, lg, lh⟩ := HRO
              dsimp only at la lb lc ld le lf lg lh
              have x0 : wr.cell? ⟨V, 0, none⟩ = some (.int .u32 (ra : Int)) := hb.out.cell 0
              have x1 : wr.cell? ⟨V, 1, none⟩ = some (.int .u32 (rb : Int)) := hb.out.cell 1
              have x2 : wr.cell? ⟨V, 2, none⟩ = some (.int .u32 (rc : Int)) := hb.out.cell 2
              have x3 : wr.cell? ⟨V, 3, none⟩ = some (.int .u32 (rd : Int)) := hb.out.cell 3
              have x4 : wr.cell? ⟨V, 4, none⟩ = some (.int .u32 (re : Int)) := hb.out.cell 4
              have x5 : wr.cell? ⟨V, 5, none⟩ = some (.int .u32 (rf : Int)) := hb.out.cell 5
              have x6 : wr.cell? ⟨V, 6, none⟩ = some (.int .u32 (rg : Int)) := hb.out.cell 6
              have x7 : wr.cell? ⟨V, 7, none⟩ = some (.int .u32 (rh : Int)) := hb.out.cell 7
              have xk : wr.cell? ⟨K, i, none⟩ = some (.int .u32 (at0 ks i : Int)) := by
                have h : Blk wr K 62 (arr 64 ks) := (hB.out.block K (by rw [HXX.out]; exact HK.out.lt)).trans HK.out
                rw [h.cell, arr_at (by rw [HKL.out]; exact hlt)]
              have xw : wr.cell? ⟨X, i, none⟩ = some (.int .u32 (at0 ww i : Int)) := by rw [hx.out.cell, arr_at (by rw [HL64.out]; exact hlt)]
              have f0 := hb.out.frozen 0
              have f1 := hb.out.frozen 1
              have f2 := hb.out.frozen 2
              have f3 := hb.out.frozen 3
              have f4 := hb.out.frozen 4
              have f5 := hb.out.frozen 5
              have f6 := hb.out.frozen 6
              have f7 := hb.out.frozen 7
              have HT1 : Hid (t1F ⟨ra, rb, rc, rd, re, rf, rg, rh⟩ (at0 ks i) (at0 ww i) = ((((rh + turn3 6 11 25 re) % M32 + ((re &&& rf) ^^^ ((4294967295 - re) &&& rg))) % M32 + at0 ks i) % M32 + at0 ww i) % M32) := Lib.hid rfl
              have HT2 : Hid (t2F ⟨ra, rb, rc, rd, re, rf, rg, rh⟩ = (turn3 2 13 22 ra + ((ra &&& rb) ^^^ (ra &&& rc) ^^^ (rb &&& rc))) % M32) := Lib.hid rfl
              have HRN2 : Hid (rounds s ks ww (i + 1) = ⟨(t1F ⟨ra, rb, rc, rd, re, rf, rg, rh⟩ (at0 ks i) (at0 ww i) + t2F ⟨ra, rb, rc, rd, re, rf, rg, rh⟩) % M32, ra, rb, rc, (rd + t1F ⟨ra, rb, rc, rd, re, rf, rg, rh⟩ (at0 ks i) (at0 ww i)) % M32, re, rf, rg⟩) := Lib.hid HRN.out
              clear HRN
              have T1 := Lib.hid fun W => turned_any W re 6 11 25 le (by omega) (by omega) (by omega)
              have T2 := Lib.hid fun W => turned_any W ra 2 13 22 la (by omega) (by omega) (by omega)
              have o1 := u32_and_nat re rf le lf
              have o2 := u32_not le
              have ln : 4294967295 - re < M32 := Nat.lt_of_le_of_lt (Nat.sub_le _ _) (by decide)
              have o3 := u32_and_nat (4294967295 - re) rg ln lg
              have o4 := u32_xor_nat (re &&& rf) ((4294967295 - re) &&& rg) (and_lt32 lf) (and_lt32 lg)
              have o5 := u32_and_nat ra rb la lb
              have o6 := u32_and_nat ra rc la lc
              have o7 := u32_and_nat rb rc lb lc
              have o8 := u32_xor_nat (ra &&& rb) (ra &&& rc) (and_lt32 lb) (and_lt32 lc)
              have o9 := u32_xor_nat ((ra &&& rb) ^^^ (ra &&& rc)) (rb &&& rc) (xor_lt32 (and_lt32 lb) (and_lt32 lc)) (and_lt32 lc)
              have HLL := Lib.hid (And.intro la (And.intro lb (And.intro lc (And.intro ld (And.intro le (And.intro lf (And.intro lg lh)))))))
              clear la lb lc ld le lf lg lh ln
              generalize t1F ⟨ra, rb, rc, rd, re, rf, rg, rh⟩ (at0 ks i) (at0 ww i) = p1 at *
              generalize t2F ⟨ra, rb, rc, rd, re, rf, rg, rh⟩ = p2 at *
              generalize turn3 6 11 25 re = t at *
              generalize turn3 2 13 22 ra = u at *
              generalize at0 ks i = kx at *
              generalize at0 ww i = wx at *
              generalize (re &&& rf) ^^^ ((4294967295 - re) &&& rg) = ch at *
              generalize (ra &&& rb) ^^^ (ra &&& rc) ^^^ (rb &&& rc) = mj at *
              generalize (4294967295 - re) &&& rg = n2 at *
              generalize 4294967295 - re = ne at *
              generalize re &&& rf = n1 at *
              generalize (ra &&& rb) ^^^ (ra &&& rc) = n6 at *
              generalize ra &&& rb = n3 at *
              generalize ra &&& rc = n4 at *
              generalize rb &&& rc = n5 at *
              obtain ⟨z1, hz1⟩ : ∃ z, z = (rh + t) % M32 := ⟨_, rfl⟩
              obtain ⟨z2, hz2⟩ : ∃ z, z = (z1 + ch) % M32 := ⟨_, rfl⟩
              obtain ⟨z3, hz3⟩ : ∃ z, z = (z2 + kx) % M32 := ⟨_, rfl⟩
              have hp1 := HT1.out
              have hp2 := HT2.out
              rw [← hz1, ← hz2, ← hz3] at hp1
              obtain ⟨q1, hq1⟩ : ∃ z, z = (p1 + p2) % M32 := ⟨_, rfl⟩
              obtain ⟨q2, hq2⟩ : ∃ z, z = (rd + p1) % M32 := ⟨_, rfl⟩
              have HRN3 := HRN2.out
              rw [← hq1, ← hq2] at HRN3
              have HRN4 := Lib.hid HRN3
              have y1 : IntKind.u32.wrap ((rh : Int) + (t : Int)) = (z1 : Int) := by rw [u32_add, hz1]
              have y2 : IntKind.u32.wrap ((z1 : Int) + (ch : Int)) = (z2 : Int) := by rw [u32_add, hz2]
              have y3 : IntKind.u32.wrap ((z2 : Int) + (kx : Int)) = (z3 : Int) := by rw [u32_add, hz3]
              have y4 : IntKind.u32.wrap ((z3 : Int) + (wx : Int)) = (p1 : Int) := by rw [u32_add, hp1]
              have y5 : IntKind.u32.wrap ((u : Int) + (mj : Int)) = (p2 : Int) := by rw [u32_add, hp2]
              have y6 : IntKind.u32.wrap ((p1 : Int) + (p2 : Int)) = (q1 : Int) := by rw [u32_add, hq1]
              have y7 : IntKind.u32.wrap ((rd : Int) + (p1 : Int)) = (q2 : Int) := by rw [u32_add, hq2]
              clear HRN2 HRN3 hp1 hp2 HT1 HT2 hz1 hz2 hz3 hq1 hq2
              go_wp2_with fail
              refine wp_region_held_drew (S := fun w' => w'.cell? ⟨V, 0, none⟩ = some (.int .u32 (ra : Int)) ∧ w'.cell? ⟨V, 4, none⟩ = some (.int .u32 (re : Int))) (by kernel_rfl) (⟨x0, x4⟩) (fun hHeld => ?_)
              refine wpAnyH_take (i := 0) (oi := { dst := some 88, op := Op.indexAddr 60 (Operand.tmp 9) (Operand.const (Value.int IntKind.i64 4)), type := 0, pos := "sha.go:62", after := #[], guard := none }) (v := ?va0) rfl (by kernel_rfl) (by kernel_rfl) (by kernel_rfl) (fun _ _ _ h => h) (Or.inl ⟨by rfl, ?ya0⟩) (by assumption) ?ra0
              case ya0 => (intro w' hSw; (try dsimp only at hSw); go_simp; try with_reducible rfl)
              try simp only [Act.put, List.setIfInBounds_toArray, List.set_cons_zero, List.set_cons_succ]
              refine wpAnyH_take (i := 1) (oi := { dst := some 89, op := Op.load 59 (Operand.tmp 88), type := 59, pos := "sha.go:62", after := #[{ on := 0, ground := Ground.data }], guard := none }) (v := ?va1) rfl (by kernel_rfl) (by kernel_rfl) (by kernel_rfl) (fun _ _ _ h => h) (Or.inl ⟨by rfl, ?ya1⟩) (by assumption) ?ra1
              case ya1 => (intro w' hSw; (try dsimp only at hSw); go_simp; try with_reducible rfl)
              try simp only [Act.put, List.setIfInBounds_toArray, List.set_cons_zero, List.set_cons_succ]
              refine wpAnyH_take (i := 2) (oi := { dst := some 90, op := Op.indexAddr 60 (Operand.tmp 9) (Operand.const (Value.int IntKind.i64 0)), type := 0, pos := "sha.go:62", after := #[{ on := 4, ground := Ground.gcOnly Departure.lateStores }], guard := none }) (v := ?va2) rfl (by kernel_rfl) (by kernel_rfl) (by kernel_rfl) (fun _ _ _ h => h) (Or.inl ⟨by rfl, ?ya2⟩) (by assumption) ?ra2
              case ya2 => (intro w' hSw; (try dsimp only at hSw); go_simp; try with_reducible rfl)
              try simp only [Act.put, List.setIfInBounds_toArray, List.set_cons_zero, List.set_cons_succ]
              refine wpAnyH_take (i := 3) (oi := { dst := some 91, op := Op.load 59 (Operand.tmp 90), type := 59, pos := "sha.go:62", after := #[{ on := 2, ground := Ground.data }, { on := 4, ground := Ground.gcOnly Departure.lateStores }], guard := none }) (v := ?va3) rfl (by kernel_rfl) (by kernel_rfl) (by kernel_rfl) (fun _ _ _ h => h) (Or.inl ⟨by rfl, ?ya3⟩) (by assumption) ?ra3
              case ya3 => (intro w' hSw; (try dsimp only at hSw); go_simp; try with_reducible rfl)
              try simp only [Act.put, List.setIfInBounds_toArray, List.set_cons_zero, List.set_cons_succ]
              refine wpAnyH_take (i := 4) (oi := { dst := some 11, op := Op.assign (Operand.tmp 89), type := 59, pos := "sha.go:62", after := #[{ on := 1, ground := Ground.data }, { on := 0, ground := Ground.phase }, { on := 1, ground := Ground.phase }, { on := 2, ground := Ground.textOnly Departure.lateStores }, { on := 3, ground := Ground.textOnly Departure.lateStores }], guard := none }) (v := ?va4) rfl (by kernel_rfl) (by kernel_rfl) (by kernel_rfl) (fun _ _ _ h => h) (Or.inl ⟨by rfl, ?ya4⟩) (by assumption) ?ra4
              case ya4 => (intro w' hSw; (try dsimp only at hSw); go_simp; try with_reducible rfl)
              try simp only [Act.put, List.setIfInBounds_toArray, List.set_cons_zero, List.set_cons_succ]
              refine wpAnyH_take (i := 5) (oi := { dst := some 12, op := Op.assign (Operand.tmp 91), type := 59, pos := "sha.go:62", after := #[{ on := 3, ground := Ground.data }, { on := 4, ground := Ground.chain }, { on := 0, ground := Ground.phase }, { on := 1, ground := Ground.phase }, { on := 2, ground := Ground.phase }, { on := 3, ground := Ground.phase }, { on := 4, ground := Ground.phase }], guard := none }) (v := ?va5) rfl (by kernel_rfl) (by kernel_rfl) (by kernel_rfl) (fun _ _ _ h => h) (Or.inl ⟨by rfl, ?ya5⟩) (by assumption) ?ra5
              case ya5 => (intro w' hSw; (try dsimp only at hSw); go_simp; try with_reducible rfl)
              try simp only [Act.put, List.setIfInBounds_toArray, List.set_cons_zero, List.set_cons_succ]
              refine wpAnyH_done (by kernel_rfl) ?_ _
              go_wp2_with fail
              refine wp_region_held_drew (S := fun w' => w'.cell? ⟨V, 0, none⟩ = some (.int .u32 (ra : Int)) ∧ w'.cell? ⟨V, 5, none⟩ = some (.int .u32 (rf : Int)) ∧ w'.cell? ⟨V, 6, none⟩ = some (.int .u32 (rg : Int)) ∧ w'.cell? ⟨V, 7, none⟩ = some (.int .u32 (rh : Int)) ∧ w'.cell? ⟨K, i, none⟩ = some (.int .u32 (kx : Int)) ∧ w'.cell? ⟨X, i, none⟩ = some (.int .u32 (wx : Int))) (by kernel_rfl) (⟨x0, x5, x6, x7, xk, xw⟩) (fun hHeld => ?_)
              refine wpAnyH_take (i := 0) (oi := { dst := some 92, op := Op.indexAddr 60 (Operand.tmp 9) (Operand.const (Value.int IntKind.i64 7)), type := 0, pos := "sha.go:63", after := #[], guard := none }) (v := ?vb0) rfl (by kernel_rfl) (by kernel_rfl) (by kernel_rfl) (fun _ _ _ h => h) (Or.inl ⟨by rfl, ?yb0⟩) (by assumption) ?rb0
              case yb0 => (intro w' hSw; (try dsimp only at hSw); go_simp; try with_reducible rfl)
              try simp only [Act.put, List.setIfInBounds_toArray, List.set_cons_zero, List.set_cons_succ]
              refine wpAnyH_take (i := 1) (oi := { dst := some 93, op := Op.load 59 (Operand.tmp 92), type := 59, pos := "sha.go:63", after := #[{ on := 0, ground := Ground.data }], guard := none }) (v := ?vb1) rfl (by kernel_rfl) (by kernel_rfl) (by kernel_rfl) (fun _ _ _ h => h) (Or.inl ⟨by rfl, ?yb1⟩) (by assumption) ?rb1
              case yb1 => (intro w' hSw; (try dsimp only at hSw); go_simp; try with_reducible rfl)
              try simp only [Act.put, List.setIfInBounds_toArray, List.set_cons_zero, List.set_cons_succ]
              refine wpAnyH_take (i := 2) (oi := { dst := some 94, op := Op.move (Operand.tmp 11), type := 59, pos := "sha.go:63", after := #[], guard := none }) (v := ?vb2) rfl (by kernel_rfl) (by kernel_rfl) (by kernel_rfl) (fun _ _ _ h => h) (Or.inl ⟨by rfl, ?yb2⟩) (by assumption) ?rb2
              case yb2 => (intro w' hSw; (try dsimp only at hSw); go_simp; try with_reducible rfl)
              try simp only [Act.put, List.setIfInBounds_toArray, List.set_cons_zero, List.set_cons_succ]
              refine wpAnyH_take (i := 5) (oi := { dst := some 97, op := Op.move (Operand.tmp 11), type := 59, pos := "sha.go:63", after := #[], guard := none }) (v := ?vb5) rfl (by kernel_rfl) (by kernel_rfl) (by kernel_rfl) (fun _ _ _ h => h) (Or.inl ⟨by rfl, ?yb5⟩) (by assumption) ?rb5
              case yb5 => (intro w' hSw; (try dsimp only at hSw); go_simp; try with_reducible rfl)
              try simp only [Act.put, List.setIfInBounds_toArray, List.set_cons_zero, List.set_cons_succ]
              refine wpAnyH_take (i := 6) (oi := { dst := some 98, op := Op.indexAddr 60 (Operand.tmp 9) (Operand.const (Value.int IntKind.i64 5)), type := 0, pos := "sha.go:63", after := #[], guard := none }) (v := ?vb6) rfl (by kernel_rfl) (by kernel_rfl) (by kernel_rfl) (fun _ _ _ h => h) (Or.inl ⟨by rfl, ?yb6⟩) (by assumption) ?rb6
              case yb6 => (intro w' hSw; (try dsimp only at hSw); go_simp; try with_reducible rfl)
              try simp only [Act.put, List.setIfInBounds_toArray, List.set_cons_zero, List.set_cons_succ]
              refine wpAnyH_take (i := 7) (oi := { dst := some 99, op := Op.load 59 (Operand.tmp 98), type := 59, pos := "sha.go:63", after := #[{ on := 6, ground := Ground.data }], guard := none }) (v := ?vb7) rfl (by kernel_rfl) (by kernel_rfl) (by kernel_rfl) (fun _ _ _ h => h) (Or.inl ⟨by rfl, ?yb7⟩) (by assumption) ?rb7
              case yb7 => (intro w' hSw; (try dsimp only at hSw); go_simp; try with_reducible rfl)
              try simp only [Act.put, List.setIfInBounds_toArray, List.set_cons_zero, List.set_cons_succ]
              refine wpAnyH_take (i := 8) (oi := { dst := some 100, op := Op.binOp BinOp.and 59 (Operand.tmp 97) (Operand.tmp 99) 59, type := 59, pos := "sha.go:63", after := #[{ on := 5, ground := Ground.data }, { on := 7, ground := Ground.data }], guard := none }) (v := ?vb8) rfl (by kernel_rfl) (by kernel_rfl) (by kernel_rfl) (fun _ _ _ h => h) (Or.inl ⟨by rfl, ?yb8⟩) (by assumption) ?rb8
              case yb8 => (intro w' hSw; (try dsimp only at hSw); go_simp; try with_reducible rfl)
              try simp only [Act.put, List.setIfInBounds_toArray, List.set_cons_zero, List.set_cons_succ]
              refine wpAnyH_take (i := 9) (oi := { dst := some 101, op := Op.move (Operand.tmp 11), type := 59, pos := "sha.go:63", after := #[], guard := none }) (v := ?vb9) rfl (by kernel_rfl) (by kernel_rfl) (by kernel_rfl) (fun _ _ _ h => h) (Or.inl ⟨by rfl, ?yb9⟩) (by assumption) ?rb9
              case yb9 => (intro w' hSw; (try dsimp only at hSw); go_simp; try with_reducible rfl)
              try simp only [Act.put, List.setIfInBounds_toArray, List.set_cons_zero, List.set_cons_succ]
              refine wpAnyH_take (i := 10) (oi := { dst := some 102, op := Op.unOp UnOp.xor 59 (Operand.tmp 101), type := 59, pos := "sha.go:63", after := #[{ on := 9, ground := Ground.data }], guard := none }) (v := ?vb10) rfl (by kernel_rfl) (by kernel_rfl) (by kernel_rfl) (fun _ _ _ h => h) (Or.inl ⟨by rfl, ?yb10⟩) (by assumption) ?rb10
              case yb10 => (intro w' hSw; (try dsimp only at hSw); go_simp; try with_reducible rfl)
              try simp only [Act.put, List.setIfInBounds_toArray, List.set_cons_zero, List.set_cons_succ]
              refine wpAnyH_take (i := 11) (oi := { dst := some 103, op := Op.indexAddr 60 (Operand.tmp 9) (Operand.const (Value.int IntKind.i64 6)), type := 0, pos := "sha.go:63", after := #[], guard := none }) (v := ?vb11) rfl (by kernel_rfl) (by kernel_rfl) (by kernel_rfl) (fun _ _ _ h => h) (Or.inl ⟨by rfl, ?yb11⟩) (by assumption) ?rb11
              case yb11 => (intro w' hSw; (try dsimp only at hSw); go_simp; try with_reducible rfl)
              try simp only [Act.put, List.setIfInBounds_toArray, List.set_cons_zero, List.set_cons_succ]
              refine wpAnyH_take (i := 12) (oi := { dst := some 104, op := Op.load 59 (Operand.tmp 103), type := 59, pos := "sha.go:63", after := #[{ on := 11, ground := Ground.data }], guard := none }) (v := ?vb12) rfl (by kernel_rfl) (by kernel_rfl) (by kernel_rfl) (fun _ _ _ h => h) (Or.inl ⟨by rfl, ?yb12⟩) (by assumption) ?rb12
              case yb12 => (intro w' hSw; (try dsimp only at hSw); go_simp; try with_reducible rfl)
              try simp only [Act.put, List.setIfInBounds_toArray, List.set_cons_zero, List.set_cons_succ]
              refine wpAnyH_take (i := 13) (oi := { dst := some 105, op := Op.binOp BinOp.and 59 (Operand.tmp 102) (Operand.tmp 104) 59, type := 59, pos := "sha.go:63", after := #[{ on := 10, ground := Ground.data }, { on := 12, ground := Ground.data }], guard := none }) (v := ?vb13) rfl (by kernel_rfl) (by kernel_rfl) (by kernel_rfl) (fun _ _ _ h => h) (Or.inl ⟨by rfl, ?yb13⟩) (by assumption) ?rb13
              case yb13 => (intro w' hSw; (try dsimp only at hSw); go_simp; try with_reducible rfl)
              try simp only [Act.put, List.setIfInBounds_toArray, List.set_cons_zero, List.set_cons_succ]
              refine wpAnyH_take (i := 14) (oi := { dst := some 106, op := Op.binOp BinOp.xor 59 (Operand.tmp 100) (Operand.tmp 105) 59, type := 59, pos := "sha.go:63", after := #[{ on := 8, ground := Ground.data }, { on := 13, ground := Ground.data }], guard := none }) (v := ?vb14) rfl (by kernel_rfl) (by kernel_rfl) (by kernel_rfl) (fun _ _ _ h => h) (Or.inl ⟨by rfl, ?yb14⟩) (by assumption) ?rb14
              case yb14 => (intro w' hSw; (try dsimp only at hSw); go_simp; try with_reducible rfl)
              try simp only [Act.put, List.setIfInBounds_toArray, List.set_cons_zero, List.set_cons_succ]
              refine wpAnyH_take (i := 16) (oi := { dst := some 108, op := Op.move (Operand.tmp 1), type := 66, pos := "sha.go:63", after := #[], guard := none }) (v := ?vb16) rfl (by kernel_rfl) (by kernel_rfl) (by kernel_rfl) (fun _ _ _ h => h) (Or.inl ⟨by rfl, ?yb16⟩) (by assumption) ?rb16
              case yb16 => (intro w' hSw; (try dsimp only at hSw); go_simp; try with_reducible rfl)
              try simp only [Act.put, List.setIfInBounds_toArray, List.set_cons_zero, List.set_cons_succ]
              refine wpAnyH_take (i := 17) (oi := { dst := some 109, op := Op.move (Operand.tmp 10), type := 3, pos := "sha.go:63", after := #[], guard := none }) (v := ?vb17) rfl (by kernel_rfl) (by kernel_rfl) (by kernel_rfl) (fun _ _ _ h => h) (Or.inl ⟨by rfl, ?yb17⟩) (by assumption) ?rb17
              case yb17 => (intro w' hSw; (try dsimp only at hSw); go_simp; try with_reducible rfl)
              try simp only [Act.put, List.setIfInBounds_toArray, List.set_cons_zero, List.set_cons_succ]
              refine wpAnyH_take (i := 18) (oi := { dst := some 110, op := Op.nilCheck (Operand.tmp 108), type := 0, pos := "sha.go:63", after := #[{ on := 16, ground := Ground.data }], guard := none }) (v := ?vb18) rfl (by kernel_rfl) (by kernel_rfl) (by kernel_rfl) (fun _ _ _ h => h) (Or.inl ⟨by rfl, ?yb18⟩) (by assumption) ?rb18
              case yb18 => (intro w' hSw; (try dsimp only at hSw); go_simp; try with_reducible rfl)
              try simp only [Act.put, List.setIfInBounds_toArray, List.set_cons_zero, List.set_cons_succ]
              refine wpAnyH_take (i := 19) (oi := { dst := some 111, op := Op.indexAddr 62 (Operand.tmp 110) (Operand.tmp 109), type := 0, pos := "sha.go:63", after := #[{ on := 18, ground := Ground.data }, { on := 17, ground := Ground.data }], guard := none }) (v := ?vb19) rfl (by kernel_rfl) (by kernel_rfl) (by kernel_rfl) (fun _ _ _ h => h) (Or.inl ⟨by rfl, ?yb19⟩) (by assumption) ?rb19
              case yb19 => (intro w' hSw; (try dsimp only at hSw); go_simp; try with_reducible rfl)
              try simp only [Act.put, List.setIfInBounds_toArray, List.set_cons_zero, List.set_cons_succ]
              refine wpAnyH_take (i := 20) (oi := { dst := some 112, op := Op.load 59 (Operand.tmp 111), type := 59, pos := "sha.go:63", after := #[{ on := 19, ground := Ground.data }], guard := none }) (v := ?vb20) rfl (by kernel_rfl) (by kernel_rfl) (by kernel_rfl) (fun _ _ _ h => h) (Or.inl ⟨by rfl, ?yb20⟩) (by assumption) ?rb20
              case yb20 => (intro w' hSw; (try dsimp only at hSw); go_simp; try with_reducible rfl)
              try simp only [Act.put, List.setIfInBounds_toArray, List.set_cons_zero, List.set_cons_succ]
              refine wpAnyH_take (i := 22) (oi := { dst := some 114, op := Op.move (Operand.tmp 10), type := 3, pos := "sha.go:63", after := #[], guard := none }) (v := ?vb22) rfl (by kernel_rfl) (by kernel_rfl) (by kernel_rfl) (fun _ _ _ h => h) (Or.inl ⟨by rfl, ?yb22⟩) (by assumption) ?rb22
              case yb22 => (intro w' hSw; (try dsimp only at hSw); go_simp; try with_reducible rfl)
              try simp only [Act.put, List.setIfInBounds_toArray, List.set_cons_zero, List.set_cons_succ]
              refine wpAnyH_take (i := 23) (oi := { dst := some 115, op := Op.indexAddr 62 (Operand.tmp 6) (Operand.tmp 114), type := 0, pos := "sha.go:63", after := #[{ on := 22, ground := Ground.data }], guard := none }) (v := ?vb23) rfl (by kernel_rfl) (by kernel_rfl) (by kernel_rfl) (fun _ _ _ h => h) (Or.inl ⟨by rfl, ?yb23⟩) (by assumption) ?rb23
              case yb23 => (intro w' hSw; (try dsimp only at hSw); go_simp; try with_reducible rfl)
              try simp only [Act.put, List.setIfInBounds_toArray, List.set_cons_zero, List.set_cons_succ]
              refine wpAnyH_take (i := 24) (oi := { dst := some 116, op := Op.load 59 (Operand.tmp 115), type := 59, pos := "sha.go:63", after := #[{ on := 23, ground := Ground.data }], guard := none }) (v := ?vb24) rfl (by kernel_rfl) (by kernel_rfl) (by kernel_rfl) (fun _ _ _ h => h) (Or.inl ⟨by rfl, ?yb24⟩) (by assumption) ?rb24
              case yb24 => (intro w' hSw; (try dsimp only at hSw); go_simp; try with_reducible rfl)
              try simp only [Act.put, List.setIfInBounds_toArray, List.set_cons_zero, List.set_cons_succ]
              refine wpAnyH_ready (rs := [3]) (by kernel_rfl) (by simp) ?_
              refine AllReadyH.cons (o := { dst := some 95, op := Op.call { callee := Callee.value (Operand.func 42), args := #[Operand.tmp 94, Operand.const (Value.int IntKind.i64 6), Operand.const (Value.int IntKind.i64 11), Operand.const (Value.int IntKind.i64 25)], argTypes := #[59, 3, 3, 3] }, type := 59, pos := "sha.go:63", after := #[{ on := 2, ground := Ground.data }], guard := none }) rfl (fun K hK => ?_) AllReadyH.nil
              go_simp
              refine (T1.out _).mono ?_
              rintro e w5 ⟨rfl, rfl⟩
              go_wp2_with fail
              refine hK.out _ _ (⟨x0, x5, x6, x7, xk, xw⟩) (fun hHeldb3 => ?_)
              clear hK K hHeld
              try simp only [Act.put, List.setIfInBounds_toArray, List.set_cons_zero, List.set_cons_succ]
              refine wpAnyH_take (i := 4) (oi := { dst := some 96, op := Op.binOp BinOp.add 59 (Operand.tmp 93) (Operand.tmp 95) 59, type := 59, pos := "sha.go:63", after := #[{ on := 1, ground := Ground.data }, { on := 3, ground := Ground.data }], guard := none }) (v := ?vb4) rfl (by kernel_rfl) (by kernel_rfl) (by kernel_rfl) (fun _ _ _ h => h) (Or.inl ⟨by rfl, ?yb4⟩) (by assumption) ?rb4
              case yb4 => (intro w' hSw; (try dsimp only at hSw); go_simp; try with_reducible rfl)
              try simp only [Act.put, List.setIfInBounds_toArray, List.set_cons_zero, List.set_cons_succ]
              refine wpAnyH_take (i := 15) (oi := { dst := some 107, op := Op.binOp BinOp.add 59 (Operand.tmp 96) (Operand.tmp 106) 59, type := 59, pos := "sha.go:63", after := #[{ on := 4, ground := Ground.data }, { on := 14, ground := Ground.data }], guard := none }) (v := ?vb15) rfl (by kernel_rfl) (by kernel_rfl) (by kernel_rfl) (fun _ _ _ h => h) (Or.inl ⟨by rfl, ?yb15⟩) (by assumption) ?rb15
              case yb15 => (intro w' hSw; (try dsimp only at hSw); go_simp; try with_reducible rfl)
              try simp only [Act.put, List.setIfInBounds_toArray, List.set_cons_zero, List.set_cons_succ]
              refine wpAnyH_take (i := 21) (oi := { dst := some 113, op := Op.binOp BinOp.add 59 (Operand.tmp 107) (Operand.tmp 112) 59, type := 59, pos := "sha.go:63", after := #[{ on := 15, ground := Ground.data }, { on := 20, ground := Ground.data }], guard := none }) (v := ?vb21) rfl (by kernel_rfl) (by kernel_rfl) (by kernel_rfl) (fun _ _ _ h => h) (Or.inl ⟨by rfl, ?yb21⟩) (by assumption) ?rb21
              case yb21 => (intro w' hSw; (try dsimp only at hSw); go_simp; try with_reducible rfl)
              try simp only [Act.put, List.setIfInBounds_toArray, List.set_cons_zero, List.set_cons_succ]
              refine wpAnyH_take (i := 25) (oi := { dst := some 117, op := Op.binOp BinOp.add 59 (Operand.tmp 113) (Operand.tmp 116) 59, type := 59, pos := "sha.go:63", after := #[{ on := 21, ground := Ground.data }, { on := 24, ground := Ground.data }], guard := none }) (v := ?vb25) rfl (by kernel_rfl) (by kernel_rfl) (by kernel_rfl) (fun _ _ _ h => h) (Or.inl ⟨by rfl, ?yb25⟩) (by assumption) ?rb25
              case yb25 => (intro w' hSw; (try dsimp only at hSw); go_simp; try with_reducible rfl)
              try simp only [Act.put, List.setIfInBounds_toArray, List.set_cons_zero, List.set_cons_succ]
              refine wpAnyH_take (i := 26) (oi := { dst := some 13, op := Op.assign (Operand.tmp 117), type := 59, pos := "sha.go:63", after := #[{ on := 25, ground := Ground.data }, { on := 3, ground := Ground.chain }, { on := 0, ground := Ground.phase }, { on := 1, ground := Ground.phase }, { on := 2, ground := Ground.phase }, { on := 3, ground := Ground.phase }, { on := 4, ground := Ground.phase }, { on := 5, ground := Ground.phase }, { on := 6, ground := Ground.phase }, { on := 7, ground := Ground.phase }, { on := 8, ground := Ground.phase }, { on := 9, ground := Ground.phase }, { on := 10, ground := Ground.phase }, { on := 11, ground := Ground.phase }, { on := 12, ground := Ground.phase }, { on := 13, ground := Ground.phase }, { on := 14, ground := Ground.phase }, { on := 15, ground := Ground.phase }, { on := 16, ground := Ground.phase }, { on := 17, ground := Ground.phase }, { on := 18, ground := Ground.phase }, { on := 19, ground := Ground.phase }, { on := 20, ground := Ground.phase }, { on := 21, ground := Ground.phase }, { on := 22, ground := Ground.phase }, { on := 23, ground := Ground.phase }, { on := 24, ground := Ground.phase }, { on := 25, ground := Ground.phase }], guard := none }) (v := ?vb26) rfl (by kernel_rfl) (by kernel_rfl) (by kernel_rfl) (fun _ _ _ h => h) (Or.inl ⟨by rfl, ?yb26⟩) (by assumption) ?rb26
              case yb26 => (intro w' hSw; (try dsimp only at hSw); go_simp; try with_reducible rfl)
              try simp only [Act.put, List.setIfInBounds_toArray, List.set_cons_zero, List.set_cons_succ]
              refine wpAnyH_done (by kernel_rfl) ?_ _
              go_wp2_with fail
              refine wp_region_held_drew (S := fun w' => w'.cell? ⟨V, 1, none⟩ = some (.int .u32 (rb : Int)) ∧ w'.cell? ⟨V, 2, none⟩ = some (.int .u32 (rc : Int))) (by kernel_rfl) (⟨x1, x2⟩) (fun hHeld => ?_)
              refine wpAnyH_take (i := 0) (oi := { dst := some 118, op := Op.move (Operand.tmp 12), type := 59, pos := "sha.go:64", after := #[], guard := none }) (v := ?vc0) rfl (by kernel_rfl) (by kernel_rfl) (by kernel_rfl) (fun _ _ _ h => h) (Or.inl ⟨by rfl, ?yc0⟩) (by assumption) ?rc0
              case yc0 => (intro w' hSw; (try dsimp only at hSw); go_simp; try with_reducible rfl)
              try simp only [Act.put, List.setIfInBounds_toArray, List.set_cons_zero, List.set_cons_succ]
              refine wpAnyH_take (i := 2) (oi := { dst := some 120, op := Op.move (Operand.tmp 12), type := 59, pos := "sha.go:64", after := #[], guard := none }) (v := ?vc2) rfl (by kernel_rfl) (by kernel_rfl) (by kernel_rfl) (fun _ _ _ h => h) (Or.inl ⟨by rfl, ?yc2⟩) (by assumption) ?rc2
              case yc2 => (intro w' hSw; (try dsimp only at hSw); go_simp; try with_reducible rfl)
              try simp only [Act.put, List.setIfInBounds_toArray, List.set_cons_zero, List.set_cons_succ]
              refine wpAnyH_take (i := 3) (oi := { dst := some 121, op := Op.indexAddr 60 (Operand.tmp 9) (Operand.const (Value.int IntKind.i64 1)), type := 0, pos := "sha.go:64", after := #[], guard := none }) (v := ?vc3) rfl (by kernel_rfl) (by kernel_rfl) (by kernel_rfl) (fun _ _ _ h => h) (Or.inl ⟨by rfl, ?yc3⟩) (by assumption) ?rc3
              case yc3 => (intro w' hSw; (try dsimp only at hSw); go_simp; try with_reducible rfl)
              try simp only [Act.put, List.setIfInBounds_toArray, List.set_cons_zero, List.set_cons_succ]
              refine wpAnyH_take (i := 4) (oi := { dst := some 122, op := Op.load 59 (Operand.tmp 121), type := 59, pos := "sha.go:64", after := #[{ on := 3, ground := Ground.data }], guard := none }) (v := ?vc4) rfl (by kernel_rfl) (by kernel_rfl) (by kernel_rfl) (fun _ _ _ h => h) (Or.inl ⟨by rfl, ?yc4⟩) (by assumption) ?rc4
              case yc4 => (intro w' hSw; (try dsimp only at hSw); go_simp; try with_reducible rfl)
              try simp only [Act.put, List.setIfInBounds_toArray, List.set_cons_zero, List.set_cons_succ]
              refine wpAnyH_take (i := 5) (oi := { dst := some 123, op := Op.binOp BinOp.and 59 (Operand.tmp 120) (Operand.tmp 122) 59, type := 59, pos := "sha.go:64", after := #[{ on := 2, ground := Ground.data }, { on := 4, ground := Ground.data }], guard := none }) (v := ?vc5) rfl (by kernel_rfl) (by kernel_rfl) (by kernel_rfl) (fun _ _ _ h => h) (Or.inl ⟨by rfl, ?yc5⟩) (by assumption) ?rc5
              case yc5 => (intro w' hSw; (try dsimp only at hSw); go_simp; try with_reducible rfl)
              try simp only [Act.put, List.setIfInBounds_toArray, List.set_cons_zero, List.set_cons_succ]
              refine wpAnyH_take (i := 6) (oi := { dst := some 124, op := Op.move (Operand.tmp 12), type := 59, pos := "sha.go:64", after := #[], guard := none }) (v := ?vc6) rfl (by kernel_rfl) (by kernel_rfl) (by kernel_rfl) (fun _ _ _ h => h) (Or.inl ⟨by rfl, ?yc6⟩) (by assumption) ?rc6
              case yc6 => (intro w' hSw; (try dsimp only at hSw); go_simp; try with_reducible rfl)
              try simp only [Act.put, List.setIfInBounds_toArray, List.set_cons_zero, List.set_cons_succ]
              refine wpAnyH_take (i := 7) (oi := { dst := some 125, op := Op.indexAddr 60 (Operand.tmp 9) (Operand.const (Value.int IntKind.i64 2)), type := 0, pos := "sha.go:64", after := #[], guard := none }) (v := ?vc7) rfl (by kernel_rfl) (by kernel_rfl) (by kernel_rfl) (fun _ _ _ h => h) (Or.inl ⟨by rfl, ?yc7⟩) (by assumption) ?rc7
              case yc7 => (intro w' hSw; (try dsimp only at hSw); go_simp; try with_reducible rfl)
              try simp only [Act.put, List.setIfInBounds_toArray, List.set_cons_zero, List.set_cons_succ]
              refine wpAnyH_take (i := 8) (oi := { dst := some 126, op := Op.load 59 (Operand.tmp 125), type := 59, pos := "sha.go:64", after := #[{ on := 7, ground := Ground.data }], guard := none }) (v := ?vc8) rfl (by kernel_rfl) (by kernel_rfl) (by kernel_rfl) (fun _ _ _ h => h) (Or.inl ⟨by rfl, ?yc8⟩) (by assumption) ?rc8
              case yc8 => (intro w' hSw; (try dsimp only at hSw); go_simp; try with_reducible rfl)
              try simp only [Act.put, List.setIfInBounds_toArray, List.set_cons_zero, List.set_cons_succ]
              refine wpAnyH_take (i := 9) (oi := { dst := some 127, op := Op.binOp BinOp.and 59 (Operand.tmp 124) (Operand.tmp 126) 59, type := 59, pos := "sha.go:64", after := #[{ on := 6, ground := Ground.data }, { on := 8, ground := Ground.data }], guard := none }) (v := ?vc9) rfl (by kernel_rfl) (by kernel_rfl) (by kernel_rfl) (fun _ _ _ h => h) (Or.inl ⟨by rfl, ?yc9⟩) (by assumption) ?rc9
              case yc9 => (intro w' hSw; (try dsimp only at hSw); go_simp; try with_reducible rfl)
              try simp only [Act.put, List.setIfInBounds_toArray, List.set_cons_zero, List.set_cons_succ]
              refine wpAnyH_take (i := 10) (oi := { dst := some 128, op := Op.binOp BinOp.xor 59 (Operand.tmp 123) (Operand.tmp 127) 59, type := 59, pos := "sha.go:64", after := #[{ on := 5, ground := Ground.data }, { on := 9, ground := Ground.data }], guard := none }) (v := ?vc10) rfl (by kernel_rfl) (by kernel_rfl) (by kernel_rfl) (fun _ _ _ h => h) (Or.inl ⟨by rfl, ?yc10⟩) (by assumption) ?rc10
              case yc10 => (intro w' hSw; (try dsimp only at hSw); go_simp; try with_reducible rfl)
              try simp only [Act.put, List.setIfInBounds_toArray, List.set_cons_zero, List.set_cons_succ]
              refine wpAnyH_take (i := 11) (oi := { dst := some 129, op := Op.indexAddr 60 (Operand.tmp 9) (Operand.const (Value.int IntKind.i64 1)), type := 0, pos := "sha.go:64", after := #[], guard := none }) (v := ?vc11) rfl (by kernel_rfl) (by kernel_rfl) (by kernel_rfl) (fun _ _ _ h => h) (Or.inl ⟨by rfl, ?yc11⟩) (by assumption) ?rc11
              case yc11 => (intro w' hSw; (try dsimp only at hSw); go_simp; try with_reducible rfl)
              try simp only [Act.put, List.setIfInBounds_toArray, List.set_cons_zero, List.set_cons_succ]
              refine wpAnyH_take (i := 12) (oi := { dst := some 130, op := Op.load 59 (Operand.tmp 129), type := 59, pos := "sha.go:64", after := #[{ on := 11, ground := Ground.data }], guard := none }) (v := ?vc12) rfl (by kernel_rfl) (by kernel_rfl) (by kernel_rfl) (fun _ _ _ h => h) (Or.inl ⟨by rfl, ?yc12⟩) (by assumption) ?rc12
              case yc12 => (intro w' hSw; (try dsimp only at hSw); go_simp; try with_reducible rfl)
              try simp only [Act.put, List.setIfInBounds_toArray, List.set_cons_zero, List.set_cons_succ]
              refine wpAnyH_take (i := 13) (oi := { dst := some 131, op := Op.indexAddr 60 (Operand.tmp 9) (Operand.const (Value.int IntKind.i64 2)), type := 0, pos := "sha.go:64", after := #[], guard := none }) (v := ?vc13) rfl (by kernel_rfl) (by kernel_rfl) (by kernel_rfl) (fun _ _ _ h => h) (Or.inl ⟨by rfl, ?yc13⟩) (by assumption) ?rc13
              case yc13 => (intro w' hSw; (try dsimp only at hSw); go_simp; try with_reducible rfl)
              try simp only [Act.put, List.setIfInBounds_toArray, List.set_cons_zero, List.set_cons_succ]
              refine wpAnyH_take (i := 14) (oi := { dst := some 132, op := Op.load 59 (Operand.tmp 131), type := 59, pos := "sha.go:64", after := #[{ on := 13, ground := Ground.data }], guard := none }) (v := ?vc14) rfl (by kernel_rfl) (by kernel_rfl) (by kernel_rfl) (fun _ _ _ h => h) (Or.inl ⟨by rfl, ?yc14⟩) (by assumption) ?rc14
              case yc14 => (intro w' hSw; (try dsimp only at hSw); go_simp; try with_reducible rfl)
              try simp only [Act.put, List.setIfInBounds_toArray, List.set_cons_zero, List.set_cons_succ]
              refine wpAnyH_take (i := 15) (oi := { dst := some 133, op := Op.binOp BinOp.and 59 (Operand.tmp 130) (Operand.tmp 132) 59, type := 59, pos := "sha.go:64", after := #[{ on := 12, ground := Ground.data }, { on := 14, ground := Ground.data }], guard := none }) (v := ?vc15) rfl (by kernel_rfl) (by kernel_rfl) (by kernel_rfl) (fun _ _ _ h => h) (Or.inl ⟨by rfl, ?yc15⟩) (by assumption) ?rc15
              case yc15 => (intro w' hSw; (try dsimp only at hSw); go_simp; try with_reducible rfl)
              try simp only [Act.put, List.setIfInBounds_toArray, List.set_cons_zero, List.set_cons_succ]
              refine wpAnyH_take (i := 16) (oi := { dst := some 134, op := Op.binOp BinOp.xor 59 (Operand.tmp 128) (Operand.tmp 133) 59, type := 59, pos := "sha.go:64", after := #[{ on := 10, ground := Ground.data }, { on := 15, ground := Ground.data }], guard := none }) (v := ?vc16) rfl (by kernel_rfl) (by kernel_rfl) (by kernel_rfl) (fun _ _ _ h => h) (Or.inl ⟨by rfl, ?yc16⟩) (by assumption) ?rc16
              case yc16 => (intro w' hSw; (try dsimp only at hSw); go_simp; try with_reducible rfl)
              try simp only [Act.put, List.setIfInBounds_toArray, List.set_cons_zero, List.set_cons_succ]
              refine wpAnyH_ready (rs := [1]) (by kernel_rfl) (by simp) ?_
              refine AllReadyH.cons (o := { dst := some 119, op := Op.call { callee := Callee.value (Operand.func 42), args := #[Operand.tmp 118, Operand.const (Value.int IntKind.i64 2), Operand.const (Value.int IntKind.i64 13), Operand.const (Value.int IntKind.i64 22)], argTypes := #[59, 3, 3, 3] }, type := 59, pos := "sha.go:64", after := #[{ on := 0, ground := Ground.data }], guard := none }) rfl (fun K hK => ?_) AllReadyH.nil
              go_simp
              refine (T2.out _).mono ?_
              rintro e w6 ⟨rfl, rfl⟩
              go_wp2_with fail
              refine hK.out _ _ (⟨x1, x2⟩) (fun hHeldc1 => ?_)
              clear hK K hHeld
              try simp only [Act.put, List.setIfInBounds_toArray, List.set_cons_zero, List.set_cons_succ]
              refine wpAnyH_take (i := 17) (oi := { dst := some 135, op := Op.binOp BinOp.add 59 (Operand.tmp 119) (Operand.tmp 134) 59, type := 59, pos := "sha.go:64", after := #[{ on := 1, ground := Ground.data }, { on := 16, ground := Ground.data }], guard := none }) (v := ?vc17) rfl (by kernel_rfl) (by kernel_rfl) (by kernel_rfl) (fun _ _ _ h => h) (Or.inl ⟨by rfl, ?yc17⟩) (by assumption) ?rc17
              case yc17 => (intro w' hSw; (try dsimp only at hSw); go_simp; try with_reducible rfl)
              try simp only [Act.put, List.setIfInBounds_toArray, List.set_cons_zero, List.set_cons_succ]
              refine wpAnyH_take (i := 18) (oi := { dst := some 14, op := Op.assign (Operand.tmp 135), type := 59, pos := "sha.go:64", after := #[{ on := 17, ground := Ground.data }, { on := 1, ground := Ground.chain }, { on := 0, ground := Ground.phase }, { on := 1, ground := Ground.phase }, { on := 2, ground := Ground.phase }, { on := 3, ground := Ground.phase }, { on := 4, ground := Ground.phase }, { on := 5, ground := Ground.phase }, { on := 6, ground := Ground.phase }, { on := 7, ground := Ground.phase }, { on := 8, ground := Ground.phase }, { on := 9, ground := Ground.phase }, { on := 10, ground := Ground.phase }, { on := 11, ground := Ground.phase }, { on := 12, ground := Ground.phase }, { on := 13, ground := Ground.phase }, { on := 14, ground := Ground.phase }, { on := 15, ground := Ground.phase }, { on := 16, ground := Ground.phase }, { on := 17, ground := Ground.phase }], guard := none }) (v := ?vc18) rfl (by kernel_rfl) (by kernel_rfl) (by kernel_rfl) (fun _ _ _ h => h) (Or.inl ⟨by rfl, ?yc18⟩) (by assumption) ?rc18
              case yc18 => (intro w' hSw; (try dsimp only at hSw); go_simp; try with_reducible rfl)
              try simp only [Act.put, List.setIfInBounds_toArray, List.set_cons_zero, List.set_cons_succ]
              refine wpAnyH_done (by kernel_rfl) ?_ _
              go_wp2_with fail
              go_roundw
              case rel =>
                have hVX : X ≤ V := Nat.le_of_lt HXV.out
                have h1 := put8_blk (x0 := .int .u32 (q1 : Int)) (x1 := .int .u32 (ra : Int)) (x2 := .int .u32 (rb : Int)) (x3 := .int .u32 (rc : Int)) (x4 := .int .u32 (q2 : Int)) (x5 := .int .u32 (re : Int)) (x6 := .int .u32 (rf : Int)) (x7 := .int .u32 (rg : Int)) hb.out
                have h2 := put8_far (V := V) (x0 := .int .u32 (q1 : Int)) (x1 := .int .u32 (ra : Int)) (x2 := .int .u32 (rb : Int)) (x3 := .int .u32 (rc : Int)) (x4 := .int .u32 (q2 : Int)) (x5 := .int .u32 (re : Int)) (x6 := .int .u32 (rf : Int)) (x7 := .int .u32 (rg : Int)) hx.out (by have := HXV.out; omega)
                have h3 := put8_below (x0 := .int .u32 (q1 : Int)) (x1 := .int .u32 (ra : Int)) (x2 := .int .u32 (rb : Int)) (x3 := .int .u32 (rc : Int)) (x4 := .int .u32 (q2 : Int)) (x5 := .int .u32 (re : Int)) (x6 := .int .u32 (rf : Int)) (x7 := .int .u32 (rg : Int)) hB.out hVX
                refine ⟨i + 1, by go_num, hlt, Lib.hid ?_, Lib.hid ?_, Lib.hid ?_⟩
                · rw [HRN4.out]; unfold put8 at h1; exact h1.drew3
                · unfold put8 at h2; exact h2.drew3
                · unfold put8 at h3; exact h3.drew.drew.drew
              case measure => simp [intOf]; omega
            · obtain rfl : i = 64 := by omega
              rw [show ((64 : Nat) : Int) = 64 from rfl]
              have hH : Blk wr H 60 s.cells := (hB.out.block H (by rw [HXX.out]; exact HH.out.lt)).trans HH.out
              have HT : Hid (Touch w wr H none) := Lib.hid (Touch.of_below (by have h := hB.out; rw [HXX.out] at h; exact h))
              have HHV : Hid (H < V) := Lib.hid (by have h1 := HXV.out; have h2 := HH.out.lt; have h3 := HXX.out; omega)
              have HE : Hid (blockF s ks m = plus8 s (rounds s ks ww 64)) := Lib.hid (by rw [HWE.out]; rfl)
              obtain ⟨r, hr⟩ : ∃ r, r = rounds s ks ww 64 := ⟨_, rfl⟩
              rw [← hr] at hb HE
              clear hr hx hB hi hlt
              rw [← mix_none (plus8 s r) s] at hH
              have hH := Lib.hid hH
              go_wp2_with fail
              go_loopw [157] (fun s157 wr => ∃ i : Nat, s157 = .int .i64 i ∧ i ≤ 8 ∧ Hid (Blk wr H 60 (arr 8 (mix (plus8 s r) s i))) ∧ Hid (Blk wr V 60 r.cells) ∧ Hid (Touch w wr H none)) (fun s157 _ => 8 - (intOf s157).toNat)
              case atStart => exact ⟨0, rfl, by omega, hH, hb, HT⟩
              case round =>
                clear HT hH hb
                obtain ⟨i, rfl, hi, hh, hv, hT⟩ := hrel
                have i0 : (0 : Int) ≤ (i : Int) := Int.natCast_nonneg _
                by_cases hlt : i < 8
                · have i1 : (i : Int) < 8 := by omega
                  have x0 : wr.cell? ⟨H, i, none⟩ = some (.int .u32 (at0 s.list i : Int)) := by rw [hh.out.cell, mix_at _ _ _ hlt]
                  have x1 : wr.cell? ⟨V, i, none⟩ = some (.int .u32 (at0 r.list i : Int)) := by rw [hv.out.cell, cells_at _ _ hlt]
                  have HMS := Lib.hid (mix_set (plus8 s r) s i hlt)
                  have hpl := plus_at s r i hlt
                  have HF := hh.out.frozen i
                  have HF2 : wr.drew.frozen? ⟨H, i, none⟩ = false := HF
                  generalize at0 s.list i = a at *
                  generalize at0 r.list i = b at *
                  generalize at0 (plus8 s r).list i = z at *
                  have y1 : IntKind.u32.wrap ((a : Int) + (b : Int)) = (z : Int) := by rw [u32_add, hpl]
                  have x0' : wr.drew.cell? ⟨H, i, none⟩ = some (.int .u32 (a : Int)) := x0
                  have x1' : wr.drew.cell? ⟨V, i, none⟩ = some (.int .u32 (b : Int)) := x1
                  clear hpl
                  go_upto_region 22 with fail
                  go_still_tail 11, (by kernel_rfl)
                  change wpList _ _ _ _ _ wr.drew
                  have HH2 := Lib.hid ((hh.out.set_ i (.int .u32 (z : Int))))
                  have HTT := Lib.hid (hT.out.drew.set_ i (.int .u32 (z : Int)))
                  have HVV : Hid (Blk (wr.setCell ⟨H, i, none⟩ (.int .u32 (z : Int))) V 60 r.cells) := Lib.hid (hv.out.far (p := ⟨H, i, none⟩) (by have := HHV.out; show V ≠ H; omega) _)
                  go_wp2_with fail
                  go_roundw
                  case rel =>
                    refine ⟨i + 1, by go_num, hlt, Lib.hid ?_, Lib.hid ?_, Lib.hid ?_⟩
                    · rw [← HMS.out]; exact Blk.of_heap HH2.out rfl
                    · exact Blk.of_heap HVV.out rfl
                    · exact HTT.out
                  case measure => simp [intOf]; omega
                · obtain rfl : i = 8 := by omega
                  go_wp2_with fail
                  refine bodyPost_end (results_none (fn := Try.f30) rfl _ _ _) rfl ?_
                  refine ⟨rfl, ?_, hT.out⟩
                  rw [HE.out, ← mix_all (plus8 s r) s]; exact hh.out
end Go.Proofs.Ytpkikibcfkdodaa
