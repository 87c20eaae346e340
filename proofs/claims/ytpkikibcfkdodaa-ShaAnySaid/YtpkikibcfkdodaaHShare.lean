/-
  sha: how many digits two names share; how few tell one from all others.
-/
import Derived.Test.YtpkikibcfkdodaaHDig
import Derived.Deep.RegionHeld3
namespace Go.Proofs.Ytpkikibcfkdodaa
open Go Go.RowKit
attribute [-go_sem] loadCells run_index_string
/-- From digit i on, k more: where the two part. -/
def shr (a b : List UInt8) : Nat → Nat → Nat
  | i, 0 => i
  | i, k + 1 => if nib a i = nib b i then shr a b (i + 1) k else i
def share (a b : List UInt8) : Nat := shr a b 0 64
theorem shr_same (a : List UInt8) : ∀ k i, shr a a i k = i + k
  | 0, i => rfl
  | k + 1, i => by rw [shr, if_pos rfl, shr_same a k (i + 1)]; omega
theorem share_same (a : List UInt8) : share a a = 64 := shr_same a 64 0
theorem shr_le (a b : List UInt8) : ∀ k i, shr a b i k ≤ i + k
  | 0, i => Nat.le_refl _
  | k + 1, i => by
    rw [shr]; split
    · have := shr_le a b k (i + 1); omega
    · omega
theorem share_le (a b : List UInt8) : share a b ≤ 64 := by have := shr_le a b 64 0; unfold share; omega
/-- Two names, each in a block of its own. -/
structure Both2 (w0 w : World) (I J : Nat) (ca cb : List Value) : Prop where
  i : Blk w I 25 ca.toArray
  j : Blk w J 25 cb.toArray
  bel : Below w0.heap.size w0 w
theorem Both2.below {w0 w w' : World} {I J : Nat} {ca cb : List Value} (h : Both2 w0 w I J ca cb) (hb : Below w.heap.size w w') : Both2 w0 w' I J ca cb :=
  ⟨h.i.below hb h.i.lt, h.j.below hb h.j.lt, h.bel.trans (hb.mono h.bel.size)⟩
theorem Both2.drew {w0 w : World} {I J : Nat} {ca cb : List Value} (h : Both2 w0 w I J ca cb) : Both2 w0 w.drew I J ca cb := ⟨h.i, h.j, below_drewN h.bel 1⟩
theorem Both2.ld {w0 w : World} {I J : Nat} {ca cb : List Value} (h : Both2 w0 w I J ca cb) (ha : ca.length = 32) (hb : cb.length = 32) :
    (loadCells ⟨I, 0, none⟩ 32).run Try.prog w = .ok ca.toArray w ∧ (loadCells ⟨J, 0, none⟩ 32).run Try.prog w = .ok cb.toArray w := ⟨ld_blk h.i (by simpa using ha), ld_blk h.j (by simpa using hb)⟩
set_option maxHeartbeats 4000000 in
theorem shared_any (w : World) (a b : List UInt8) (ha : a.length = 32) (hb : b.length = 32) :
    Calls Try.prog 13 #[.agg (bc a).toArray, .agg (bc b).toArray] w fun e w' => e = .returned (.int .i64 (share a b)) ∧ Below w.heap.size w w' := by
  obtain ⟨ca, hca⟩ : ∃ cs, cs = bc a := ⟨_, rfl⟩
  obtain ⟨cb, hcb⟩ : ∃ cs, cs = bc b := ⟨_, rfl⟩
  have hza : ca.length = 32 := by rw [hca, bc_len, ha]
  have hzb : cb.length = 32 := by rw [hcb, bc_len, hb]
  have DA : Hid (∀ (W : World) (i : Nat), i < 64 → Calls Try.prog 34 #[.agg ca.toArray, .int .i64 i] W (fun e w' => e = .returned (.int .u8 (nib a i)) ∧ Below W.heap.size W w')) := Lib.hid (by rw [hca]; exact fun W i hi => digit_any W a i ha hi)
  have DB : Hid (∀ (W : World) (i : Nat), i < 64 → Calls Try.prog 34 #[.agg cb.toArray, .int .i64 i] W (fun e w' => e = .returned (.int .u8 (nib b i)) ∧ Below W.heap.size W w')) := Lib.hid (by rw [hcb]; exact fun W i hi => digit_any W b i hb hi)
  rw [← hca, ← hcb]
  have HZA := Lib.hid hza
  have HZB := Lib.hid hzb
  clear hca hcb ha hb hza hzb
  go_enter Try.func13, Try.ntmps13
  go_upto_region 1 with fail
  have I0 : Blk ((w.alloc (.cells ca.toArray 25)).alloc (.cells cb.toArray 25)) w.heap.size 25 ca.toArray := (Blk.new w 25 ca.toArray).alloc _
  have J0 : Blk ((w.alloc (.cells ca.toArray 25)).alloc (.cells cb.toArray 25)) (w.heap.size + 1) 25 cb.toArray := by
    have := Blk.new (w.alloc (.cells ca.toArray 25)) 25 cb.toArray
    rwa [World.size_alloc] at this
  have B0 := ((Below.refl w.heap.size w).alloc (Nat.le_refl _) (.cells ca.toArray 25)).alloc (by simp) (.cells cb.toArray 25)
  obtain ⟨I, hI⟩ : ∃ I, I = w.heap.size := ⟨_, rfl⟩
  obtain ⟨J, hJ⟩ : ∃ J, J = w.heap.size + 1 := ⟨_, rfl⟩
  obtain ⟨W, hW⟩ : ∃ W, W = (w.alloc (.cells ca.toArray 25)).alloc (.cells cb.toArray 25) := ⟨_, rfl⟩
  rw [← hI, ← hW] at I0
  rw [← hJ, ← hW] at J0
  rw [← hW] at B0
  rw [← hJ, ← hW, ← hI]
  have T : Hid (Both2 w W I J ca cb) := Lib.hid ⟨I0, J0, B0⟩
  clear hI hJ hW I0 J0 B0
  go_wp2_with fail
  go_loopw [6] (fun s6 wr => ∃ i : Nat, s6 = .int .i64 i ∧ i ≤ 64 ∧ Hid (shr a b i (64 - i) = share a b) ∧ Hid (Both2 w wr I J ca cb)) (fun s6 _ => 64 - (intOf s6).toNat)
  case atStart => exact ⟨0, rfl, by omega, Lib.hid rfl, T⟩
  case round =>
    clear T
    obtain ⟨i, rfl, hi, hsh, hT⟩ := hrel
    have i0 : (0 : Int) ≤ (i : Int) := Int.natCast_nonneg _
    by_cases hlt : i < 64
    · have i1 : (i : Int) < 64 := by omega
      have HLT := Lib.hid hlt
      have T0 := Lib.hid hT.out.drew
      have S0 := T0.out.ld HZA.out HZB.out
      have hstep : shr a b i (64 - i) = if nib a i = nib b i then shr a b (i + 1) (64 - (i + 1)) else i := by
        rw [show 64 - i = (64 - (i + 1)) + 1 by omega, shr]
      have HST := Lib.hid hstep
      obtain ⟨x, hx⟩ : ∃ x, x = nib a i := ⟨_, rfl⟩
      obtain ⟨y, hy⟩ : ∃ x, x = nib b i := ⟨_, rfl⟩
      have D1 : Hid (∀ W : World, Calls Try.prog 34 #[.agg ca.toArray, .int .i64 i] W (fun e w' => e = .returned (.int .u8 (x : Int)) ∧ Below W.heap.size W w')) := Lib.hid (by rw [hx]; exact fun W => DA.out W i hlt)
      have D2 : Hid (∀ W : World, Calls Try.prog 34 #[.agg cb.toArray, .int .i64 i] W (fun e w' => e = .returned (.int .u8 (y : Int)) ∧ Below W.heap.size W w')) := Lib.hid (by rw [hy]; exact fun W => DB.out W i hlt)
      have HX := Lib.hid hx
      have HY := Lib.hid hy
      clear hlt hstep hx hy
      go_upto_region 4 with fail
      refine wp_region_held_drew (S := fun w' => (loadCells ⟨I, 0, none⟩ 32).run Try.prog w' = .ok ca.toArray w' ∧ (loadCells ⟨J, 0, none⟩ 32).run Try.prog w' = .ok cb.toArray w') (by kernel_rfl) (S0) (fun hHeld => ?_)
      refine wpAnyH_take (i := 0) (oi := { dst := some 9, op := Op.load 25 (Operand.tmp 2), type := 25, pos := "sha.go:149", after := #[], guard := none }) (v := ?vs0) rfl (by kernel_rfl) (by kernel_rfl) (by kernel_rfl) (fun _ _ _ h => h) (Or.inl ⟨by rfl, ?ys0⟩) (by assumption) ?rs0
      case ys0 => (intro w' hSw; (try dsimp only at hSw); go_simp; try with_reducible rfl)
      try simp only [Act.put, List.setIfInBounds_toArray, List.set_cons_zero, List.set_cons_succ]
      refine wpAnyH_take (i := 1) (oi := { dst := some 10, op := Op.move (Operand.tmp 5), type := 3, pos := "sha.go:149", after := #[], guard := none }) (v := ?vs1) rfl (by kernel_rfl) (by kernel_rfl) (by kernel_rfl) (fun _ _ _ h => h) (Or.inl ⟨by rfl, ?ys1⟩) (by assumption) ?rs1
      case ys1 => (intro w' hSw; (try dsimp only at hSw); go_simp; try with_reducible rfl)
      try simp only [Act.put, List.setIfInBounds_toArray, List.set_cons_zero, List.set_cons_succ]
      refine wpAnyH_take (i := 3) (oi := { dst := some 12, op := Op.load 25 (Operand.tmp 3), type := 25, pos := "sha.go:149", after := #[], guard := none }) (v := ?vs3) rfl (by kernel_rfl) (by kernel_rfl) (by kernel_rfl) (fun _ _ _ h => h) (Or.inl ⟨by rfl, ?ys3⟩) (by assumption) ?rs3
      case ys3 => (intro w' hSw; (try dsimp only at hSw); go_simp; try with_reducible rfl)
      try simp only [Act.put, List.setIfInBounds_toArray, List.set_cons_zero, List.set_cons_succ]
      refine wpAnyH_take (i := 4) (oi := { dst := some 13, op := Op.move (Operand.tmp 5), type := 3, pos := "sha.go:149", after := #[], guard := none }) (v := ?vs4) rfl (by kernel_rfl) (by kernel_rfl) (by kernel_rfl) (fun _ _ _ h => h) (Or.inl ⟨by rfl, ?ys4⟩) (by assumption) ?rs4
      case ys4 => (intro w' hSw; (try dsimp only at hSw); go_simp; try with_reducible rfl)
      try simp only [Act.put, List.setIfInBounds_toArray, List.set_cons_zero, List.set_cons_succ]
      refine wpAnyH_ready (rs := [2]) (by kernel_rfl) (by simp) ?_
      refine AllReadyH.cons (o := { dst := some 11, op := Op.call { callee := Callee.value (Operand.func 34), args := #[Operand.tmp 9, Operand.tmp 10], argTypes := #[25, 3] }, type := 5, pos := "sha.go:149", after := #[{ on := 0, ground := Ground.data }, { on := 1, ground := Ground.data }], guard := none }) rfl (fun K hK => ?_) AllReadyH.nil
      go_simp
      go_at_call 34
      refine (D1.out _).mono ?_
      rintro e w1 ⟨rfl, hb1⟩
      have T1 := Lib.hid (T0.out.below hb1)
      go_wp2_with fail
      refine hK.out _ _ (T1.out.ld HZA.out HZB.out) (fun hHelds2 => ?_)
      clear hK K hHeld
      try simp only [Act.put, List.setIfInBounds_toArray, List.set_cons_zero, List.set_cons_succ]
      refine wpAnyH_ready (rs := [5]) (by kernel_rfl) (by simp) ?_
      refine AllReadyH.cons (o := { dst := some 14, op := Op.call { callee := Callee.value (Operand.func 34), args := #[Operand.tmp 12, Operand.tmp 13], argTypes := #[25, 3] }, type := 5, pos := "sha.go:149", after := #[{ on := 3, ground := Ground.data }, { on := 4, ground := Ground.data }, { on := 2, ground := Ground.chain }], guard := none }) rfl (fun K hK => ?_) AllReadyH.nil
      go_simp
      go_at_call 34
      refine (D2.out _).mono ?_
      rintro e w2 ⟨rfl, hb2⟩
      have T2 := Lib.hid (T1.out.below hb2)
      go_wp2_with fail
      refine hK.out _ _ (T2.out.ld HZA.out HZB.out) (fun hHelds5 => ?_)
      clear hK K hHelds2
      try simp only [Act.put, List.setIfInBounds_toArray, List.set_cons_zero, List.set_cons_succ]
      refine wpAnyH_take (i := 6) (oi := { dst := some 15, op := Op.binOp BinOp.neq 5 (Operand.tmp 11) (Operand.tmp 14) 5, type := 4, pos := "sha.go:149", after := #[{ on := 2, ground := Ground.data }, { on := 5, ground := Ground.data }], guard := none }) (v := ?vs6) rfl (by kernel_rfl) (by kernel_rfl) (by kernel_rfl) (fun _ _ _ h => h) (Or.inl ⟨by rfl, ?ys6⟩) (by assumption) ?rs6
      case ys6 => (intro w' hSw; (try dsimp only at hSw); go_simp; try with_reducible rfl)
      try simp only [Act.put, List.setIfInBounds_toArray, List.set_cons_zero, List.set_cons_succ]
      refine wpAnyH_done (by kernel_rfl) ?_ _
      clear S0 T0 hb1 T1 hb2
      by_cases hxy : x = y
      · have hne : ((x : Int) != (y : Int)) = false := by subst hxy; simp
        have HSH : Hid (shr a b (i + 1) (64 - (i + 1)) = share a b) := Lib.hid (by rw [← hsh.out, HST.out, if_pos (by rw [← HX.out, ← HY.out]; exact hxy)])
        clear hxy
        go_wp2_with fail
        go_roundw
        case rel => exact ⟨i + 1, by go_num, HLT.out, HSH, T2⟩
        case measure => have := HLT.out; simp [intOf]; omega
      · have hne : ((x : Int) != (y : Int)) = true := by simpa using (by omega : ¬ (x : Int) = y)
        have HSH : Hid (share a b = i) := Lib.hid (by rw [← hsh.out, HST.out, if_neg (by rw [← HX.out, ← HY.out]; exact hxy)])
        clear hxy
        go_wp2_with fail
        go_ret
        exact ⟨by rw [HSH.out]; rfl, T2.out.bel⟩
    · obtain rfl : i = 64 := by omega
      have HSH : Hid (share a b = 64) := Lib.hid (by rw [← hsh.out]; rfl)
      go_wp2_with fail
      go_ret
      exact ⟨by rw [HSH.out]; rfl, hT.out.bel⟩
end Go.Proofs.Ytpkikibcfkdodaa
