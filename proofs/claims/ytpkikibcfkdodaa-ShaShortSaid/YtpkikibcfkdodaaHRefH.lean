/-
  The document's: how many digits two names share.
-/
import Derived.Test.YtpkikibcfkdodaaHRefS
namespace Go.Proofs.Ytpkikibcfkdodaa
open Go Go.RowKit
attribute [-go_sem] loadCells storeCells run_index_string run_string_add_if Instr.buildSlice
theorem hexc_inj : ∀ a b : Fin 16, hexc a.val = hexc b.val → a = b := by decide +kernel
theorem hexc_eq {a b : Nat} (ha : a < 16) (hb : b < 16) (h : hexc a = hexc b) : a = b := by
  have := hexc_inj ⟨a, ha⟩ ⟨b, hb⟩ h
  exact congrArg Fin.val this
theorem run_hexB (w : World) (l : List UInt8) {i : Nat} (h : i < 64) : (Instr.index 9 (.string (ba (hexOf l))) (.int .i64 (i : Int))).run Try.prog w = .ok (.int .u8 ((hexc (nib l i)).toNat : Int)) w := run_hexS w l h
set_option maxRecDepth 100000 in
set_option maxHeartbeats 8000000 in
theorem rshared_any (w : World) (a b : List UInt8) (ha : a.length = 32) (hb : b.length = 32) :
    Calls Try.prog 14 #[.agg (bc a).toArray, .agg (bc b).toArray] w fun e w' => e = .returned (.int .i64 (share a b)) ∧ Below w.heap.size w w' := by
  obtain ⟨ca, hca⟩ : ∃ cs, cs = bc a := ⟨_, rfl⟩
  obtain ⟨cb, hcb⟩ : ∃ cs, cs = bc b := ⟨_, rfl⟩
  have hza : ca.toArray.size = 32 := by rw [hca]; simp [Lib.byteCells, ha]
  have hzb : cb.toArray.size = 32 := by rw [hcb]; simp [Lib.byteCells, hb]
  have DA : Hid (∀ (W : World), Calls Try.prog 12 #[.agg ca.toArray] W (fun e w' => e = .returned (.string (ba (hexOf a))) ∧ Below W.heap.size W w')) := Lib.hid (by rw [hca]; exact fun W => rstring_any W a ha)
  have DB : Hid (∀ (W : World), Calls Try.prog 12 #[.agg cb.toArray] W (fun e w' => e = .returned (.string (ba (hexOf b))) ∧ Below W.heap.size W w')) := Lib.hid (by rw [hcb]; exact fun W => rstring_any W b hb)
  rw [← hca, ← hcb]
  clear hca hcb ha hb
  go_enter Try.func14, Try.ntmps14
  go_upto_region 1 with fail
  have I0 : Blk ((w.alloc (.cells ca.toArray 32)).alloc (.cells cb.toArray 32)) w.heap.size 32 ca.toArray := (Blk.new w 32 ca.toArray).alloc _
  have J0 : Blk ((w.alloc (.cells ca.toArray 32)).alloc (.cells cb.toArray 32)) (w.heap.size + 1) 32 cb.toArray := by
    have := Blk.new (w.alloc (.cells ca.toArray 32)) 32 cb.toArray
    rwa [World.size_alloc] at this
  have B0 := ((Below.refl w.heap.size w).alloc (Nat.le_refl _) (.cells ca.toArray 32)).alloc (by simp) (.cells cb.toArray 32)
  obtain ⟨I, hI⟩ : ∃ I, I = w.heap.size := ⟨_, rfl⟩
  obtain ⟨J, hJ⟩ : ∃ J, J = w.heap.size + 1 := ⟨_, rfl⟩
  obtain ⟨W, hW⟩ : ∃ W, W = (w.alloc (.cells ca.toArray 32)).alloc (.cells cb.toArray 32) := ⟨_, rfl⟩
  rw [← hI, ← hW] at I0
  rw [← hJ, ← hW] at J0
  rw [← hW] at B0
  rw [← hJ, ← hW, ← hI]
  have J1 := Lib.hid J0
  have B1 := Lib.hid B0
  have hl0 := ld_blk I0 hza
  clear hI hJ hW I0 J0 B0
  go_upto_region 3 with (first
    | (go_at_call 12; (with_reducible refine (DA.out _).mono ?_); rintro e w2 ⟨rfl, hb2⟩; have hl2 := ld_blk (J1.out.below hb2 J1.out.lt) hzb; have B2 := Lib.hid (B1.out.trans (hb2.mono B1.out.size)); clear hb2)
    | (go_at_call 12; (with_reducible refine (DB.out _).mono ?_); rintro e w3 ⟨rfl, hb3⟩; have B3 := Lib.hid (B2.out.trans (hb3.mono B2.out.size)); clear hb3))
  clear hl0 hl2 B1 B2 J1
  have HXA := Lib.hid fun (W : World) (i : Nat) (h : i < 64) => run_hexB W a h
  have HXB := Lib.hid fun (W : World) (i : Nat) (h : i < 64) => run_hexB W b h
  generalize ba (hexOf a) = SA at *
  generalize ba (hexOf b) = SB at *
  go_wp2_with fail
  go_loopw [7] (fun s7 wr => ∃ i : Nat, s7 = .int .i64 i ∧ i ≤ 64 ∧ Hid (shr a b i (64 - i) = share a b) ∧ Hid (Below w.heap.size w wr)) (fun s7 _ => 64 - (intOf s7).toNat)
  case atStart => exact ⟨0, rfl, by omega, Lib.hid rfl, B3⟩
  case round =>
    clear B3
    obtain ⟨i, rfl, hi, hsh, hB⟩ := hrel
    have i0 : (0 : Int) ≤ (i : Int) := Int.natCast_nonneg _
    by_cases hlt : i < 64
    · have i1 : (i : Int) < 64 := by omega
      have hd : decide ((i : Int) < 64) = true := by simpa using i1
      have HLT := Lib.hid hlt
      have hstep : shr a b i (64 - i) = if nib a i = nib b i then shr a b (i + 1) (64 - (i + 1)) else i := by
        rw [show 64 - i = (64 - (i + 1)) + 1 by omega, shr]
      have HST := Lib.hid hstep
      have ha := fun W => HXA.out W i hlt
      have hb := fun W => HXB.out W i hlt
      have hx2 := nib_lt a i
      have hy2 := nib_lt b i
      by_cases hxy : nib a i = nib b i
      · have HSH : Hid (shr a b (i + 1) (64 - (i + 1)) = share a b) := Lib.hid (by rw [← hsh.out, HST.out, if_pos hxy])
        rw [hxy] at ha
        generalize hexc (nib b i) = x at *
        clear hlt hstep hxy hx2 hy2
        go_wp2_with fail
        go_quiet (fail)
        have hB2 := Lib.hid (below_drewN hB.out nq)
        go_wp2_with fail
        go_roundw
        case rel => exact ⟨i + 1, by go_num, HLT.out, HSH, hB2⟩
        case measure => have := HLT.out; simp [intOf]; omega
      · have HSH : Hid (share a b = i) := Lib.hid (by rw [← hsh.out, HST.out, if_neg hxy])
        have hne : ((((hexc (nib a i)).toNat : Nat) : Int) == ((hexc (nib b i)).toNat : Int)) = false := by
          rw [beq_eq_false_iff_ne]
          intro h
          exact hxy (hexc_eq hx2 hy2 (UInt8.toNat_inj.1 (by omega)))
        generalize hexc (nib a i) = x at *
        generalize hexc (nib b i) = y at *
        clear hlt hstep hxy hx2 hy2
        go_wp2_with fail
        go_quiet (fail)
        have hB2 := Lib.hid (below_drewN hB.out nq)
        go_wp2_with fail
        go_ret
        exact ⟨by rw [HSH.out]; rfl, hB2.out⟩
    · obtain rfl : i = 64 := by omega
      have HSH : Hid (share a b = 64) := Lib.hid (by rw [← hsh.out]; rfl)
      clear hi hlt
      go_wp2_with fail
      go_quiet (fail)
      have hB2 := Lib.hid (below_drewN hB.out nq)
      go_wp2_with fail
      go_ret
      exact ⟨by rw [HSH.out]; rfl, hB2.out⟩
end Go.Proofs.Ytpkikibcfkdodaa
