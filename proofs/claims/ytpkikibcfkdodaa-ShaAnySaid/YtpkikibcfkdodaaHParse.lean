/-
  sha.Parse: a name's digits, and a text that is too short.
-/
import Derived.Test.YtpkikibcfkdodaaHShort
namespace Go.Proofs.Ytpkikibcfkdodaa
open Go Go.RowKit
attribute [-go_sem] loadCells run_index_string
set_option maxHeartbeats 4000000 in
theorem fault_any (w : World) (n k : Int) : Calls Try.prog 32 #[.int .i64 n, .int .i64 k] w fun e w' => ∃ v, e = .returned (.iface 85 v) ∧ Below w.heap.size w w' := by
  go_enter Try.func32, Try.ntmps32
  go_wp2_with fail
  go_ret
  exact ⟨_, rfl, (Below.refl w.heap.size w).alloc (Nat.le_refl _) _⟩
theorem hex_small {d : Nat} (h : d < 10) : ((hexc d).toNat : Int) = 48 + d := by
  unfold hexc; rw [if_pos h, UInt8.toNat_ofNat']; omega
theorem hex_big {d : Nat} (h : ¬ d < 10) (h2 : d < 16) : ((hexc d).toNat : Int) = 87 + d := by
  unfold hexc; rw [if_neg h, UInt8.toNat_ofNat']; omega
set_option maxHeartbeats 4000000 in
theorem value_any (w : World) (d : Nat) (hd : d < 16) : Calls Try.prog 33 #[.int .u8 ((hexc d).toNat : Int)] w fun e w' => e = .returned (.tuple #[.int .u8 (d : Int), .bool true]) ∧ w = w' := by
  have d0 : (0 : Int) ≤ (d : Int) := Int.natCast_nonneg _
  by_cases h : d < 10
  · rw [hex_small h]
    have d1 : (d : Int) < 10 := by omega
    obtain ⟨c, hc⟩ : ∃ c : Int, c = 48 + (d : Int) := ⟨_, rfl⟩
    rw [← hc]
    have c0 : decide ((48 : Int) ≤ c) = true := by simp; omega
    have c1 : decide (c ≤ (57 : Int)) = true := by simp; omega
    have c2 : IntKind.u8.wrap (c - 48) = (d : Int) := by rw [IntKind.wrap_u8]; omega
    clear hc h hd d1
    go_enter Try.func33, Try.ntmps33
    go_wp2_with fail
    go_ret2
    exact ⟨rfl, rfl⟩
  · rw [hex_big h hd]
    have d1 : (10 : Int) ≤ (d : Int) := by omega
    have d2 : (d : Int) < 16 := by omega
    obtain ⟨c, hc⟩ : ∃ c : Int, c = 87 + (d : Int) := ⟨_, rfl⟩
    rw [← hc]
    have c0 : decide ((48 : Int) ≤ c) = true := by simp; omega
    have c1 : decide (c ≤ (57 : Int)) = false := by simp; omega
    have c2 : decide ((97 : Int) ≤ c) = true := by simp; omega
    have c3 : decide (c ≤ (102 : Int)) = true := by simp; omega
    obtain ⟨f, hf⟩ : ∃ f : Int, f = c - 97 := ⟨_, rfl⟩
    have c4 : IntKind.u8.wrap (c - 97) = f := by rw [IntKind.wrap_u8]; omega
    have c5 : IntKind.u8.wrap (f + 10) = (d : Int) := by rw [IntKind.wrap_u8]; omega
    clear hc h hd d1 d2 hf
    go_enter Try.func33, Try.ntmps33
    go_wp2_with fail
    go_ret2
    exact ⟨rfl, rfl⟩
theorem hexS_at (l : List UInt8) {i : Nat} (h : i < 64) : (hexS l).data[i]? = some (hexc (nib l i)) := by
  show (hexOf l).toArray[i]? = _
  rw [List.getElem?_toArray]
  unfold hexOf
  rw [List.getElem?_map, List.getElem?_range h]; rfl
theorem hexS_size (l : List UInt8) : (hexS l).size = 64 := by
  show (hexOf l).toArray.size = 64
  rw [List.size_toArray, hexOf_len]
theorem run_hexS (w : World) (l : List UInt8) {i : Nat} (h : i < 64) : (Instr.index 9 (.string (hexS l)) (.int .i64 (i : Int))).run Try.prog w = .ok (.int .u8 ((hexc (nib l i)).toNat : Int)) w := by
  rw [run_index_string w 9 (hexS l) .i64 i Try.underlying9]
  have h2 := hexS_size l
  obtain ⟨_, e⟩ := Array.getElem?_eq_some_iff.1 (hexS_at l h)
  rw [dif_pos ⟨by omega, by rw [h2]; omega⟩]
  simp only [Int.toNat_natCast]
  show Result.ok (Value.int .u8 (((hexS l).data[i]'_).toNat : Int)) w = _
  rw [e]
def mapR (f : Nat → UInt8) : List UInt8 := (List.range 32).map f
theorem mapR_len (f : Nat → UInt8) : (mapR f).length = 32 := by simp [mapR]
theorem mapR_at (f : Nat → UInt8) {j : Nat} (h : j < 32) : (bc (mapR f))[j]? = some (.int .u8 ((f j).toNat : Int)) := by
  apply bc_at
  unfold mapR
  rw [List.getElem?_map, List.getElem?_range h]; rfl
theorem mapR_set {f g : Nat → UInt8} {p : Nat} (hp : p < 32) (h : ∀ j, j ≠ p → f j = g j) : (bc (mapR f)).toArray.setIfInBounds p (.int .u8 ((g p).toNat : Int)) = (bc (mapR g)).toArray := by
  apply Array.ext_getElem?
  intro j
  have hl : (bc (mapR f)).length = 32 := by rw [bc_len, mapR_len]
  by_cases hj : j = p
  · subst hj
    rw [Array.getElem?_setIfInBounds_self, if_pos (by simpa [hl] using hp), List.getElem?_toArray, mapR_at g hp]
  · rw [Array.getElem?_setIfInBounds_ne (Ne.symm hj), List.getElem?_toArray, List.getElem?_toArray]
    by_cases h32 : j < 32
    · rw [mapR_at f h32, mapR_at g h32, h j hj]
    · rw [List.getElem?_eq_none (by rw [hl]; omega), List.getElem?_eq_none (by rw [bc_len, mapR_len]; omega)]
/-- The byte j, of which the first i digits of all are read. -/
def pN (l : List UInt8) (i j : Nat) : Nat := if 2 * j + 1 < i then byteAt l j else if 2 * j < i then byteAt l j / 16 else 0
theorem pN_lt (l : List UInt8) (i j : Nat) : pN l i j < 256 := by
  have := byteAt_lt l j
  unfold pN; split; · exact this
  split <;> omega
def pB (l : List UInt8) (i j : Nat) : UInt8 := UInt8.ofNat (pN l i j)
theorem pB_nat (l : List UInt8) (i j : Nat) : (pB l i j).toNat = pN l i j := by
  have := pN_lt l i j
  unfold pB; rw [UInt8.toNat_ofNat']; omega
theorem pB_zero (l : List UInt8) : bc (mapR (pB l 0)) = List.replicate 32 (.int .u8 0) := by
  have e : pB l 0 = fun _ => 0 := by
    funext j
    unfold pB pN
    rw [if_neg (by omega), if_neg (by omega)]; rfl
  rw [e]; rfl
theorem pB_all {l : List UInt8} (hl : l.length = 32) : mapR (pB l 64) = l := by
  apply List.ext_getElem?
  intro j
  by_cases hj : j < 32
  · have e1 : (mapR (pB l 64))[j]? = some (pB l 64 j) := by
      unfold mapR; rw [List.getElem?_map, List.getElem?_range hj]; rfl
    have hjl : j < l.length := by omega
    rw [e1, List.getElem?_eq_getElem hjl]
    congr 1
    apply UInt8.toNat_inj.1
    rw [pB_nat]
    unfold pN byteAt
    rw [if_pos (by omega), List.getElem?_eq_getElem hjl]; rfl
  · rw [List.getElem?_eq_none (by rw [mapR_len]; omega), List.getElem?_eq_none (by omega)]
theorem pB_step {l : List UInt8} {i j : Nat} (h : j ≠ i / 2) : pB l i j = pB l (i + 1) j := by
  have e : pN l i j = pN l (i + 1) j := by
    unfold pN
    by_cases h1 : j < i / 2
    · rw [if_pos (by omega), if_pos (by omega)]
    · split
      · omega
      · split
        · omega
        · split
          · omega
          · split
            · omega
            · rfl
  unfold pB; rw [e]
theorem u8_or_lo : ∀ a b : Fin 16, bits .or .u8 (((a.val * 16 : Nat) : Int)) ((b.val : Nat) : Int) = ((a.val * 16 + b.val : Nat) : Int) := by decide +kernel
/-- One digit more, at its byte. -/
theorem pN_or (l : List UInt8) (i : Nat) : ∃ y : Int, IntKind.u8.wrap ((pN l i (i / 2) : Int) * 16) = y ∧ bits .or .u8 y ((nib l i : Nat) : Int) = (pN l (i + 1) (i / 2) : Int) := by
  have hb := byteAt_lt l (i / 2)
  by_cases h : i % 2 = 0
  · have e1 : pN l i (i / 2) = 0 := by unfold pN; rw [if_neg (by omega), if_neg (by omega)]
    have e2 : pN l (i + 1) (i / 2) = byteAt l (i / 2) / 16 := by unfold pN; rw [if_neg (by omega), if_pos (by omega)]
    have e3 : nib l i = byteAt l (i / 2) / 16 := by unfold nib; rw [if_pos h]
    rw [e1, e2, e3]
    refine ⟨0, by decide, ?_⟩
    have := u8_or_lo ⟨0, by decide⟩ ⟨byteAt l (i / 2) / 16, by omega⟩
    simpa using this
  · have e1 : pN l i (i / 2) = byteAt l (i / 2) / 16 := by unfold pN; rw [if_neg (by omega), if_pos (by omega)]
    have e2 : pN l (i + 1) (i / 2) = byteAt l (i / 2) := by unfold pN; rw [if_pos (by omega)]
    have e3 : nib l i = byteAt l (i / 2) % 16 := by unfold nib; rw [if_neg h]
    rw [e1, e2, e3]
    refine ⟨((byteAt l (i / 2) / 16 * 16 : Nat) : Int), by rw [IntKind.wrap_u8]; omega, ?_⟩
    have := u8_or_lo ⟨byteAt l (i / 2) / 16, by omega⟩ ⟨byteAt l (i / 2) % 16, by omega⟩
    rw [this]
    simp only
    omega
structure PrS (w wr : World) (R J : Nat) (l : List UInt8) (i : Nat) : Prop where
  r : Blk wr R 25 (Array.replicate 32 (.int .u8 0))
  j : Blk wr J 25 (bc (mapR (pB l i))).toArray
  bel : Below w.heap.size w wr
set_option maxRecDepth 100000 in
set_option maxHeartbeats 4000000 in
theorem parse_any (w : World) (l : List UInt8) (hl : l.length = 32) : Calls Try.prog 9 #[.string (hexS l)] w fun e w' => e = .returned (.tuple #[.agg (bc l).toArray, .nilIface]) ∧ Below w.heap.size w w' := by
  have hsz := hexS_size l
  have HIX := Lib.hid fun (W : World) (i : Nat) (h : i < 64) => run_hexS W l h
  obtain ⟨S, hS⟩ : ∃ S, S = hexS l := ⟨_, rfl⟩
  rw [← hS] at hsz HIX
  rw [← hS]
  have HL := Lib.hid hl
  clear hl hS
  go_enter Try.func9, Try.ntmps9
  go_upto_region 6 with fail
  have R0 : Blk ((w.alloc (.cells (Array.replicate 32 (.int .u8 0)) 25)).alloc (.cells (Array.replicate 32 (.int .u8 0)) 25)) w.heap.size 25 (Array.replicate 32 (.int .u8 0)) := (Blk.new w 25 _).alloc _
  have J0 : Blk ((w.alloc (.cells (Array.replicate 32 (.int .u8 0)) 25)).alloc (.cells (Array.replicate 32 (.int .u8 0)) 25)) (w.heap.size + 1) 25 (Array.replicate 32 (.int .u8 0)) := by
    have := Blk.new (w.alloc (.cells (Array.replicate 32 (.int .u8 0)) 25)) 25 (Array.replicate 32 (.int .u8 0))
    rwa [World.size_alloc] at this
  have B0 := ((Below.refl w.heap.size w).alloc (Nat.le_refl _) (.cells (Array.replicate 32 (.int .u8 0)) 25)).alloc (by simp) (.cells (Array.replicate 32 (.int .u8 0)) 25)
  show Code.wp Try.prog _ _ _ ((w.alloc (.cells (Array.replicate 32 (.int .u8 0)) 25)).alloc (.cells (Array.replicate 32 (.int .u8 0)) 25))
  obtain ⟨R, hR⟩ : ∃ I, I = w.heap.size := ⟨_, rfl⟩
  obtain ⟨J, hJ⟩ : ∃ J, J = w.heap.size + 1 := ⟨_, rfl⟩
  obtain ⟨W, hW⟩ : ∃ W, W = (w.alloc (.cells (Array.replicate 32 (.int .u8 0)) 25)).alloc (.cells (Array.replicate 32 (.int .u8 0)) 25) := ⟨_, rfl⟩
  rw [← hR, ← hW] at R0
  rw [← hJ, ← hW] at J0
  rw [← hW] at B0
  rw [← hJ, ← hW, ← hR]
  have T0 : Hid (PrS w W R J l 0) := Lib.hid ⟨R0, by rw [pB_zero]; exact J0, B0⟩
  have HLR : Hid (w.heap.size ≤ R ∧ w.heap.size ≤ J ∧ R ≠ J) := Lib.hid (by omega)
  clear hR hJ hW R0 J0 B0
  go_wp2_with fail
  go_loopw [22] (fun s22 wr => ∃ i : Nat, s22 = .int .i64 i ∧ i ≤ 64 ∧ Hid (PrS w wr R J l i)) (fun s22 _ => 64 - (intOf s22).toNat)
  case atStart => exact ⟨0, rfl, by omega, T0⟩
  case round =>
    clear T0
    obtain ⟨i, rfl, hi, hT⟩ := hrel
    have i0 : (0 : Int) ≤ (i : Int) := Int.natCast_nonneg _
    by_cases hlt : i < 64
    · have i1 : (i : Int) < 64 := by omega
      have hix := fun W => HIX.out W i hlt
      have hd := nib_lt l i
      obtain ⟨y, hy1, hy2⟩ := pN_or l i
      obtain ⟨d, hdd⟩ : ∃ d, d = nib l i := ⟨_, rfl⟩
      rw [← hdd] at hix hd hy2
      obtain ⟨q, hq⟩ : ∃ q, q = i / 2 := ⟨_, rfl⟩
      have hqi : (i : Int) / 2 = (q : Int) := by omega
      have hq1 : (q : Int) < 32 := by omega
      have hq0 : (0 : Int) ≤ (q : Int) := Int.natCast_nonneg _
      rw [← hq] at hy1 hy2
      have x0 : wr.cell? ⟨J, q, none⟩ = some (.int .u8 (pN l i q : Int)) := by
        rw [hT.out.j.cell, List.getElem?_toArray, mapR_at _ (by omega), pB_nat]
      have f0 := hT.out.j.frozen q
      have HSET := Lib.hid (mapR_set (f := pB l i) (g := pB l (i + 1)) (p := q) (by omega) (fun j hj => pB_step (by omega)))
      rw [pB_nat] at HSET
      obtain ⟨v, hv⟩ : ∃ v, v = pN l (i + 1) q := ⟨_, rfl⟩
      obtain ⟨u, hu⟩ : ∃ v, v = pN l i q := ⟨_, rfl⟩
      have u0 : (0 : Int) ≤ (u : Int) := Int.natCast_nonneg _
      have u1 : (u : Int) < 256 := by have := pN_lt l i q; omega
      rw [← hv] at HSET hy2
      rw [← hu] at hy1 x0
      have VA := Lib.hid fun W : World => value_any W d hd
      obtain ⟨h, hh⟩ : ∃ h, h = (hexc d).toNat := ⟨_, rfl⟩
      rw [← hh] at hix VA
      have HLT := Lib.hid hlt
      have HQ := Lib.hid hq
      clear hlt hd hdd hq hv hu hh
      go_wp2_with (go_at_call 33; refine (VA.out _).mono ?_; rintro e w3 ⟨rfl, rfl⟩)
      go_roundw
      case rel =>
        obtain ⟨hr1, hr2, hr3⟩ := HLR.out
        exact ⟨i + 1, by go_num, HLT.out, Lib.hid ⟨hT.out.r.far hr3 _, by rw [← HSET.out]; exact hT.out.j.set_ _ _, hT.out.bel.setCell hr2 _⟩⟩
      case measure => have := HLT.out; simp [intOf]; omega
    · obtain rfl : i = 64 := by omega
      have hj := hT.out.j
      rw [pB_all HL.out] at hj
      obtain ⟨cs, hcs⟩ : ∃ cs, cs = bc l := ⟨_, rfl⟩
      rw [← hcs] at hj
      have hcl : cs.length = 32 := by rw [hcs, bc_len, HL.out]
      have hcz : cs.toArray.size = 32 := by simpa using hcl
      have hld := ld_blk hj hcz
      obtain ⟨w5, hw5⟩ : ∃ w5, w5 = wr.setRow R cs.toArray := ⟨_, rfl⟩
      have hst : (storeCells ⟨R, 0, none⟩ cs 0).run Try.prog wr = .ok () w5 := by
        have h := run_storeVar_row (P := Try.prog) wr R 25 25 (Array.replicate 32 (.int .u8 0)) cs.toArray hT.out.r (by rw [hcz]; kernel_rfl) (by simp [hcl]) (by rw [hcs, List.all_toArray, List.all_eq_true]; exact bc_one _)
        have h0 : (Try.prog.info? 25).map (·.size) = some 32 := by kernel_rfl
        cases hq : Try.prog.info? 25 with
        | none => simp [hq] at h0
        | some i0 =>
          have hs : i0.size = 32 := by simp [hq] at h0; omega
          rw [hw5]
          simpa [storeVar, sizeOf, typeInfo, hq, Value.cells, hs, hcl] using h
      have hB5 : Blk w5 R 25 cs.toArray := by rw [hw5]; exact setRow_heap wr R _ _ 25 _ hT.out.r
      have HW5 : Hid (Below w.heap.size w w5) := Lib.hid (by rw [hw5]; exact below_setRow hT.out.bel HLR.out.1 _)
      have hl5 := ld_blk hB5 hcz
      have H5 := Lib.hid hl5
      have HCS := Lib.hid hcs
      clear hw5 hB5 hj hcs hi hlt hl5
      go_wp2_with fail
      refine bodyPost_ret (v := .tuple #[.agg cs.toArray, .nilIface]) (by have h5 := H5.out; have a5 := Try.isAgg25; have z5 := Try.sizeOf25; simp [results, Try.results9, go_sem, loadVar, h5, a5, z5]) rfl ⟨by rw [HCS.out], HW5.out⟩
end Go.Proofs.Ytpkikibcfkdodaa
