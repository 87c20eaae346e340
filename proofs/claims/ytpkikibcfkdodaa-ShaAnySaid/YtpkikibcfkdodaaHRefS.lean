/-
  The document's name in digits.
-/
import Derived.Test.YtpkikibcfkdodaaHKnown
import Derived.Deep.DeepCutAuto
import Derived.Deep.RegionHeld3
namespace Go.Proofs.Ytpkikibcfkdodaa
open Go Go.RowKit
attribute [-go_sem] loadCells storeCells run_index_string run_string_add_if Instr.buildSlice
def ba (l : List UInt8) : ByteArray := ⟨l.toArray⟩
theorem ba_size (l : List UInt8) : (ba l).size = l.length := by show l.toArray.size = _; simp
theorem ba_append (a b : List UInt8) : ba a ++ ba b = ba (a ++ b) := by
  apply ByteArray.ext
  show (ba a ++ ba b).data = _
  simp [ba]
theorem sum_ba (a b : List UInt8) (h : a.length + b.length ≤ 9223372036854775807) (w : World) : (Op.stringOp .add (ba a) (ba b)).run Try.prog w = .ok (.string (ba (a ++ b))) w := by
  rw [run_string_add_sum w (ba a) (ba b) (by rw [ba_size, ba_size]; exact h), ba_append]
theorem bs2_22 (W : World) (x y : Int) : (Instr.buildSlice 22 2 #[(0, .int .u8 x), (1, .int .u8 y)]).run Try.prog W = .ok (.slice (some ⟨W.heap.size, 0, none⟩) 2 2) (W.alloc (.cells #[.int .u8 x, .int .u8 y] 5)) := by kernel_rfl
theorem conv2 (W : World) (x y : UInt8) : (convert 22 9 (.slice (some ⟨W.heap.size, 0, none⟩) 2 2)).run Try.prog (W.alloc (.cells #[.int .u8 (x.toNat : Int), .int .u8 (y.toNat : Int)] 5)) = .ok (.string (ba [x, y])) (W.alloc (.cells #[.int .u8 (x.toNat : Int), .int .u8 (y.toNat : Int)] 5)) := by
  exact run_convert_bytes_back (P := Try.prog) (W.alloc (.cells #[.int .u8 (x.toNat : Int), .int .u8 (y.toNat : Int)] 5)) 22 9 5 ⟨W.heap.size, 0, none⟩ 2 [x, y] Try.underlying22 Try.underlying5 Try.underlying9 (fun j hj => by
    rw [Addr.add_lit, Nat.zero_add, cell_of_row _ W.heap.size j _ 5 (0, 0) (heap_alloc_new W _)]
    match j, hj with
    | 0, _ => rfl
    | 1, _ => rfl)
theorem hexOf_two (l : List UInt8) {i : Nat} (h : i < 32) : (hexOf l).take (2 * i) ++ [hexc (nib l (2 * i)), hexc (nib l (2 * i + 1))] = (hexOf l).take (2 * (i + 1)) := by
  have hl := hexOf_len l
  have e : ∀ k, (hk : k < 64) → (hexOf l)[k]'(by omega) = hexc (nib l k) := fun k hk => by simp [hexOf]
  rw [show 2 * (i + 1) = (2 * i + 1) + 1 by omega, List.take_succ_eq_append_getElem (i := 2 * i + 1) (by omega), List.take_succ_eq_append_getElem (i := 2 * i) (by omega), e _ (by omega), e _ (by omega)]
  simp
set_option maxRecDepth 100000 in
set_option maxHeartbeats 8000000 in
theorem rstring_any (w : World) (l : List UInt8) (hl : l.length = 32) :
    Calls Try.prog 12 #[.agg (bc l).toArray] w fun e w' => e = .returned (.string (ba (hexOf l))) ∧ Below w.heap.size w w' := by
  obtain ⟨cs, hcs⟩ : ∃ cs, cs = bc l := ⟨_, rfl⟩
  have hcl : cs.length = 32 := by rw [hcs, bc_len, hl]
  rw [← hcs]
  have HCS := Lib.hid hcs
  have HL := Lib.hid hl
  have HCL := Lib.hid hcl
  clear hcs hl hcl
  go_enter Try.func12, Try.ntmps12
  go_upto_region 2 with fail
  have I0 := Blk.new w 32 cs.toArray
  have B0 := (Below.refl w.heap.size w).alloc (Nat.le_refl _) (.cells cs.toArray 32)
  obtain ⟨I, hI⟩ : ∃ I, I = w.heap.size := ⟨_, rfl⟩
  obtain ⟨W, hW⟩ : ∃ W, W = w.alloc (.cells cs.toArray 32) := ⟨_, rfl⟩
  rw [← hI, ← hW] at I0
  rw [← hW] at B0
  rw [← hI, ← hW]
  have I1 := Lib.hid I0
  have B1 := Lib.hid B0
  clear hI hW I0 B0
  go_wp2_with fail
  go_loopw [4, 5] (fun s4 s5 wr => ∃ i : Nat, s5 = .int .i64 i ∧ s4 = .string (ba ((hexOf l).take (2 * i))) ∧ i ≤ 32 ∧ Hid (Blk wr I 32 cs.toArray) ∧ Hid (Below w.heap.size w wr)) (fun _ s5 _ => 32 - (intOf s5).toNat)
  case atStart => exact ⟨0, rfl, rfl, by omega, I1, B1⟩
  case round =>
    clear I1 B1
    obtain ⟨i, rfl, rfl, hi, hI, hB⟩ := hrel
    have i0 : (0 : Int) ≤ (i : Int) := Int.natCast_nonneg _
    by_cases hlt : i < 32
    · have i1 : (i : Int) < 32 := by omega
      have hbl := byteAt_lt l i
      have hbc := bc_byteAt (l := l) (i := i) (by rw [HL.out]; exact hlt)
      have x0 : wr.drew.cell? ⟨I, i, none⟩ = some (.int .u8 (byteAt l i : Int)) := by
        have := hI.out.cell i
        rw [List.getElem?_toArray, HCS.out, hbc] at this
        exact this
      have e0 : nib l (2 * i) = byteAt l i / 16 := by unfold nib; rw [if_pos (by omega), show 2 * i / 2 = i by omega]
      have e1 : nib l (2 * i + 1) = byteAt l i % 16 := by unfold nib; rw [if_neg (by omega), show (2 * i + 1) / 2 = i by omega]
      have h15 := u8_and15 ⟨byteAt l i, hbl⟩
      simp only at h15
      rw [← e1] at h15
      have h0 := nib_lt l (2 * i)
      have h1 := nib_lt l (2 * i + 1)
      have htwo := hexOf_two l hlt
      obtain ⟨b, hb⟩ : ∃ b, b = byteAt l i := ⟨_, rfl⟩
      obtain ⟨d0, hd0⟩ : ∃ d, d = nib l (2 * i) := ⟨_, rfl⟩
      obtain ⟨d1, hd1⟩ : ∃ d, d = nib l (2 * i + 1) := ⟨_, rfl⟩
      rw [← hd0, ← hd1] at htwo
      rw [← hd0] at h0
      rw [← hd1] at h1 h15
      rw [← hb] at x0 h15
      have b0 : (0 : Int) ≤ (b : Int) := Int.natCast_nonneg _
      have b1 : (b : Int) < 256 := by omega
      have y0 : (b : Int) / 16 = (d0 : Int) := by omega
      have z0 : (0 : Int) ≤ (d0 : Int) := Int.natCast_nonneg _
      have z1 : (d0 : Int) < 16 := by omega
      have z2 : (0 : Int) ≤ (d1 : Int) := Int.natCast_nonneg _
      have z3 : (d1 : Int) < 16 := by omega
      have hx0 := fun W => run_hex W d0 h0
      have hx1 := fun W => run_hex W d1 h1
      obtain ⟨c0, hc0⟩ : ∃ c, c = hexc d0 := ⟨_, rfl⟩
      obtain ⟨c1, hc1⟩ : ∃ c, c = hexc d1 := ⟨_, rfl⟩
      rw [← hc0] at hx0 htwo
      rw [← hc1] at hx1 htwo
      obtain ⟨T, hT⟩ : ∃ T, T = (hexOf l).take (2 * i) := ⟨_, rfl⟩
      have hTl : T.length ≤ 64 := by have := hexOf_len l; rw [hT]; simp; omega
      have hsum := sum_ba T [c0, c1] (by simp; omega)
      rw [← hT] at htwo
      rw [← hT]
      have x1 : (wr.alloc (.cells #[.int .u8 (c0.toNat : Int), .int .u8 (c1.toNat : Int)] 5)).drew.cell? ⟨I, i, none⟩ = some (.int .u8 (b : Int)) := by
        have h := World.cell?_alloc_some wr.drew ⟨I, i, none⟩ (.cells #[.int .u8 (c0.toNat : Int), .int .u8 (c1.toNat : Int)] 5) (by rw [x0]; rfl)
        exact h.trans x0
      have hbs := bs2_22 wr.drew (c0.toNat : Int) (c1.toNat : Int)
      have hcv : (convert 22 9 (.slice (some ⟨wr.heap.size, 0, none⟩) 2 2)).run Try.prog (wr.alloc (.cells #[.int .u8 (c0.toNat : Int), .int .u8 (c1.toNat : Int)] 5)).drew = .ok (.string (ba [c0, c1])) (wr.alloc (.cells #[.int .u8 (c0.toNat : Int), .int .u8 (c1.toNat : Int)] 5)).drew := conv2 wr.drew c0 c1
      have HTW := Lib.hid htwo
      have HLT := Lib.hid hlt
      have BF : Hid (Below w.heap.size w (wr.alloc (.cells #[.int .u8 (c0.toNat : Int), .int .u8 (c1.toNat : Int)] 5)).drew) := Lib.hid ((below_drewN hB.out 1).alloc hB.out.size (.cells #[.int .u8 (c0.toNat : Int), .int .u8 (c1.toNat : Int)] 5))
      have IF : Hid (Blk (wr.alloc (.cells #[.int .u8 (c0.toNat : Int), .int .u8 (c1.toNat : Int)] 5)).drew I 32 cs.toArray) := Lib.hid ((hI.out.drewN 1).alloc (.cells #[.int .u8 (c0.toNat : Int), .int .u8 (c1.toNat : Int)] 5))
      clear hbl hbc e0 e1 h0 h1 hb hd0 hd1 hc0 hc1 hT hTl htwo hlt hi
      go_upto_region 6 with fail
      (
        refine wp_region_held_drew (S := fun w' => w'.cell? ⟨I, i, none⟩ = some (.int .u8 (b : Int))) (by kernel_rfl) (x0) (fun hHeld => ?_)
        refine wpAnyH_take (i := 0) (oi := { dst := some 10, op := Op.move (Operand.tmp 4), type := 9, pos := "ref.go:80", after := #[], guard := none }) (v := ?vs0) rfl (by kernel_rfl) (by kernel_rfl) (by kernel_rfl) (fun _ _ _ h => h) (Or.inl ⟨by rfl, ?ys0⟩) (by assumption) ?rs0
        case ys0 => (intro w' hSw; (try dsimp only at hSw); go_simp; try with_reducible rfl)
        try simp only [Act.put, List.setIfInBounds_toArray, List.set_cons_zero, List.set_cons_succ]
        refine wpAnyH_take (i := 1) (oi := { dst := some 11, op := Op.move (Operand.tmp 3), type := 9, pos := "ref.go:80", after := #[], guard := none }) (v := ?vs1) rfl (by kernel_rfl) (by kernel_rfl) (by kernel_rfl) (fun _ _ _ h => h) (Or.inl ⟨by rfl, ?ys1⟩) (by assumption) ?rs1
        case ys1 => (intro w' hSw; (try dsimp only at hSw); go_simp; try with_reducible rfl)
        try simp only [Act.put, List.setIfInBounds_toArray, List.set_cons_zero, List.set_cons_succ]
        refine wpAnyH_take (i := 2) (oi := { dst := some 12, op := Op.move (Operand.tmp 5), type := 3, pos := "ref.go:80", after := #[], guard := none }) (v := ?vs2) rfl (by kernel_rfl) (by kernel_rfl) (by kernel_rfl) (fun _ _ _ h => h) (Or.inl ⟨by rfl, ?ys2⟩) (by assumption) ?rs2
        case ys2 => (intro w' hSw; (try dsimp only at hSw); go_simp; try with_reducible rfl)
        try simp only [Act.put, List.setIfInBounds_toArray, List.set_cons_zero, List.set_cons_succ]
        refine wpAnyH_take (i := 3) (oi := { dst := some 13, op := Op.indexAddr 32 (Operand.tmp 1) (Operand.tmp 12), type := 0, pos := "ref.go:80", after := #[{ on := 2, ground := Ground.data }], guard := none }) (v := ?vs3) rfl (by kernel_rfl) (by kernel_rfl) (by kernel_rfl) (fun _ _ _ h => h) (Or.inl ⟨by rfl, ?ys3⟩) (by assumption) ?rs3
        case ys3 => (intro w' hSw; (try dsimp only at hSw); go_simp; try with_reducible rfl)
        try simp only [Act.put, List.setIfInBounds_toArray, List.set_cons_zero, List.set_cons_succ]
        refine wpAnyH_take (i := 4) (oi := { dst := some 14, op := Op.load 5 (Operand.tmp 13), type := 5, pos := "ref.go:80", after := #[{ on := 3, ground := Ground.data }], guard := none }) (v := ?vs4) rfl (by kernel_rfl) (by kernel_rfl) (by kernel_rfl) (fun _ _ _ h => h) (Or.inl ⟨by rfl, ?ys4⟩) (by assumption) ?rs4
        case ys4 => (intro w' hSw; (try dsimp only at hSw); go_simp; try with_reducible rfl)
        try simp only [Act.put, List.setIfInBounds_toArray, List.set_cons_zero, List.set_cons_succ]
        refine wpAnyH_take (i := 5) (oi := { dst := some 15, op := Op.binOp BinOp.shr 5 (Operand.tmp 14) (Operand.const (Value.int IntKind.u64 4)) 68, type := 5, pos := "ref.go:80", after := #[{ on := 4, ground := Ground.data }], guard := none }) (v := ?vs5) rfl (by kernel_rfl) (by kernel_rfl) (by kernel_rfl) (fun _ _ _ h => h) (Or.inl ⟨by rfl, ?ys5⟩) (by assumption) ?rs5
        case ys5 => (intro w' hSw; (try dsimp only at hSw); go_simp; try with_reducible rfl)
        try simp only [Act.put, List.setIfInBounds_toArray, List.set_cons_zero, List.set_cons_succ]
        refine wpAnyH_take (i := 6) (oi := { dst := some 16, op := Op.index 9 (Operand.tmp 11) (Operand.tmp 15), type := 5, pos := "ref.go:80", after := #[{ on := 1, ground := Ground.data }, { on := 5, ground := Ground.data }], guard := none }) (v := ?vs6) rfl (by kernel_rfl) (by kernel_rfl) (by kernel_rfl) (fun _ _ _ h => h) (Or.inl ⟨by rfl, ?ys6⟩) (by assumption) ?rs6
        case ys6 => (intro w' hSw; (try dsimp only at hSw); go_simp; try with_reducible rfl)
        try simp only [Act.put, List.setIfInBounds_toArray, List.set_cons_zero, List.set_cons_succ]
        refine wpAnyH_take (i := 7) (oi := { dst := some 17, op := Op.move (Operand.tmp 3), type := 9, pos := "ref.go:80", after := #[], guard := none }) (v := ?vs7) rfl (by kernel_rfl) (by kernel_rfl) (by kernel_rfl) (fun _ _ _ h => h) (Or.inl ⟨by rfl, ?ys7⟩) (by assumption) ?rs7
        case ys7 => (intro w' hSw; (try dsimp only at hSw); go_simp; try with_reducible rfl)
        try simp only [Act.put, List.setIfInBounds_toArray, List.set_cons_zero, List.set_cons_succ]
        refine wpAnyH_take (i := 8) (oi := { dst := some 18, op := Op.move (Operand.tmp 5), type := 3, pos := "ref.go:80", after := #[], guard := none }) (v := ?vs8) rfl (by kernel_rfl) (by kernel_rfl) (by kernel_rfl) (fun _ _ _ h => h) (Or.inl ⟨by rfl, ?ys8⟩) (by assumption) ?rs8
        case ys8 => (intro w' hSw; (try dsimp only at hSw); go_simp; try with_reducible rfl)
        try simp only [Act.put, List.setIfInBounds_toArray, List.set_cons_zero, List.set_cons_succ]
        refine wpAnyH_take (i := 9) (oi := { dst := some 19, op := Op.indexAddr 32 (Operand.tmp 1) (Operand.tmp 18), type := 0, pos := "ref.go:80", after := #[{ on := 8, ground := Ground.data }], guard := none }) (v := ?vs9) rfl (by kernel_rfl) (by kernel_rfl) (by kernel_rfl) (fun _ _ _ h => h) (Or.inl ⟨by rfl, ?ys9⟩) (by assumption) ?rs9
        case ys9 => (intro w' hSw; (try dsimp only at hSw); go_simp; try with_reducible rfl)
        try simp only [Act.put, List.setIfInBounds_toArray, List.set_cons_zero, List.set_cons_succ]
        refine wpAnyH_take (i := 10) (oi := { dst := some 20, op := Op.load 5 (Operand.tmp 19), type := 5, pos := "ref.go:80", after := #[{ on := 9, ground := Ground.data }], guard := none }) (v := ?vs10) rfl (by kernel_rfl) (by kernel_rfl) (by kernel_rfl) (fun _ _ _ h => h) (Or.inl ⟨by rfl, ?ys10⟩) (by assumption) ?rs10
        case ys10 => (intro w' hSw; (try dsimp only at hSw); go_simp; try with_reducible rfl)
        try simp only [Act.put, List.setIfInBounds_toArray, List.set_cons_zero, List.set_cons_succ]
        refine wpAnyH_take (i := 11) (oi := { dst := some 21, op := Op.binOp BinOp.and 5 (Operand.tmp 20) (Operand.const (Value.int IntKind.u8 15)) 5, type := 5, pos := "ref.go:80", after := #[{ on := 10, ground := Ground.data }], guard := none }) (v := ?vs11) rfl (by kernel_rfl) (by kernel_rfl) (by kernel_rfl) (fun _ _ _ h => h) (Or.inl ⟨by rfl, ?ys11⟩) (by assumption) ?rs11
        case ys11 => (intro w' hSw; (try dsimp only at hSw); go_simp; try with_reducible rfl)
        try simp only [Act.put, List.setIfInBounds_toArray, List.set_cons_zero, List.set_cons_succ]
        refine wpAnyH_take (i := 12) (oi := { dst := some 22, op := Op.index 9 (Operand.tmp 17) (Operand.tmp 21), type := 5, pos := "ref.go:80", after := #[{ on := 7, ground := Ground.data }, { on := 11, ground := Ground.data }], guard := none }) (v := ?vs12) rfl (by kernel_rfl) (by kernel_rfl) (by kernel_rfl) (fun _ _ _ h => h) (Or.inl ⟨by rfl, ?ys12⟩) (by assumption) ?rs12
        case ys12 => (intro w' hSw; (try dsimp only at hSw); go_simp; try with_reducible rfl)
        try simp only [Act.put, List.setIfInBounds_toArray, List.set_cons_zero, List.set_cons_succ]
        refine wpAnyH_ready (rs := [13]) (by kernel_rfl) (by simp) ?_
        refine AllReadyH.cons (o := { dst := some 23, op := Op.buildSlice 22 2 #[(0, Operand.tmp 16), (1, Operand.tmp 22)], type := 22, pos := "ref.go:80", after := #[{ on := 6, ground := Ground.data }, { on := 12, ground := Ground.data }], guard := none }) rfl (fun K hK => ?_) AllReadyH.nil
        go_simp
        refine hK.out _ _ (x1) (fun hHelds13 => ?_)
        clear hK K hHeld
        try simp only [Act.put, List.setIfInBounds_toArray, List.set_cons_zero, List.set_cons_succ]
        refine wpAnyH_ready (rs := [14]) (by kernel_rfl) (by simp) ?_
        refine AllReadyH.cons (o := { dst := some 24, op := Op.convert 22 9 (Operand.tmp 23), type := 9, pos := "ref.go:80", after := #[{ on := 13, ground := Ground.data }], guard := none }) rfl (fun K hK => ?_) AllReadyH.nil
        go_simp
        refine hK.out _ _ (x1) (fun hHelds14 => ?_)
        clear hK K hHelds13
        try simp only [Act.put, List.setIfInBounds_toArray, List.set_cons_zero, List.set_cons_succ]
        refine wpAnyH_take (i := 15) (oi := { dst := some 25, op := Op.binOp BinOp.add 9 (Operand.tmp 10) (Operand.tmp 24) 9, type := 9, pos := "ref.go:80", after := #[{ on := 0, ground := Ground.data }, { on := 14, ground := Ground.data }], guard := none }) (v := ?vs15) rfl (by kernel_rfl) (by kernel_rfl) (by kernel_rfl) (fun _ _ _ h => h) (Or.inl ⟨by rfl, ?ys15⟩) (by assumption) ?rs15
        case ys15 => (intro w' hSw; (try dsimp only at hSw); go_simp; try with_reducible rfl)
        try simp only [Act.put, List.setIfInBounds_toArray, List.set_cons_zero, List.set_cons_succ]
        refine wpAnyH_take (i := 16) (oi := { dst := some 4, op := Op.assign (Operand.tmp 25), type := 9, pos := "ref.go:80", after := #[{ on := 15, ground := Ground.data }, { on := 0, ground := Ground.phase }, { on := 1, ground := Ground.phase }, { on := 2, ground := Ground.phase }, { on := 3, ground := Ground.phase }, { on := 4, ground := Ground.phase }, { on := 5, ground := Ground.phase }, { on := 6, ground := Ground.phase }, { on := 7, ground := Ground.phase }, { on := 8, ground := Ground.phase }, { on := 9, ground := Ground.phase }, { on := 10, ground := Ground.phase }, { on := 11, ground := Ground.phase }, { on := 12, ground := Ground.phase }, { on := 13, ground := Ground.phase }, { on := 14, ground := Ground.phase }, { on := 15, ground := Ground.phase }], guard := none }) (v := ?vs16) rfl (by kernel_rfl) (by kernel_rfl) (by kernel_rfl) (fun _ _ _ h => h) (Or.inl ⟨by rfl, ?ys16⟩) (by assumption) ?rs16
        case ys16 => (intro w' hSw; (try dsimp only at hSw); go_simp; try with_reducible rfl)
        try simp only [Act.put, List.setIfInBounds_toArray, List.set_cons_zero, List.set_cons_succ]
        refine wpAnyH_done (by kernel_rfl) ?_ _
      )
      generalize (wr.alloc (.cells #[.int .u8 (c0.toNat : Int), .int .u8 (c1.toNat : Int)] 5)).drew = WF at *
      rw [HTW.out]
      clear x0 x1 hcv hbs hsum hx0 hx1
      go_wp2_with fail
      go_roundw
      case rel => exact ⟨i + 1, by go_num, rfl, HLT.out, IF, BF⟩
      case measure => have := HLT.out; simp [intOf]; omega
    · obtain rfl : i = 32 := by omega
      have hS : Hid ((hexOf l).take (2 * 32) = hexOf l) := Lib.hid (by have := hexOf_len l; rw [List.take_of_length_le (by omega)])
      rw [hS.out]
      go_wp2_with fail
      go_ret
      exact ⟨rfl, hB.out⟩
end Go.Proofs.Ytpkikibcfkdodaa
