/-
  The document's: how few digits tell a name from all others.
-/
import Derived.Test.YtpkikibcfkdodaaHRefH
namespace Go.Proofs.Ytpkikibcfkdodaa
open Go Go.RowKit
attribute [-go_sem] loadCells storeCells run_index_string run_string_add_if Instr.buildSlice
theorem shr_lt (a b : List UInt8) : ∀ k i, (∃ j, i ≤ j ∧ j < i + k ∧ nib a j ≠ nib b j) → shr a b i k < i + k
  | 0, i, ⟨j, h1, h2, _⟩ => by omega
  | k + 1, i, ⟨j, h1, h2, h3⟩ => by
    rw [shr]
    split
    · next h =>
      have hne : j ≠ i := fun e => h3 (e ▸ h)
      have := shr_lt a b k (i + 1) ⟨j, by omega, by omega, h3⟩
      omega
    · omega
theorem nib_two {a b : List UInt8} {j : Nat} (h0 : nib a (2 * j) = nib b (2 * j)) (h1 : nib a (2 * j + 1) = nib b (2 * j + 1)) : byteAt a j = byteAt b j := by
  unfold nib at h0 h1
  rw [if_pos (by omega), if_pos (by omega), show 2 * j / 2 = j by omega] at h0
  rw [if_neg (by omega), if_neg (by omega), show (2 * j + 1) / 2 = j by omega] at h1
  omega
theorem share_lt {a b : List UInt8} (ha : a.length = 32) (hb : b.length = 32) (h : a ≠ b) : share a b < 64 := by
  refine shr_lt a b 64 0 (Classical.byContradiction fun hn => h ?_)
  have heq : ∀ j, j < 64 → nib a j = nib b j := fun j hj => Classical.byContradiction fun e => hn ⟨j, by omega, by omega, e⟩
  have : decide (a = b) = true := by
    rw [← all_bytes ha hb]
    simp only [List.all_eq_true, List.mem_range, decide_eq_true_eq]
    intro j hj
    exact nib_two (heq _ (by omega)) (heq _ (by omega))
  exact of_decide_eq_true this
theorem shortN_min (id : List UInt8) (hid : id.length = 32) : ∀ (l : List (List UInt8)) (n : Nat), (∀ m ∈ l, m.length = 32) → shortN id (min n 64) l = min (shortN id n l) 64
  | [], n, _ => rfl
  | m :: ms, n, h => by
    have e : stepS id (min n 64) m = min (stepS id n m) 64 := by
      unfold stepS
      split
      · rfl
      · next hne =>
        have := share_lt (h m (by simp)) hid hne
        omega
    show shortN id (stepS id (min n 64) m) ms = min (shortN id (stepS id n m) ms) 64
    rw [e]
    exact shortN_min id hid ms _ fun x hx => h x (by simp [hx])
/-- What stands in a round. -/
structure Rnd (w0 w : World) (I g p : Nat) (ci cm : List Value) : Prop where
  i : (loadCells ⟨I, 0, none⟩ 32).run Try.prog w = .ok ci.toArray w
  m : (loadCells ⟨g, p, none⟩ 32).run Try.prog w = .ok cm.toArray w
  blk : Blk w I 32 ci.toArray
  bel : Below w0.heap.size w0 w
  cells : ∀ j v, cm[j]? = some v → w.cell? ⟨g, p + j, none⟩ = some v
theorem Rnd.ld {w0 w : World} {I g p : Nat} {ci cm : List Value} (h : Rnd w0 w I g p ci cm) : (loadCells ⟨I, 0, none⟩ 32).run Try.prog w = .ok ci.toArray w ∧ (loadCells ⟨g, p, none⟩ 32).run Try.prog w = .ok cm.toArray w := ⟨h.i, h.m⟩
theorem ld_cells {w : World} {g p : Nat} {cm : List Value} (hz : cm.length = 32) (h : ∀ j v, cm[j]? = some v → w.cell? ⟨g, p + j, none⟩ = some v) : (loadCells ⟨g, p, none⟩ 32).run Try.prog w = .ok cm.toArray w := by
  have h1 := run_loadCells_list (P := Try.prog) w ⟨g, p, none⟩ cm (fun j v hv => by rw [Addr.add_lit]; exact h j v hv)
  rw [hz] at h1
  exact h1
theorem Rnd.mk' {w0 w : World} {I g p : Nat} {ci cm : List Value} (hb : Blk w I 32 ci.toArray) (hbel : Below w0.heap.size w0 w) (hi : ci.length = 32) (hm : cm.length = 32) (h : ∀ j v, cm[j]? = some v → w.cell? ⟨g, p + j, none⟩ = some v) : Rnd w0 w I g p ci cm :=
  ⟨ld_blk hb (by simpa using hi), ld_cells hm h, hb, hbel, h⟩
theorem Rnd.len {w0 w : World} {I g p : Nat} {ci cm : List Value} (h : Rnd w0 w I g p ci cm) (hi : ci.length = 32) (hm : cm.length = 32) {w' : World} (hb : Below w.heap.size w w') : Rnd w0 w' I g p ci cm := by
  refine Rnd.mk' (h.blk.below hb h.blk.lt) (h.bel.trans (hb.mono h.bel.size)) hi hm (fun j v hj => ?_)
  have h0 := h.cells j v hj
  have := hb.block g (World.block_lt_of_cell? w _ h0)
  rw [← h0]
  simp only [World.cell?, this]
theorem Rnd.drew {w0 w : World} {I g p : Nat} {ci cm : List Value} (h : Rnd w0 w I g p ci cm) (hi : ci.length = 32) (hm : cm.length = 32) : Rnd w0 w.drew I g p ci cm :=
  Rnd.mk' (h.blk.drewN 1) (below_drewN h.bel 1) hi hm h.cells
/-- A round with the lengths at hand. -/
structure Rnl (w0 w : World) (I g p : Nat) (ci cm : List Value) : Prop where
  r : Rnd w0 w I g p ci cm
  hi : ci.length = 32
  hm : cm.length = 32
theorem Rnl.ld {w0 w : World} {I g p : Nat} {ci cm : List Value} (h : Rnl w0 w I g p ci cm) : (loadCells ⟨I, 0, none⟩ 32).run Try.prog w = .ok ci.toArray w ∧ (loadCells ⟨g, p, none⟩ 32).run Try.prog w = .ok cm.toArray w := h.r.ld
theorem Rnl.below {w0 w w' : World} {I g p : Nat} {ci cm : List Value} (h : Rnl w0 w I g p ci cm) (hb : Below w.heap.size w w') : Rnl w0 w' I g p ci cm := ⟨h.r.len h.hi h.hm hb, h.hi, h.hm⟩
theorem Rnl.drew {w0 w : World} {I g p : Nat} {ci cm : List Value} (h : Rnl w0 w I g p ci cm) : Rnl w0 w.drew I g p ci cm := ⟨h.r.drew h.hi h.hm, h.hi, h.hm⟩
def least1 (k : Int) : Nat := (max k 0).toNat
set_option maxRecDepth 100000 in
set_option maxHeartbeats 8000000 in
theorem rshort_any (w : World) (sp : Option Addr) (l : List (List UInt8)) (c : Nat) (id : List UInt8) (k : Int) (hid : id.length = 32) (hl : l.length < 1000000) (hr : IDs w sp l) :
    Calls Try.prog 16 #[.slice sp l.length c, .agg (bc id).toArray, .int .i64 k] w fun e w' => e = .returned (.int .i64 (shortN id (least0 k) l)) ∧ Below w.heap.size w w' := by
  have HRES : Hid (shortN id (least0 k) l = min (shortN id (least1 k) l) 64) := Lib.hid (by
    rw [← shortN_min id hid l _ hr.len]
    congr 1
    unfold least0 least1; omega)
  have HID := Lib.hid hid
  have HR := Lib.hid hr
  have SH := Lib.hid fun (W : World) (m : List UInt8) (hm : m.length = 32) => rshared_any W m id hm hid
  have EQ := Lib.hid fun (W : World) (m : List UInt8) (hm : m.length = 32) => eq32 W m id hm hid
  obtain ⟨ci, hci⟩ : ∃ cs, cs = bc id := ⟨_, rfl⟩
  rw [← hci] at SH EQ
  have hcz : ci.length = 32 := by rw [hci, bc_len, hid]
  rw [← hci]
  have HCZ := Lib.hid hcz
  have HCI := Lib.hid hci
  have HLL := Lib.hid hl
  have hk0 : (if k < 0 then (0 : Int) else k) = (least1 k : Int) := by unfold least1; split <;> omega
  have HK0 := Lib.hid hk0
  have l0 : (0 : Int) ≤ (l.length : Int) := Int.natCast_nonneg _
  have l1 : (l.length : Int) < 1000000 := by omega
  clear hid hr hci hcz hl hk0
  go_enter Try.func16, Try.ntmps16
  go_upto_region 1 with fail
  have X0 : Blk (w.alloc (.cells ci.toArray 32)) w.heap.size 32 ci.toArray := Blk.new _ _ _
  have B0 := (Below.refl w.heap.size w).alloc (Nat.le_refl _) (.cells ci.toArray 32)
  obtain ⟨I, hI⟩ : ∃ I, I = w.heap.size := ⟨_, rfl⟩
  obtain ⟨W, hW⟩ : ∃ W, W = w.alloc (.cells ci.toArray 32) := ⟨_, rfl⟩
  rw [← hI, ← hW] at X0
  rw [← hW] at B0
  rw [← hW, ← hI]
  have X1 := Lib.hid X0
  have B1 := Lib.hid B0
  have HLI : Hid (w.heap.size ≤ I) := Lib.hid (by omega)
  clear hI hW X0 B0
  obtain ⟨n0, hn0⟩ : ∃ n, n = least1 k := ⟨_, rfl⟩
  rw [← hn0] at HRES HK0
  clear hn0
  have HV : Hid ((k < 0 → (0 : Int) = (n0 : Int)) ∧ (¬ k < 0 → k = (n0 : Int))) := Lib.hid (by
    have h := HK0.out
    constructor
    · intro hk; rw [if_pos hk] at h; exact h
    · intro hk; rw [if_neg hk] at h; exact h)
  by_cases hk : k < 0
  · have HK := Lib.hid hk
    go_upto_region 4 with fail
    clear hk
    go_wp2_with fail
    go_loopw [7, 8] (fun s7 s8 wr => ∃ i n : Nat, s8 = .int .i64 i ∧ s7 = .int .i64 n ∧ i ≤ l.length ∧ Hid (shortN id n0 (l.take i) = n) ∧ Hid (Blk wr I 32 ci.toArray) ∧ Hid (Below w.heap.size w wr)) (fun _ s8 _ => l.length - (intOf s8).toNat)
    case atStart => exact ⟨0, n0, rfl, by first | (rw [← HV.out.1 HK.out]) | (rw [← HV.out.2 HK.out]), by omega, Lib.hid rfl, X1, B1⟩
    case round =>
      clear X1 B1 HV HK
      obtain ⟨i, n, rfl, rfl, hi, hsn, hI, hB⟩ := hrel
      have i0 : (0 : Int) ≤ (i : Int) := Int.natCast_nonneg _
      have n0' : (0 : Int) ≤ (n : Int) := Int.natCast_nonneg _
      by_cases hlt : i < l.length
      · have i1 : (i : Int) < (l.length : Int) := by omega
        obtain ⟨g, o, rfl, hat⟩ := HR.out.at_ (by omega)
        obtain ⟨m, hm⟩ : ∃ m, l[i]? = some m := ⟨_, List.getElem?_eq_getElem hlt⟩
        have hml := HR.out.len m (List.mem_of_getElem? hm)
        have hat2 := hat i m hm
        have hgl : g < w.heap.size := World.block_lt_of_cell? w _ (hat2 0 _ (bc_byteAt (by omega)))
        have hat3 : ∀ j v, (bc m)[j]? = some v → wr.cell? ⟨g, o + i * 32 + j, none⟩ = some v := fun j v hv => by
          have h0 := hat2 j v hv
          have := hB.out.block g hgl
          simp only [World.cell?, this]; exact h0
        have hone : Hid (l.take (i + 1) = l.take i ++ [m]) := Lib.hid (by
          rw [List.take_add_one, hm]; rfl)
        have HML := Lib.hid hml
        obtain ⟨cm, hcm⟩ : ∃ cm, cm = bc m := ⟨_, rfl⟩
        rw [← hcm] at hat3
        have hcml : cm.length = 32 := by rw [hcm, bc_len, hml]
        have T00 : Rnl w wr I g (o + i * 32) ci cm := ⟨Rnd.mk' hI.out hB.out HCZ.out hcml hat3, HCZ.out, hcml⟩
        have T0 := Lib.hid T00.drew
        have S0 := T0.out.ld
        have HCM := Lib.hid hcm
        have HLT := Lib.hid hlt
        have heq := fun W => EQ.out W m HML.out
        rw [← hcm] at heq
        clear hml hat hat2 hat3 hm hcm hgl hlt hcml T00
        by_cases hmi : m = id
        · have HS : Hid (shortN id n0 (l.take (i + 1)) = n) := Lib.hid (by rw [hone.out, shortN_snoc, hsn.out]; exact if_pos hmi)
          rw [decide_eq_true hmi] at heq
          clear hmi
          go_upto_region 7 with fail
          (
          refine wp_region_held_drew (S := fun w' => (loadCells ⟨I, 0, none⟩ 32).run Try.prog w' = .ok ci.toArray w' ∧ (loadCells ⟨g, o + i * 32, none⟩ 32).run Try.prog w' = .ok cm.toArray w') (by kernel_rfl) (S0) (fun hHeld => ?_)
          refine wpAnyH_take (i := 0) (oi := { dst := some 18, op := Op.move (Operand.tmp 0), type := 37, pos := "ref.go:133", after := #[], guard := none }) (v := ?vsa0) rfl (by kernel_rfl) (by kernel_rfl) (by kernel_rfl) (fun _ _ _ h => h) (Or.inl ⟨by rfl, ?ysa0⟩) (by assumption) ?rsa0
          case ysa0 => (intro w' hSw; (try dsimp only at hSw); go_simp; try with_reducible rfl)
          try simp only [Act.put, List.setIfInBounds_toArray, List.set_cons_zero, List.set_cons_succ]
          refine wpAnyH_take (i := 1) (oi := { dst := some 19, op := Op.move (Operand.tmp 8), type := 3, pos := "ref.go:133", after := #[], guard := none }) (v := ?vsa1) rfl (by kernel_rfl) (by kernel_rfl) (by kernel_rfl) (fun _ _ _ h => h) (Or.inl ⟨by rfl, ?ysa1⟩) (by assumption) ?rsa1
          case ysa1 => (intro w' hSw; (try dsimp only at hSw); go_simp; try with_reducible rfl)
          try simp only [Act.put, List.setIfInBounds_toArray, List.set_cons_zero, List.set_cons_succ]
          refine wpAnyH_take (i := 2) (oi := { dst := some 20, op := Op.indexAddr 37 (Operand.tmp 18) (Operand.tmp 19), type := 0, pos := "ref.go:133", after := #[{ on := 0, ground := Ground.data }, { on := 1, ground := Ground.data }], guard := none }) (v := ?vsa2) rfl (by kernel_rfl) (by kernel_rfl) (by kernel_rfl) (fun _ _ _ h => h) (Or.inl ⟨by rfl, ?ysa2⟩) (by assumption) ?rsa2
          case ysa2 => (intro w' hSw; (try dsimp only at hSw); go_simp; try with_reducible rfl)
          try simp only [Act.put, List.setIfInBounds_toArray, List.set_cons_zero, List.set_cons_succ]
          refine wpAnyH_take (i := 3) (oi := { dst := some 21, op := Op.load 32 (Operand.tmp 20), type := 32, pos := "ref.go:133", after := #[{ on := 2, ground := Ground.data }], guard := none }) (v := ?vsa3) rfl (by kernel_rfl) (by kernel_rfl) (by kernel_rfl) (fun _ _ _ h => h) (Or.inl ⟨by rfl, ?ysa3⟩) (by assumption) ?rsa3
          case ysa3 => (intro w' hSw; (try dsimp only at hSw); go_simp; try with_reducible rfl)
          try simp only [Act.put, List.setIfInBounds_toArray, List.set_cons_zero, List.set_cons_succ]
          refine wpAnyH_take (i := 4) (oi := { dst := some 22, op := Op.load 32 (Operand.tmp 4), type := 32, pos := "ref.go:133", after := #[], guard := none }) (v := ?vsa4) rfl (by kernel_rfl) (by kernel_rfl) (by kernel_rfl) (fun _ _ _ h => h) (Or.inl ⟨by rfl, ?ysa4⟩) (by assumption) ?rsa4
          case ysa4 => (intro w' hSw; (try dsimp only at hSw); go_simp; try with_reducible rfl)
          try simp only [Act.put, List.setIfInBounds_toArray, List.set_cons_zero, List.set_cons_succ]
          refine wpAnyH_take (i := 5) (oi := { dst := some 23, op := Op.binOp BinOp.neq 32 (Operand.tmp 21) (Operand.tmp 22) 32, type := 4, pos := "ref.go:133", after := #[{ on := 3, ground := Ground.data }, { on := 4, ground := Ground.data }], guard := none }) (v := ?vsa5) rfl (by kernel_rfl) (by kernel_rfl) (by kernel_rfl) (fun _ _ _ h => h) (Or.inl ⟨by rfl, ?ysa5⟩) (by assumption) ?rsa5
          case ysa5 => (intro w' hSw; (try dsimp only at hSw); go_simp; try with_reducible rfl)
          try simp only [Act.put, List.setIfInBounds_toArray, List.set_cons_zero, List.set_cons_succ]
          refine wpAnyH_take (i := 6) (oi := { dst := some 24, op := Op.move (Operand.tmp 23), type := 4, pos := "ref.go:133", after := #[{ on := 5, ground := Ground.data }], guard := none }) (v := ?vsa6) rfl (by kernel_rfl) (by kernel_rfl) (by kernel_rfl) (fun _ _ _ h => h) (Or.inl ⟨by rfl, ?ysa6⟩) (by assumption) ?rsa6
          case ysa6 => (intro w' hSw; (try dsimp only at hSw); go_simp; try with_reducible rfl)
          try simp only [Act.put, List.setIfInBounds_toArray, List.set_cons_zero, List.set_cons_succ]
          refine wpAnyH_take (i := 7) (oi := { dst := some 25, op := Op.move (Operand.tmp 0), type := 37, pos := "ref.go:133", after := #[{ on := 6, ground := Ground.guard }], guard := some (6, true) }) (v := undef) rfl (by kernel_rfl) (by kernel_rfl) (by kernel_rfl) (fun _ _ _ h => h) (Or.inr ⟨by rfl, rfl⟩) (by assumption) ?_
          try simp only [Act.put, List.setIfInBounds_toArray, List.set_cons_zero, List.set_cons_succ]
          refine wpAnyH_take (i := 8) (oi := { dst := some 26, op := Op.move (Operand.tmp 8), type := 3, pos := "ref.go:133", after := #[{ on := 6, ground := Ground.guard }], guard := some (6, true) }) (v := undef) rfl (by kernel_rfl) (by kernel_rfl) (by kernel_rfl) (fun _ _ _ h => h) (Or.inr ⟨by rfl, rfl⟩) (by assumption) ?_
          try simp only [Act.put, List.setIfInBounds_toArray, List.set_cons_zero, List.set_cons_succ]
          refine wpAnyH_take (i := 9) (oi := { dst := some 27, op := Op.indexAddr 37 (Operand.tmp 25) (Operand.tmp 26), type := 0, pos := "ref.go:133", after := #[{ on := 7, ground := Ground.data }, { on := 8, ground := Ground.data }, { on := 6, ground := Ground.guard }], guard := some (6, true) }) (v := undef) rfl (by kernel_rfl) (by kernel_rfl) (by kernel_rfl) (fun _ _ _ h => h) (Or.inr ⟨by rfl, rfl⟩) (by assumption) ?_
          try simp only [Act.put, List.setIfInBounds_toArray, List.set_cons_zero, List.set_cons_succ]
          refine wpAnyH_take (i := 10) (oi := { dst := some 28, op := Op.load 32 (Operand.tmp 27), type := 32, pos := "ref.go:133", after := #[{ on := 9, ground := Ground.data }, { on := 6, ground := Ground.guard }], guard := some (6, true) }) (v := undef) rfl (by kernel_rfl) (by kernel_rfl) (by kernel_rfl) (fun _ _ _ h => h) (Or.inr ⟨by rfl, rfl⟩) (by assumption) ?_
          try simp only [Act.put, List.setIfInBounds_toArray, List.set_cons_zero, List.set_cons_succ]
          refine wpAnyH_take (i := 11) (oi := { dst := some 29, op := Op.load 32 (Operand.tmp 4), type := 32, pos := "ref.go:133", after := #[{ on := 6, ground := Ground.guard }], guard := some (6, true) }) (v := undef) rfl (by kernel_rfl) (by kernel_rfl) (by kernel_rfl) (fun _ _ _ h => h) (Or.inr ⟨by rfl, rfl⟩) (by assumption) ?_
          try simp only [Act.put, List.setIfInBounds_toArray, List.set_cons_zero, List.set_cons_succ]
          refine wpAnyH_take (i := 12) (oi := { dst := some 30, op := Op.call { callee := Callee.value (Operand.func 14), args := #[Operand.tmp 28, Operand.tmp 29], argTypes := #[32, 32] }, type := 3, pos := "ref.go:133", after := #[{ on := 10, ground := Ground.data }, { on := 11, ground := Ground.data }, { on := 6, ground := Ground.chain }, { on := 6, ground := Ground.guard }], guard := some (6, true) }) (v := undef) rfl (by kernel_rfl) (by kernel_rfl) (by kernel_rfl) (fun _ _ _ h => h) (Or.inr ⟨by rfl, rfl⟩) (by assumption) ?_
          try simp only [Act.put, List.setIfInBounds_toArray, List.set_cons_zero, List.set_cons_succ]
          refine wpAnyH_take (i := 13) (oi := { dst := some 31, op := Op.binOp BinOp.add 3 (Operand.tmp 30) (Operand.const (Value.int IntKind.i64 1)) 3, type := 3, pos := "ref.go:133", after := #[{ on := 12, ground := Ground.data }, { on := 6, ground := Ground.guard }], guard := some (6, true) }) (v := undef) rfl (by kernel_rfl) (by kernel_rfl) (by kernel_rfl) (fun _ _ _ h => h) (Or.inr ⟨by rfl, rfl⟩) (by assumption) ?_
          try simp only [Act.put, List.setIfInBounds_toArray, List.set_cons_zero, List.set_cons_succ]
          refine wpAnyH_take (i := 14) (oi := { dst := some 32, op := Op.move (Operand.tmp 7), type := 3, pos := "ref.go:133", after := #[{ on := 6, ground := Ground.guard }], guard := some (6, true) }) (v := undef) rfl (by kernel_rfl) (by kernel_rfl) (by kernel_rfl) (fun _ _ _ h => h) (Or.inr ⟨by rfl, rfl⟩) (by assumption) ?_
          try simp only [Act.put, List.setIfInBounds_toArray, List.set_cons_zero, List.set_cons_succ]
          refine wpAnyH_take (i := 15) (oi := { dst := some 33, op := Op.binOp BinOp.gtr 3 (Operand.tmp 31) (Operand.tmp 32) 3, type := 4, pos := "ref.go:133", after := #[{ on := 13, ground := Ground.data }, { on := 14, ground := Ground.data }, { on := 6, ground := Ground.guard }], guard := some (6, true) }) (v := undef) rfl (by kernel_rfl) (by kernel_rfl) (by kernel_rfl) (fun _ _ _ h => h) (Or.inr ⟨by rfl, rfl⟩) (by assumption) ?_
          try simp only [Act.put, List.setIfInBounds_toArray, List.set_cons_zero, List.set_cons_succ]
          refine wpAnyH_take (i := 16) (oi := { dst := some 34, op := Op.pick (Operand.tmp 24) (Operand.tmp 33) (Operand.const (Value.bool false)), type := 4, pos := "ref.go:133", after := #[{ on := 6, ground := Ground.data }, { on := 15, ground := Ground.data }], guard := none }) (v := ?vsa16) rfl (by kernel_rfl) (by kernel_rfl) (by kernel_rfl) (fun _ _ _ h => h) (Or.inl ⟨by rfl, ?ysa16⟩) (by assumption) ?rsa16
          case ysa16 => (intro w' hSw; (try dsimp only at hSw); go_simp; try with_reducible rfl)
          try simp only [Act.put, List.setIfInBounds_toArray, List.set_cons_zero, List.set_cons_succ]
          refine wpAnyH_done (by kernel_rfl) ?_ _
          )
          have hI7 := Lib.hid T0.out.r.blk
          have hB7 := Lib.hid T0.out.r.bel
          clear S0 T0 heq
          generalize wr.drew = WF at *
          go_wp2_with fail
          go_roundw
          case rel => exact ⟨i + 1, n, by go_num, rfl, HLT.out, HS, hI7, hB7⟩
          case measure => have := HLT.out; simp [intOf]; omega
        · rw [decide_eq_false hmi] at heq
          have HS : Hid (shortN id n0 (l.take (i + 1)) = max n (share m id + 1)) := Lib.hid (by rw [hone.out, shortN_snoc, hsn.out]; exact if_neg hmi)
          have hsl := share_le m id
          have SHm : Hid (∀ W, Calls Try.prog 14 #[.agg cm.toArray, .agg ci.toArray] W (fun e w' => e = .returned (.int .i64 (share m id)) ∧ Below W.heap.size W w')) := Lib.hid (by rw [HCM.out]; exact fun W => SH.out W m HML.out)
          obtain ⟨q, hq⟩ : ∃ q, q = share m id := ⟨_, rfl⟩
          rw [← hq] at HS hsl SHm
          have q0 : (0 : Int) ≤ (q : Int) := Int.natCast_nonneg _
          have q1 : (q : Int) ≤ 64 := by omega
          clear hmi hq hsl
          by_cases hnq : n < q + 1
          · have hgt : decide ((n : Int) < (q : Int) + 1) = true := by simp; omega
            have HS2 : Hid (shortN id n0 (l.take (i + 1)) = q + 1) := Lib.hid (by rw [HS.out]; omega)
            have hqs : IntKind.i64.wrap ((q : Int) + 1) = (q : Int) + 1 := by rw [IntKind.wrap_i64]; omega
            clear hnq HS
            go_upto_region 7 with fail
            (
            refine wp_region_held_drew (S := fun w' => (loadCells ⟨I, 0, none⟩ 32).run Try.prog w' = .ok ci.toArray w' ∧ (loadCells ⟨g, o + i * 32, none⟩ 32).run Try.prog w' = .ok cm.toArray w') (by kernel_rfl) (S0) (fun hHeld => ?_)
            refine wpAnyH_take (i := 0) (oi := { dst := some 18, op := Op.move (Operand.tmp 0), type := 37, pos := "ref.go:133", after := #[], guard := none }) (v := ?vsb0) rfl (by kernel_rfl) (by kernel_rfl) (by kernel_rfl) (fun _ _ _ h => h) (Or.inl ⟨by rfl, ?ysb0⟩) (by assumption) ?rsb0
            case ysb0 => (intro w' hSw; (try dsimp only at hSw); go_simp; try with_reducible rfl)
            try simp only [Act.put, List.setIfInBounds_toArray, List.set_cons_zero, List.set_cons_succ]
            refine wpAnyH_take (i := 1) (oi := { dst := some 19, op := Op.move (Operand.tmp 8), type := 3, pos := "ref.go:133", after := #[], guard := none }) (v := ?vsb1) rfl (by kernel_rfl) (by kernel_rfl) (by kernel_rfl) (fun _ _ _ h => h) (Or.inl ⟨by rfl, ?ysb1⟩) (by assumption) ?rsb1
            case ysb1 => (intro w' hSw; (try dsimp only at hSw); go_simp; try with_reducible rfl)
            try simp only [Act.put, List.setIfInBounds_toArray, List.set_cons_zero, List.set_cons_succ]
            refine wpAnyH_take (i := 2) (oi := { dst := some 20, op := Op.indexAddr 37 (Operand.tmp 18) (Operand.tmp 19), type := 0, pos := "ref.go:133", after := #[{ on := 0, ground := Ground.data }, { on := 1, ground := Ground.data }], guard := none }) (v := ?vsb2) rfl (by kernel_rfl) (by kernel_rfl) (by kernel_rfl) (fun _ _ _ h => h) (Or.inl ⟨by rfl, ?ysb2⟩) (by assumption) ?rsb2
            case ysb2 => (intro w' hSw; (try dsimp only at hSw); go_simp; try with_reducible rfl)
            try simp only [Act.put, List.setIfInBounds_toArray, List.set_cons_zero, List.set_cons_succ]
            refine wpAnyH_take (i := 3) (oi := { dst := some 21, op := Op.load 32 (Operand.tmp 20), type := 32, pos := "ref.go:133", after := #[{ on := 2, ground := Ground.data }], guard := none }) (v := ?vsb3) rfl (by kernel_rfl) (by kernel_rfl) (by kernel_rfl) (fun _ _ _ h => h) (Or.inl ⟨by rfl, ?ysb3⟩) (by assumption) ?rsb3
            case ysb3 => (intro w' hSw; (try dsimp only at hSw); go_simp; try with_reducible rfl)
            try simp only [Act.put, List.setIfInBounds_toArray, List.set_cons_zero, List.set_cons_succ]
            refine wpAnyH_take (i := 4) (oi := { dst := some 22, op := Op.load 32 (Operand.tmp 4), type := 32, pos := "ref.go:133", after := #[], guard := none }) (v := ?vsb4) rfl (by kernel_rfl) (by kernel_rfl) (by kernel_rfl) (fun _ _ _ h => h) (Or.inl ⟨by rfl, ?ysb4⟩) (by assumption) ?rsb4
            case ysb4 => (intro w' hSw; (try dsimp only at hSw); go_simp; try with_reducible rfl)
            try simp only [Act.put, List.setIfInBounds_toArray, List.set_cons_zero, List.set_cons_succ]
            refine wpAnyH_take (i := 5) (oi := { dst := some 23, op := Op.binOp BinOp.neq 32 (Operand.tmp 21) (Operand.tmp 22) 32, type := 4, pos := "ref.go:133", after := #[{ on := 3, ground := Ground.data }, { on := 4, ground := Ground.data }], guard := none }) (v := ?vsb5) rfl (by kernel_rfl) (by kernel_rfl) (by kernel_rfl) (fun _ _ _ h => h) (Or.inl ⟨by rfl, ?ysb5⟩) (by assumption) ?rsb5
            case ysb5 => (intro w' hSw; (try dsimp only at hSw); go_simp; try with_reducible rfl)
            try simp only [Act.put, List.setIfInBounds_toArray, List.set_cons_zero, List.set_cons_succ]
            refine wpAnyH_take (i := 6) (oi := { dst := some 24, op := Op.move (Operand.tmp 23), type := 4, pos := "ref.go:133", after := #[{ on := 5, ground := Ground.data }], guard := none }) (v := ?vsb6) rfl (by kernel_rfl) (by kernel_rfl) (by kernel_rfl) (fun _ _ _ h => h) (Or.inl ⟨by rfl, ?ysb6⟩) (by assumption) ?rsb6
            case ysb6 => (intro w' hSw; (try dsimp only at hSw); go_simp; try with_reducible rfl)
            try simp only [Act.put, List.setIfInBounds_toArray, List.set_cons_zero, List.set_cons_succ]
            refine wpAnyH_take (i := 7) (oi := { dst := some 25, op := Op.move (Operand.tmp 0), type := 37, pos := "ref.go:133", after := #[{ on := 6, ground := Ground.guard }], guard := some (6, true) }) (v := ?vsb7) rfl (by kernel_rfl) (by kernel_rfl) (by kernel_rfl) (fun _ _ _ h => h) (Or.inl ⟨by rfl, ?ysb7⟩) (by assumption) ?rsb7
            case ysb7 => (intro w' hSw; (try dsimp only at hSw); go_simp; try with_reducible rfl)
            try simp only [Act.put, List.setIfInBounds_toArray, List.set_cons_zero, List.set_cons_succ]
            refine wpAnyH_take (i := 8) (oi := { dst := some 26, op := Op.move (Operand.tmp 8), type := 3, pos := "ref.go:133", after := #[{ on := 6, ground := Ground.guard }], guard := some (6, true) }) (v := ?vsb8) rfl (by kernel_rfl) (by kernel_rfl) (by kernel_rfl) (fun _ _ _ h => h) (Or.inl ⟨by rfl, ?ysb8⟩) (by assumption) ?rsb8
            case ysb8 => (intro w' hSw; (try dsimp only at hSw); go_simp; try with_reducible rfl)
            try simp only [Act.put, List.setIfInBounds_toArray, List.set_cons_zero, List.set_cons_succ]
            refine wpAnyH_take (i := 9) (oi := { dst := some 27, op := Op.indexAddr 37 (Operand.tmp 25) (Operand.tmp 26), type := 0, pos := "ref.go:133", after := #[{ on := 7, ground := Ground.data }, { on := 8, ground := Ground.data }, { on := 6, ground := Ground.guard }], guard := some (6, true) }) (v := ?vsb9) rfl (by kernel_rfl) (by kernel_rfl) (by kernel_rfl) (fun _ _ _ h => h) (Or.inl ⟨by rfl, ?ysb9⟩) (by assumption) ?rsb9
            case ysb9 => (intro w' hSw; (try dsimp only at hSw); go_simp; try with_reducible rfl)
            try simp only [Act.put, List.setIfInBounds_toArray, List.set_cons_zero, List.set_cons_succ]
            refine wpAnyH_take (i := 10) (oi := { dst := some 28, op := Op.load 32 (Operand.tmp 27), type := 32, pos := "ref.go:133", after := #[{ on := 9, ground := Ground.data }, { on := 6, ground := Ground.guard }], guard := some (6, true) }) (v := ?vsb10) rfl (by kernel_rfl) (by kernel_rfl) (by kernel_rfl) (fun _ _ _ h => h) (Or.inl ⟨by rfl, ?ysb10⟩) (by assumption) ?rsb10
            case ysb10 => (intro w' hSw; (try dsimp only at hSw); go_simp; try with_reducible rfl)
            try simp only [Act.put, List.setIfInBounds_toArray, List.set_cons_zero, List.set_cons_succ]
            refine wpAnyH_take (i := 11) (oi := { dst := some 29, op := Op.load 32 (Operand.tmp 4), type := 32, pos := "ref.go:133", after := #[{ on := 6, ground := Ground.guard }], guard := some (6, true) }) (v := ?vsb11) rfl (by kernel_rfl) (by kernel_rfl) (by kernel_rfl) (fun _ _ _ h => h) (Or.inl ⟨by rfl, ?ysb11⟩) (by assumption) ?rsb11
            case ysb11 => (intro w' hSw; (try dsimp only at hSw); go_simp; try with_reducible rfl)
            try simp only [Act.put, List.setIfInBounds_toArray, List.set_cons_zero, List.set_cons_succ]
            refine wpAnyH_take (i := 14) (oi := { dst := some 32, op := Op.move (Operand.tmp 7), type := 3, pos := "ref.go:133", after := #[{ on := 6, ground := Ground.guard }], guard := some (6, true) }) (v := ?vsb14) rfl (by kernel_rfl) (by kernel_rfl) (by kernel_rfl) (fun _ _ _ h => h) (Or.inl ⟨by rfl, ?ysb14⟩) (by assumption) ?rsb14
            case ysb14 => (intro w' hSw; (try dsimp only at hSw); go_simp; try with_reducible rfl)
            try simp only [Act.put, List.setIfInBounds_toArray, List.set_cons_zero, List.set_cons_succ]
            refine wpAnyH_ready (rs := [12]) (by kernel_rfl) (by simp) ?_
            refine AllReadyH.cons (o := { dst := some 30, op := Op.call { callee := Callee.value (Operand.func 14), args := #[Operand.tmp 28, Operand.tmp 29], argTypes := #[32, 32] }, type := 3, pos := "ref.go:133", after := #[{ on := 10, ground := Ground.data }, { on := 11, ground := Ground.data }, { on := 6, ground := Ground.chain }, { on := 6, ground := Ground.guard }], guard := some (6, true) }) rfl (fun K hK => ?_) AllReadyH.nil
            go_simp
            go_at_call 14
            refine (SHm.out _).mono ?_
            rintro e w6 ⟨rfl, hb6⟩
            have T6 := Lib.hid (T0.out.below hb6)
            go_wp2_with fail
            refine hK.out _ _ (T6.out.ld) (fun hHeldsb12 => ?_)
            clear hK K hHeld
            try simp only [Act.put, List.setIfInBounds_toArray, List.set_cons_zero, List.set_cons_succ]
            refine wpAnyH_take (i := 13) (oi := { dst := some 31, op := Op.binOp BinOp.add 3 (Operand.tmp 30) (Operand.const (Value.int IntKind.i64 1)) 3, type := 3, pos := "ref.go:133", after := #[{ on := 12, ground := Ground.data }, { on := 6, ground := Ground.guard }], guard := some (6, true) }) (v := ?vsb13) rfl (by kernel_rfl) (by kernel_rfl) (by kernel_rfl) (fun _ _ _ h => h) (Or.inl ⟨by rfl, ?ysb13⟩) (by assumption) ?rsb13
            case ysb13 => (intro w' hSw; (try dsimp only at hSw); go_simp; try with_reducible rfl)
            try simp only [Act.put, List.setIfInBounds_toArray, List.set_cons_zero, List.set_cons_succ]
            refine wpAnyH_take (i := 15) (oi := { dst := some 33, op := Op.binOp BinOp.gtr 3 (Operand.tmp 31) (Operand.tmp 32) 3, type := 4, pos := "ref.go:133", after := #[{ on := 13, ground := Ground.data }, { on := 14, ground := Ground.data }, { on := 6, ground := Ground.guard }], guard := some (6, true) }) (v := ?vsb15) rfl (by kernel_rfl) (by kernel_rfl) (by kernel_rfl) (fun _ _ _ h => h) (Or.inl ⟨by rfl, ?ysb15⟩) (by assumption) ?rsb15
            case ysb15 => (intro w' hSw; (try dsimp only at hSw); go_simp; try with_reducible rfl)
            try simp only [Act.put, List.setIfInBounds_toArray, List.set_cons_zero, List.set_cons_succ]
            refine wpAnyH_take (i := 16) (oi := { dst := some 34, op := Op.pick (Operand.tmp 24) (Operand.tmp 33) (Operand.const (Value.bool false)), type := 4, pos := "ref.go:133", after := #[{ on := 6, ground := Ground.data }, { on := 15, ground := Ground.data }], guard := none }) (v := ?vsb16) rfl (by kernel_rfl) (by kernel_rfl) (by kernel_rfl) (fun _ _ _ h => h) (Or.inl ⟨by rfl, ?ysb16⟩) (by assumption) ?rsb16
            case ysb16 => (intro w' hSw; (try dsimp only at hSw); go_simp; try with_reducible rfl)
            try simp only [Act.put, List.setIfInBounds_toArray, List.set_cons_zero, List.set_cons_succ]
            refine wpAnyH_done (by kernel_rfl) ?_ _
            )
            clear S0 hb6 heq hgt
            have T7 := Lib.hid T6.out.drew
            have S7 := T7.out.ld
            clear T6 T0
            go_upto_region 8 with fail
            (
            refine wp_region_held_drew (S := fun w' => (loadCells ⟨I, 0, none⟩ 32).run Try.prog w' = .ok ci.toArray w' ∧ (loadCells ⟨g, o + i * 32, none⟩ 32).run Try.prog w' = .ok cm.toArray w') (by kernel_rfl) (S7) (fun hHeld => ?_)
            refine wpAnyH_take (i := 0) (oi := { dst := some 35, op := Op.move (Operand.tmp 0), type := 37, pos := "ref.go:134", after := #[], guard := none }) (v := ?vsd0) rfl (by kernel_rfl) (by kernel_rfl) (by kernel_rfl) (fun _ _ _ h => h) (Or.inl ⟨by rfl, ?ysd0⟩) (by assumption) ?rsd0
            case ysd0 => (intro w' hSw; (try dsimp only at hSw); go_simp; try with_reducible rfl)
            try simp only [Act.put, List.setIfInBounds_toArray, List.set_cons_zero, List.set_cons_succ]
            refine wpAnyH_take (i := 1) (oi := { dst := some 36, op := Op.move (Operand.tmp 8), type := 3, pos := "ref.go:134", after := #[], guard := none }) (v := ?vsd1) rfl (by kernel_rfl) (by kernel_rfl) (by kernel_rfl) (fun _ _ _ h => h) (Or.inl ⟨by rfl, ?ysd1⟩) (by assumption) ?rsd1
            case ysd1 => (intro w' hSw; (try dsimp only at hSw); go_simp; try with_reducible rfl)
            try simp only [Act.put, List.setIfInBounds_toArray, List.set_cons_zero, List.set_cons_succ]
            refine wpAnyH_take (i := 2) (oi := { dst := some 37, op := Op.indexAddr 37 (Operand.tmp 35) (Operand.tmp 36), type := 0, pos := "ref.go:134", after := #[{ on := 0, ground := Ground.data }, { on := 1, ground := Ground.data }], guard := none }) (v := ?vsd2) rfl (by kernel_rfl) (by kernel_rfl) (by kernel_rfl) (fun _ _ _ h => h) (Or.inl ⟨by rfl, ?ysd2⟩) (by assumption) ?rsd2
            case ysd2 => (intro w' hSw; (try dsimp only at hSw); go_simp; try with_reducible rfl)
            try simp only [Act.put, List.setIfInBounds_toArray, List.set_cons_zero, List.set_cons_succ]
            refine wpAnyH_take (i := 3) (oi := { dst := some 38, op := Op.load 32 (Operand.tmp 37), type := 32, pos := "ref.go:134", after := #[{ on := 2, ground := Ground.data }], guard := none }) (v := ?vsd3) rfl (by kernel_rfl) (by kernel_rfl) (by kernel_rfl) (fun _ _ _ h => h) (Or.inl ⟨by rfl, ?ysd3⟩) (by assumption) ?rsd3
            case ysd3 => (intro w' hSw; (try dsimp only at hSw); go_simp; try with_reducible rfl)
            try simp only [Act.put, List.setIfInBounds_toArray, List.set_cons_zero, List.set_cons_succ]
            refine wpAnyH_take (i := 4) (oi := { dst := some 39, op := Op.load 32 (Operand.tmp 4), type := 32, pos := "ref.go:134", after := #[], guard := none }) (v := ?vsd4) rfl (by kernel_rfl) (by kernel_rfl) (by kernel_rfl) (fun _ _ _ h => h) (Or.inl ⟨by rfl, ?ysd4⟩) (by assumption) ?rsd4
            case ysd4 => (intro w' hSw; (try dsimp only at hSw); go_simp; try with_reducible rfl)
            try simp only [Act.put, List.setIfInBounds_toArray, List.set_cons_zero, List.set_cons_succ]
            refine wpAnyH_ready (rs := [5]) (by kernel_rfl) (by simp) ?_
            refine AllReadyH.cons (o := { dst := some 40, op := Op.call { callee := Callee.value (Operand.func 14), args := #[Operand.tmp 38, Operand.tmp 39], argTypes := #[32, 32] }, type := 3, pos := "ref.go:134", after := #[{ on := 3, ground := Ground.data }, { on := 4, ground := Ground.data }], guard := none }) rfl (fun K hK => ?_) AllReadyH.nil
            go_simp
            go_at_call 14
            refine (SHm.out _).mono ?_
            rintro e w8 ⟨rfl, hb8⟩
            have T8 := Lib.hid (T7.out.below hb8)
            go_wp2_with fail
            refine hK.out _ _ (T8.out.ld) (fun hHeldsd5 => ?_)
            clear hK K hHeld
            try simp only [Act.put, List.setIfInBounds_toArray, List.set_cons_zero, List.set_cons_succ]
            refine wpAnyH_take (i := 6) (oi := { dst := some 41, op := Op.binOp BinOp.add 3 (Operand.tmp 40) (Operand.const (Value.int IntKind.i64 1)) 3, type := 3, pos := "ref.go:134", after := #[{ on := 5, ground := Ground.data }], guard := none }) (v := ?vsd6) rfl (by kernel_rfl) (by kernel_rfl) (by kernel_rfl) (fun _ _ _ h => h) (Or.inl ⟨by rfl, ?ysd6⟩) (by assumption) ?rsd6
            case ysd6 => (intro w' hSw; (try dsimp only at hSw); go_simp; try with_reducible rfl)
            try simp only [Act.put, List.setIfInBounds_toArray, List.set_cons_zero, List.set_cons_succ]
            refine wpAnyH_take (i := 7) (oi := { dst := some 7, op := Op.assign (Operand.tmp 41), type := 3, pos := "ref.go:134", after := #[{ on := 6, ground := Ground.data }, { on := 5, ground := Ground.chain }, { on := 0, ground := Ground.phase }, { on := 1, ground := Ground.phase }, { on := 2, ground := Ground.phase }, { on := 3, ground := Ground.phase }, { on := 4, ground := Ground.phase }, { on := 5, ground := Ground.phase }, { on := 6, ground := Ground.phase }], guard := none }) (v := ?vsd7) rfl (by kernel_rfl) (by kernel_rfl) (by kernel_rfl) (fun _ _ _ h => h) (Or.inl ⟨by rfl, ?ysd7⟩) (by assumption) ?rsd7
            case ysd7 => (intro w' hSw; (try dsimp only at hSw); go_simp; try with_reducible rfl)
            try simp only [Act.put, List.setIfInBounds_toArray, List.set_cons_zero, List.set_cons_succ]
            refine wpAnyH_done (by kernel_rfl) ?_ _
            )
            have hI9 := Lib.hid T8.out.r.blk
            have hB9 := Lib.hid T8.out.r.bel
            clear S7 hb8 T7 T8 hqs
            go_wp2_with fail
            go_roundw
            case rel => exact ⟨i + 1, q + 1, by go_num, by go_num, HLT.out, HS2, hI9, hB9⟩
            case measure => have := HLT.out; simp [intOf]; omega
          · have hgt : decide ((n : Int) < (q : Int) + 1) = false := by simp; omega
            have HS2 : Hid (shortN id n0 (l.take (i + 1)) = n) := Lib.hid (by rw [HS.out]; omega)
            have hqs : IntKind.i64.wrap ((q : Int) + 1) = (q : Int) + 1 := by rw [IntKind.wrap_i64]; omega
            clear hnq HS
            go_upto_region 7 with fail
            (
            refine wp_region_held_drew (S := fun w' => (loadCells ⟨I, 0, none⟩ 32).run Try.prog w' = .ok ci.toArray w' ∧ (loadCells ⟨g, o + i * 32, none⟩ 32).run Try.prog w' = .ok cm.toArray w') (by kernel_rfl) (S0) (fun hHeld => ?_)
            refine wpAnyH_take (i := 0) (oi := { dst := some 18, op := Op.move (Operand.tmp 0), type := 37, pos := "ref.go:133", after := #[], guard := none }) (v := ?vsc0) rfl (by kernel_rfl) (by kernel_rfl) (by kernel_rfl) (fun _ _ _ h => h) (Or.inl ⟨by rfl, ?ysc0⟩) (by assumption) ?rsc0
            case ysc0 => (intro w' hSw; (try dsimp only at hSw); go_simp; try with_reducible rfl)
            try simp only [Act.put, List.setIfInBounds_toArray, List.set_cons_zero, List.set_cons_succ]
            refine wpAnyH_take (i := 1) (oi := { dst := some 19, op := Op.move (Operand.tmp 8), type := 3, pos := "ref.go:133", after := #[], guard := none }) (v := ?vsc1) rfl (by kernel_rfl) (by kernel_rfl) (by kernel_rfl) (fun _ _ _ h => h) (Or.inl ⟨by rfl, ?ysc1⟩) (by assumption) ?rsc1
            case ysc1 => (intro w' hSw; (try dsimp only at hSw); go_simp; try with_reducible rfl)
            try simp only [Act.put, List.setIfInBounds_toArray, List.set_cons_zero, List.set_cons_succ]
            refine wpAnyH_take (i := 2) (oi := { dst := some 20, op := Op.indexAddr 37 (Operand.tmp 18) (Operand.tmp 19), type := 0, pos := "ref.go:133", after := #[{ on := 0, ground := Ground.data }, { on := 1, ground := Ground.data }], guard := none }) (v := ?vsc2) rfl (by kernel_rfl) (by kernel_rfl) (by kernel_rfl) (fun _ _ _ h => h) (Or.inl ⟨by rfl, ?ysc2⟩) (by assumption) ?rsc2
            case ysc2 => (intro w' hSw; (try dsimp only at hSw); go_simp; try with_reducible rfl)
            try simp only [Act.put, List.setIfInBounds_toArray, List.set_cons_zero, List.set_cons_succ]
            refine wpAnyH_take (i := 3) (oi := { dst := some 21, op := Op.load 32 (Operand.tmp 20), type := 32, pos := "ref.go:133", after := #[{ on := 2, ground := Ground.data }], guard := none }) (v := ?vsc3) rfl (by kernel_rfl) (by kernel_rfl) (by kernel_rfl) (fun _ _ _ h => h) (Or.inl ⟨by rfl, ?ysc3⟩) (by assumption) ?rsc3
            case ysc3 => (intro w' hSw; (try dsimp only at hSw); go_simp; try with_reducible rfl)
            try simp only [Act.put, List.setIfInBounds_toArray, List.set_cons_zero, List.set_cons_succ]
            refine wpAnyH_take (i := 4) (oi := { dst := some 22, op := Op.load 32 (Operand.tmp 4), type := 32, pos := "ref.go:133", after := #[], guard := none }) (v := ?vsc4) rfl (by kernel_rfl) (by kernel_rfl) (by kernel_rfl) (fun _ _ _ h => h) (Or.inl ⟨by rfl, ?ysc4⟩) (by assumption) ?rsc4
            case ysc4 => (intro w' hSw; (try dsimp only at hSw); go_simp; try with_reducible rfl)
            try simp only [Act.put, List.setIfInBounds_toArray, List.set_cons_zero, List.set_cons_succ]
            refine wpAnyH_take (i := 5) (oi := { dst := some 23, op := Op.binOp BinOp.neq 32 (Operand.tmp 21) (Operand.tmp 22) 32, type := 4, pos := "ref.go:133", after := #[{ on := 3, ground := Ground.data }, { on := 4, ground := Ground.data }], guard := none }) (v := ?vsc5) rfl (by kernel_rfl) (by kernel_rfl) (by kernel_rfl) (fun _ _ _ h => h) (Or.inl ⟨by rfl, ?ysc5⟩) (by assumption) ?rsc5
            case ysc5 => (intro w' hSw; (try dsimp only at hSw); go_simp; try with_reducible rfl)
            try simp only [Act.put, List.setIfInBounds_toArray, List.set_cons_zero, List.set_cons_succ]
            refine wpAnyH_take (i := 6) (oi := { dst := some 24, op := Op.move (Operand.tmp 23), type := 4, pos := "ref.go:133", after := #[{ on := 5, ground := Ground.data }], guard := none }) (v := ?vsc6) rfl (by kernel_rfl) (by kernel_rfl) (by kernel_rfl) (fun _ _ _ h => h) (Or.inl ⟨by rfl, ?ysc6⟩) (by assumption) ?rsc6
            case ysc6 => (intro w' hSw; (try dsimp only at hSw); go_simp; try with_reducible rfl)
            try simp only [Act.put, List.setIfInBounds_toArray, List.set_cons_zero, List.set_cons_succ]
            refine wpAnyH_take (i := 7) (oi := { dst := some 25, op := Op.move (Operand.tmp 0), type := 37, pos := "ref.go:133", after := #[{ on := 6, ground := Ground.guard }], guard := some (6, true) }) (v := ?vsc7) rfl (by kernel_rfl) (by kernel_rfl) (by kernel_rfl) (fun _ _ _ h => h) (Or.inl ⟨by rfl, ?ysc7⟩) (by assumption) ?rsc7
            case ysc7 => (intro w' hSw; (try dsimp only at hSw); go_simp; try with_reducible rfl)
            try simp only [Act.put, List.setIfInBounds_toArray, List.set_cons_zero, List.set_cons_succ]
            refine wpAnyH_take (i := 8) (oi := { dst := some 26, op := Op.move (Operand.tmp 8), type := 3, pos := "ref.go:133", after := #[{ on := 6, ground := Ground.guard }], guard := some (6, true) }) (v := ?vsc8) rfl (by kernel_rfl) (by kernel_rfl) (by kernel_rfl) (fun _ _ _ h => h) (Or.inl ⟨by rfl, ?ysc8⟩) (by assumption) ?rsc8
            case ysc8 => (intro w' hSw; (try dsimp only at hSw); go_simp; try with_reducible rfl)
            try simp only [Act.put, List.setIfInBounds_toArray, List.set_cons_zero, List.set_cons_succ]
            refine wpAnyH_take (i := 9) (oi := { dst := some 27, op := Op.indexAddr 37 (Operand.tmp 25) (Operand.tmp 26), type := 0, pos := "ref.go:133", after := #[{ on := 7, ground := Ground.data }, { on := 8, ground := Ground.data }, { on := 6, ground := Ground.guard }], guard := some (6, true) }) (v := ?vsc9) rfl (by kernel_rfl) (by kernel_rfl) (by kernel_rfl) (fun _ _ _ h => h) (Or.inl ⟨by rfl, ?ysc9⟩) (by assumption) ?rsc9
            case ysc9 => (intro w' hSw; (try dsimp only at hSw); go_simp; try with_reducible rfl)
            try simp only [Act.put, List.setIfInBounds_toArray, List.set_cons_zero, List.set_cons_succ]
            refine wpAnyH_take (i := 10) (oi := { dst := some 28, op := Op.load 32 (Operand.tmp 27), type := 32, pos := "ref.go:133", after := #[{ on := 9, ground := Ground.data }, { on := 6, ground := Ground.guard }], guard := some (6, true) }) (v := ?vsc10) rfl (by kernel_rfl) (by kernel_rfl) (by kernel_rfl) (fun _ _ _ h => h) (Or.inl ⟨by rfl, ?ysc10⟩) (by assumption) ?rsc10
            case ysc10 => (intro w' hSw; (try dsimp only at hSw); go_simp; try with_reducible rfl)
            try simp only [Act.put, List.setIfInBounds_toArray, List.set_cons_zero, List.set_cons_succ]
            refine wpAnyH_take (i := 11) (oi := { dst := some 29, op := Op.load 32 (Operand.tmp 4), type := 32, pos := "ref.go:133", after := #[{ on := 6, ground := Ground.guard }], guard := some (6, true) }) (v := ?vsc11) rfl (by kernel_rfl) (by kernel_rfl) (by kernel_rfl) (fun _ _ _ h => h) (Or.inl ⟨by rfl, ?ysc11⟩) (by assumption) ?rsc11
            case ysc11 => (intro w' hSw; (try dsimp only at hSw); go_simp; try with_reducible rfl)
            try simp only [Act.put, List.setIfInBounds_toArray, List.set_cons_zero, List.set_cons_succ]
            refine wpAnyH_take (i := 14) (oi := { dst := some 32, op := Op.move (Operand.tmp 7), type := 3, pos := "ref.go:133", after := #[{ on := 6, ground := Ground.guard }], guard := some (6, true) }) (v := ?vsc14) rfl (by kernel_rfl) (by kernel_rfl) (by kernel_rfl) (fun _ _ _ h => h) (Or.inl ⟨by rfl, ?ysc14⟩) (by assumption) ?rsc14
            case ysc14 => (intro w' hSw; (try dsimp only at hSw); go_simp; try with_reducible rfl)
            try simp only [Act.put, List.setIfInBounds_toArray, List.set_cons_zero, List.set_cons_succ]
            refine wpAnyH_ready (rs := [12]) (by kernel_rfl) (by simp) ?_
            refine AllReadyH.cons (o := { dst := some 30, op := Op.call { callee := Callee.value (Operand.func 14), args := #[Operand.tmp 28, Operand.tmp 29], argTypes := #[32, 32] }, type := 3, pos := "ref.go:133", after := #[{ on := 10, ground := Ground.data }, { on := 11, ground := Ground.data }, { on := 6, ground := Ground.chain }, { on := 6, ground := Ground.guard }], guard := some (6, true) }) rfl (fun K hK => ?_) AllReadyH.nil
            go_simp
            go_at_call 14
            refine (SHm.out _).mono ?_
            rintro e w6 ⟨rfl, hb6⟩
            have T6 := Lib.hid (T0.out.below hb6)
            go_wp2_with fail
            refine hK.out _ _ (T6.out.ld) (fun hHeldsc12 => ?_)
            clear hK K hHeld
            try simp only [Act.put, List.setIfInBounds_toArray, List.set_cons_zero, List.set_cons_succ]
            refine wpAnyH_take (i := 13) (oi := { dst := some 31, op := Op.binOp BinOp.add 3 (Operand.tmp 30) (Operand.const (Value.int IntKind.i64 1)) 3, type := 3, pos := "ref.go:133", after := #[{ on := 12, ground := Ground.data }, { on := 6, ground := Ground.guard }], guard := some (6, true) }) (v := ?vsc13) rfl (by kernel_rfl) (by kernel_rfl) (by kernel_rfl) (fun _ _ _ h => h) (Or.inl ⟨by rfl, ?ysc13⟩) (by assumption) ?rsc13
            case ysc13 => (intro w' hSw; (try dsimp only at hSw); go_simp; try with_reducible rfl)
            try simp only [Act.put, List.setIfInBounds_toArray, List.set_cons_zero, List.set_cons_succ]
            refine wpAnyH_take (i := 15) (oi := { dst := some 33, op := Op.binOp BinOp.gtr 3 (Operand.tmp 31) (Operand.tmp 32) 3, type := 4, pos := "ref.go:133", after := #[{ on := 13, ground := Ground.data }, { on := 14, ground := Ground.data }, { on := 6, ground := Ground.guard }], guard := some (6, true) }) (v := ?vsc15) rfl (by kernel_rfl) (by kernel_rfl) (by kernel_rfl) (fun _ _ _ h => h) (Or.inl ⟨by rfl, ?ysc15⟩) (by assumption) ?rsc15
            case ysc15 => (intro w' hSw; (try dsimp only at hSw); go_simp; try with_reducible rfl)
            try simp only [Act.put, List.setIfInBounds_toArray, List.set_cons_zero, List.set_cons_succ]
            refine wpAnyH_take (i := 16) (oi := { dst := some 34, op := Op.pick (Operand.tmp 24) (Operand.tmp 33) (Operand.const (Value.bool false)), type := 4, pos := "ref.go:133", after := #[{ on := 6, ground := Ground.data }, { on := 15, ground := Ground.data }], guard := none }) (v := ?vsc16) rfl (by kernel_rfl) (by kernel_rfl) (by kernel_rfl) (fun _ _ _ h => h) (Or.inl ⟨by rfl, ?ysc16⟩) (by assumption) ?rsc16
            case ysc16 => (intro w' hSw; (try dsimp only at hSw); go_simp; try with_reducible rfl)
            try simp only [Act.put, List.setIfInBounds_toArray, List.set_cons_zero, List.set_cons_succ]
            refine wpAnyH_done (by kernel_rfl) ?_ _
            )
            have hI9 := Lib.hid T6.out.r.blk
            have hB9 := Lib.hid T6.out.r.bel
            clear S0 hb6 heq T0 T6 hgt hqs
            go_wp2_with fail
            go_roundw
            case rel => exact ⟨i + 1, n, by go_num, rfl, HLT.out, HS2, hI9, hB9⟩
            case measure => have := HLT.out; simp [intOf]; omega
      · obtain rfl : i = l.length := by omega
        have HS : Hid (shortN id n0 l = n) := Lib.hid (by rw [← hsn.out, List.take_of_length_le (Nat.le_refl _)])
        clear hsn hi hlt
        by_cases h64 : 64 < n
        · have hd : decide ((64 : Int) < (n : Int)) = true := by simp; omega
          have HR2 : Hid (shortN id (least0 k) l = 64) := Lib.hid (by rw [HRES.out, HS.out]; omega)
          have hd2 : (64 : Int) < (n : Int) := by omega
          clear h64
          go_wp2_with fail
          go_ret
          exact ⟨by rw [HR2.out]; rfl, hB.out⟩
        · have hd : ¬ (64 : Int) < (n : Int) := by omega
          have HR2 : Hid (shortN id (least0 k) l = n) := Lib.hid (by rw [HRES.out, HS.out]; omega)
          clear h64
          go_wp2_with fail
          go_ret
          exact ⟨by rw [HR2.out]; rfl, hB.out⟩
  · have HK := Lib.hid hk
    go_upto_region 4 with fail
    clear hk
    go_wp2_with fail
    go_loopw [7, 8] (fun s7 s8 wr => ∃ i n : Nat, s8 = .int .i64 i ∧ s7 = .int .i64 n ∧ i ≤ l.length ∧ Hid (shortN id n0 (l.take i) = n) ∧ Hid (Blk wr I 32 ci.toArray) ∧ Hid (Below w.heap.size w wr)) (fun _ s8 _ => l.length - (intOf s8).toNat)
    case atStart => exact ⟨0, n0, rfl, by first | (rw [← HV.out.1 HK.out]) | (rw [← HV.out.2 HK.out]), by omega, Lib.hid rfl, X1, B1⟩
    case round =>
      clear X1 B1 HV HK
      obtain ⟨i, n, rfl, rfl, hi, hsn, hI, hB⟩ := hrel
      have i0 : (0 : Int) ≤ (i : Int) := Int.natCast_nonneg _
      have n0' : (0 : Int) ≤ (n : Int) := Int.natCast_nonneg _
      by_cases hlt : i < l.length
      · have i1 : (i : Int) < (l.length : Int) := by omega
        obtain ⟨g, o, rfl, hat⟩ := HR.out.at_ (by omega)
        obtain ⟨m, hm⟩ : ∃ m, l[i]? = some m := ⟨_, List.getElem?_eq_getElem hlt⟩
        have hml := HR.out.len m (List.mem_of_getElem? hm)
        have hat2 := hat i m hm
        have hgl : g < w.heap.size := World.block_lt_of_cell? w _ (hat2 0 _ (bc_byteAt (by omega)))
        have hat3 : ∀ j v, (bc m)[j]? = some v → wr.cell? ⟨g, o + i * 32 + j, none⟩ = some v := fun j v hv => by
          have h0 := hat2 j v hv
          have := hB.out.block g hgl
          simp only [World.cell?, this]; exact h0
        have hone : Hid (l.take (i + 1) = l.take i ++ [m]) := Lib.hid (by
          rw [List.take_add_one, hm]; rfl)
        have HML := Lib.hid hml
        obtain ⟨cm, hcm⟩ : ∃ cm, cm = bc m := ⟨_, rfl⟩
        rw [← hcm] at hat3
        have hcml : cm.length = 32 := by rw [hcm, bc_len, hml]
        have T00 : Rnl w wr I g (o + i * 32) ci cm := ⟨Rnd.mk' hI.out hB.out HCZ.out hcml hat3, HCZ.out, hcml⟩
        have T0 := Lib.hid T00.drew
        have S0 := T0.out.ld
        have HCM := Lib.hid hcm
        have HLT := Lib.hid hlt
        have heq := fun W => EQ.out W m HML.out
        rw [← hcm] at heq
        clear hml hat hat2 hat3 hm hcm hgl hlt hcml T00
        by_cases hmi : m = id
        · have HS : Hid (shortN id n0 (l.take (i + 1)) = n) := Lib.hid (by rw [hone.out, shortN_snoc, hsn.out]; exact if_pos hmi)
          rw [decide_eq_true hmi] at heq
          clear hmi
          go_upto_region 7 with fail
          (
          refine wp_region_held_drew (S := fun w' => (loadCells ⟨I, 0, none⟩ 32).run Try.prog w' = .ok ci.toArray w' ∧ (loadCells ⟨g, o + i * 32, none⟩ 32).run Try.prog w' = .ok cm.toArray w') (by kernel_rfl) (S0) (fun hHeld => ?_)
          refine wpAnyH_take (i := 0) (oi := { dst := some 18, op := Op.move (Operand.tmp 0), type := 37, pos := "ref.go:133", after := #[], guard := none }) (v := ?vza0) rfl (by kernel_rfl) (by kernel_rfl) (by kernel_rfl) (fun _ _ _ h => h) (Or.inl ⟨by rfl, ?yza0⟩) (by assumption) ?rza0
          case yza0 => (intro w' hSw; (try dsimp only at hSw); go_simp; try with_reducible rfl)
          try simp only [Act.put, List.setIfInBounds_toArray, List.set_cons_zero, List.set_cons_succ]
          refine wpAnyH_take (i := 1) (oi := { dst := some 19, op := Op.move (Operand.tmp 8), type := 3, pos := "ref.go:133", after := #[], guard := none }) (v := ?vza1) rfl (by kernel_rfl) (by kernel_rfl) (by kernel_rfl) (fun _ _ _ h => h) (Or.inl ⟨by rfl, ?yza1⟩) (by assumption) ?rza1
          case yza1 => (intro w' hSw; (try dsimp only at hSw); go_simp; try with_reducible rfl)
          try simp only [Act.put, List.setIfInBounds_toArray, List.set_cons_zero, List.set_cons_succ]
          refine wpAnyH_take (i := 2) (oi := { dst := some 20, op := Op.indexAddr 37 (Operand.tmp 18) (Operand.tmp 19), type := 0, pos := "ref.go:133", after := #[{ on := 0, ground := Ground.data }, { on := 1, ground := Ground.data }], guard := none }) (v := ?vza2) rfl (by kernel_rfl) (by kernel_rfl) (by kernel_rfl) (fun _ _ _ h => h) (Or.inl ⟨by rfl, ?yza2⟩) (by assumption) ?rza2
          case yza2 => (intro w' hSw; (try dsimp only at hSw); go_simp; try with_reducible rfl)
          try simp only [Act.put, List.setIfInBounds_toArray, List.set_cons_zero, List.set_cons_succ]
          refine wpAnyH_take (i := 3) (oi := { dst := some 21, op := Op.load 32 (Operand.tmp 20), type := 32, pos := "ref.go:133", after := #[{ on := 2, ground := Ground.data }], guard := none }) (v := ?vza3) rfl (by kernel_rfl) (by kernel_rfl) (by kernel_rfl) (fun _ _ _ h => h) (Or.inl ⟨by rfl, ?yza3⟩) (by assumption) ?rza3
          case yza3 => (intro w' hSw; (try dsimp only at hSw); go_simp; try with_reducible rfl)
          try simp only [Act.put, List.setIfInBounds_toArray, List.set_cons_zero, List.set_cons_succ]
          refine wpAnyH_take (i := 4) (oi := { dst := some 22, op := Op.load 32 (Operand.tmp 4), type := 32, pos := "ref.go:133", after := #[], guard := none }) (v := ?vza4) rfl (by kernel_rfl) (by kernel_rfl) (by kernel_rfl) (fun _ _ _ h => h) (Or.inl ⟨by rfl, ?yza4⟩) (by assumption) ?rza4
          case yza4 => (intro w' hSw; (try dsimp only at hSw); go_simp; try with_reducible rfl)
          try simp only [Act.put, List.setIfInBounds_toArray, List.set_cons_zero, List.set_cons_succ]
          refine wpAnyH_take (i := 5) (oi := { dst := some 23, op := Op.binOp BinOp.neq 32 (Operand.tmp 21) (Operand.tmp 22) 32, type := 4, pos := "ref.go:133", after := #[{ on := 3, ground := Ground.data }, { on := 4, ground := Ground.data }], guard := none }) (v := ?vza5) rfl (by kernel_rfl) (by kernel_rfl) (by kernel_rfl) (fun _ _ _ h => h) (Or.inl ⟨by rfl, ?yza5⟩) (by assumption) ?rza5
          case yza5 => (intro w' hSw; (try dsimp only at hSw); go_simp; try with_reducible rfl)
          try simp only [Act.put, List.setIfInBounds_toArray, List.set_cons_zero, List.set_cons_succ]
          refine wpAnyH_take (i := 6) (oi := { dst := some 24, op := Op.move (Operand.tmp 23), type := 4, pos := "ref.go:133", after := #[{ on := 5, ground := Ground.data }], guard := none }) (v := ?vza6) rfl (by kernel_rfl) (by kernel_rfl) (by kernel_rfl) (fun _ _ _ h => h) (Or.inl ⟨by rfl, ?yza6⟩) (by assumption) ?rza6
          case yza6 => (intro w' hSw; (try dsimp only at hSw); go_simp; try with_reducible rfl)
          try simp only [Act.put, List.setIfInBounds_toArray, List.set_cons_zero, List.set_cons_succ]
          refine wpAnyH_take (i := 7) (oi := { dst := some 25, op := Op.move (Operand.tmp 0), type := 37, pos := "ref.go:133", after := #[{ on := 6, ground := Ground.guard }], guard := some (6, true) }) (v := undef) rfl (by kernel_rfl) (by kernel_rfl) (by kernel_rfl) (fun _ _ _ h => h) (Or.inr ⟨by rfl, rfl⟩) (by assumption) ?_
          try simp only [Act.put, List.setIfInBounds_toArray, List.set_cons_zero, List.set_cons_succ]
          refine wpAnyH_take (i := 8) (oi := { dst := some 26, op := Op.move (Operand.tmp 8), type := 3, pos := "ref.go:133", after := #[{ on := 6, ground := Ground.guard }], guard := some (6, true) }) (v := undef) rfl (by kernel_rfl) (by kernel_rfl) (by kernel_rfl) (fun _ _ _ h => h) (Or.inr ⟨by rfl, rfl⟩) (by assumption) ?_
          try simp only [Act.put, List.setIfInBounds_toArray, List.set_cons_zero, List.set_cons_succ]
          refine wpAnyH_take (i := 9) (oi := { dst := some 27, op := Op.indexAddr 37 (Operand.tmp 25) (Operand.tmp 26), type := 0, pos := "ref.go:133", after := #[{ on := 7, ground := Ground.data }, { on := 8, ground := Ground.data }, { on := 6, ground := Ground.guard }], guard := some (6, true) }) (v := undef) rfl (by kernel_rfl) (by kernel_rfl) (by kernel_rfl) (fun _ _ _ h => h) (Or.inr ⟨by rfl, rfl⟩) (by assumption) ?_
          try simp only [Act.put, List.setIfInBounds_toArray, List.set_cons_zero, List.set_cons_succ]
          refine wpAnyH_take (i := 10) (oi := { dst := some 28, op := Op.load 32 (Operand.tmp 27), type := 32, pos := "ref.go:133", after := #[{ on := 9, ground := Ground.data }, { on := 6, ground := Ground.guard }], guard := some (6, true) }) (v := undef) rfl (by kernel_rfl) (by kernel_rfl) (by kernel_rfl) (fun _ _ _ h => h) (Or.inr ⟨by rfl, rfl⟩) (by assumption) ?_
          try simp only [Act.put, List.setIfInBounds_toArray, List.set_cons_zero, List.set_cons_succ]
          refine wpAnyH_take (i := 11) (oi := { dst := some 29, op := Op.load 32 (Operand.tmp 4), type := 32, pos := "ref.go:133", after := #[{ on := 6, ground := Ground.guard }], guard := some (6, true) }) (v := undef) rfl (by kernel_rfl) (by kernel_rfl) (by kernel_rfl) (fun _ _ _ h => h) (Or.inr ⟨by rfl, rfl⟩) (by assumption) ?_
          try simp only [Act.put, List.setIfInBounds_toArray, List.set_cons_zero, List.set_cons_succ]
          refine wpAnyH_take (i := 12) (oi := { dst := some 30, op := Op.call { callee := Callee.value (Operand.func 14), args := #[Operand.tmp 28, Operand.tmp 29], argTypes := #[32, 32] }, type := 3, pos := "ref.go:133", after := #[{ on := 10, ground := Ground.data }, { on := 11, ground := Ground.data }, { on := 6, ground := Ground.chain }, { on := 6, ground := Ground.guard }], guard := some (6, true) }) (v := undef) rfl (by kernel_rfl) (by kernel_rfl) (by kernel_rfl) (fun _ _ _ h => h) (Or.inr ⟨by rfl, rfl⟩) (by assumption) ?_
          try simp only [Act.put, List.setIfInBounds_toArray, List.set_cons_zero, List.set_cons_succ]
          refine wpAnyH_take (i := 13) (oi := { dst := some 31, op := Op.binOp BinOp.add 3 (Operand.tmp 30) (Operand.const (Value.int IntKind.i64 1)) 3, type := 3, pos := "ref.go:133", after := #[{ on := 12, ground := Ground.data }, { on := 6, ground := Ground.guard }], guard := some (6, true) }) (v := undef) rfl (by kernel_rfl) (by kernel_rfl) (by kernel_rfl) (fun _ _ _ h => h) (Or.inr ⟨by rfl, rfl⟩) (by assumption) ?_
          try simp only [Act.put, List.setIfInBounds_toArray, List.set_cons_zero, List.set_cons_succ]
          refine wpAnyH_take (i := 14) (oi := { dst := some 32, op := Op.move (Operand.tmp 7), type := 3, pos := "ref.go:133", after := #[{ on := 6, ground := Ground.guard }], guard := some (6, true) }) (v := undef) rfl (by kernel_rfl) (by kernel_rfl) (by kernel_rfl) (fun _ _ _ h => h) (Or.inr ⟨by rfl, rfl⟩) (by assumption) ?_
          try simp only [Act.put, List.setIfInBounds_toArray, List.set_cons_zero, List.set_cons_succ]
          refine wpAnyH_take (i := 15) (oi := { dst := some 33, op := Op.binOp BinOp.gtr 3 (Operand.tmp 31) (Operand.tmp 32) 3, type := 4, pos := "ref.go:133", after := #[{ on := 13, ground := Ground.data }, { on := 14, ground := Ground.data }, { on := 6, ground := Ground.guard }], guard := some (6, true) }) (v := undef) rfl (by kernel_rfl) (by kernel_rfl) (by kernel_rfl) (fun _ _ _ h => h) (Or.inr ⟨by rfl, rfl⟩) (by assumption) ?_
          try simp only [Act.put, List.setIfInBounds_toArray, List.set_cons_zero, List.set_cons_succ]
          refine wpAnyH_take (i := 16) (oi := { dst := some 34, op := Op.pick (Operand.tmp 24) (Operand.tmp 33) (Operand.const (Value.bool false)), type := 4, pos := "ref.go:133", after := #[{ on := 6, ground := Ground.data }, { on := 15, ground := Ground.data }], guard := none }) (v := ?vza16) rfl (by kernel_rfl) (by kernel_rfl) (by kernel_rfl) (fun _ _ _ h => h) (Or.inl ⟨by rfl, ?yza16⟩) (by assumption) ?rza16
          case yza16 => (intro w' hSw; (try dsimp only at hSw); go_simp; try with_reducible rfl)
          try simp only [Act.put, List.setIfInBounds_toArray, List.set_cons_zero, List.set_cons_succ]
          refine wpAnyH_done (by kernel_rfl) ?_ _
          )
          have hI7 := Lib.hid T0.out.r.blk
          have hB7 := Lib.hid T0.out.r.bel
          clear S0 T0 heq
          generalize wr.drew = WF at *
          go_wp2_with fail
          go_roundw
          case rel => exact ⟨i + 1, n, by go_num, rfl, HLT.out, HS, hI7, hB7⟩
          case measure => have := HLT.out; simp [intOf]; omega
        · rw [decide_eq_false hmi] at heq
          have HS : Hid (shortN id n0 (l.take (i + 1)) = max n (share m id + 1)) := Lib.hid (by rw [hone.out, shortN_snoc, hsn.out]; exact if_neg hmi)
          have hsl := share_le m id
          have SHm : Hid (∀ W, Calls Try.prog 14 #[.agg cm.toArray, .agg ci.toArray] W (fun e w' => e = .returned (.int .i64 (share m id)) ∧ Below W.heap.size W w')) := Lib.hid (by rw [HCM.out]; exact fun W => SH.out W m HML.out)
          obtain ⟨q, hq⟩ : ∃ q, q = share m id := ⟨_, rfl⟩
          rw [← hq] at HS hsl SHm
          have q0 : (0 : Int) ≤ (q : Int) := Int.natCast_nonneg _
          have q1 : (q : Int) ≤ 64 := by omega
          clear hmi hq hsl
          by_cases hnq : n < q + 1
          · have hgt : decide ((n : Int) < (q : Int) + 1) = true := by simp; omega
            have HS2 : Hid (shortN id n0 (l.take (i + 1)) = q + 1) := Lib.hid (by rw [HS.out]; omega)
            have hqs : IntKind.i64.wrap ((q : Int) + 1) = (q : Int) + 1 := by rw [IntKind.wrap_i64]; omega
            clear hnq HS
            go_upto_region 7 with fail
            (
            refine wp_region_held_drew (S := fun w' => (loadCells ⟨I, 0, none⟩ 32).run Try.prog w' = .ok ci.toArray w' ∧ (loadCells ⟨g, o + i * 32, none⟩ 32).run Try.prog w' = .ok cm.toArray w') (by kernel_rfl) (S0) (fun hHeld => ?_)
            refine wpAnyH_take (i := 0) (oi := { dst := some 18, op := Op.move (Operand.tmp 0), type := 37, pos := "ref.go:133", after := #[], guard := none }) (v := ?vzb0) rfl (by kernel_rfl) (by kernel_rfl) (by kernel_rfl) (fun _ _ _ h => h) (Or.inl ⟨by rfl, ?yzb0⟩) (by assumption) ?rzb0
            case yzb0 => (intro w' hSw; (try dsimp only at hSw); go_simp; try with_reducible rfl)
            try simp only [Act.put, List.setIfInBounds_toArray, List.set_cons_zero, List.set_cons_succ]
            refine wpAnyH_take (i := 1) (oi := { dst := some 19, op := Op.move (Operand.tmp 8), type := 3, pos := "ref.go:133", after := #[], guard := none }) (v := ?vzb1) rfl (by kernel_rfl) (by kernel_rfl) (by kernel_rfl) (fun _ _ _ h => h) (Or.inl ⟨by rfl, ?yzb1⟩) (by assumption) ?rzb1
            case yzb1 => (intro w' hSw; (try dsimp only at hSw); go_simp; try with_reducible rfl)
            try simp only [Act.put, List.setIfInBounds_toArray, List.set_cons_zero, List.set_cons_succ]
            refine wpAnyH_take (i := 2) (oi := { dst := some 20, op := Op.indexAddr 37 (Operand.tmp 18) (Operand.tmp 19), type := 0, pos := "ref.go:133", after := #[{ on := 0, ground := Ground.data }, { on := 1, ground := Ground.data }], guard := none }) (v := ?vzb2) rfl (by kernel_rfl) (by kernel_rfl) (by kernel_rfl) (fun _ _ _ h => h) (Or.inl ⟨by rfl, ?yzb2⟩) (by assumption) ?rzb2
            case yzb2 => (intro w' hSw; (try dsimp only at hSw); go_simp; try with_reducible rfl)
            try simp only [Act.put, List.setIfInBounds_toArray, List.set_cons_zero, List.set_cons_succ]
            refine wpAnyH_take (i := 3) (oi := { dst := some 21, op := Op.load 32 (Operand.tmp 20), type := 32, pos := "ref.go:133", after := #[{ on := 2, ground := Ground.data }], guard := none }) (v := ?vzb3) rfl (by kernel_rfl) (by kernel_rfl) (by kernel_rfl) (fun _ _ _ h => h) (Or.inl ⟨by rfl, ?yzb3⟩) (by assumption) ?rzb3
            case yzb3 => (intro w' hSw; (try dsimp only at hSw); go_simp; try with_reducible rfl)
            try simp only [Act.put, List.setIfInBounds_toArray, List.set_cons_zero, List.set_cons_succ]
            refine wpAnyH_take (i := 4) (oi := { dst := some 22, op := Op.load 32 (Operand.tmp 4), type := 32, pos := "ref.go:133", after := #[], guard := none }) (v := ?vzb4) rfl (by kernel_rfl) (by kernel_rfl) (by kernel_rfl) (fun _ _ _ h => h) (Or.inl ⟨by rfl, ?yzb4⟩) (by assumption) ?rzb4
            case yzb4 => (intro w' hSw; (try dsimp only at hSw); go_simp; try with_reducible rfl)
            try simp only [Act.put, List.setIfInBounds_toArray, List.set_cons_zero, List.set_cons_succ]
            refine wpAnyH_take (i := 5) (oi := { dst := some 23, op := Op.binOp BinOp.neq 32 (Operand.tmp 21) (Operand.tmp 22) 32, type := 4, pos := "ref.go:133", after := #[{ on := 3, ground := Ground.data }, { on := 4, ground := Ground.data }], guard := none }) (v := ?vzb5) rfl (by kernel_rfl) (by kernel_rfl) (by kernel_rfl) (fun _ _ _ h => h) (Or.inl ⟨by rfl, ?yzb5⟩) (by assumption) ?rzb5
            case yzb5 => (intro w' hSw; (try dsimp only at hSw); go_simp; try with_reducible rfl)
            try simp only [Act.put, List.setIfInBounds_toArray, List.set_cons_zero, List.set_cons_succ]
            refine wpAnyH_take (i := 6) (oi := { dst := some 24, op := Op.move (Operand.tmp 23), type := 4, pos := "ref.go:133", after := #[{ on := 5, ground := Ground.data }], guard := none }) (v := ?vzb6) rfl (by kernel_rfl) (by kernel_rfl) (by kernel_rfl) (fun _ _ _ h => h) (Or.inl ⟨by rfl, ?yzb6⟩) (by assumption) ?rzb6
            case yzb6 => (intro w' hSw; (try dsimp only at hSw); go_simp; try with_reducible rfl)
            try simp only [Act.put, List.setIfInBounds_toArray, List.set_cons_zero, List.set_cons_succ]
            refine wpAnyH_take (i := 7) (oi := { dst := some 25, op := Op.move (Operand.tmp 0), type := 37, pos := "ref.go:133", after := #[{ on := 6, ground := Ground.guard }], guard := some (6, true) }) (v := ?vzb7) rfl (by kernel_rfl) (by kernel_rfl) (by kernel_rfl) (fun _ _ _ h => h) (Or.inl ⟨by rfl, ?yzb7⟩) (by assumption) ?rzb7
            case yzb7 => (intro w' hSw; (try dsimp only at hSw); go_simp; try with_reducible rfl)
            try simp only [Act.put, List.setIfInBounds_toArray, List.set_cons_zero, List.set_cons_succ]
            refine wpAnyH_take (i := 8) (oi := { dst := some 26, op := Op.move (Operand.tmp 8), type := 3, pos := "ref.go:133", after := #[{ on := 6, ground := Ground.guard }], guard := some (6, true) }) (v := ?vzb8) rfl (by kernel_rfl) (by kernel_rfl) (by kernel_rfl) (fun _ _ _ h => h) (Or.inl ⟨by rfl, ?yzb8⟩) (by assumption) ?rzb8
            case yzb8 => (intro w' hSw; (try dsimp only at hSw); go_simp; try with_reducible rfl)
            try simp only [Act.put, List.setIfInBounds_toArray, List.set_cons_zero, List.set_cons_succ]
            refine wpAnyH_take (i := 9) (oi := { dst := some 27, op := Op.indexAddr 37 (Operand.tmp 25) (Operand.tmp 26), type := 0, pos := "ref.go:133", after := #[{ on := 7, ground := Ground.data }, { on := 8, ground := Ground.data }, { on := 6, ground := Ground.guard }], guard := some (6, true) }) (v := ?vzb9) rfl (by kernel_rfl) (by kernel_rfl) (by kernel_rfl) (fun _ _ _ h => h) (Or.inl ⟨by rfl, ?yzb9⟩) (by assumption) ?rzb9
            case yzb9 => (intro w' hSw; (try dsimp only at hSw); go_simp; try with_reducible rfl)
            try simp only [Act.put, List.setIfInBounds_toArray, List.set_cons_zero, List.set_cons_succ]
            refine wpAnyH_take (i := 10) (oi := { dst := some 28, op := Op.load 32 (Operand.tmp 27), type := 32, pos := "ref.go:133", after := #[{ on := 9, ground := Ground.data }, { on := 6, ground := Ground.guard }], guard := some (6, true) }) (v := ?vzb10) rfl (by kernel_rfl) (by kernel_rfl) (by kernel_rfl) (fun _ _ _ h => h) (Or.inl ⟨by rfl, ?yzb10⟩) (by assumption) ?rzb10
            case yzb10 => (intro w' hSw; (try dsimp only at hSw); go_simp; try with_reducible rfl)
            try simp only [Act.put, List.setIfInBounds_toArray, List.set_cons_zero, List.set_cons_succ]
            refine wpAnyH_take (i := 11) (oi := { dst := some 29, op := Op.load 32 (Operand.tmp 4), type := 32, pos := "ref.go:133", after := #[{ on := 6, ground := Ground.guard }], guard := some (6, true) }) (v := ?vzb11) rfl (by kernel_rfl) (by kernel_rfl) (by kernel_rfl) (fun _ _ _ h => h) (Or.inl ⟨by rfl, ?yzb11⟩) (by assumption) ?rzb11
            case yzb11 => (intro w' hSw; (try dsimp only at hSw); go_simp; try with_reducible rfl)
            try simp only [Act.put, List.setIfInBounds_toArray, List.set_cons_zero, List.set_cons_succ]
            refine wpAnyH_take (i := 14) (oi := { dst := some 32, op := Op.move (Operand.tmp 7), type := 3, pos := "ref.go:133", after := #[{ on := 6, ground := Ground.guard }], guard := some (6, true) }) (v := ?vzb14) rfl (by kernel_rfl) (by kernel_rfl) (by kernel_rfl) (fun _ _ _ h => h) (Or.inl ⟨by rfl, ?yzb14⟩) (by assumption) ?rzb14
            case yzb14 => (intro w' hSw; (try dsimp only at hSw); go_simp; try with_reducible rfl)
            try simp only [Act.put, List.setIfInBounds_toArray, List.set_cons_zero, List.set_cons_succ]
            refine wpAnyH_ready (rs := [12]) (by kernel_rfl) (by simp) ?_
            refine AllReadyH.cons (o := { dst := some 30, op := Op.call { callee := Callee.value (Operand.func 14), args := #[Operand.tmp 28, Operand.tmp 29], argTypes := #[32, 32] }, type := 3, pos := "ref.go:133", after := #[{ on := 10, ground := Ground.data }, { on := 11, ground := Ground.data }, { on := 6, ground := Ground.chain }, { on := 6, ground := Ground.guard }], guard := some (6, true) }) rfl (fun K hK => ?_) AllReadyH.nil
            go_simp
            go_at_call 14
            refine (SHm.out _).mono ?_
            rintro e w6 ⟨rfl, hb6⟩
            have T6 := Lib.hid (T0.out.below hb6)
            go_wp2_with fail
            refine hK.out _ _ (T6.out.ld) (fun hHeldzb12 => ?_)
            clear hK K hHeld
            try simp only [Act.put, List.setIfInBounds_toArray, List.set_cons_zero, List.set_cons_succ]
            refine wpAnyH_take (i := 13) (oi := { dst := some 31, op := Op.binOp BinOp.add 3 (Operand.tmp 30) (Operand.const (Value.int IntKind.i64 1)) 3, type := 3, pos := "ref.go:133", after := #[{ on := 12, ground := Ground.data }, { on := 6, ground := Ground.guard }], guard := some (6, true) }) (v := ?vzb13) rfl (by kernel_rfl) (by kernel_rfl) (by kernel_rfl) (fun _ _ _ h => h) (Or.inl ⟨by rfl, ?yzb13⟩) (by assumption) ?rzb13
            case yzb13 => (intro w' hSw; (try dsimp only at hSw); go_simp; try with_reducible rfl)
            try simp only [Act.put, List.setIfInBounds_toArray, List.set_cons_zero, List.set_cons_succ]
            refine wpAnyH_take (i := 15) (oi := { dst := some 33, op := Op.binOp BinOp.gtr 3 (Operand.tmp 31) (Operand.tmp 32) 3, type := 4, pos := "ref.go:133", after := #[{ on := 13, ground := Ground.data }, { on := 14, ground := Ground.data }, { on := 6, ground := Ground.guard }], guard := some (6, true) }) (v := ?vzb15) rfl (by kernel_rfl) (by kernel_rfl) (by kernel_rfl) (fun _ _ _ h => h) (Or.inl ⟨by rfl, ?yzb15⟩) (by assumption) ?rzb15
            case yzb15 => (intro w' hSw; (try dsimp only at hSw); go_simp; try with_reducible rfl)
            try simp only [Act.put, List.setIfInBounds_toArray, List.set_cons_zero, List.set_cons_succ]
            refine wpAnyH_take (i := 16) (oi := { dst := some 34, op := Op.pick (Operand.tmp 24) (Operand.tmp 33) (Operand.const (Value.bool false)), type := 4, pos := "ref.go:133", after := #[{ on := 6, ground := Ground.data }, { on := 15, ground := Ground.data }], guard := none }) (v := ?vzb16) rfl (by kernel_rfl) (by kernel_rfl) (by kernel_rfl) (fun _ _ _ h => h) (Or.inl ⟨by rfl, ?yzb16⟩) (by assumption) ?rzb16
            case yzb16 => (intro w' hSw; (try dsimp only at hSw); go_simp; try with_reducible rfl)
            try simp only [Act.put, List.setIfInBounds_toArray, List.set_cons_zero, List.set_cons_succ]
            refine wpAnyH_done (by kernel_rfl) ?_ _
            )
            clear S0 hb6 heq hgt
            have T7 := Lib.hid T6.out.drew
            have S7 := T7.out.ld
            clear T6 T0
            go_upto_region 8 with fail
            (
            refine wp_region_held_drew (S := fun w' => (loadCells ⟨I, 0, none⟩ 32).run Try.prog w' = .ok ci.toArray w' ∧ (loadCells ⟨g, o + i * 32, none⟩ 32).run Try.prog w' = .ok cm.toArray w') (by kernel_rfl) (S7) (fun hHeld => ?_)
            refine wpAnyH_take (i := 0) (oi := { dst := some 35, op := Op.move (Operand.tmp 0), type := 37, pos := "ref.go:134", after := #[], guard := none }) (v := ?vzd0) rfl (by kernel_rfl) (by kernel_rfl) (by kernel_rfl) (fun _ _ _ h => h) (Or.inl ⟨by rfl, ?yzd0⟩) (by assumption) ?rzd0
            case yzd0 => (intro w' hSw; (try dsimp only at hSw); go_simp; try with_reducible rfl)
            try simp only [Act.put, List.setIfInBounds_toArray, List.set_cons_zero, List.set_cons_succ]
            refine wpAnyH_take (i := 1) (oi := { dst := some 36, op := Op.move (Operand.tmp 8), type := 3, pos := "ref.go:134", after := #[], guard := none }) (v := ?vzd1) rfl (by kernel_rfl) (by kernel_rfl) (by kernel_rfl) (fun _ _ _ h => h) (Or.inl ⟨by rfl, ?yzd1⟩) (by assumption) ?rzd1
            case yzd1 => (intro w' hSw; (try dsimp only at hSw); go_simp; try with_reducible rfl)
            try simp only [Act.put, List.setIfInBounds_toArray, List.set_cons_zero, List.set_cons_succ]
            refine wpAnyH_take (i := 2) (oi := { dst := some 37, op := Op.indexAddr 37 (Operand.tmp 35) (Operand.tmp 36), type := 0, pos := "ref.go:134", after := #[{ on := 0, ground := Ground.data }, { on := 1, ground := Ground.data }], guard := none }) (v := ?vzd2) rfl (by kernel_rfl) (by kernel_rfl) (by kernel_rfl) (fun _ _ _ h => h) (Or.inl ⟨by rfl, ?yzd2⟩) (by assumption) ?rzd2
            case yzd2 => (intro w' hSw; (try dsimp only at hSw); go_simp; try with_reducible rfl)
            try simp only [Act.put, List.setIfInBounds_toArray, List.set_cons_zero, List.set_cons_succ]
            refine wpAnyH_take (i := 3) (oi := { dst := some 38, op := Op.load 32 (Operand.tmp 37), type := 32, pos := "ref.go:134", after := #[{ on := 2, ground := Ground.data }], guard := none }) (v := ?vzd3) rfl (by kernel_rfl) (by kernel_rfl) (by kernel_rfl) (fun _ _ _ h => h) (Or.inl ⟨by rfl, ?yzd3⟩) (by assumption) ?rzd3
            case yzd3 => (intro w' hSw; (try dsimp only at hSw); go_simp; try with_reducible rfl)
            try simp only [Act.put, List.setIfInBounds_toArray, List.set_cons_zero, List.set_cons_succ]
            refine wpAnyH_take (i := 4) (oi := { dst := some 39, op := Op.load 32 (Operand.tmp 4), type := 32, pos := "ref.go:134", after := #[], guard := none }) (v := ?vzd4) rfl (by kernel_rfl) (by kernel_rfl) (by kernel_rfl) (fun _ _ _ h => h) (Or.inl ⟨by rfl, ?yzd4⟩) (by assumption) ?rzd4
            case yzd4 => (intro w' hSw; (try dsimp only at hSw); go_simp; try with_reducible rfl)
            try simp only [Act.put, List.setIfInBounds_toArray, List.set_cons_zero, List.set_cons_succ]
            refine wpAnyH_ready (rs := [5]) (by kernel_rfl) (by simp) ?_
            refine AllReadyH.cons (o := { dst := some 40, op := Op.call { callee := Callee.value (Operand.func 14), args := #[Operand.tmp 38, Operand.tmp 39], argTypes := #[32, 32] }, type := 3, pos := "ref.go:134", after := #[{ on := 3, ground := Ground.data }, { on := 4, ground := Ground.data }], guard := none }) rfl (fun K hK => ?_) AllReadyH.nil
            go_simp
            go_at_call 14
            refine (SHm.out _).mono ?_
            rintro e w8 ⟨rfl, hb8⟩
            have T8 := Lib.hid (T7.out.below hb8)
            go_wp2_with fail
            refine hK.out _ _ (T8.out.ld) (fun hHeldzd5 => ?_)
            clear hK K hHeld
            try simp only [Act.put, List.setIfInBounds_toArray, List.set_cons_zero, List.set_cons_succ]
            refine wpAnyH_take (i := 6) (oi := { dst := some 41, op := Op.binOp BinOp.add 3 (Operand.tmp 40) (Operand.const (Value.int IntKind.i64 1)) 3, type := 3, pos := "ref.go:134", after := #[{ on := 5, ground := Ground.data }], guard := none }) (v := ?vzd6) rfl (by kernel_rfl) (by kernel_rfl) (by kernel_rfl) (fun _ _ _ h => h) (Or.inl ⟨by rfl, ?yzd6⟩) (by assumption) ?rzd6
            case yzd6 => (intro w' hSw; (try dsimp only at hSw); go_simp; try with_reducible rfl)
            try simp only [Act.put, List.setIfInBounds_toArray, List.set_cons_zero, List.set_cons_succ]
            refine wpAnyH_take (i := 7) (oi := { dst := some 7, op := Op.assign (Operand.tmp 41), type := 3, pos := "ref.go:134", after := #[{ on := 6, ground := Ground.data }, { on := 5, ground := Ground.chain }, { on := 0, ground := Ground.phase }, { on := 1, ground := Ground.phase }, { on := 2, ground := Ground.phase }, { on := 3, ground := Ground.phase }, { on := 4, ground := Ground.phase }, { on := 5, ground := Ground.phase }, { on := 6, ground := Ground.phase }], guard := none }) (v := ?vzd7) rfl (by kernel_rfl) (by kernel_rfl) (by kernel_rfl) (fun _ _ _ h => h) (Or.inl ⟨by rfl, ?yzd7⟩) (by assumption) ?rzd7
            case yzd7 => (intro w' hSw; (try dsimp only at hSw); go_simp; try with_reducible rfl)
            try simp only [Act.put, List.setIfInBounds_toArray, List.set_cons_zero, List.set_cons_succ]
            refine wpAnyH_done (by kernel_rfl) ?_ _
            )
            have hI9 := Lib.hid T8.out.r.blk
            have hB9 := Lib.hid T8.out.r.bel
            clear S7 hb8 T7 T8 hqs
            go_wp2_with fail
            go_roundw
            case rel => exact ⟨i + 1, q + 1, by go_num, by go_num, HLT.out, HS2, hI9, hB9⟩
            case measure => have := HLT.out; simp [intOf]; omega
          · have hgt : decide ((n : Int) < (q : Int) + 1) = false := by simp; omega
            have HS2 : Hid (shortN id n0 (l.take (i + 1)) = n) := Lib.hid (by rw [HS.out]; omega)
            have hqs : IntKind.i64.wrap ((q : Int) + 1) = (q : Int) + 1 := by rw [IntKind.wrap_i64]; omega
            clear hnq HS
            go_upto_region 7 with fail
            (
            refine wp_region_held_drew (S := fun w' => (loadCells ⟨I, 0, none⟩ 32).run Try.prog w' = .ok ci.toArray w' ∧ (loadCells ⟨g, o + i * 32, none⟩ 32).run Try.prog w' = .ok cm.toArray w') (by kernel_rfl) (S0) (fun hHeld => ?_)
            refine wpAnyH_take (i := 0) (oi := { dst := some 18, op := Op.move (Operand.tmp 0), type := 37, pos := "ref.go:133", after := #[], guard := none }) (v := ?vzc0) rfl (by kernel_rfl) (by kernel_rfl) (by kernel_rfl) (fun _ _ _ h => h) (Or.inl ⟨by rfl, ?yzc0⟩) (by assumption) ?rzc0
            case yzc0 => (intro w' hSw; (try dsimp only at hSw); go_simp; try with_reducible rfl)
            try simp only [Act.put, List.setIfInBounds_toArray, List.set_cons_zero, List.set_cons_succ]
            refine wpAnyH_take (i := 1) (oi := { dst := some 19, op := Op.move (Operand.tmp 8), type := 3, pos := "ref.go:133", after := #[], guard := none }) (v := ?vzc1) rfl (by kernel_rfl) (by kernel_rfl) (by kernel_rfl) (fun _ _ _ h => h) (Or.inl ⟨by rfl, ?yzc1⟩) (by assumption) ?rzc1
            case yzc1 => (intro w' hSw; (try dsimp only at hSw); go_simp; try with_reducible rfl)
            try simp only [Act.put, List.setIfInBounds_toArray, List.set_cons_zero, List.set_cons_succ]
            refine wpAnyH_take (i := 2) (oi := { dst := some 20, op := Op.indexAddr 37 (Operand.tmp 18) (Operand.tmp 19), type := 0, pos := "ref.go:133", after := #[{ on := 0, ground := Ground.data }, { on := 1, ground := Ground.data }], guard := none }) (v := ?vzc2) rfl (by kernel_rfl) (by kernel_rfl) (by kernel_rfl) (fun _ _ _ h => h) (Or.inl ⟨by rfl, ?yzc2⟩) (by assumption) ?rzc2
            case yzc2 => (intro w' hSw; (try dsimp only at hSw); go_simp; try with_reducible rfl)
            try simp only [Act.put, List.setIfInBounds_toArray, List.set_cons_zero, List.set_cons_succ]
            refine wpAnyH_take (i := 3) (oi := { dst := some 21, op := Op.load 32 (Operand.tmp 20), type := 32, pos := "ref.go:133", after := #[{ on := 2, ground := Ground.data }], guard := none }) (v := ?vzc3) rfl (by kernel_rfl) (by kernel_rfl) (by kernel_rfl) (fun _ _ _ h => h) (Or.inl ⟨by rfl, ?yzc3⟩) (by assumption) ?rzc3
            case yzc3 => (intro w' hSw; (try dsimp only at hSw); go_simp; try with_reducible rfl)
            try simp only [Act.put, List.setIfInBounds_toArray, List.set_cons_zero, List.set_cons_succ]
            refine wpAnyH_take (i := 4) (oi := { dst := some 22, op := Op.load 32 (Operand.tmp 4), type := 32, pos := "ref.go:133", after := #[], guard := none }) (v := ?vzc4) rfl (by kernel_rfl) (by kernel_rfl) (by kernel_rfl) (fun _ _ _ h => h) (Or.inl ⟨by rfl, ?yzc4⟩) (by assumption) ?rzc4
            case yzc4 => (intro w' hSw; (try dsimp only at hSw); go_simp; try with_reducible rfl)
            try simp only [Act.put, List.setIfInBounds_toArray, List.set_cons_zero, List.set_cons_succ]
            refine wpAnyH_take (i := 5) (oi := { dst := some 23, op := Op.binOp BinOp.neq 32 (Operand.tmp 21) (Operand.tmp 22) 32, type := 4, pos := "ref.go:133", after := #[{ on := 3, ground := Ground.data }, { on := 4, ground := Ground.data }], guard := none }) (v := ?vzc5) rfl (by kernel_rfl) (by kernel_rfl) (by kernel_rfl) (fun _ _ _ h => h) (Or.inl ⟨by rfl, ?yzc5⟩) (by assumption) ?rzc5
            case yzc5 => (intro w' hSw; (try dsimp only at hSw); go_simp; try with_reducible rfl)
            try simp only [Act.put, List.setIfInBounds_toArray, List.set_cons_zero, List.set_cons_succ]
            refine wpAnyH_take (i := 6) (oi := { dst := some 24, op := Op.move (Operand.tmp 23), type := 4, pos := "ref.go:133", after := #[{ on := 5, ground := Ground.data }], guard := none }) (v := ?vzc6) rfl (by kernel_rfl) (by kernel_rfl) (by kernel_rfl) (fun _ _ _ h => h) (Or.inl ⟨by rfl, ?yzc6⟩) (by assumption) ?rzc6
            case yzc6 => (intro w' hSw; (try dsimp only at hSw); go_simp; try with_reducible rfl)
            try simp only [Act.put, List.setIfInBounds_toArray, List.set_cons_zero, List.set_cons_succ]
            refine wpAnyH_take (i := 7) (oi := { dst := some 25, op := Op.move (Operand.tmp 0), type := 37, pos := "ref.go:133", after := #[{ on := 6, ground := Ground.guard }], guard := some (6, true) }) (v := ?vzc7) rfl (by kernel_rfl) (by kernel_rfl) (by kernel_rfl) (fun _ _ _ h => h) (Or.inl ⟨by rfl, ?yzc7⟩) (by assumption) ?rzc7
            case yzc7 => (intro w' hSw; (try dsimp only at hSw); go_simp; try with_reducible rfl)
            try simp only [Act.put, List.setIfInBounds_toArray, List.set_cons_zero, List.set_cons_succ]
            refine wpAnyH_take (i := 8) (oi := { dst := some 26, op := Op.move (Operand.tmp 8), type := 3, pos := "ref.go:133", after := #[{ on := 6, ground := Ground.guard }], guard := some (6, true) }) (v := ?vzc8) rfl (by kernel_rfl) (by kernel_rfl) (by kernel_rfl) (fun _ _ _ h => h) (Or.inl ⟨by rfl, ?yzc8⟩) (by assumption) ?rzc8
            case yzc8 => (intro w' hSw; (try dsimp only at hSw); go_simp; try with_reducible rfl)
            try simp only [Act.put, List.setIfInBounds_toArray, List.set_cons_zero, List.set_cons_succ]
            refine wpAnyH_take (i := 9) (oi := { dst := some 27, op := Op.indexAddr 37 (Operand.tmp 25) (Operand.tmp 26), type := 0, pos := "ref.go:133", after := #[{ on := 7, ground := Ground.data }, { on := 8, ground := Ground.data }, { on := 6, ground := Ground.guard }], guard := some (6, true) }) (v := ?vzc9) rfl (by kernel_rfl) (by kernel_rfl) (by kernel_rfl) (fun _ _ _ h => h) (Or.inl ⟨by rfl, ?yzc9⟩) (by assumption) ?rzc9
            case yzc9 => (intro w' hSw; (try dsimp only at hSw); go_simp; try with_reducible rfl)
            try simp only [Act.put, List.setIfInBounds_toArray, List.set_cons_zero, List.set_cons_succ]
            refine wpAnyH_take (i := 10) (oi := { dst := some 28, op := Op.load 32 (Operand.tmp 27), type := 32, pos := "ref.go:133", after := #[{ on := 9, ground := Ground.data }, { on := 6, ground := Ground.guard }], guard := some (6, true) }) (v := ?vzc10) rfl (by kernel_rfl) (by kernel_rfl) (by kernel_rfl) (fun _ _ _ h => h) (Or.inl ⟨by rfl, ?yzc10⟩) (by assumption) ?rzc10
            case yzc10 => (intro w' hSw; (try dsimp only at hSw); go_simp; try with_reducible rfl)
            try simp only [Act.put, List.setIfInBounds_toArray, List.set_cons_zero, List.set_cons_succ]
            refine wpAnyH_take (i := 11) (oi := { dst := some 29, op := Op.load 32 (Operand.tmp 4), type := 32, pos := "ref.go:133", after := #[{ on := 6, ground := Ground.guard }], guard := some (6, true) }) (v := ?vzc11) rfl (by kernel_rfl) (by kernel_rfl) (by kernel_rfl) (fun _ _ _ h => h) (Or.inl ⟨by rfl, ?yzc11⟩) (by assumption) ?rzc11
            case yzc11 => (intro w' hSw; (try dsimp only at hSw); go_simp; try with_reducible rfl)
            try simp only [Act.put, List.setIfInBounds_toArray, List.set_cons_zero, List.set_cons_succ]
            refine wpAnyH_take (i := 14) (oi := { dst := some 32, op := Op.move (Operand.tmp 7), type := 3, pos := "ref.go:133", after := #[{ on := 6, ground := Ground.guard }], guard := some (6, true) }) (v := ?vzc14) rfl (by kernel_rfl) (by kernel_rfl) (by kernel_rfl) (fun _ _ _ h => h) (Or.inl ⟨by rfl, ?yzc14⟩) (by assumption) ?rzc14
            case yzc14 => (intro w' hSw; (try dsimp only at hSw); go_simp; try with_reducible rfl)
            try simp only [Act.put, List.setIfInBounds_toArray, List.set_cons_zero, List.set_cons_succ]
            refine wpAnyH_ready (rs := [12]) (by kernel_rfl) (by simp) ?_
            refine AllReadyH.cons (o := { dst := some 30, op := Op.call { callee := Callee.value (Operand.func 14), args := #[Operand.tmp 28, Operand.tmp 29], argTypes := #[32, 32] }, type := 3, pos := "ref.go:133", after := #[{ on := 10, ground := Ground.data }, { on := 11, ground := Ground.data }, { on := 6, ground := Ground.chain }, { on := 6, ground := Ground.guard }], guard := some (6, true) }) rfl (fun K hK => ?_) AllReadyH.nil
            go_simp
            go_at_call 14
            refine (SHm.out _).mono ?_
            rintro e w6 ⟨rfl, hb6⟩
            have T6 := Lib.hid (T0.out.below hb6)
            go_wp2_with fail
            refine hK.out _ _ (T6.out.ld) (fun hHeldzc12 => ?_)
            clear hK K hHeld
            try simp only [Act.put, List.setIfInBounds_toArray, List.set_cons_zero, List.set_cons_succ]
            refine wpAnyH_take (i := 13) (oi := { dst := some 31, op := Op.binOp BinOp.add 3 (Operand.tmp 30) (Operand.const (Value.int IntKind.i64 1)) 3, type := 3, pos := "ref.go:133", after := #[{ on := 12, ground := Ground.data }, { on := 6, ground := Ground.guard }], guard := some (6, true) }) (v := ?vzc13) rfl (by kernel_rfl) (by kernel_rfl) (by kernel_rfl) (fun _ _ _ h => h) (Or.inl ⟨by rfl, ?yzc13⟩) (by assumption) ?rzc13
            case yzc13 => (intro w' hSw; (try dsimp only at hSw); go_simp; try with_reducible rfl)
            try simp only [Act.put, List.setIfInBounds_toArray, List.set_cons_zero, List.set_cons_succ]
            refine wpAnyH_take (i := 15) (oi := { dst := some 33, op := Op.binOp BinOp.gtr 3 (Operand.tmp 31) (Operand.tmp 32) 3, type := 4, pos := "ref.go:133", after := #[{ on := 13, ground := Ground.data }, { on := 14, ground := Ground.data }, { on := 6, ground := Ground.guard }], guard := some (6, true) }) (v := ?vzc15) rfl (by kernel_rfl) (by kernel_rfl) (by kernel_rfl) (fun _ _ _ h => h) (Or.inl ⟨by rfl, ?yzc15⟩) (by assumption) ?rzc15
            case yzc15 => (intro w' hSw; (try dsimp only at hSw); go_simp; try with_reducible rfl)
            try simp only [Act.put, List.setIfInBounds_toArray, List.set_cons_zero, List.set_cons_succ]
            refine wpAnyH_take (i := 16) (oi := { dst := some 34, op := Op.pick (Operand.tmp 24) (Operand.tmp 33) (Operand.const (Value.bool false)), type := 4, pos := "ref.go:133", after := #[{ on := 6, ground := Ground.data }, { on := 15, ground := Ground.data }], guard := none }) (v := ?vzc16) rfl (by kernel_rfl) (by kernel_rfl) (by kernel_rfl) (fun _ _ _ h => h) (Or.inl ⟨by rfl, ?yzc16⟩) (by assumption) ?rzc16
            case yzc16 => (intro w' hSw; (try dsimp only at hSw); go_simp; try with_reducible rfl)
            try simp only [Act.put, List.setIfInBounds_toArray, List.set_cons_zero, List.set_cons_succ]
            refine wpAnyH_done (by kernel_rfl) ?_ _
            )
            have hI9 := Lib.hid T6.out.r.blk
            have hB9 := Lib.hid T6.out.r.bel
            clear S0 hb6 heq T0 T6 hgt hqs
            go_wp2_with fail
            go_roundw
            case rel => exact ⟨i + 1, n, by go_num, rfl, HLT.out, HS2, hI9, hB9⟩
            case measure => have := HLT.out; simp [intOf]; omega
      · obtain rfl : i = l.length := by omega
        have HS : Hid (shortN id n0 l = n) := Lib.hid (by rw [← hsn.out, List.take_of_length_le (Nat.le_refl _)])
        clear hsn hi hlt
        by_cases h64 : 64 < n
        · have hd : decide ((64 : Int) < (n : Int)) = true := by simp; omega
          have HR2 : Hid (shortN id (least0 k) l = 64) := Lib.hid (by rw [HRES.out, HS.out]; omega)
          have hd2 : (64 : Int) < (n : Int) := by omega
          clear h64
          go_wp2_with fail
          go_ret
          exact ⟨by rw [HR2.out]; rfl, hB.out⟩
        · have hd : ¬ (64 : Int) < (n : Int) := by omega
          have HR2 : Hid (shortN id (least0 k) l = n) := Lib.hid (by rw [HRES.out, HS.out]; omega)
          clear h64
          go_wp2_with fail
          go_ret
          exact ⟨by rw [HR2.out]; rfl, hB.out⟩
end Go.Proofs.Ytpkikibcfkdodaa
