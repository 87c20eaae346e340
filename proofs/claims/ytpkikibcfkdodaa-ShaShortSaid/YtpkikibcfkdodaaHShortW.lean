/-
  ShaShort: the walk.
-/
import Derived.Test.YtpkikibcfkdodaaHRefK
namespace Go.Proofs.Ytpkikibcfkdodaa
open Go Go.RowKit
attribute [-go_sem] loadCells storeCells run_index_string run_string_add_if Instr.buildSlice
/-- The cells of names, one behind the other. -/
def idc (l : List (List UInt8)) : List Value := l.flatMap bc
theorem idc_len : ∀ l : List (List UInt8), (∀ m ∈ l, m.length = 32) → (idc l).length = l.length * 32
  | [], _ => rfl
  | m :: ms, h => by
    have h1 := h m (by simp)
    have h2 := idc_len ms fun x hx => h x (by simp [hx])
    show (bc m ++ idc ms).length = _
    rw [List.length_append, bc_len, h1, h2, List.length_cons]; omega
theorem idc_at : ∀ (l : List (List UInt8)) (i j : Nat) (m : List UInt8) (v : Value), (∀ m ∈ l, m.length = 32) → l[i]? = some m → (bc m)[j]? = some v → (idc l)[i * 32 + j]? = some v
  | [], i, j, m, v, _, hi, _ => by simp at hi
  | x :: xs, 0, j, m, v, h, hi, hj => by
    injection hi with hi
    subst hi
    show (bc x ++ idc xs)[0 * 32 + j]? = _
    rw [List.getElem?_append_left (by have := (List.getElem?_eq_some_iff.1 hj).1; omega), show 0 * 32 + j = j by omega]
    exact hj
  | x :: xs, i + 1, j, m, v, h, hi, hj => by
    have h1 : (bc x).length = 32 := by rw [bc_len]; exact h x (by simp)
    show (bc x ++ idc xs)[(i + 1) * 32 + j]? = _
    rw [List.getElem?_append_right (by omega), h1, show (i + 1) * 32 + j - 32 = i * 32 + j by omega]
    exact idc_at xs i j m v (fun y hy => h y (by simp [hy])) hi hj
theorem idc_snoc (l : List (List UInt8)) (m : List UInt8) : idc (l ++ [m]) = idc l ++ bc m := by
  unfold idc; simp
theorem idc_one (l : List (List UInt8)) : ∀ u ∈ idc l, u.oneCell' = true := by
  intro u hu
  obtain ⟨m, _, h⟩ := List.mem_flatMap.1 hu
  exact bc_one m u h
theorem ids_own {w : World} {B : Nat} {A : Option Addr} {c : Nat} {l : List (List UInt8)} (hl : ∀ m ∈ l, m.length = 32) (h : w.ownsRow B 32 32 (.slice A l.length c) l.length (idc l)) : IDs w A l :=
  ⟨hl, fun h0 => by
    rcases h.2 with ⟨e, h1⟩ | ⟨g, cap, cur, e, _⟩
    · rw [h1] at h0; exact absurd h0 (by simp)
    · injection e with e1 e2 e3
      refine ⟨g, 0, e1, fun i m hi j v hv => ?_⟩
      subst e1
      have := h.cells (g := g) rfl _ v (idc_at l i j m v hl hi hv)
      rw [Addr.add_lit] at this
      rw [← this]
      congr 2
      omega⟩
theorem info32 : (Try.prog.info? 32).map (fun i => (i.zero, i.size, i.bytes)) = some (some (.agg (Array.replicate 32 (.int .u8 0))), 32, 32) := by kernel_rfl
theorem IDs.keep {w w' : World} {A : Option Addr} {l : List (List UInt8)} (h : IDs w A l) (hb : Below w.heap.size w w') : IDs w' A l :=
  ⟨h.len, fun h0 => by
    obtain ⟨g, o, e, hat⟩ := h.at_ h0
    refine ⟨g, o, e, fun i m hi j v hv => ?_⟩
    have h00 := hat i m hi j v hv
    have := hb.block g (World.block_lt_of_cell? w _ h00)
    rw [← h00]
    simp only [World.cell?, this]⟩
theorem stepS_ge (id : List UInt8) (n : Nat) (m : List UInt8) : n ≤ stepS id n m := by
  unfold stepS; split <;> omega
theorem shortN_ge (id : List UInt8) : ∀ (l : List (List UInt8)) (n : Nat), n ≤ shortN id n l
  | [], _ => Nat.le_refl _
  | m :: ms, _ => Nat.le_trans (stepS_ge id _ m) (shortN_ge id ms _)
theorem shortN_mem (id : List UInt8) : ∀ (l : List (List UInt8)) (n : Nat) (m : List UInt8), m ∈ l → m ≠ id → share m id < shortN id n l
  | [], _, m, h, _ => by cases h
  | x :: xs, n, m, h, hne => by
    rcases List.mem_cons.1 h with rfl | h
    · have h1 := shortN_ge id xs (stepS id n m)
      have h2 : share m id < stepS id n m := by unfold stepS; rw [if_neg hne]; omega
      exact Nat.lt_of_lt_of_le h2 h1
    · exact shortN_mem id xs _ m h hne
theorem shortN_le64 {id : List UInt8} (hid : id.length = 32) : ∀ (l : List (List UInt8)) (n : Nat), n ≤ 64 → (∀ m ∈ l, m.length = 32) → shortN id n l ≤ 64
  | [], _, h, _ => h
  | m :: ms, _, h, hl => by
    refine shortN_le64 hid ms (stepS id _ m) ?_ fun x hx => hl x (by simp [hx])
    unfold stepS
    split
    · exact h
    · next hne =>
      have := share_lt (hl m (by simp)) hid hne
      omega
/-- What stands in the first round. -/
structure Rn3 (w0 w : World) (I g p g5 q n c5 : Nat) (ci cm xs : List Value) : Prop where
  a : Blk w I 25 ci.toArray
  hi : ci.length = 32
  hm : cm.length = 32
  bel : Below w0.heap.size w0 w
  m : ∀ j v, cm[j]? = some v → w.cell? ⟨g, p + j, none⟩ = some v
  own : w.ownsRow w0.heap.size 32 32 (.slice (some ⟨g5, 0, none⟩) n c5) n xs
  n : ∀ j v, cm[j]? = some v → w.cell? ⟨g5, q + j, none⟩ = some v
section
variable {w0 w w' : World} {I g p g5 q n c5 : Nat} {ci cm xs : List Value}
theorem Rn3.ld (h : Rn3 w0 w I g p g5 q n c5 ci cm xs) : (loadCells ⟨I, 0, none⟩ 32).run Try.prog w = .ok ci.toArray w ∧ (loadCells ⟨g, p, none⟩ 32).run Try.prog w = .ok cm.toArray w ∧ (loadCells ⟨g5, q, none⟩ 32).run Try.prog w = .ok cm.toArray w :=
  ⟨ld_blk h.a (by simpa using h.hi), ld_cells h.hm h.m, ld_cells h.hm h.n⟩
theorem Rn3.below (h : Rn3 w0 w I g p g5 q n c5 ci cm xs) (hb : Below w.heap.size w w') : Rn3 w0 w' I g p g5 q n c5 ci cm xs := by
  have keep : ∀ (a b : Nat) v, w.cell? ⟨a, b, none⟩ = some v → w'.cell? ⟨a, b, none⟩ = some v := fun a b v h0 => by
    have := hb.block a (World.block_lt_of_cell? w _ h0)
    rw [← h0]
    simp only [World.cell?, this]
  exact ⟨h.a.below hb h.a.lt, h.hi, h.hm, h.bel.trans (hb.mono h.bel.size), fun j v hj => keep _ _ _ (h.m j v hj), own_keep h.own hb, fun j v hj => keep _ _ _ (h.n j v hj)⟩
theorem Rn3.drew (h : Rn3 w0 w I g p g5 q n c5 ci cm xs) : Rn3 w0 w.drew I g p g5 q n c5 ci cm xs := ⟨h.a.drewN 1, h.hi, h.hm, below_drewN h.bel 1, h.m, h.own, h.n⟩
end
/-- What stands in the second round. -/
structure Rn4 (w0 w : World) (I g p : Nat) (ci cm : List Value) : Prop where
  a : Blk w I 25 ci.toArray
  hi : ci.length = 32
  hm : cm.length = 32
  bel : Below w0.heap.size w0 w
  m : ∀ j v, cm[j]? = some v → w.cell? ⟨g, p + j, none⟩ = some v
theorem Rn4.ld {w0 w : World} {I g p : Nat} {ci cm : List Value} (h : Rn4 w0 w I g p ci cm) : (loadCells ⟨I, 0, none⟩ 32).run Try.prog w = .ok ci.toArray w ∧ (loadCells ⟨g, p, none⟩ 32).run Try.prog w = .ok cm.toArray w :=
  ⟨ld_blk h.a (by simpa using h.hi), ld_cells h.hm h.m⟩
theorem Rn4.below {w0 w w' : World} {I g p : Nat} {ci cm : List Value} (h : Rn4 w0 w I g p ci cm) (hb : Below w.heap.size w w') : Rn4 w0 w' I g p ci cm := by
  have keep : ∀ (a b : Nat) v, w.cell? ⟨a, b, none⟩ = some v → w'.cell? ⟨a, b, none⟩ = some v := fun a b v h0 => by
    have := hb.block a (World.block_lt_of_cell? w _ h0)
    rw [← h0]
    simp only [World.cell?, this]
  exact ⟨h.a.below hb h.a.lt, h.hi, h.hm, h.bel.trans (hb.mono h.bel.size), fun j v hj => keep _ _ _ (h.m j v hj)⟩
theorem Rn4.drew {w0 w : World} {I g p : Nat} {ci cm : List Value} (h : Rn4 w0 w I g p ci cm) : Rn4 w0 w.drew I g p ci cm := ⟨h.a.drewN 1, h.hi, h.hm, below_drewN h.bel 1, h.m⟩
abbrev YesS (w : World) (e : Ending) (w' : World) : Prop := e = .returned (.bool true) ∧ Below w.heap.size w w'
set_option maxRecDepth 100000 in
set_option maxHeartbeats 1000000 in
theorem short_long (w : World) (A : Option Addr) (n c : Nat) (id : Array Value) (k : Int) (h : 40 < n) : Calls Try.prog 4 #[.slice A n c, .agg id, .int .i64 k] w (YesS w) := by
  have h1 : (40 : Int) < (n : Int) := by omega
  go_enter Try.func4, Try.ntmps4
  go_wp2_with fail
  refine (known_any _).mono ?_
  rintro e w1 ⟨rfl, hb1⟩
  go_wp2
  go_ret
  exact ⟨rfl, ((Below.refl w.heap.size w).alloc (Nat.le_refl _) _).trans (hb1.mono (by simp))⟩
set_option maxRecDepth 100000 in
set_option maxHeartbeats 8000000 in
theorem short_walk (w : World) (A : Option Addr) (l : List (List UInt8)) (c : Nat) (id : List UInt8) (k : Int) (hid : id.length = 32) (hl : l.length ≤ 40) (hr : IDs w A l) : Calls Try.prog 4 #[.slice A l.length c, .agg (bc id).toArray, .int .i64 k] w (YesS w) := by
  have HR := Lib.hid hr
  have HLL := Lib.hid hl
  have HID := Lib.hid hid
  have h1 : ¬ (40 : Int) < (l.length : Int) := by omega
  have l0 : (0 : Int) ≤ (l.length : Int) := Int.natCast_nonneg _
  have l1 : (l.length : Int) ≤ 40 := by omega
  have SH := Lib.hid fun (W : World) (m : List UInt8) (hm : m.length = 32) => shared_any W m id hm hid
  have RH := Lib.hid fun (W : World) (m : List UInt8) (hm : m.length = 32) => rshared_any W m id hm hid
  have EQ := Lib.hid fun (W : World) (m : List UInt8) (hm : m.length = 32) => eq25 W m id hm hid
  have SHO := Lib.hid fun (W : World) (B : Option Addr) (d : Nat) (h : IDs W B l) => short_any W B l d id k hid (by omega) h
  have RHO := Lib.hid fun (W : World) (B : Option Addr) (d : Nat) (h : IDs W B l) => rshort_any W B l d id k hid (by omega) h
  obtain ⟨ci, hci⟩ : ∃ cs, cs = bc id := ⟨_, rfl⟩
  have hcz : ci.length = 32 := by rw [hci, bc_len, hid]
  have hczz : ci.toArray.size = 32 := by simpa using hcz
  rw [← hci] at SH RH EQ SHO RHO
  rw [← hci]
  have HCZ := Lib.hid hcz
  have HCI := Lib.hid hci
  obtain ⟨i0, hi0, hz0, hz1, hz2⟩ : ∃ i0, Try.prog.info? 32 = some i0 ∧ i0.zero = some (.agg (Array.replicate 32 (.int .u8 0))) ∧ i0.size = 32 ∧ i0.bytes = 32 := by
    have h := info32
    cases hq : Try.prog.info? 32 with
    | none => rw [hq] at h; cases h
    | some i0 => rw [hq] at h; simp at h; exact ⟨i0, rfl, h.1, h.2.1, h.2.2⟩
  have HI0 := Lib.hid hi0
  have HZ0 := Lib.hid hz0
  have HZ1 := Lib.hid hz1
  have HZ2 := Lib.hid hz2
  clear hr hl hid hci hcz hi0 hz0 hz1 hz2
  go_enter Try.func4, Try.ntmps4
  go_upto_region 1 with fail
  have X0 : Blk (w.alloc (.cells ci.toArray 25)) w.heap.size 25 ci.toArray := Blk.new _ _ _
  have B0 := (Below.refl w.heap.size w).alloc (Nat.le_refl _) (.cells ci.toArray 25)
  obtain ⟨I, hI⟩ : ∃ I, I = w.heap.size := ⟨_, rfl⟩
  obtain ⟨W, hW⟩ : ∃ W, W = w.alloc (.cells ci.toArray 25) := ⟨_, rfl⟩
  rw [← hI, ← hW] at X0
  rw [← hW] at B0
  rw [← hW, ← hI]
  have X1 := Lib.hid X0
  have B1 := Lib.hid B0
  have HLI : Hid (w.heap.size ≤ I) := Lib.hid (by omega)
  clear hI hW X0 B0
  go_upto_region 5 with (go_at_call 7; refine (known_any _).mono ?_; rintro e w1 ⟨rfl, hb1⟩)
  have X2 := Lib.hid (X1.out.below hb1 X1.out.lt)
  have B2 := Lib.hid (B1.out.trans (hb1.mono B1.out.size))
  clear hb1 X1 B1
  have O2 : Hid (w1.ownsRow w.heap.size 32 32 (.slice none 0 0) 0 (idc (l.take 0))) := Lib.hid ⟨rfl, .inl ⟨rfl, rfl⟩⟩
  go_wp2_with fail
  go_loopw [7, 8] (fun s7 s8 wr => ∃ i c7 : Nat, ∃ A7, s8 = .int .i64 i ∧ s7 = .slice A7 i c7 ∧ i ≤ l.length ∧ Hid (wr.ownsRow w.heap.size 32 32 (.slice A7 i c7) i (idc (l.take i))) ∧ Hid (Blk wr I 25 ci.toArray) ∧ Hid (Below w.heap.size w wr)) (fun _ s8 _ => l.length - (intOf s8).toNat)
  case atStart => exact ⟨0, 0, none, rfl, rfl, by omega, O2, X2, B2⟩
  case round =>
    clear O2 X2 B2
    obtain ⟨i, c7, A7, rfl, rfl, hi, hO, hI, hB⟩ := hrel
    have i0' : (0 : Int) ≤ (i : Int) := Int.natCast_nonneg _
    by_cases hlt : i < l.length
    · have i1 : (i : Int) < (l.length : Int) := by omega
      obtain ⟨g, o, rfl, hat⟩ := HR.out.at_ (by omega)
      obtain ⟨m, hm⟩ : ∃ m, l[i]? = some m := ⟨_, List.getElem?_eq_getElem hlt⟩
      have hml := HR.out.len m (List.mem_of_getElem? hm)
      have hat2 := hat i m hm
      have hat3 : ∀ j v, (bc m)[j]? = some v → wr.cell? ⟨g, o + i * 32 + j, none⟩ = some v := fun j v hv => by
        have h0 := hat2 j v hv
        have := hB.out.block g (World.block_lt_of_cell? w _ h0)
        simp only [World.cell?, this]; exact h0
      have hone : Hid (l.take (i + 1) = l.take i ++ [m]) := Lib.hid (by
        rw [List.take_add_one, hm]; rfl)
      have HML := Lib.hid hml
      obtain ⟨cm, hcm⟩ : ∃ cm, cm = bc m := ⟨_, rfl⟩
      rw [← hcm] at hat3
      have hcml : cm.length = 32 := by rw [hcm, bc_len, hml]
      have hld := ld_cells hcml hat3
      have HW0 : Hid (∀ j v, cm[j]? = some v → w.cell? ⟨g, o + i * 32 + j, none⟩ = some v) := Lib.hid (by rw [hcm]; exact hat2)
      have hbs := bs1_37 wr cm hcml
      have HCM := Lib.hid hcm
      have HLT := Lib.hid hlt
      have HCML := Lib.hid hcml
      have HCM1 : Hid (∀ u ∈ cm, u.oneCell' = true) := Lib.hid (by rw [hcm]; exact bc_one m)
      have hO4 := Lib.hid (hO.out.alloc (.cells cm.toArray 32))
      have hB4 := Lib.hid (hB.out.alloc hB.out.size (.cells cm.toArray 32))
      have hI4 := Lib.hid (hI.out.alloc (.cells cm.toArray 32))
      have hlo := hO4.out.lt
      have HLO := Lib.hid hlo
      have hnews : ∀ j u, cm[j]? = some u → (wr.alloc (.cells cm.toArray 32)).cell? ((⟨wr.heap.size, 0, none⟩ : Addr).add j) = some u := fun j u hj => by
        rw [Addr.add_lit, cell_of_row _ wr.heap.size _ _ 32 (0, 0) (heap_alloc_new wr _), Nat.zero_add, List.getElem?_toArray]; exact hj
      have HNW := Lib.hid hnews
      have HSZ : Hid (w.heap.size ≤ (wr.alloc (.cells cm.toArray 32)).heap.size ∧ i ≤ 40) := Lib.hid ⟨hB4.out.size, by have := HLL.out; omega⟩
      clear hml hat hat2 hat3 hm hcm hlt hcml hO hI hB hlo hnews
      go_upto_region 10 with (at_builtin; refine wpList_append_own _ rfl _ _ 37 rfl w.heap.size 32 i0 _ 32 32 Try.underlying37 HI0.out HZ0.out HZ1.out HZ2.out rfl (by decide) _ _ _ rfl hO4.out ⟨wr.heap.size, 0, none⟩ 1 1 cm rfl (by rw [HCML.out]) HNW.out HCM1.out (by unfold maxLen; have := HSZ.out.2; omega) (by have := HSZ.out.2; omega) HSZ.out.1 ?_; intro v5 w5 hown5 hg5 _)
      have hb5 : Below w.heap.size w w5 := hB4.out.grown hg5 HSZ.out.1 (fun z hz => (HLO.out z hz).1)
      have hI5 : Blk w5 I 25 ci.toArray := hI4.out.grown hg5 (fun e => own_blk_ne hO4.out hI4.out (by decide) e.symm)
      have hm5 : ∀ j v, cm[j]? = some v → w5.cell? ⟨g, o + i * 32 + j, none⟩ = some v := fun j v hj => by
        have h00 : w.cell? ⟨g, o + i * 32 + j, none⟩ = some v := HW0.out j v hj
        have := hb5.block g (World.block_lt_of_cell? w _ h00)
        simp only [World.cell?, this]; exact h00
      rcases hown5.2 with ⟨_, h0⟩ | ⟨g5, c5, cur, rfl, hrest⟩
      · omega
      have hn5 : ∀ j v, cm[j]? = some v → w5.cell? ⟨g5, i * 32 + j, none⟩ = some v := fun j v hj => by
        have hxl : (idc (l.take i)).length = i * 32 := by
          rw [idc_len _ (fun x hx => HR.out.len x (List.mem_of_mem_take hx)), List.length_take, Nat.min_eq_left (by have := HLT.out; omega)]
        have h := hown5.cells (g := g5) rfl (i * 32 + j) v (by rw [List.getElem?_append_right (by omega), hxl, show i * 32 + j - i * 32 = j by omega]; exact hj)
        rwa [Addr.add_lit, Nat.zero_add] at h
      have T00 : Rn3 w w5 I g (o + i * 32) g5 (i * 32) (i + 1) c5 ci cm (idc (l.take i) ++ cm) := ⟨hI5, HCZ.out, HCML.out, hb5, hm5, hown5, hn5⟩
      have T0 := Lib.hid T00.drew
      have S0 := T0.out.ld
      have SHm : Hid (∀ W, Calls Try.prog 13 #[.agg cm.toArray, .agg ci.toArray] W (fun e w' => e = .returned (.int .i64 (share m id)) ∧ Below W.heap.size W w')) := Lib.hid (by rw [HCM.out]; exact fun W => SH.out W m HML.out)
      have RHm : Hid (∀ W, Calls Try.prog 14 #[.agg cm.toArray, .agg ci.toArray] W (fun e w' => e = .returned (.int .i64 (share m id)) ∧ Below W.heap.size W w')) := Lib.hid (by rw [HCM.out]; exact fun W => RH.out W m HML.out)
      have HTK : Hid (idc (l.take i) ++ cm = idc (l.take (i + 1))) := Lib.hid (by rw [hone.out, idc_snoc, HCM.out])
      generalize share m id = q at *
      have i2 : (i : Int) < (i : Int) + 1 := by omega
      clear hown5 hg5 hb5 hI5 hm5 hrest hn5 T00 hbs hld
      (
        refine wp_region_held_drew (S := fun w' => (loadCells ⟨I, 0, none⟩ 32).run Try.prog w' = .ok ci.toArray w' ∧ (loadCells ⟨g, o + i * 32, none⟩ 32).run Try.prog w' = .ok cm.toArray w' ∧ (loadCells ⟨g5, i * 32, none⟩ 32).run Try.prog w' = .ok cm.toArray w') (by kernel_rfl) (S0) (fun hHeld => ?_)
        refine wpAnyH_take (i := 0) (oi := { dst := some 29, op := Op.move (Operand.tmp 0), type := 36, pos := "law.go:79", after := #[], guard := none }) (v := ?va0) rfl (by kernel_rfl) (by kernel_rfl) (by kernel_rfl) (fun _ _ _ h => h) (Or.inl ⟨by rfl, ?ya0⟩) (by assumption) ?ra0
        case ya0 => (intro w' hSw; (try dsimp only at hSw); go_simp; try with_reducible rfl)
        try simp only [Act.put, List.setIfInBounds_toArray, List.set_cons_zero, List.set_cons_succ]
        refine wpAnyH_take (i := 1) (oi := { dst := some 30, op := Op.move (Operand.tmp 8), type := 3, pos := "law.go:79", after := #[], guard := none }) (v := ?va1) rfl (by kernel_rfl) (by kernel_rfl) (by kernel_rfl) (fun _ _ _ h => h) (Or.inl ⟨by rfl, ?ya1⟩) (by assumption) ?ra1
        case ya1 => (intro w' hSw; (try dsimp only at hSw); go_simp; try with_reducible rfl)
        try simp only [Act.put, List.setIfInBounds_toArray, List.set_cons_zero, List.set_cons_succ]
        refine wpAnyH_take (i := 2) (oi := { dst := some 31, op := Op.indexAddr 36 (Operand.tmp 29) (Operand.tmp 30), type := 0, pos := "law.go:79", after := #[{ on := 0, ground := Ground.data }, { on := 1, ground := Ground.data }], guard := none }) (v := ?va2) rfl (by kernel_rfl) (by kernel_rfl) (by kernel_rfl) (fun _ _ _ h => h) (Or.inl ⟨by rfl, ?ya2⟩) (by assumption) ?ra2
        case ya2 => (intro w' hSw; (try dsimp only at hSw); go_simp; try with_reducible rfl)
        try simp only [Act.put, List.setIfInBounds_toArray, List.set_cons_zero, List.set_cons_succ]
        refine wpAnyH_take (i := 3) (oi := { dst := some 32, op := Op.load 25 (Operand.tmp 31), type := 25, pos := "law.go:79", after := #[{ on := 2, ground := Ground.data }], guard := none }) (v := ?va3) rfl (by kernel_rfl) (by kernel_rfl) (by kernel_rfl) (fun _ _ _ h => h) (Or.inl ⟨by rfl, ?ya3⟩) (by assumption) ?ra3
        case ya3 => (intro w' hSw; (try dsimp only at hSw); go_simp; try with_reducible rfl)
        try simp only [Act.put, List.setIfInBounds_toArray, List.set_cons_zero, List.set_cons_succ]
        refine wpAnyH_take (i := 4) (oi := { dst := some 33, op := Op.load 25 (Operand.tmp 4), type := 25, pos := "law.go:79", after := #[], guard := none }) (v := ?va4) rfl (by kernel_rfl) (by kernel_rfl) (by kernel_rfl) (fun _ _ _ h => h) (Or.inl ⟨by rfl, ?ya4⟩) (by assumption) ?ra4
        case ya4 => (intro w' hSw; (try dsimp only at hSw); go_simp; try with_reducible rfl)
        try simp only [Act.put, List.setIfInBounds_toArray, List.set_cons_zero, List.set_cons_succ]
        refine wpAnyH_take (i := 6) (oi := { dst := some 35, op := Op.move (Operand.tmp 7), type := 37, pos := "law.go:79", after := #[], guard := none }) (v := ?va6) rfl (by kernel_rfl) (by kernel_rfl) (by kernel_rfl) (fun _ _ _ h => h) (Or.inl ⟨by rfl, ?ya6⟩) (by assumption) ?ra6
        case ya6 => (intro w' hSw; (try dsimp only at hSw); go_simp; try with_reducible rfl)
        try simp only [Act.put, List.setIfInBounds_toArray, List.set_cons_zero, List.set_cons_succ]
        refine wpAnyH_take (i := 7) (oi := { dst := some 36, op := Op.move (Operand.tmp 8), type := 3, pos := "law.go:79", after := #[], guard := none }) (v := ?va7) rfl (by kernel_rfl) (by kernel_rfl) (by kernel_rfl) (fun _ _ _ h => h) (Or.inl ⟨by rfl, ?ya7⟩) (by assumption) ?ra7
        case ya7 => (intro w' hSw; (try dsimp only at hSw); go_simp; try with_reducible rfl)
        try simp only [Act.put, List.setIfInBounds_toArray, List.set_cons_zero, List.set_cons_succ]
        refine wpAnyH_take (i := 8) (oi := { dst := some 37, op := Op.indexAddr 37 (Operand.tmp 35) (Operand.tmp 36), type := 0, pos := "law.go:79", after := #[{ on := 6, ground := Ground.data }, { on := 7, ground := Ground.data }], guard := none }) (v := ?va8) rfl (by kernel_rfl) (by kernel_rfl) (by kernel_rfl) (fun _ _ _ h => h) (Or.inl ⟨by rfl, ?ya8⟩) (by assumption) ?ra8
        case ya8 => (intro w' hSw; (try dsimp only at hSw); go_simp; try with_reducible rfl)
        try simp only [Act.put, List.setIfInBounds_toArray, List.set_cons_zero, List.set_cons_succ]
        refine wpAnyH_take (i := 9) (oi := { dst := some 38, op := Op.load 32 (Operand.tmp 37), type := 32, pos := "law.go:79", after := #[{ on := 8, ground := Ground.data }], guard := none }) (v := ?va9) rfl (by kernel_rfl) (by kernel_rfl) (by kernel_rfl) (fun _ _ _ h => h) (Or.inl ⟨by rfl, ?ya9⟩) (by assumption) ?ra9
        case ya9 => (intro w' hSw; (try dsimp only at hSw); go_simp; try with_reducible rfl)
        try simp only [Act.put, List.setIfInBounds_toArray, List.set_cons_zero, List.set_cons_succ]
        refine wpAnyH_take (i := 10) (oi := { dst := some 39, op := Op.load 25 (Operand.tmp 4), type := 25, pos := "law.go:79", after := #[], guard := none }) (v := ?va10) rfl (by kernel_rfl) (by kernel_rfl) (by kernel_rfl) (fun _ _ _ h => h) (Or.inl ⟨by rfl, ?ya10⟩) (by assumption) ?ra10
        case ya10 => (intro w' hSw; (try dsimp only at hSw); go_simp; try with_reducible rfl)
        try simp only [Act.put, List.setIfInBounds_toArray, List.set_cons_zero, List.set_cons_succ]
        refine wpAnyH_ready (rs := [5]) (by kernel_rfl) (by simp) ?_
        refine AllReadyH.cons (o := { dst := some 34, op := Op.call { callee := Callee.value (Operand.func 13), args := #[Operand.tmp 32, Operand.tmp 33], argTypes := #[25, 25] }, type := 3, pos := "law.go:79", after := #[{ on := 3, ground := Ground.data }, { on := 4, ground := Ground.data }], guard := none }) rfl (fun K hK => ?_) AllReadyH.nil
        go_simp
        go_at_call 13
        refine (SHm.out _).mono ?_
        rintro e w6 ⟨rfl, hb6⟩
        have T6 := Lib.hid (T0.out.below hb6)
        go_wp2_with fail
        refine hK.out _ _ (T6.out.ld) (fun hHelda5 => ?_)
        clear hK K hHeld
        try simp only [Act.put, List.setIfInBounds_toArray, List.set_cons_zero, List.set_cons_succ]
        refine wpAnyH_ready (rs := [11]) (by kernel_rfl) (by simp) ?_
        refine AllReadyH.cons (o := { dst := some 40, op := Op.call { callee := Callee.value (Operand.func 14), args := #[Operand.tmp 38, Operand.tmp 39], argTypes := #[32, 32] }, type := 3, pos := "law.go:79", after := #[{ on := 9, ground := Ground.data }, { on := 10, ground := Ground.data }, { on := 5, ground := Ground.chain }], guard := none }) rfl (fun K hK => ?_) AllReadyH.nil
        go_simp
        go_at_call 14
        refine (RHm.out _).mono ?_
        rintro e w7 ⟨rfl, hb7⟩
        have T7 := Lib.hid (T6.out.below hb7)
        go_wp2_with fail
        refine hK.out _ _ (T7.out.ld) (fun hHelda11 => ?_)
        clear hK K hHelda5
        try simp only [Act.put, List.setIfInBounds_toArray, List.set_cons_zero, List.set_cons_succ]
        refine wpAnyH_take (i := 12) (oi := { dst := some 41, op := Op.binOp BinOp.neq 3 (Operand.tmp 34) (Operand.tmp 40) 3, type := 4, pos := "law.go:79", after := #[{ on := 5, ground := Ground.data }, { on := 11, ground := Ground.data }], guard := none }) (v := ?va12) rfl (by kernel_rfl) (by kernel_rfl) (by kernel_rfl) (fun _ _ _ h => h) (Or.inl ⟨by rfl, ?ya12⟩) (by assumption) ?ra12
        case ya12 => (intro w' hSw; (try dsimp only at hSw); go_simp; try with_reducible rfl)
        try simp only [Act.put, List.setIfInBounds_toArray, List.set_cons_zero, List.set_cons_succ]
        refine wpAnyH_done (by kernel_rfl) ?_ _
      )
      have HF := Lib.hid T7.out
      clear S0 hb6 hb7 T0 T6 T7
      go_wp2_with fail
      go_roundw
      case rel => exact ⟨i + 1, c5, some ⟨g5, 0, none⟩, by go_num, rfl, HLT.out, Lib.hid (by rw [← HTK.out]; exact HF.out.own), Lib.hid HF.out.a, Lib.hid HF.out.bel⟩
      case measure => have := HLT.out; simp [intOf]; omega
    · obtain rfl : i = l.length := by omega
      have hO2 := hO.out
      rw [List.take_of_length_le (Nat.le_refl _)] at hO2
      have IDL := Lib.hid (ids_own HR.out.len hO2)
      have IDA : Hid (IDs wr A l) := Lib.hid (IDs.keep HR.out hB.out)
      have hli := ld_blk hI.out hczz
      have hn64 := shortN_le64 HID.out l (least0 k) (least0_le k) HR.out.len
      have HMEM : Hid (∀ m, m ∈ l → m ≠ id → share m id < shortN id (least0 k) l) := Lib.hid fun m hm hne => shortN_mem id l _ m hm hne
      have SHO1 := Lib.hid fun (W : World) (B : Option Addr) (d : Nat) (h : IDs W B l) => SHO.out W B d h
      have RHO1 := Lib.hid fun (W : World) (B : Option Addr) (d : Nat) (h : IDs W B l) => RHO.out W B d h
      obtain ⟨nn, hnn⟩ : ∃ n, n = shortN id (least0 k) l := ⟨_, rfl⟩
      rw [← hnn] at hn64 HMEM SHO1 RHO1
      have nn0 : (0 : Int) ≤ (nn : Int) := Int.natCast_nonneg _
      have nn1 : (nn : Int) ≤ 64 := by omega
      have nn2 : ¬ (nn : Int) < 0 := by omega
      have nn3 : ¬ (64 : Int) < (nn : Int) := by omega
      clear hO2 hlt hi hnn hn64 SHO RHO hO
      go_upto_region 15 with (first
        | (go_at_call 15; refine (SHO1.out _ _ _ IDA.out).mono ?_; rintro e w5 ⟨rfl, hb5⟩; have hI5 := Lib.hid (hI.out.below hb5 hI.out.lt); have hli5 := ld_blk hI5.out hczz; have hB5 := Lib.hid (hB.out.trans (hb5.mono hB.out.size)); have HB5 := Lib.hid hb5; clear hb5)
        | (go_at_call 16; refine (RHO1.out _ _ _ (IDL.out.keep HB5.out)).mono ?_; rintro e w6 ⟨rfl, hb6⟩; have hI6 := Lib.hid (hI5.out.below hb6 hI5.out.lt); have hB6 := Lib.hid (hB5.out.trans (hb6.mono hB5.out.size)); clear hb6))
      clear hli hli5 hI hB hI5 hB5 HB5 IDL IDA SHO1 RHO1 nn2 nn3 h1
      go_wp2_with fail
      go_loopw [10] (fun s10 wr => ∃ i : Nat, s10 = .int .i64 i ∧ i ≤ l.length ∧ Hid (Blk wr I 25 ci.toArray) ∧ Hid (Below w.heap.size w wr)) (fun s10 _ => l.length - (intOf s10).toNat)
      case atStart => exact ⟨0, rfl, by omega, hI6, hB6⟩
      case round =>
        clear hI6 hB6
        obtain ⟨i, rfl, hi, hI, hB⟩ := hrel
        have i0' : (0 : Int) ≤ (i : Int) := Int.natCast_nonneg _
        by_cases hlt : i < l.length
        · have i1 : (i : Int) < (l.length : Int) := by omega
          obtain ⟨g, o, rfl, hat⟩ := HR.out.at_ (by omega)
          obtain ⟨m, hm⟩ : ∃ m, l[i]? = some m := ⟨_, List.getElem?_eq_getElem hlt⟩
          have hml := HR.out.len m (List.mem_of_getElem? hm)
          have hmem := HMEM.out m (List.mem_of_getElem? hm)
          have hat2 := hat i m hm
          have hat3 : ∀ j v, (bc m)[j]? = some v → wr.cell? ⟨g, o + i * 32 + j, none⟩ = some v := fun j v hv => by
            have h0 := hat2 j v hv
            have := hB.out.block g (World.block_lt_of_cell? w _ h0)
            simp only [World.cell?, this]; exact h0
          have HML := Lib.hid hml
          have heq := fun W => EQ.out W m HML.out
          obtain ⟨cm, hcm⟩ : ∃ cm, cm = bc m := ⟨_, rfl⟩
          rw [← hcm] at hat3 heq
          have hcml : cm.length = 32 := by rw [hcm, bc_len, hml]
          have T00 : Rn4 w wr I g (o + i * 32) ci cm := ⟨hI.out, HCZ.out, hcml, hB.out, hat3⟩
          have T0 := Lib.hid T00.drew
          have S0 := T0.out.ld
          have HCM := Lib.hid hcm
          have HLT := Lib.hid hlt
          have HMM := Lib.hid hmem
          clear hml hmem hat hat2 hat3 hm hcm hlt hcml T00 hI hB hi
          by_cases hmi : m = id
          · rw [decide_eq_true hmi] at heq
            clear hmi
            go_upto_region 18 with fail
            (
            refine wp_region_held_drew (S := fun w' => (loadCells ⟨I, 0, none⟩ 32).run Try.prog w' = .ok ci.toArray w' ∧ (loadCells ⟨g, o + i * 32, none⟩ 32).run Try.prog w' = .ok cm.toArray w') (by kernel_rfl) (S0) (fun hHeld => ?_)
            refine wpAnyH_take (i := 0) (oi := { dst := some 66, op := Op.move (Operand.tmp 0), type := 36, pos := "law.go:88", after := #[], guard := none }) (v := ?vp0) rfl (by kernel_rfl) (by kernel_rfl) (by kernel_rfl) (fun _ _ _ h => h) (Or.inl ⟨by rfl, ?yp0⟩) (by assumption) ?rp0
            case yp0 => (intro w' hSw; (try dsimp only at hSw); go_simp; try with_reducible rfl)
            try simp only [Act.put, List.setIfInBounds_toArray, List.set_cons_zero, List.set_cons_succ]
            refine wpAnyH_take (i := 1) (oi := { dst := some 67, op := Op.move (Operand.tmp 10), type := 3, pos := "law.go:88", after := #[], guard := none }) (v := ?vp1) rfl (by kernel_rfl) (by kernel_rfl) (by kernel_rfl) (fun _ _ _ h => h) (Or.inl ⟨by rfl, ?yp1⟩) (by assumption) ?rp1
            case yp1 => (intro w' hSw; (try dsimp only at hSw); go_simp; try with_reducible rfl)
            try simp only [Act.put, List.setIfInBounds_toArray, List.set_cons_zero, List.set_cons_succ]
            refine wpAnyH_take (i := 2) (oi := { dst := some 68, op := Op.indexAddr 36 (Operand.tmp 66) (Operand.tmp 67), type := 0, pos := "law.go:88", after := #[{ on := 0, ground := Ground.data }, { on := 1, ground := Ground.data }], guard := none }) (v := ?vp2) rfl (by kernel_rfl) (by kernel_rfl) (by kernel_rfl) (fun _ _ _ h => h) (Or.inl ⟨by rfl, ?yp2⟩) (by assumption) ?rp2
            case yp2 => (intro w' hSw; (try dsimp only at hSw); go_simp; try with_reducible rfl)
            try simp only [Act.put, List.setIfInBounds_toArray, List.set_cons_zero, List.set_cons_succ]
            refine wpAnyH_take (i := 3) (oi := { dst := some 69, op := Op.load 25 (Operand.tmp 68), type := 25, pos := "law.go:88", after := #[{ on := 2, ground := Ground.data }], guard := none }) (v := ?vp3) rfl (by kernel_rfl) (by kernel_rfl) (by kernel_rfl) (fun _ _ _ h => h) (Or.inl ⟨by rfl, ?yp3⟩) (by assumption) ?rp3
            case yp3 => (intro w' hSw; (try dsimp only at hSw); go_simp; try with_reducible rfl)
            try simp only [Act.put, List.setIfInBounds_toArray, List.set_cons_zero, List.set_cons_succ]
            refine wpAnyH_take (i := 4) (oi := { dst := some 70, op := Op.load 25 (Operand.tmp 4), type := 25, pos := "law.go:88", after := #[], guard := none }) (v := ?vp4) rfl (by kernel_rfl) (by kernel_rfl) (by kernel_rfl) (fun _ _ _ h => h) (Or.inl ⟨by rfl, ?yp4⟩) (by assumption) ?rp4
            case yp4 => (intro w' hSw; (try dsimp only at hSw); go_simp; try with_reducible rfl)
            try simp only [Act.put, List.setIfInBounds_toArray, List.set_cons_zero, List.set_cons_succ]
            refine wpAnyH_take (i := 5) (oi := { dst := some 71, op := Op.binOp BinOp.neq 25 (Operand.tmp 69) (Operand.tmp 70) 25, type := 4, pos := "law.go:88", after := #[{ on := 3, ground := Ground.data }, { on := 4, ground := Ground.data }], guard := none }) (v := ?vp5) rfl (by kernel_rfl) (by kernel_rfl) (by kernel_rfl) (fun _ _ _ h => h) (Or.inl ⟨by rfl, ?yp5⟩) (by assumption) ?rp5
            case yp5 => (intro w' hSw; (try dsimp only at hSw); go_simp; try with_reducible rfl)
            try simp only [Act.put, List.setIfInBounds_toArray, List.set_cons_zero, List.set_cons_succ]
            refine wpAnyH_take (i := 6) (oi := { dst := some 72, op := Op.move (Operand.tmp 71), type := 4, pos := "law.go:88", after := #[{ on := 5, ground := Ground.data }], guard := none }) (v := ?vp6) rfl (by kernel_rfl) (by kernel_rfl) (by kernel_rfl) (fun _ _ _ h => h) (Or.inl ⟨by rfl, ?yp6⟩) (by assumption) ?rp6
            case yp6 => (intro w' hSw; (try dsimp only at hSw); go_simp; try with_reducible rfl)
            try simp only [Act.put, List.setIfInBounds_toArray, List.set_cons_zero, List.set_cons_succ]
            refine wpAnyH_take (i := 7) (oi := { dst := some 73, op := Op.move (Operand.tmp 0), type := 36, pos := "law.go:88", after := #[{ on := 6, ground := Ground.guard }], guard := some (6, true) }) (v := undef) rfl (by kernel_rfl) (by kernel_rfl) (by kernel_rfl) (fun _ _ _ h => h) (Or.inr ⟨by rfl, rfl⟩) (by assumption) ?_
            try simp only [Act.put, List.setIfInBounds_toArray, List.set_cons_zero, List.set_cons_succ]
            refine wpAnyH_take (i := 8) (oi := { dst := some 74, op := Op.move (Operand.tmp 10), type := 3, pos := "law.go:88", after := #[{ on := 6, ground := Ground.guard }], guard := some (6, true) }) (v := undef) rfl (by kernel_rfl) (by kernel_rfl) (by kernel_rfl) (fun _ _ _ h => h) (Or.inr ⟨by rfl, rfl⟩) (by assumption) ?_
            try simp only [Act.put, List.setIfInBounds_toArray, List.set_cons_zero, List.set_cons_succ]
            refine wpAnyH_take (i := 9) (oi := { dst := some 75, op := Op.indexAddr 36 (Operand.tmp 73) (Operand.tmp 74), type := 0, pos := "law.go:88", after := #[{ on := 7, ground := Ground.data }, { on := 8, ground := Ground.data }, { on := 6, ground := Ground.guard }], guard := some (6, true) }) (v := undef) rfl (by kernel_rfl) (by kernel_rfl) (by kernel_rfl) (fun _ _ _ h => h) (Or.inr ⟨by rfl, rfl⟩) (by assumption) ?_
            try simp only [Act.put, List.setIfInBounds_toArray, List.set_cons_zero, List.set_cons_succ]
            refine wpAnyH_take (i := 10) (oi := { dst := some 76, op := Op.load 25 (Operand.tmp 75), type := 25, pos := "law.go:88", after := #[{ on := 9, ground := Ground.data }, { on := 6, ground := Ground.guard }], guard := some (6, true) }) (v := undef) rfl (by kernel_rfl) (by kernel_rfl) (by kernel_rfl) (fun _ _ _ h => h) (Or.inr ⟨by rfl, rfl⟩) (by assumption) ?_
            try simp only [Act.put, List.setIfInBounds_toArray, List.set_cons_zero, List.set_cons_succ]
            refine wpAnyH_take (i := 11) (oi := { dst := some 77, op := Op.load 25 (Operand.tmp 4), type := 25, pos := "law.go:88", after := #[{ on := 6, ground := Ground.guard }], guard := some (6, true) }) (v := undef) rfl (by kernel_rfl) (by kernel_rfl) (by kernel_rfl) (fun _ _ _ h => h) (Or.inr ⟨by rfl, rfl⟩) (by assumption) ?_
            try simp only [Act.put, List.setIfInBounds_toArray, List.set_cons_zero, List.set_cons_succ]
            refine wpAnyH_take (i := 12) (oi := { dst := some 78, op := Op.call { callee := Callee.value (Operand.func 13), args := #[Operand.tmp 76, Operand.tmp 77], argTypes := #[25, 25] }, type := 3, pos := "law.go:88", after := #[{ on := 10, ground := Ground.data }, { on := 11, ground := Ground.data }, { on := 6, ground := Ground.chain }, { on := 6, ground := Ground.guard }], guard := some (6, true) }) (v := undef) rfl (by kernel_rfl) (by kernel_rfl) (by kernel_rfl) (fun _ _ _ h => h) (Or.inr ⟨by rfl, rfl⟩) (by assumption) ?_
            try simp only [Act.put, List.setIfInBounds_toArray, List.set_cons_zero, List.set_cons_succ]
            refine wpAnyH_take (i := 13) (oi := { dst := some 79, op := Op.move (Operand.tmp 9), type := 3, pos := "law.go:88", after := #[{ on := 6, ground := Ground.guard }], guard := some (6, true) }) (v := undef) rfl (by kernel_rfl) (by kernel_rfl) (by kernel_rfl) (fun _ _ _ h => h) (Or.inr ⟨by rfl, rfl⟩) (by assumption) ?_
            try simp only [Act.put, List.setIfInBounds_toArray, List.set_cons_zero, List.set_cons_succ]
            refine wpAnyH_take (i := 14) (oi := { dst := some 80, op := Op.binOp BinOp.geq 3 (Operand.tmp 78) (Operand.tmp 79) 3, type := 4, pos := "law.go:88", after := #[{ on := 12, ground := Ground.data }, { on := 13, ground := Ground.data }, { on := 6, ground := Ground.guard }], guard := some (6, true) }) (v := undef) rfl (by kernel_rfl) (by kernel_rfl) (by kernel_rfl) (fun _ _ _ h => h) (Or.inr ⟨by rfl, rfl⟩) (by assumption) ?_
            try simp only [Act.put, List.setIfInBounds_toArray, List.set_cons_zero, List.set_cons_succ]
            refine wpAnyH_take (i := 15) (oi := { dst := some 81, op := Op.pick (Operand.tmp 72) (Operand.tmp 80) (Operand.const (Value.bool false)), type := 4, pos := "law.go:88", after := #[{ on := 6, ground := Ground.data }, { on := 14, ground := Ground.data }], guard := none }) (v := ?vp15) rfl (by kernel_rfl) (by kernel_rfl) (by kernel_rfl) (fun _ _ _ h => h) (Or.inl ⟨by rfl, ?yp15⟩) (by assumption) ?rp15
            case yp15 => (intro w' hSw; (try dsimp only at hSw); go_simp; try with_reducible rfl)
            try simp only [Act.put, List.setIfInBounds_toArray, List.set_cons_zero, List.set_cons_succ]
            refine wpAnyH_done (by kernel_rfl) ?_ _
            )
            have hI7 := Lib.hid T0.out.a
            have hB7 := Lib.hid T0.out.bel
            clear S0 T0 heq
            generalize wr.drew = WF at *
            go_wp2_with fail
            go_roundw
            case rel => exact ⟨i + 1, by go_num, HLT.out, hI7, hB7⟩
            case measure => have := HLT.out; simp [intOf]; omega
          · rw [decide_eq_false hmi] at heq
            have hlt2 := HMM.out hmi
            have SHm : Hid (∀ W, Calls Try.prog 13 #[.agg cm.toArray, .agg ci.toArray] W (fun e w' => e = .returned (.int .i64 (share m id)) ∧ Below W.heap.size W w')) := Lib.hid (by rw [HCM.out]; exact fun W => SH.out W m HML.out)
            clear HMM
            obtain ⟨q, hq⟩ : ∃ q, q = share m id := ⟨_, rfl⟩
            rw [← hq] at SHm hlt2
            have hgt : decide ((nn : Int) ≤ (q : Int)) = false := by simp; omega
            have hgn : decide (nn ≤ q) = false := by simp; omega
            clear hmi hq hlt2
            go_upto_region 18 with fail
            (
            refine wp_region_held_drew (S := fun w' => (loadCells ⟨I, 0, none⟩ 32).run Try.prog w' = .ok ci.toArray w' ∧ (loadCells ⟨g, o + i * 32, none⟩ 32).run Try.prog w' = .ok cm.toArray w') (by kernel_rfl) (S0) (fun hHeld => ?_)
            refine wpAnyH_take (i := 0) (oi := { dst := some 66, op := Op.move (Operand.tmp 0), type := 36, pos := "law.go:88", after := #[], guard := none }) (v := ?vq0) rfl (by kernel_rfl) (by kernel_rfl) (by kernel_rfl) (fun _ _ _ h => h) (Or.inl ⟨by rfl, ?yq0⟩) (by assumption) ?rq0
            case yq0 => (intro w' hSw; (try dsimp only at hSw); go_simp; try with_reducible rfl)
            try simp only [Act.put, List.setIfInBounds_toArray, List.set_cons_zero, List.set_cons_succ]
            refine wpAnyH_take (i := 1) (oi := { dst := some 67, op := Op.move (Operand.tmp 10), type := 3, pos := "law.go:88", after := #[], guard := none }) (v := ?vq1) rfl (by kernel_rfl) (by kernel_rfl) (by kernel_rfl) (fun _ _ _ h => h) (Or.inl ⟨by rfl, ?yq1⟩) (by assumption) ?rq1
            case yq1 => (intro w' hSw; (try dsimp only at hSw); go_simp; try with_reducible rfl)
            try simp only [Act.put, List.setIfInBounds_toArray, List.set_cons_zero, List.set_cons_succ]
            refine wpAnyH_take (i := 2) (oi := { dst := some 68, op := Op.indexAddr 36 (Operand.tmp 66) (Operand.tmp 67), type := 0, pos := "law.go:88", after := #[{ on := 0, ground := Ground.data }, { on := 1, ground := Ground.data }], guard := none }) (v := ?vq2) rfl (by kernel_rfl) (by kernel_rfl) (by kernel_rfl) (fun _ _ _ h => h) (Or.inl ⟨by rfl, ?yq2⟩) (by assumption) ?rq2
            case yq2 => (intro w' hSw; (try dsimp only at hSw); go_simp; try with_reducible rfl)
            try simp only [Act.put, List.setIfInBounds_toArray, List.set_cons_zero, List.set_cons_succ]
            refine wpAnyH_take (i := 3) (oi := { dst := some 69, op := Op.load 25 (Operand.tmp 68), type := 25, pos := "law.go:88", after := #[{ on := 2, ground := Ground.data }], guard := none }) (v := ?vq3) rfl (by kernel_rfl) (by kernel_rfl) (by kernel_rfl) (fun _ _ _ h => h) (Or.inl ⟨by rfl, ?yq3⟩) (by assumption) ?rq3
            case yq3 => (intro w' hSw; (try dsimp only at hSw); go_simp; try with_reducible rfl)
            try simp only [Act.put, List.setIfInBounds_toArray, List.set_cons_zero, List.set_cons_succ]
            refine wpAnyH_take (i := 4) (oi := { dst := some 70, op := Op.load 25 (Operand.tmp 4), type := 25, pos := "law.go:88", after := #[], guard := none }) (v := ?vq4) rfl (by kernel_rfl) (by kernel_rfl) (by kernel_rfl) (fun _ _ _ h => h) (Or.inl ⟨by rfl, ?yq4⟩) (by assumption) ?rq4
            case yq4 => (intro w' hSw; (try dsimp only at hSw); go_simp; try with_reducible rfl)
            try simp only [Act.put, List.setIfInBounds_toArray, List.set_cons_zero, List.set_cons_succ]
            refine wpAnyH_take (i := 5) (oi := { dst := some 71, op := Op.binOp BinOp.neq 25 (Operand.tmp 69) (Operand.tmp 70) 25, type := 4, pos := "law.go:88", after := #[{ on := 3, ground := Ground.data }, { on := 4, ground := Ground.data }], guard := none }) (v := ?vq5) rfl (by kernel_rfl) (by kernel_rfl) (by kernel_rfl) (fun _ _ _ h => h) (Or.inl ⟨by rfl, ?yq5⟩) (by assumption) ?rq5
            case yq5 => (intro w' hSw; (try dsimp only at hSw); go_simp; try with_reducible rfl)
            try simp only [Act.put, List.setIfInBounds_toArray, List.set_cons_zero, List.set_cons_succ]
            refine wpAnyH_take (i := 6) (oi := { dst := some 72, op := Op.move (Operand.tmp 71), type := 4, pos := "law.go:88", after := #[{ on := 5, ground := Ground.data }], guard := none }) (v := ?vq6) rfl (by kernel_rfl) (by kernel_rfl) (by kernel_rfl) (fun _ _ _ h => h) (Or.inl ⟨by rfl, ?yq6⟩) (by assumption) ?rq6
            case yq6 => (intro w' hSw; (try dsimp only at hSw); go_simp; try with_reducible rfl)
            try simp only [Act.put, List.setIfInBounds_toArray, List.set_cons_zero, List.set_cons_succ]
            refine wpAnyH_take (i := 7) (oi := { dst := some 73, op := Op.move (Operand.tmp 0), type := 36, pos := "law.go:88", after := #[{ on := 6, ground := Ground.guard }], guard := some (6, true) }) (v := ?vq7) rfl (by kernel_rfl) (by kernel_rfl) (by kernel_rfl) (fun _ _ _ h => h) (Or.inl ⟨by rfl, ?yq7⟩) (by assumption) ?rq7
            case yq7 => (intro w' hSw; (try dsimp only at hSw); go_simp; try with_reducible rfl)
            try simp only [Act.put, List.setIfInBounds_toArray, List.set_cons_zero, List.set_cons_succ]
            refine wpAnyH_take (i := 8) (oi := { dst := some 74, op := Op.move (Operand.tmp 10), type := 3, pos := "law.go:88", after := #[{ on := 6, ground := Ground.guard }], guard := some (6, true) }) (v := ?vq8) rfl (by kernel_rfl) (by kernel_rfl) (by kernel_rfl) (fun _ _ _ h => h) (Or.inl ⟨by rfl, ?yq8⟩) (by assumption) ?rq8
            case yq8 => (intro w' hSw; (try dsimp only at hSw); go_simp; try with_reducible rfl)
            try simp only [Act.put, List.setIfInBounds_toArray, List.set_cons_zero, List.set_cons_succ]
            refine wpAnyH_take (i := 9) (oi := { dst := some 75, op := Op.indexAddr 36 (Operand.tmp 73) (Operand.tmp 74), type := 0, pos := "law.go:88", after := #[{ on := 7, ground := Ground.data }, { on := 8, ground := Ground.data }, { on := 6, ground := Ground.guard }], guard := some (6, true) }) (v := ?vq9) rfl (by kernel_rfl) (by kernel_rfl) (by kernel_rfl) (fun _ _ _ h => h) (Or.inl ⟨by rfl, ?yq9⟩) (by assumption) ?rq9
            case yq9 => (intro w' hSw; (try dsimp only at hSw); go_simp; try with_reducible rfl)
            try simp only [Act.put, List.setIfInBounds_toArray, List.set_cons_zero, List.set_cons_succ]
            refine wpAnyH_take (i := 10) (oi := { dst := some 76, op := Op.load 25 (Operand.tmp 75), type := 25, pos := "law.go:88", after := #[{ on := 9, ground := Ground.data }, { on := 6, ground := Ground.guard }], guard := some (6, true) }) (v := ?vq10) rfl (by kernel_rfl) (by kernel_rfl) (by kernel_rfl) (fun _ _ _ h => h) (Or.inl ⟨by rfl, ?yq10⟩) (by assumption) ?rq10
            case yq10 => (intro w' hSw; (try dsimp only at hSw); go_simp; try with_reducible rfl)
            try simp only [Act.put, List.setIfInBounds_toArray, List.set_cons_zero, List.set_cons_succ]
            refine wpAnyH_take (i := 11) (oi := { dst := some 77, op := Op.load 25 (Operand.tmp 4), type := 25, pos := "law.go:88", after := #[{ on := 6, ground := Ground.guard }], guard := some (6, true) }) (v := ?vq11) rfl (by kernel_rfl) (by kernel_rfl) (by kernel_rfl) (fun _ _ _ h => h) (Or.inl ⟨by rfl, ?yq11⟩) (by assumption) ?rq11
            case yq11 => (intro w' hSw; (try dsimp only at hSw); go_simp; try with_reducible rfl)
            try simp only [Act.put, List.setIfInBounds_toArray, List.set_cons_zero, List.set_cons_succ]
            refine wpAnyH_take (i := 13) (oi := { dst := some 79, op := Op.move (Operand.tmp 9), type := 3, pos := "law.go:88", after := #[{ on := 6, ground := Ground.guard }], guard := some (6, true) }) (v := ?vq13) rfl (by kernel_rfl) (by kernel_rfl) (by kernel_rfl) (fun _ _ _ h => h) (Or.inl ⟨by rfl, ?yq13⟩) (by assumption) ?rq13
            case yq13 => (intro w' hSw; (try dsimp only at hSw); go_simp; try with_reducible rfl)
            try simp only [Act.put, List.setIfInBounds_toArray, List.set_cons_zero, List.set_cons_succ]
            refine wpAnyH_ready (rs := [12]) (by kernel_rfl) (by simp) ?_
            refine AllReadyH.cons (o := { dst := some 78, op := Op.call { callee := Callee.value (Operand.func 13), args := #[Operand.tmp 76, Operand.tmp 77], argTypes := #[25, 25] }, type := 3, pos := "law.go:88", after := #[{ on := 10, ground := Ground.data }, { on := 11, ground := Ground.data }, { on := 6, ground := Ground.chain }, { on := 6, ground := Ground.guard }], guard := some (6, true) }) rfl (fun K hK => ?_) AllReadyH.nil
            go_simp
            go_at_call 13
            refine (SHm.out _).mono ?_
            rintro e w6 ⟨rfl, hb6⟩
            have T6 := Lib.hid (T0.out.below hb6)
            go_wp2_with fail
            refine hK.out _ _ (T6.out.ld) (fun hHeldq12 => ?_)
            clear hK K hHeld
            try simp only [Act.put, List.setIfInBounds_toArray, List.set_cons_zero, List.set_cons_succ]
            refine wpAnyH_take (i := 14) (oi := { dst := some 80, op := Op.binOp BinOp.geq 3 (Operand.tmp 78) (Operand.tmp 79) 3, type := 4, pos := "law.go:88", after := #[{ on := 12, ground := Ground.data }, { on := 13, ground := Ground.data }, { on := 6, ground := Ground.guard }], guard := some (6, true) }) (v := ?vq14) rfl (by kernel_rfl) (by kernel_rfl) (by kernel_rfl) (fun _ _ _ h => h) (Or.inl ⟨by rfl, ?yq14⟩) (by assumption) ?rq14
            case yq14 => (intro w' hSw; (try dsimp only at hSw); go_simp; try with_reducible rfl)
            try simp only [Act.put, List.setIfInBounds_toArray, List.set_cons_zero, List.set_cons_succ]
            refine wpAnyH_take (i := 15) (oi := { dst := some 81, op := Op.pick (Operand.tmp 72) (Operand.tmp 80) (Operand.const (Value.bool false)), type := 4, pos := "law.go:88", after := #[{ on := 6, ground := Ground.data }, { on := 14, ground := Ground.data }], guard := none }) (v := ?vq15) rfl (by kernel_rfl) (by kernel_rfl) (by kernel_rfl) (fun _ _ _ h => h) (Or.inl ⟨by rfl, ?yq15⟩) (by assumption) ?rq15
            case yq15 => (intro w' hSw; (try dsimp only at hSw); go_simp; try with_reducible rfl)
            try simp only [Act.put, List.setIfInBounds_toArray, List.set_cons_zero, List.set_cons_succ]
            refine wpAnyH_done (by kernel_rfl) ?_ _
            )
            have hI7 := Lib.hid T6.out.a
            have hB7 := Lib.hid T6.out.bel
            clear S0 hb6 T0 T6 heq hgt hgn
            go_wp2_with fail
            go_roundw
            case rel => exact ⟨i + 1, by go_num, HLT.out, hI7, hB7⟩
            case measure => have := HLT.out; simp [intOf]; omega
        · obtain rfl : i = l.length := by omega
          go_wp2_with fail
          go_ret
          exact ⟨rfl, hB.out⟩
#print axioms short_walk
end Go.Proofs.Ytpkikibcfkdodaa
