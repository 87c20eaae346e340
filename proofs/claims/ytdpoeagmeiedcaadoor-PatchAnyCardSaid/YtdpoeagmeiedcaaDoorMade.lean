/-
  The grid's three rows, as measure lays them first: what stands ahead of the loops.
-/
import Derived.Test.YtdpoeagmeiedcaaDoorGrid
import Derived.Test.YtdpoeagmeiedcaaDoorTab
import Derived.Deep.DeepCutAuto
import Derived.Deep.CutBlock
namespace Go.Proofs.YtdpoeagmeiedcaaDoor
open Go.RowKit Go.Maps Go.WideMaps

theorem u16Info : (Tryd.prog.info? 92).map (fun i => (i.zero, i.size, i.bytes)) = some (some (.int .u16 0), 1, 2) := by kernel_rfl

theorem run_make_rowN {P : Program} (t e : TypeId) (i : TypeInfo) (z : Value) (ht : P.underlying t = some (.slice e)) (hi : P.info? e = some i) (hz : i.zero = some z)
    (kl kc : IntKind) (n c : Nat) (hnc : n ≤ c) (hbytes : i.bytes * c ≤ 281474976710656) (h63 : c ≤ 9223372036854775807) (w : World) :
    (Instr.makeSlice t (.int kl (n : Int)) (.int kc (c : Int))).run P w = .ok (.slice (some ⟨w.heap.size, 0, none⟩) n c) (w.alloc (.cells (madeCells z.cells (c * i.size)) e)) := by
  have hb : (i.bytes : Int) * (c : Int) ≤ 281474976710656 := by
    have h : ((i.bytes * c : Nat) : Int) ≤ 281474976710656 := by omega
    rwa [Int.natCast_mul] at h
  have hr := run_make (P := P) w t e i z ht hi hz kl kc n c (by omega) (by omega) hb (by omega)
  simp only [Int.toNat_natCast] at hr
  exact hr

theorem own_le {w : World} {base base' size n : Nat} {e : TypeId} {v : Value} {xs : List Value} (h : w.ownsRow base e size v n xs) (hb : base' ≤ base) : w.ownsRow base' e size v n xs := by
  refine ⟨h.1, ?_⟩
  rcases h.2 with h2 | ⟨g, cap, cur, hv, hg, r⟩
  · exact .inl h2
  · exact .inr ⟨g, cap, cur, hv, Nat.le_trans hb hg, r⟩

abbrev sl (g n : Nat) : Value := .slice (some ⟨g, 0, none⟩) n n
abbrev nils : Value := .slice none 0 0
def i64s (zs : List Nat) : List Value := zs.map fun z : Nat => Value.int .i64 (z : Int)
def u16s (cs : List Nat) : List Value := cs.map fun c : Nat => Value.int .u16 (c : Int)

/-- What stands while the rows are laid. -/
structure Pre (w0 w : World) (b4 bm : Nat) (v u : Value) (xs ys : List ByteArray) (N : Nat) (D : DataW Unit) : Prop where
  m : w.ownsMap Tryd.prog 9 (plainElem Tryd.prog 3) bm N D
  s : Strs w v xs
  t : Strs w u ys
  r : Three w b4 nils nils nils
  g : Below w0.heap.size w0 w
  l1 : w0.heap.size ≤ b4
  l2 : b4 < bm
  good : Good D

theorem Pre.below {w0 w w' : World} {b4 bm : Nat} {v u : Value} {xs ys : List ByteArray} {N : Nat} {D : DataW Unit} (h : Pre w0 w b4 bm v u xs ys N D) (hb : Below w.heap.size w w') : Pre w0 w' b4 bm v u xs ys N D :=
  ⟨h.m.kept (row := none) ⟨hb.os, hb.tape, hb.output, hb.size, fun k hk _ => hb.block k hk⟩ (by simp), h.s.below hb, h.t.below hb, h.r.below hb, h.g.trans (hb.mono h.g.size), h.l1, h.l2, h.good⟩

theorem Pre.alloc {w0 w : World} {b4 bm : Nat} {v u : Value} {xs ys : List ByteArray} {N : Nat} {D : DataW Unit} (h : Pre w0 w b4 bm v u xs ys N D) (o : Obj) : Pre w0 (w.alloc o) b4 bm v u xs ys N D :=
  h.below ((Below.refl _ _).alloc (Nat.le_refl _) o)
theorem Pre.drew {w0 w : World} {b4 bm : Nat} {v u : Value} {xs ys : List ByteArray} {N : Nat} {D : DataW Unit} (h : Pre w0 w b4 bm v u xs ys N D) : Pre w0 w.drew b4 bm v u xs ys N D :=
  h.below (Below.refl _ _).drew

/-- Behind the numbers of one text. -/
def Numb (w0 w : World) (b4 bm : Nat) (v u : Value) (xs ys : List ByteArray) (N : Nat) (D : DataW Unit) (ls : List ByteArray) (e : Ending) (w' : World) : Prop :=
  ∃ (g : Nat) (zs : List Nat) (D' : DataW Unit), e = .returned (sl g ls.length) ∧ w.heap.size ≤ g ∧ w'.ownsRow (b4 + 1) 3 1 (sl g ls.length) ls.length (i64s zs) ∧ Nums D' ls zs ∧ More D D' ∧ Pre w0 w' b4 bm v u xs ys (N + ls.length) D' ∧ w.grownBy w' (some bm)

theorem Pre.numb {w0 w w' : World} {b4 bm : Nat} {v u : Value} {xs ys : List ByteArray} {N : Nat} {D : DataW Unit} (h : Pre w0 w b4 bm v u xs ys N D) {ls : List ByteArray} {e : Ending} (k : Numbered w bm N D ls e w') :
    Numb w0 w b4 bm v u xs ys N D ls e w' := by
  obtain ⟨g, zs, D', rfl, hg, hrow, hG, hN, hM, hm, hgr⟩ := k
  obtain ⟨es, cl, hmap, _⟩ := id h.m
  have hb4 : some b4 ≠ some bm := fun e => by injection e with e; have := h.l2; omega
  have hblk := hgr.block b4 h.r.lt hb4
  have cc : ∀ i : Nat, w'.cell? ⟨b4, i, none⟩ = w.cell? ⟨b4, i, none⟩ := fun i => World.cell?_of_block (w := w) hblk
  have ff : ∀ i : Nat, w'.frozen? ⟨b4, i, none⟩ = w.frozen? ⟨b4, i, none⟩ := fun i => World.frozen?_of_block (w := w) hblk
  refine ⟨g, zs, D', rfl, hg, own_le hrow h.r.lt, hN, hM, ⟨hm, h.s.grown hgr hmap, h.t.grown hgr hmap,
    ⟨(cc 0).trans h.r.c0, (cc 1).trans h.r.c1, (cc 2).trans h.r.c2, (ff 0).trans h.r.z0, (ff 1).trans h.r.z1, (ff 2).trans h.r.z2, Nat.lt_of_lt_of_le h.r.lt hgr.size⟩,
    h.g.grown hgr h.g.size (fun k hk => ?_), h.l1, h.l2, hG⟩, hgr⟩
  injection hk with hk
  have := h.l1
  have := h.l2
  omega

theorem numb_first {w0 w : World} {b4 bm : Nat} {v u : Value} {xs ys : List ByteArray} {N : Nat} {D : DataW Unit} (h : Pre w0 w b4 bm v u xs ys N D) (hsz : ∀ s ∈ xs, s.size ≤ maxLen) (hn : xs.length ≤ 1000) (hN : N ≤ 1000) :
    Calls Tryd.prog 71 #[v, .map (some bm)] w (Numb w0 w b4 bm v u xs ys N D xs) :=
  (numbered_any w v xs bm N D h.s hsz hn hN h.m h.good).mono fun _ _ k => h.numb k
theorem numb_second {w0 w : World} {b4 bm : Nat} {v u : Value} {xs ys : List ByteArray} {N : Nat} {D : DataW Unit} (h : Pre w0 w b4 bm v u xs ys N D) (hsz : ∀ s ∈ ys, s.size ≤ maxLen) (hn : ys.length ≤ 1000) (hN : N ≤ 1000) :
    Calls Tryd.prog 71 #[u, .map (some bm)] w (Numb w0 w b4 bm v u xs ys N D ys) :=
  (numbered_any w u ys bm N D h.t hsz hn hN h.m h.good).mono fun _ _ k => h.numb k

/-- The grid in the call's own block, its rows, and the place of the result. -/
structure Laid (w0 w : World) (b4 G ga gb gr na nb R : Nat) (zs us cs : List Nat) : Prop where
  t : Three w G (sl ga na) (sl gb nb) (sl gr R)
  a : w.ownsRow (b4 + 1) 3 1 (sl ga na) na (i64s zs)
  b : w.ownsRow (b4 + 1) 3 1 (sl gb nb) nb (i64s us)
  r : w.ownsRow (b4 + 1) 92 1 (sl gr R) R (u16s cs)
  f : Three w b4 nils nils nils
  g : Below w0.heap.size w0 w
  nG : G ≠ gr
  nA : ga ≠ gr
  nB : gb ≠ gr
  n4 : b4 ≠ gr
  l1 : w0.heap.size ≤ b4

theorem own_keep {w w' : World} {base : Nat} {e : TypeId} {v : Value} {n : Nat} {xs : List Value} (h : w.ownsRow base e 1 v n xs) (hb : Below w.heap.size w w') : w'.ownsRow base e 1 v n xs :=
  h.kept (row := none) ⟨hb.os, hb.tape, hb.output, hb.size, fun k hk _ => hb.block k hk⟩ (by
    cases h' : v.ownBlock with
    | none => exact .inl rfl
    | some k => exact .inr (by simp))

theorem Laid.below {w0 w w' : World} {b4 G ga gb gr na nb R : Nat} {zs us cs : List Nat} (h : Laid w0 w b4 G ga gb gr na nb R zs us cs) (hb : Below w.heap.size w w') : Laid w0 w' b4 G ga gb gr na nb R zs us cs :=
  ⟨h.t.below hb, own_keep h.a hb, own_keep h.b hb, own_keep h.r hb, h.f.below hb, h.g.trans (hb.mono h.g.size), h.nG, h.nA, h.nB, h.n4, h.l1⟩

theorem Three.apart {w w' : World} {b g : Nat} {x y z : Value} (h : Three w b x y z) (hg : w.grownBy w' (some g)) (hne : b ≠ g) : Three w' b x y z := by
  have hblk := hg.block b h.lt (fun e => hne (by injection e))
  have cc : ∀ i : Nat, w'.cell? ⟨b, i, none⟩ = w.cell? ⟨b, i, none⟩ := fun i => World.cell?_of_block (w := w) hblk
  have ff : ∀ i : Nat, w'.frozen? ⟨b, i, none⟩ = w.frozen? ⟨b, i, none⟩ := fun i => World.frozen?_of_block (w := w) hblk
  exact ⟨(cc 0).trans h.c0, (cc 1).trans h.c1, (cc 2).trans h.c2, (ff 0).trans h.z0, (ff 1).trans h.z1, (ff 2).trans h.z2, Nat.lt_of_lt_of_le h.lt hg.size⟩

theorem Laid.store {w0 w : World} {b4 G ga gb gr na nb R : Nat} {zs us cs : List Nat} (h : Laid w0 w b4 G ga gb gr na nb R zs us cs) (p c : Nat) : Laid w0 (w.setCell ⟨gr, p, none⟩ (.int .u16 (c : Int))) b4 G ga gb gr na nb R zs us (cs.set p c) := by
  obtain ⟨hr, hg⟩ := h.r.stored p (.int .u16 (c : Int))
  have hset : (u16s cs).set p (.int .u16 (c : Int)) = u16s (cs.set p c) := by unfold u16s; rw [List.map_set]
  rw [hset] at hr
  have hl := (h.r.lt gr rfl).1
  have hl1 := h.l1
  exact ⟨h.t.apart hg h.nG, h.a.kept hg (.inr (by simp [Value.ownBlock, h.nA])), h.b.kept hg (.inr (by simp [Value.ownBlock, h.nB])), hr, h.f.apart hg h.n4, h.g.grown hg h.g.size (fun k hk => by injection hk with hk; omega), h.nG, h.nA, h.nB, h.n4, h.l1⟩

theorem Laid.cellA {w0 w : World} {b4 G ga gb gr na nb R : Nat} {zs us cs : List Nat} (h : Laid w0 w b4 G ga gb gr na nb R zs us cs) {i x : Nat} (hi : zs[i]? = some x) : w.cell? ⟨ga, i, none⟩ = some (.int .i64 (x : Int)) := by
  have hl := h.a.1
  have := (List.getElem?_eq_some_iff.1 hi).1
  rw [h.a.cellAt i (by rw [← hl]; simpa [i64s] using this)]
  simp [i64s, hi]
theorem Laid.cellB {w0 w : World} {b4 G ga gb gr na nb R : Nat} {zs us cs : List Nat} (h : Laid w0 w b4 G ga gb gr na nb R zs us cs) {i x : Nat} (hi : us[i]? = some x) : w.cell? ⟨gb, i, none⟩ = some (.int .i64 (x : Int)) := by
  have hl := h.b.1
  have := (List.getElem?_eq_some_iff.1 hi).1
  rw [h.b.cellAt i (by rw [← hl]; simpa [i64s] using this)]
  simp [i64s, hi]
theorem Laid.cellR {w0 w : World} {b4 G ga gb gr na nb R : Nat} {zs us cs : List Nat} (h : Laid w0 w b4 G ga gb gr na nb R zs us cs) {i x : Nat} (hi : cs[i]? = some x) : w.cell? ⟨gr, i, none⟩ = some (.int .u16 (x : Int)) := by
  have hl := h.r.1
  have := (List.getElem?_eq_some_iff.1 hi).1
  rw [h.r.cellAt i (by rw [← hl]; simpa [u16s] using this)]
  simp [u16s, hi]
theorem Laid.freeR {w0 w : World} {b4 G ga gb gr na nb R : Nat} {zs us cs : List Nat} (h : Laid w0 w b4 G ga gb gr na nb R zs us cs) (i : Nat) : w.frozen? ⟨gr, i, none⟩ = false := h.r.frozenAt i

/-- Behind the region that lays them. -/
def Mid (w0 : World) (b4 : Nat) (xs ys : List ByteArray) (R : Nat) (v : Value) (w : World) : Prop :=
  ∃ (G ga gb gr : Nat) (zs us : List Nat) (D : DataW Unit), v = .pointer (some ⟨G, 0, none⟩) ∧ Good D ∧ Nums D xs zs ∧ Nums D ys us ∧ Laid w0 w b4 G ga gb gr xs.length ys.length R zs us (List.replicate R 0)

theorem mid_close {w0 w : World} {b4 bm ga gb gr R N : Nat} {v u : Value} {xs ys : List ByteArray} {zs us : List Nat} {D : DataW Unit} (P : Pre w0 w b4 bm v u xs ys N D) (hz : Nums D xs zs) (hu : Nums D ys us)
    (ha : w.ownsRow (b4 + 1) 3 1 (sl ga xs.length) xs.length (i64s zs)) (hb : w.ownsRow (b4 + 1) 3 1 (sl gb ys.length) ys.length (i64s us)) (hr : w.ownsRow (b4 + 1) 92 1 (sl gr R) R (u16s (List.replicate R 0)))
    (nA : ga ≠ gr) (nB : gb ≠ gr) (n4 : b4 ≠ gr) : Mid w0 b4 xs ys R (.pointer (some ⟨w.heap.size, 0, none⟩)) (w.alloc (.cells #[sl ga xs.length, sl gb ys.length, sl gr R] 85)) := by
  have hlt := (hr.lt gr rfl).2
  have P2 := P.alloc (.cells #[sl ga xs.length, sl gb ys.length, sl gr R] 85)
  exact ⟨w.heap.size, ga, gb, gr, zs, us, D, rfl, P.good, hz, hu, Three.new w _ _ _ 85, ha.alloc _, hb.alloc _, hr.alloc _, P2.r, P2.g, by omega, nA, nB, n4, P.l1⟩

theorem made_row (w : World) (base R : Nat) (hb : base ≤ w.heap.size) (hR : R ≤ maxLen) : (w.alloc (.cells (madeCells (Value.int .u16 0).cells R) 92)).ownsRow base 92 1 (sl w.heap.size R) R (u16s (List.replicate R 0)) := by
  have h := World.ownsRow_lit (base := base) (e := 92) (size := 1) w (madeCells (Value.int .u16 0).cells R) R hb hR (by rw [size_madeCells]; omega)
  have e : (madeCells (Value.int .u16 0).cells R).toList = u16s (List.replicate R 0) := by
    have := toList_madeCells_one (.int .u16 0) R
    simpa [u16s, Value.cells] using this
  rw [e] at h
  exact h

end Go.Proofs.YtdpoeagmeiedcaaDoor
