/-
  The document's sum: the numbers of the rounds; a message made whole blocks.
-/
import Derived.Test.YtpkikibcfkdodaaHMsg
import Derived.Laws.AppendOwnNone
import Derived.Lib.AppendZeros
import Derived.Deep.CutBlock
namespace Go.Proofs.Ytpkikibcfkdodaa
open Go Go.RowKit
def ob35 : Oper := { dst := some 1, op := Op.build 62 #[(0, Operand.const (Value.int IntKind.u32 1116352408)), (1, Operand.const (Value.int IntKind.u32 1899447441)), (2, Operand.const (Value.int IntKind.u32 3049323471)), (3, Operand.const (Value.int IntKind.u32 3921009573)), (4, Operand.const (Value.int IntKind.u32 961987163)), (5, Operand.const (Value.int IntKind.u32 1508970993)), (6, Operand.const (Value.int IntKind.u32 2453635748)), (7, Operand.const (Value.int IntKind.u32 2870763221)), (8, Operand.const (Value.int IntKind.u32 3624381080)), (9, Operand.const (Value.int IntKind.u32 310598401)), (10, Operand.const (Value.int IntKind.u32 607225278)), (11, Operand.const (Value.int IntKind.u32 1426881987)), (12, Operand.const (Value.int IntKind.u32 1925078388)), (13, Operand.const (Value.int IntKind.u32 2162078206)), (14, Operand.const (Value.int IntKind.u32 2614888103)), (15, Operand.const (Value.int IntKind.u32 3248222580)), (16, Operand.const (Value.int IntKind.u32 3835390401)), (17, Operand.const (Value.int IntKind.u32 4022224774)), (18, Operand.const (Value.int IntKind.u32 264347078)), (19, Operand.const (Value.int IntKind.u32 604807628)), (20, Operand.const (Value.int IntKind.u32 770255983)), (21, Operand.const (Value.int IntKind.u32 1249150122)), (22, Operand.const (Value.int IntKind.u32 1555081692)), (23, Operand.const (Value.int IntKind.u32 1996064986)), (24, Operand.const (Value.int IntKind.u32 2554220882)), (25, Operand.const (Value.int IntKind.u32 2821834349)), (26, Operand.const (Value.int IntKind.u32 2952996808)), (27, Operand.const (Value.int IntKind.u32 3210313671)), (28, Operand.const (Value.int IntKind.u32 3336571891)), (29, Operand.const (Value.int IntKind.u32 3584528711)), (30, Operand.const (Value.int IntKind.u32 113926993)), (31, Operand.const (Value.int IntKind.u32 338241895)), (32, Operand.const (Value.int IntKind.u32 666307205)), (33, Operand.const (Value.int IntKind.u32 773529912)), (34, Operand.const (Value.int IntKind.u32 1294757372)), (35, Operand.const (Value.int IntKind.u32 1396182291)), (36, Operand.const (Value.int IntKind.u32 1695183700)), (37, Operand.const (Value.int IntKind.u32 1986661051)), (38, Operand.const (Value.int IntKind.u32 2177026350)), (39, Operand.const (Value.int IntKind.u32 2456956037)), (40, Operand.const (Value.int IntKind.u32 2730485921)), (41, Operand.const (Value.int IntKind.u32 2820302411)), (42, Operand.const (Value.int IntKind.u32 3259730800)), (43, Operand.const (Value.int IntKind.u32 3345764771)), (44, Operand.const (Value.int IntKind.u32 3516065817)), (45, Operand.const (Value.int IntKind.u32 3600352804)), (46, Operand.const (Value.int IntKind.u32 4094571909)), (47, Operand.const (Value.int IntKind.u32 275423344)), (48, Operand.const (Value.int IntKind.u32 430227734)), (49, Operand.const (Value.int IntKind.u32 506948616)), (50, Operand.const (Value.int IntKind.u32 659060556)), (51, Operand.const (Value.int IntKind.u32 883997877)), (52, Operand.const (Value.int IntKind.u32 958139571)), (53, Operand.const (Value.int IntKind.u32 1322822218)), (54, Operand.const (Value.int IntKind.u32 1537002063)), (55, Operand.const (Value.int IntKind.u32 1747873779)), (56, Operand.const (Value.int IntKind.u32 1955562222)), (57, Operand.const (Value.int IntKind.u32 2024104815)), (58, Operand.const (Value.int IntKind.u32 2227730452)), (59, Operand.const (Value.int IntKind.u32 2361852424)), (60, Operand.const (Value.int IntKind.u32 2428436474)), (61, Operand.const (Value.int IntKind.u32 2756734187)), (62, Operand.const (Value.int IntKind.u32 3204031479)), (63, Operand.const (Value.int IntKind.u32 3329325298))], type := 62, pos := "ref.go:17", after := #[], guard := none }
def os35 : Oper := { dst := none, op := Op.store 62 (Operand.tmp 0) (Operand.tmp 1), type := 0, pos := "ref.go:17", after := #[{ on := 0, ground := Ground.data }, { on := 0, ground := Ground.phase }], guard := none }
set_option maxRecDepth 100000 in
theorem build_run35 (g : Nat) (W : World) : (execOp (Act.eval ⟨#[.pointer (some ⟨g, 0, none⟩), undef], []⟩) ob35).run Try.prog W = .ok (.value (.agg kcells)) W := by kernel_rfl
set_option maxRecDepth 100000 in
theorem store_run35 (w : World) : (execOp (Act.eval ⟨#[.pointer (some ⟨w.heap.size, 0, none⟩), .agg kcells], []⟩) os35).run Try.prog (w.alloc (.cells zcells 62)) = .ok .skip (w.alloc (.cells kcells 62)) := by
  have h := run_storeAt_new (P := Try.prog) w 62 zcells kcells (by kernel_rfl) (by kernel_rfl) (by kernel_rfl)
  simp [execOp, os35, Act.eval, h, Result.andThen]
set_option maxRecDepth 100000 in
set_option maxHeartbeats 4000000 in
theorem rwords_any (w : World) : Calls Try.prog 35 #[] w fun e w' => e = .returned (.agg kcells) ∧ Below w.heap.size w w' := by
  go_enter Try.func35, Try.ntmps35
  go_upto_region 1 with fail
  refine wp_region_lit ?_
  refine wpList_plain rfl fun K hK => ?_
  unfold Oper.wp
  change Oper.upon _ _ _ _ _ ((execOp (Act.eval ⟨#[.pointer (some ⟨w.heap.size, 0, none⟩), undef], []⟩) ob35).run Try.prog (w.alloc (.cells zcells 62)))
  rw [build_run35, Oper.upon_value]
  refine hK _ _ ?_
  refine wpList_plain rfl fun K2 hK2 => ?_
  unfold Oper.wp
  change Oper.upon _ _ _ _ _ ((execOp (Act.eval ⟨#[.pointer (some ⟨w.heap.size, 0, none⟩), .agg kcells], []⟩) os35).run Try.prog (w.alloc (.cells zcells 62)))
  rw [store_run35, Oper.upon_skip]
  refine hK2 _ _ (wpList_nil ?_)
  rename_i Q0 K0 h0
  change K0 ⟨#[.pointer (some ⟨w.heap.size, 0, none⟩), .agg kcells], []⟩ (w.alloc (.cells kcells 62))
  refine h0 _ _ ?_
  go_wp2_with fail
  refine bodyPost_ret (results_cell_row (fn := Try.f35) rfl _ _ w.heap.size 62 kcells (0, 0) _ rfl (Blk.new w 62 kcells) Try.underlying62 (by kernel_rfl) (by kernel_rfl)) rfl ⟨rfl, ?_⟩
  exact (Below.refl w.heap.size w).alloc (Nat.le_refl _) (.cells kcells 62)
/-- What stands while the document's sum is made. -/
structure Rs (w wr : World) (I H K : Nat) (s : St8) : Prop where
  id : Blk wr I 32 (Array.replicate 32 (.int .u8 0))
  h : Blk wr H 60 s.cells
  k : Blk wr K 62 kcells
  ok : s.ok
  bel : Below w.heap.size w wr
  lo : w.heap.size ≤ H
  lo2 : w.heap.size ≤ I
theorem Rs.below {w wr w' : World} {I H K : Nat} {s : St8} (h : Rs w wr I H K s) (hb : Below wr.heap.size wr w') : Rs w w' I H K s :=
  ⟨h.id.below hb h.id.lt, h.h.below hb h.h.lt, h.k.below hb h.k.lt, h.ok, h.bel.trans (hb.mono h.bel.size), h.lo, h.lo2⟩
theorem Rs.touch {w wr w' : World} {I H K : Nat} {s s' : St8} (h : Rs w wr I H K s) (ht : Touch wr w' H none) (hb : Blk w' H 60 s'.cells) (ho : s'.ok) : Rs w w' I H K s' :=
  ⟨ht.blk h.id (h.id.ne_ h.h (by decide)) (by simp), hb, ht.blk h.k (h.k.ne_ h.h (by decide)) (by simp), ho, h.bel.trans (ht.below h.bel.size h.lo (by simp)), h.lo, h.lo2⟩
theorem Rs.grown {w wr w' : World} {I H K : Nat} {s : St8} {v : Value} {l : List UInt8} (h : Rs w wr I H K s) (ho : BOwn wr w.heap.size v l) (hg : wr.grownBy w' v.ownBlock) : Rs w w' I H K s :=
  ⟨h.id.grown hg fun e => own_blk_ne ho h.id (by decide) e.symm, h.h.grown hg fun e => own_blk_ne ho h.h (by decide) e.symm, h.k.grown hg fun e => own_blk_ne ho h.k (by decide) e.symm, h.ok, h.bel.grown hg h.bel.size fun z hz => (ho.lt z hz).1, h.lo, h.lo2⟩
theorem bown_snoc {w : World} {B : Nat} {v : Value} {l : List UInt8} {n : Nat} {b : UInt8} (h : w.ownsRow B 5 1 v (n + 1) (bc l ++ [.int .u8 (b.toNat : Int)])) (hn : n = l.length) : BOwn w B v (l ++ [b]) := by
  subst hn
  show w.ownsRow B 5 1 v (l ++ [b]).length (Lib.byteCells (l ++ [b]))
  rw [List.length_append, Lib.byteCells_append]
  exact h
theorem st60l (W : World) : (storeCells ⟨W.heap.size, 0, none⟩ [.int .u32 1779033703, .int .u32 3144134277, .int .u32 1013904242, .int .u32 2773480762, .int .u32 1359893119, .int .u32 2600822924, .int .u32 528734635, .int .u32 1541459225] 0).run Try.prog (W.alloc (.cells #[.int .u32 0, .int .u32 0, .int .u32 0, .int .u32 0, .int .u32 0, .int .u32 0, .int .u32 0, .int .u32 0] 60)) = .ok () (W.alloc (.cells iv.cells 60)) := run_storeCells_new W 60 #[.int .u32 0, .int .u32 0, .int .u32 0, .int .u32 0, .int .u32 0, .int .u32 0, .int .u32 0, .int .u32 0] iv.cells (by kernel_rfl) (by kernel_rfl) (by kernel_rfl)
theorem bs0_22 (W : World) : (Instr.buildSlice 22 0 #[]).run Try.prog W = .ok (.slice (some ⟨W.heap.size, 0, none⟩) 0 0) (W.alloc (.cells #[] 5)) := by kernel_rfl
theorem bs1_22 (W : World) (x : Int) : (Instr.buildSlice 22 1 #[(0, .int .u8 x)]).run Try.prog W = .ok (.slice (some ⟨W.heap.size, 0, none⟩) 1 1) (W.alloc (.cells #[.int .u8 x] 5)) := by kernel_rfl
/-- Where the argument's bytes stand. -/
structure BytesAt0 (w : World) (A : Option Addr) (l : List UInt8) (c : Nat) : Prop where
  nil : A = none → l = [] ∧ c = 0
  at_ : ∀ a, A = some a → ∀ j v, (bc l)[j]? = some v → w.cell? (a.add j) = some v
theorem BytesAt0.below {w w' : World} {A : Option Addr} {l : List UInt8} {c : Nat} (h : BytesAt0 w A l c) (hb : Below w.heap.size w w') : BytesAt0 w' A l c :=
  ⟨h.nil, fun a e j u hj => by
    have h0 := h.at_ a e j u hj
    have := hb.block _ (World.block_lt_of_cell? w _ h0)
    rw [← h0]
    have hs := World.cell?_spot h0
    simp only [World.cell?, this]⟩
/-- The argument's bytes behind a row. -/
theorem app_arg (W : World) (B : Nat) (v : Value) (l1 : List UInt8) (A : Option Addr) (l : List UInt8) (c : Nat) (ho : BOwn W B v l1) (hA : BytesAt0 W A l c) (hl : l1.length + l.length ≤ 1000000) (hB : B ≤ W.heap.size) :
    ∃ v' w', (∀ ty, (Builtin.append_ #[22, 22] ty #[v, .slice A l.length c]).run Try.prog W = .ok v' w') ∧ BOwn w' B v' (l1 ++ l) ∧ W.grownBy w' v.ownBlock := by
  obtain ⟨i0, hi0, hz0, hz1, hz2⟩ := info_parts byteInfo
  cases A with
  | none =>
    obtain ⟨rfl, rfl⟩ := hA.nil rfl
    refine ⟨v, W, fun ty => run_append_owned_none (P := Try.prog) (w := W) B 22 ty 5 i0 1 Try.underlying22 hi0 v _ _ ho, by rw [List.append_nil]; exact ho, ⟨rfl, rfl, rfl, Nat.le_refl _, fun _ _ _ => rfl⟩⟩
  | some a =>
    obtain ⟨v2, w2, hr, h1, h2, _, _⟩ := run_append_own_at (P := Try.prog) W B 22 22 5 i0 _ 1 1 Try.underlying22 hi0 hz0 hz1 hz2 rfl (by decide) v _ _ ho a l.length c (bc l) (by rw [bc_len, Nat.mul_one]) (hA.at_ a rfl) (bc_one l) (by unfold maxLen; omega) (by omega) hB
    refine ⟨v2, w2, fun ty => hr, ?_, h2⟩
    show w2.ownsRow B 5 1 v2 _ (Lib.byteCells _)
    rw [List.length_append, Lib.byteCells_append]
    exact h1
/-- A byte behind a row. -/
theorem app_byte (W : World) (B : Nat) (v : Value) (l1 : List UInt8) (b : UInt8) (ho : BOwn W B v l1) (hl : l1.length ≤ 100000) (hB : B ≤ W.heap.size) :
    ∃ v' w', (∀ ty, (Builtin.append_ #[22, 22] ty #[v, .slice (some ⟨W.heap.size, 0, none⟩) 1 1]).run Try.prog (W.alloc (.cells #[.int .u8 (b.toNat : Int)] 5)) = .ok v' w') ∧ BOwn w' B v' (l1 ++ [b]) ∧ (W.alloc (.cells #[.int .u8 (b.toNat : Int)] 5)).grownBy w' v.ownBlock := by
  obtain ⟨i0, hi0, hz0, hz1, hz2⟩ := info_parts byteInfo
  obtain ⟨v2, w2, hr, h1, h2, _, _⟩ := run_append_own_at (P := Try.prog) (W.alloc (.cells #[.int .u8 (b.toNat : Int)] 5)) B 22 22 5 i0 _ 1 1 Try.underlying22 hi0 hz0 hz1 hz2 rfl (by decide) v _ _ (ho.alloc _) ⟨W.heap.size, 0, none⟩ 1 1 (bc [b]) rfl (World.news_of_block (cs := #[.int .u8 (b.toNat : Int)]) (heap_alloc_new W _)) (bc_one _) (by unfold maxLen; omega) (by omega) (by simp; omega)
  refine ⟨v2, w2, fun ty => hr, ?_, h2⟩
  show w2.ownsRow B 5 1 v2 _ (Lib.byteCells _)
  rw [List.length_append, Lib.byteCells_append]
  exact h1
theorem st_one (w : World) (J i : Nat) (z ob : Int) (h : w.cell? ⟨J, i, none⟩ = some (.int .u8 ob)) (hf : w.frozen? ⟨J, i, none⟩ = false) : (storeCells ⟨J, i, none⟩ [.int .u8 z] 0).run Try.prog w = .ok () (w.setCell ⟨J, i, none⟩ (.int .u8 z)) := by
  have e := run_store Try.prog w ⟨J, i, none⟩ (.int .u8 z) .plain rfl
  rw [h] at e
  simp [hf] at e
  simp [storeCells, Addr.add, e]
attribute [-go_sem] loadCells storeCells run_index_string Instr.buildSlice
set_option maxRecDepth 100000 in
set_option maxHeartbeats 40000000 in
theorem rsum_any (w : World) (A : Option Addr) (l : List UInt8) (c : Nat) (hl : l.length ≤ 500) (hA : BytesAt0 w A l c) :
    Calls Try.prog 11 #[.slice A l.length c] w fun e w' => e = .returned (.agg (bc (sumF l)).toArray) ∧ Below w.heap.size w w' := by
  obtain ⟨i0, hi0, hz0, hz1, hz2⟩ := info_parts byteInfo
  have HI0 := Lib.hid hi0
  have HZ0 := Lib.hid hz0
  have HZ1 := Lib.hid hz1
  have HZ2 := Lib.hid hz2
  have HA := Lib.hid hA
  have HL := Lib.hid hl
  clear hA hl hi0 hz0 hz1 hz2
  go_enter Try.func11, Try.ntmps11
  have hst : (storeCells ⟨w.heap.size + 1, 0, none⟩ [.int .u32 1779033703, .int .u32 3144134277, .int .u32 1013904242, .int .u32 2773480762, .int .u32 1359893119, .int .u32 2600822924, .int .u32 528734635, .int .u32 1541459225] 0).run Try.prog ((w.alloc (.cells #[.int .u8 0, .int .u8 0, .int .u8 0, .int .u8 0, .int .u8 0, .int .u8 0, .int .u8 0, .int .u8 0, .int .u8 0, .int .u8 0, .int .u8 0, .int .u8 0, .int .u8 0, .int .u8 0, .int .u8 0, .int .u8 0, .int .u8 0, .int .u8 0, .int .u8 0, .int .u8 0, .int .u8 0, .int .u8 0, .int .u8 0, .int .u8 0, .int .u8 0, .int .u8 0, .int .u8 0, .int .u8 0, .int .u8 0, .int .u8 0, .int .u8 0, .int .u8 0] 32)).alloc (.cells #[.int .u32 0, .int .u32 0, .int .u32 0, .int .u32 0, .int .u32 0, .int .u32 0, .int .u32 0, .int .u32 0] 60)) = .ok () ((w.alloc (.cells #[.int .u8 0, .int .u8 0, .int .u8 0, .int .u8 0, .int .u8 0, .int .u8 0, .int .u8 0, .int .u8 0, .int .u8 0, .int .u8 0, .int .u8 0, .int .u8 0, .int .u8 0, .int .u8 0, .int .u8 0, .int .u8 0, .int .u8 0, .int .u8 0, .int .u8 0, .int .u8 0, .int .u8 0, .int .u8 0, .int .u8 0, .int .u8 0, .int .u8 0, .int .u8 0, .int .u8 0, .int .u8 0, .int .u8 0, .int .u8 0, .int .u8 0, .int .u8 0] 32)).alloc (.cells iv.cells 60)) := by
    have h := st60l (w.alloc (.cells #[.int .u8 0, .int .u8 0, .int .u8 0, .int .u8 0, .int .u8 0, .int .u8 0, .int .u8 0, .int .u8 0, .int .u8 0, .int .u8 0, .int .u8 0, .int .u8 0, .int .u8 0, .int .u8 0, .int .u8 0, .int .u8 0, .int .u8 0, .int .u8 0, .int .u8 0, .int .u8 0, .int .u8 0, .int .u8 0, .int .u8 0, .int .u8 0, .int .u8 0, .int .u8 0, .int .u8 0, .int .u8 0, .int .u8 0, .int .u8 0, .int .u8 0, .int .u8 0] 32))
    rwa [World.size_alloc] at h
  have hs62 := store62
  go_upto_region 2 with fail
  have I0 : Blk ((w.alloc (.cells #[.int .u8 0, .int .u8 0, .int .u8 0, .int .u8 0, .int .u8 0, .int .u8 0, .int .u8 0, .int .u8 0, .int .u8 0, .int .u8 0, .int .u8 0, .int .u8 0, .int .u8 0, .int .u8 0, .int .u8 0, .int .u8 0, .int .u8 0, .int .u8 0, .int .u8 0, .int .u8 0, .int .u8 0, .int .u8 0, .int .u8 0, .int .u8 0, .int .u8 0, .int .u8 0, .int .u8 0, .int .u8 0, .int .u8 0, .int .u8 0, .int .u8 0, .int .u8 0] 32)).alloc (.cells iv.cells 60)) w.heap.size 32 (Array.replicate 32 (.int .u8 0)) := (Blk.new w 32 _).alloc _
  have H0 : Blk ((w.alloc (.cells #[.int .u8 0, .int .u8 0, .int .u8 0, .int .u8 0, .int .u8 0, .int .u8 0, .int .u8 0, .int .u8 0, .int .u8 0, .int .u8 0, .int .u8 0, .int .u8 0, .int .u8 0, .int .u8 0, .int .u8 0, .int .u8 0, .int .u8 0, .int .u8 0, .int .u8 0, .int .u8 0, .int .u8 0, .int .u8 0, .int .u8 0, .int .u8 0, .int .u8 0, .int .u8 0, .int .u8 0, .int .u8 0, .int .u8 0, .int .u8 0, .int .u8 0, .int .u8 0] 32)).alloc (.cells iv.cells 60)) (w.heap.size + 1) 60 iv.cells := by
    have := Blk.new (w.alloc (.cells #[.int .u8 0, .int .u8 0, .int .u8 0, .int .u8 0, .int .u8 0, .int .u8 0, .int .u8 0, .int .u8 0, .int .u8 0, .int .u8 0, .int .u8 0, .int .u8 0, .int .u8 0, .int .u8 0, .int .u8 0, .int .u8 0, .int .u8 0, .int .u8 0, .int .u8 0, .int .u8 0, .int .u8 0, .int .u8 0, .int .u8 0, .int .u8 0, .int .u8 0, .int .u8 0, .int .u8 0, .int .u8 0, .int .u8 0, .int .u8 0, .int .u8 0, .int .u8 0] 32)) 60 iv.cells
    rwa [World.size_alloc] at this
  have B0 := ((Below.refl w.heap.size w).alloc (Nat.le_refl _) (.cells #[.int .u8 0, .int .u8 0, .int .u8 0, .int .u8 0, .int .u8 0, .int .u8 0, .int .u8 0, .int .u8 0, .int .u8 0, .int .u8 0, .int .u8 0, .int .u8 0, .int .u8 0, .int .u8 0, .int .u8 0, .int .u8 0, .int .u8 0, .int .u8 0, .int .u8 0, .int .u8 0, .int .u8 0, .int .u8 0, .int .u8 0, .int .u8 0, .int .u8 0, .int .u8 0, .int .u8 0, .int .u8 0, .int .u8 0, .int .u8 0, .int .u8 0, .int .u8 0] 32)).alloc (by simp) (.cells iv.cells 60)
  obtain ⟨I, hI⟩ : ∃ I, I = w.heap.size := ⟨_, rfl⟩
  obtain ⟨H, hH⟩ : ∃ I, I = w.heap.size + 1 := ⟨_, rfl⟩
  obtain ⟨W, hW⟩ : ∃ W, W = (w.alloc (.cells #[.int .u8 0, .int .u8 0, .int .u8 0, .int .u8 0, .int .u8 0, .int .u8 0, .int .u8 0, .int .u8 0, .int .u8 0, .int .u8 0, .int .u8 0, .int .u8 0, .int .u8 0, .int .u8 0, .int .u8 0, .int .u8 0, .int .u8 0, .int .u8 0, .int .u8 0, .int .u8 0, .int .u8 0, .int .u8 0, .int .u8 0, .int .u8 0, .int .u8 0, .int .u8 0, .int .u8 0, .int .u8 0, .int .u8 0, .int .u8 0, .int .u8 0, .int .u8 0] 32)).alloc (.cells iv.cells 60) := ⟨_, rfl⟩
  rw [← hI, ← hW] at I0
  rw [← hH, ← hW] at H0
  rw [← hW] at B0
  rw [← hH, ← hW, ← hI]
  have I1 := Lib.hid I0
  have H1 := Lib.hid H0
  have B1 := Lib.hid B0
  have HLO : Hid (w.heap.size ≤ I ∧ w.heap.size ≤ H) := Lib.hid (by omega)
  clear hI hH hW I0 H0 B0 hst
  have WT := Lib.hid fun W => rwords_any W
  go_upto_region 3 with (go_at_call 35; refine (WT.out _).mono ?_; rintro e w2 ⟨rfl, hb2⟩)
  have R0 : Rs w (w2.alloc (.cells kcells 62)) I H w2.heap.size iv := by
    have b2 := B1.out.trans (hb2.mono B1.out.size)
    exact ⟨(I1.out.below hb2 I1.out.lt).alloc _, (H1.out.below hb2 H1.out.lt).alloc _, Blk.new w2 62 kcells, iv_ok, b2.alloc b2.size _, HLO.out.2, HLO.out.1⟩
  obtain ⟨K, hK⟩ : ∃ K, K = w2.heap.size := ⟨_, rfl⟩
  obtain ⟨W2, hW2⟩ : ∃ W, W = w2.alloc (.cells kcells 62) := ⟨_, rfl⟩
  rw [← hK, ← hW2] at R0
  rw [← hK, ← hW2]
  have R1 := Lib.hid R0
  clear hK hW2 R0 hb2 I1 H1 B1 WT hs62
  have hb0 := bs0_22
  have hb1 := bs1_22
  have O0 : BOwn (W2.alloc (.cells #[] 5)) w.heap.size (.slice (some ⟨W2.heap.size, 0, none⟩) 0 0) [] := World.ownsRow_made W2 #[] 0 R1.out.bel.size (Nat.zero_le _) rfl
  obtain ⟨v3, w3, hr3, ho3, hg3⟩ := app_arg (W2.alloc (.cells #[] 5)) w.heap.size (.slice (some ⟨W2.heap.size, 0, none⟩) 0 0) [] A l c O0 (HA.out.below (R1.out.bel.alloc R1.out.bel.size _)) (by simp; have := HL.out; omega) (Nat.le_trans R1.out.bel.size (by simp))
  rw [List.nil_append] at ho3
  have hbel3 : Below w.heap.size w w3 := (R1.out.bel.alloc R1.out.bel.size (.cells #[] 5)).grown hg3 (Nat.le_trans R1.out.bel.size (by simp)) (fun z hz => by injection hz with hz; rw [← hz]; exact R1.out.bel.size)
  obtain ⟨v4, w4, hr4, ho4, hg4⟩ := app_byte w3 w.heap.size v3 l 128 ho3 (by have := HL.out; omega) hbel3.size
  have R4 : Hid (Rs w w4 I H K iv) := Lib.hid (((R1.out.below ((Below.refl _ _).alloc (Nat.le_refl _) (.cells #[] 5))).grown O0 hg3).below ((Below.refl _ _).alloc (Nat.le_refl _) (.cells #[.int .u8 128] 5)) |>.grown (ho3.alloc _) hg4)
  have HR3 := Lib.hid hr3
  have HR4 := Lib.hid hr4
  have O4 := Lib.hid ho4
  obtain ⟨A3, c3, rfl⟩ := own_form ho3
  obtain ⟨A4, c4, rfl⟩ := own_form ho4
  have hb128 := bs1_22 w3 128
  clear hr3 hr4 ho3 hg3 ho4 hg4 hbel3 hb1 O0
  go_upto_region 4 with (first | (refine Lib.wpList_append_run (o := ⟨some 29, _, _, _, _, _⟩) _ rfl _ _ _ _ rfl _ _ rfl rfl _ _ (HR3.out _) ?_) | (refine Lib.wpList_append_run (o := ⟨some 31, _, _, _, _, _⟩) _ rfl _ _ _ _ rfl _ _ rfl rfl _ _ (HR4.out _) ?_))
  have M4 : Hid (BOwn w4 w.heap.size (.slice A4 (l.length + 1) c4) (msgN l 0)) := Lib.hid (by have := O4.out; unfold msgN zer; simpa using this)
  clear HR3 HR4 O4 hb0 hb128
  go_loopw [5] (fun s5 wr => ∃ k n c5 : Nat, ∃ A5, s5 = .slice A5 n c5 ∧ n = l.length + 1 + k ∧ k ≤ zn l.length ∧ Hid (BOwn wr w.heap.size (.slice A5 n c5) (msgN l k)) ∧ Hid (Rs w wr I H K iv)) (fun s5 _ => zn l.length + l.length + 1 - (match s5 with | .slice _ n _ => n | _ => 0))
  case atStart => exact ⟨0, l.length + 1, c4, A4, rfl, rfl, Nat.zero_le _, M4, R4⟩
  case round =>
    clear M4 R4
    obtain ⟨k, n, c5, A5, rfl, hn, hk, hO, hR⟩ := hrel
    have n0 : (0 : Int) ≤ (n : Int) := Int.natCast_nonneg _
    have hz := zn_iff l.length k hk
    have hzl : zn l.length < 64 := by unfold zn; omega
    by_cases hkz : k = zn l.length
    · have h56 : (n : Int) % 64 = 56 := by have := hz.2 hkz; omega
      have HK := Lib.hid hkz
      obtain rfl := HK.out
      have O5 : Hid (BOwn wr w.heap.size (.slice A5 n c5) (msgN l (zn l.length) ++ lb8 (l.length * 8 % 18446744073709551616) 0)) := Lib.hid (by unfold lb8; rw [List.take_zero, List.append_nil]; exact hO.out)
      have hnL : n ≤ 600 := by have := HL.out; unfold zn at hn; omega
      have hLn : (l.length : Int) < 9223372036854775808 := by have := HL.out; omega
      have h8 := u64_mul8 (n := l.length)
      have h9 : IntKind.u64.wrap (l.length : Int) = (l.length : Int) := by rw [IntKind.wrap_u64]; have := HL.out; omega
      obtain ⟨NN, hNN⟩ : ∃ N, N = l.length * 8 % 18446744073709551616 := ⟨_, rfl⟩
      rw [← hNN] at h8 O5
      have HNN := Lib.hid hNN
      have hml : (msgN l (zn l.length)).length = n := by rw [msgN_len]; omega
      have HML := Lib.hid hml
      have HNL := Lib.hid hnL
      clear hNN hz hn hk hzl hml hnL hO
      go_upto_block 2 with fail
      clear h8 h9 hLn h56
      go_wp2_with fail
      go_loopw [5, 7] (fun s5 s7 wr => ∃ j n5 c5 : Nat, ∃ A5, s5 = .slice A5 n5 c5 ∧ s7 = .int .i64 (7 - (j : Int)) ∧ n5 = n + j ∧ j ≤ 8 ∧ Hid (BOwn wr w.heap.size (.slice A5 n5 c5) (msgN l (zn l.length) ++ lb8 NN j)) ∧ Hid (Rs w wr I H K iv)) (fun _ s7 _ => (intOf s7 + 1).toNat)
      case atStart => exact ⟨0, n, c5, A5, rfl, rfl, rfl, by omega, O5, hR⟩
      case round =>
        clear O5 hR
        obtain ⟨j, n5, c5, A5, rfl, rfl, hn5, hj, hO, hR⟩ := hrel
        have j0 : (0 : Int) ≤ (j : Int) := Int.natCast_nonneg _
        by_cases hlt : j < 8
        · have j1 : (0 : Int) ≤ 7 - (j : Int) := by omega
          obtain ⟨ii, hii⟩ : ∃ ii : Nat, ii = 7 - j := ⟨_, rfl⟩
          have hie : (7 : Int) - (j : Int) = (ii : Int) := by omega
          rw [hie]
          obtain ⟨q, hq⟩ : ∃ q, q = 8 * ii := ⟨_, rfl⟩
          have y := u8_shr (N := NN) (i := ii)
          have hsn := lb8_snoc NN j hlt
          rw [← hii] at hsn
          rw [← hq] at y hsn
          obtain ⟨bb, hbb⟩ : ∃ b, b = UInt8.ofNat (NN / 2 ^ q) := ⟨_, rfl⟩
          rw [← hbb] at hsn y
          have ii0 : (0 : Int) ≤ (ii : Int) := Int.natCast_nonneg _
          have ii1 : (ii : Int) ≤ 7 := by omega
          have y2 : IntKind.i64.wrap (8 * (ii : Int)) = (q : Int) := by rw [IntKind.wrap_i64]; omega
          have y3 : IntKind.u64.wrap (q : Int) = (q : Int) := by rw [IntKind.wrap_u64]; omega
          have q0 : (0 : Int) ≤ (q : Int) := Int.natCast_nonneg _
          have q1 : (q : Int) ≤ 64 := by omega
          have HV : Hid ((NN : Int) / 2 ^ q % 256 = (bb.toNat : Int)) := Lib.hid (by rw [u32_shr, ← IntKind.wrap_u8]; exact y)
          have HJJ : Hid (j < 8 ∧ (ii : Int) - 1 = 7 - ((j + 1 : Nat) : Int) ∧ n5 + 1 = n + (j + 1)) := Lib.hid ⟨hlt, by omega, by omega⟩
          have HRR : Hid (Value.int .i64 ((ii : Int) - 1) = .int .i64 (7 - ((j + 1 : Nat) : Int))) := Lib.hid (by rw [HJJ.out.2.1])
          have hN2 : (msgN l (zn l.length) ++ lb8 NN j).length ≤ 100000 := by rw [List.length_append, HML.out, lb8_len NN hj]; have := HNL.out; omega
          have hlen : (msgN l (zn l.length) ++ lb8 NN (j + 1)).length = n5 + 1 := by rw [List.length_append, HML.out, lb8_len NN (by omega)]; omega
          obtain ⟨v6, w6, hr6, ho6, hg6⟩ := app_byte wr w.heap.size (.slice A5 n5 c5) (msgN l (zn l.length) ++ lb8 NN j) bb hO.out hN2 hR.out.bel.size
          have R6' : Hid (Rs w w6 I H K iv) := Lib.hid ((hR.out.below ((Below.refl _ _).alloc (Nat.le_refl _) (.cells #[.int .u8 (bb.toNat : Int)] 5))).grown (hO.out.alloc _) hg6)
          rw [List.append_assoc, ← hsn] at ho6
          obtain ⟨A6, c6, rfl⟩ := own_form ho6
          rw [hlen] at ho6 hr6
          rw [← HV.out] at hr6
          have HR6 := Lib.hid hr6
          have O6 := Lib.hid ho6
          have hb0 := bs1_22 wr ((NN : Int) / 2 ^ q % 256)
          clear hn5 hj hii hie hq hbb hsn hN2 hlen hr6 ho6 hg6 hO hR hlt
          go_upto_region 9 with (refine Lib.wpList_append_run (o := ⟨some 55, _, _, _, _, _⟩) _ rfl _ _ _ _ rfl _ _ rfl rfl _ _ (HR6.out _) ?_)
          clear hb0
          go_wp2_with fail
          go_roundw
          case rel => exact ⟨j + 1, n5 + 1, c6, A6, rfl, HRR.out, HJJ.out.2.2, HJJ.out.1, O6, R6'⟩
          case measure => have := HJJ.out; simp [intOf] <;> omega
        · obtain rfl : j = 8 := by omega
          have hMF : msgN l (zn l.length) ++ lb8 NN 8 = msgF l := by unfold msgF; rw [HNN.out]
          rw [hMF] at hO
          have hlM : (msgF l).length = n5 := by unfold msgF; rw [List.length_append, HML.out, lb8_len _ (Nat.le_refl _)]; omega
          obtain ⟨M, hM⟩ : ∃ M, M = msgF l := ⟨_, rfl⟩
          rw [← hM] at hO hlM
          have HM := Lib.hid hM
          have hn64 := msgF_mod l
          rw [← hM, hlM] at hn64
          have HN64 : Hid (n5 % 64 = 0 ∧ n5 ≤ 700 ∧ M.length = n5) := Lib.hid (by have := HNL.out; omega)
          rcases hO.out.2 with ⟨_, h0⟩ | ⟨T, c6, cur, e, _⟩
          · omega
          injection e with e1 e2 e3
          subst e1
          subst e3
          have HTR : Hid (Reads4 wr T 0 M) := Lib.hid (fun j b hj => by
            have := hO.out.cells (g := T) rfl j _ (bc_at hj)
            rwa [Addr.add_lit] at this)
          have HTL : Hid (T < wr.heap.size) := Lib.hid (hO.out.lt T rfl).2
          have HSM : Hid (hashN iv M (n5 / 64) = sumS l) := Lib.hid (by
            have h := hash_msg l
            rw [← hM, hlM] at h; exact h)
          have HTR0 := HTR
          have HTH : Hid (T ≠ H) := Lib.hid (fun e => own_blk_ne hO.out hR.out.h (by decide) (by rw [e]; rfl))
          have R8 : Hid (Rs w wr I H K (hashN iv M 0)) := Lib.hid hR.out
          clear hO hlM hM hn64 hMF hn5 hj hlt j0 e2 HTR hR
          go_wp2_with fail
          go_loopw [8] (fun s8 wr => ∃ i a : Nat, s8 = .int .i64 (a : Int) ∧ a = 64 * i ∧ a ≤ n5 ∧ Hid (Reads4 wr T 0 M) ∧ Hid (T < wr.heap.size) ∧ Hid (Rs w wr I H K (hashN iv M i))) (fun s8 _ => n5 - (intOf s8).toNat)
          case atStart => exact ⟨0, 0, rfl, rfl, Nat.zero_le _, HTR0, HTL, R8⟩
          case round =>
            clear HTR0 HTL R8
            obtain ⟨i, a, rfl, hai, han, hM, hTl, hR⟩ := hrel
            have a0 : (0 : Int) ≤ (a : Int) := Int.natCast_nonneg _
            by_cases hlt : a < n5
            · have a1 : (a : Int) < (n5 : Int) := by omega
              have ha64 : a + 64 ≤ n5 := by have := HN64.out; omega
              have hm64 : ((M.drop (64 * i)).take 64).length = 64 := by have := HN64.out; simp; omega
              have hrd : Reads4 wr T a ((M.drop (64 * i)).take 64) := by
                have h := (hM.out.drop (64 * i)).take 64
                rw [Nat.zero_add, ← hai] at h
                rwa [← hai]
              have hw64 : IntKind.i64.wrap ((a : Int) + 64) = (a : Int) + 64 := by rw [IntKind.wrap_i64]; have := HN64.out; omega
              have HAI : Hid (a + 64 = 64 * (i + 1) ∧ a + 64 ≤ n5 ∧ n5 ≤ 700) := Lib.hid ⟨by omega, ha64, HN64.out.2.1⟩
              have HRD := Lib.hid hrd
              have HM64 := Lib.hid hm64
              clear hai han hlt ha64 hm64 hrd
              go_upto_block 5 with fail
              refine body5 _ _ _ _ _ _ _ _ _ _ _ _ _ _ _ _ _ _ _ _ _ _ _ _ _ _ _ _ _ _ _ _ _ _ _ _ _ _ _ _ _ _ _ _ _ _ _ _ _ _ _ _ _ _ _ _ _ _ _ _ _ _ _ _ _ _ _ _ _ _ _ _ _ _ _ _ _ _ _ _ _ _ _ _ _ _ _ _ _ _ _ _ _ _ _ _ _ _ _ _ _ _ _ _ _ _ _ _ _ _ _ _ _ _ _ _ _ _ _ _ _ _ _ _ _ _ _ _ _ _ _ _ _ _ _ _ _ _ _ _ _ _ _ _ _ _ _ _ _ _ _ _ _ _ _ _ _ _ _ _ _ _ _ _ _ _ _ _ _ _ _ _ _ _ _ _ _ _ _ _ _ _ _ _ _ _ _ _ _ _ _ _ _ _ _ _ _ _ _ _ _ _ _ _ _ _ _ _ _ _ _ _ _ _ _ _ _ _ _ _ _ _ _ _ _ _ _ _ _ _ _ _ _ _ _ _ _ _ _ _ _ _ _ _ _ _ _ _ _ _ _ _ _ _ _ _ _ _ _ _ _ _ _ _ _ _ _ _ _ _ _ _ _ _ wr H K T n5 _ a (hashN iv M i) ((M.drop (64 * i)).take 64) hR.out.h hR.out.k hR.out.ok HM64.out HRD.out hTl.out HAI.out.2.1 (by have := HAI.out; omega) (fun c a d v w h => by cases d <;> exact h) ?_
              intro t9 t10 t11 t12 t13 t14 t15 t16 t17 t18 t19 t20 t21 t22 t62 t63 t64 t65 t66 t67 t68 t69 t70 t71 t72 t73 t74 t75 t76 t77 t78 t79 t80 t81 t82 t83 t84 t85 t86 t87 t88 t89 t90 t91 t92 t93 t94 t95 t96 t97 t98 t99 t100 t101 t102 t103 t104 t105 t106 t107 t108 t109 t110 t111 t112 t113 t114 t115 t116 t117 t118 t119 t120 t121 t122 t123 t124 t125 t126 t127 t128 t129 t130 t131 t132 t133 t134 t135 t136 t137 t138 t139 t140 t141 t142 t143 t144 t145 t146 t147 t148 t149 t150 t151 t152 t153 t154 t155 t156 t157 t158 t159 t160 t161 t162 t163 t164 t165 t166 t167 t168 t169 t170 t171 t172 t173 t174 t175 t176 t177 t178 t179 t180 t181 t182 t183 t184 t185 t186 t187 t188 t189 t190 t191 t192 t193 t194 t195 t196 t197 t198 t199 t200 t201 t202 t203 t204 t205 t206 t207 t208 t209 t210 t211 t212 t213 t214 t215 t216 t217 t218 t219 t220 t221 t222 t223 t224 t225 t226 t227 t228 t229 t230 t231 t232 t233 t234 t235 t236 t237 t238 t239 t240 t241 t242 t243 t244 t245 t246 t247 t248 t249 t250 t251 t252 t253 t254 t255 t256 t257 t258 w5 hb5 ht5
              have R5 : Hid (Rs w w5 I H K (hashN iv M (i + 1))) := Lib.hid (hR.out.touch ht5 hb5 (plus8_ok _ _))
              have hTH := HTH.out
              have M5 : Hid (Reads4 w5 T 0 M) := Lib.hid (fun j b hj => by
                have h := hM.out j b hj
                have := ht5.block T hTl.out hTH (by simp)
                rw [← h]
                simp only [World.cell?, this])
              have L5 : Hid (T < w5.heap.size) := Lib.hid (Nat.lt_of_lt_of_le hTl.out ht5.size)
              clear hR hM hTl hb5 ht5 hTH
              go_wp2_with fail
              go_roundw
              case rel => exact ⟨i + 1, a + 64, by go_num, HAI.out.1, HAI.out.2.1, M5, L5, R5⟩
              case measure => have := HAI.out; simp [intOf]; omega
            · obtain rfl : a = n5 := by omega
              have hi64 : a / 64 = i := by omega
              rw [← hi64, HSM.out] at hR
              clear hi64 hlt han hai hM hTl
              obtain ⟨S, hS⟩ : ∃ S, S = sumS l := ⟨_, rfl⟩
              rw [← hS] at hR
              have HSL := Lib.hid hS
              clear hS HSM
              go_upto_region 41 with fail
              have R9 : Rs w (wr.alloc (.cells #[.int .u8 0, .int .u8 0, .int .u8 0, .int .u8 0, .int .u8 0, .int .u8 0, .int .u8 0, .int .u8 0, .int .u8 0, .int .u8 0, .int .u8 0, .int .u8 0, .int .u8 0, .int .u8 0, .int .u8 0, .int .u8 0, .int .u8 0, .int .u8 0, .int .u8 0, .int .u8 0, .int .u8 0, .int .u8 0, .int .u8 0, .int .u8 0, .int .u8 0, .int .u8 0, .int .u8 0, .int .u8 0, .int .u8 0, .int .u8 0, .int .u8 0, .int .u8 0] 32)) I H K S := hR.out.below ((Below.refl _ _).alloc (Nat.le_refl _) _)
              have J9 : Blk (wr.alloc (.cells #[.int .u8 0, .int .u8 0, .int .u8 0, .int .u8 0, .int .u8 0, .int .u8 0, .int .u8 0, .int .u8 0, .int .u8 0, .int .u8 0, .int .u8 0, .int .u8 0, .int .u8 0, .int .u8 0, .int .u8 0, .int .u8 0, .int .u8 0, .int .u8 0, .int .u8 0, .int .u8 0, .int .u8 0, .int .u8 0, .int .u8 0, .int .u8 0, .int .u8 0, .int .u8 0, .int .u8 0, .int .u8 0, .int .u8 0, .int .u8 0, .int .u8 0, .int .u8 0] 32)) wr.heap.size 32 (bc (idB S 0)).toArray := Blk.new wr 32 _
              have HIJ : Hid (I ≠ wr.heap.size ∧ H ≠ wr.heap.size ∧ K ≠ wr.heap.size ∧ w.heap.size ≤ wr.heap.size) := Lib.hid (by have h1 := hR.out.id.lt; have h2 := hR.out.h.lt; have h3 := hR.out.k.lt; have h4 := hR.out.bel.size; omega)
              obtain ⟨J, hJ⟩ : ∃ J, J = wr.heap.size := ⟨_, rfl⟩
              obtain ⟨Wj, hWj⟩ : ∃ W, W = wr.alloc (.cells #[.int .u8 0, .int .u8 0, .int .u8 0, .int .u8 0, .int .u8 0, .int .u8 0, .int .u8 0, .int .u8 0, .int .u8 0, .int .u8 0, .int .u8 0, .int .u8 0, .int .u8 0, .int .u8 0, .int .u8 0, .int .u8 0, .int .u8 0, .int .u8 0, .int .u8 0, .int .u8 0, .int .u8 0, .int .u8 0, .int .u8 0, .int .u8 0, .int .u8 0, .int .u8 0, .int .u8 0, .int .u8 0, .int .u8 0, .int .u8 0, .int .u8 0, .int .u8 0] 32) := ⟨_, rfl⟩
              rw [← hWj] at R9
              rw [← hJ, ← hWj] at J9
              rw [← hJ] at HIJ
              rw [← hJ, ← hWj]
              have R10 := Lib.hid R9
              have J10 := Lib.hid J9
              clear hJ hWj R9 J9 hR
              go_wp2_with fail
              go_loopw [24] (fun s24 wr => ∃ i : Nat, s24 = .int .i64 i ∧ i ≤ 32 ∧ Hid (Blk wr J 32 (bc (idB S i)).toArray) ∧ Hid (Rs w wr I H K S)) (fun s24 _ => 32 - (intOf s24).toNat)
              case atStart => exact ⟨0, rfl, by omega, J10, R10⟩
              case round =>
                clear J10 R10
                obtain ⟨i, rfl, hi, hJ, hR⟩ := hrel
                have i0' : (0 : Int) ≤ (i : Int) := Int.natCast_nonneg _
                by_cases hlt : i < 32
                · have i1 : (i : Int) < 32 := by omega
                  have hset := idB_set S i hlt
                  obtain ⟨qd, hqd⟩ : ∃ q, q = i / 4 := ⟨_, rfl⟩
                  obtain ⟨rm, hrm⟩ : ∃ q, q = i % 4 := ⟨_, rfl⟩
                  obtain ⟨sh, hsh⟩ : ∃ q, q = 24 - 8 * rm := ⟨_, rfl⟩
                  obtain ⟨r8, hr8⟩ : ∃ q, q = 8 * rm := ⟨_, rfl⟩
                  rw [← hqd, ← hrm, ← hsh] at hset
                  have x0 : wr.cell? ⟨H, qd, none⟩ = some (.int .u32 (at0 S.list qd : Int)) := by rw [hR.out.h.cell]; exact cells_at S qd (by omega)
                  obtain ⟨x, hx⟩ : ∃ x, x = at0 S.list qd := ⟨_, rfl⟩
                  rw [← hx] at hset x0
                  obtain ⟨bb, hbb⟩ : ∃ b, b = UInt8.ofNat (x / 2 ^ sh) := ⟨_, rfl⟩
                  rw [← hbb] at hset
                  have HV : Hid ((x : Int) / 2 ^ sh % 256 = (bb.toNat : Int)) := Lib.hid (by rw [u32_shr, hbb, UInt8.toNat_ofNat']; omega)
                  have y0 : (i : Int) / 4 = (qd : Int) := by omega
                  have y1 : (i : Int) % 4 = (rm : Int) := by omega
                  have y2 : IntKind.i64.wrap (8 * (rm : Int)) = (r8 : Int) := by rw [IntKind.wrap_i64]; omega
                  have y3 : IntKind.i64.wrap (24 - (r8 : Int)) = (sh : Int) := by rw [IntKind.wrap_i64]; omega
                  have y4 : IntKind.u64.wrap (sh : Int) = (sh : Int) := by rw [IntKind.wrap_u64]; omega
                  have z0 : (0 : Int) ≤ (qd : Int) := Int.natCast_nonneg _
                  have z1 : (qd : Int) < 8 := by omega
                  have z2 : (0 : Int) ≤ (sh : Int) := Int.natCast_nonneg _
                  have z3 : (sh : Int) ≤ 32 := by omega
                  have z4 : (0 : Int) ≤ (rm : Int) := Int.natCast_nonneg _
                  have z5 : (rm : Int) < 4 := by omega
                  have z6 : (0 : Int) ≤ (r8 : Int) := Int.natCast_nonneg _
                  have z7 : (r8 : Int) ≤ 24 := by omega
                  have z8 : (0 : Int) ≤ (x : Int) := Int.natCast_nonneg _
                  have hlen := idB_len S i hi
                  obtain ⟨ob, x1⟩ : ∃ b : Int, wr.cell? ⟨J, i, none⟩ = some (.int .u8 b) := ⟨((idB S i)[i]).toNat, by
                    rw [hJ.out.cell, List.getElem?_toArray]
                    exact bc_at (List.getElem?_eq_getElem (by omega))⟩
                  have f1 := hJ.out.frozen i
                  have hsc := st_one wr J i ((x : Int) / 2 ^ sh % 256) ob x1 f1
                  have HSET := Lib.hid hset
                  have HLT := Lib.hid hlt
                  have J2 : Hid (Blk (wr.setCell ⟨J, i, none⟩ (.int .u8 ((x : Int) / 2 ^ sh % 256))) J 32 (bc (idB S (i + 1))).toArray) := Lib.hid (by rw [HV.out, ← hset]; exact hJ.out.set_ _ _)
                  have R2 : Hid (Rs w (wr.setCell ⟨J, i, none⟩ (.int .u8 ((x : Int) / 2 ^ sh % 256))) I H K S) := Lib.hid (by
                    obtain ⟨n1, n2, n3, n4⟩ := HIJ.out
                    exact ⟨hR.out.id.far n1 _, hR.out.h.far n2 _, hR.out.k.far n3 _, hR.out.ok, hR.out.bel.setCell n4 _, hR.out.lo, hR.out.lo2⟩)
                  clear hset hqd hrm hsh hr8 hx hbb hlen hlt hi hJ hR
                  go_wp2_with fail
                  go_roundw
                  case rel => exact ⟨i + 1, by go_num, HLT.out, J2, R2⟩
                  case measure => have := HLT.out; simp [intOf]; omega
                · obtain rfl : i = 32 := by omega
                  have hj := hJ.out
                  rw [idB_all] at hj
                  obtain ⟨cs, hcs⟩ : ∃ cs, cs = bc (idOf S) := ⟨_, rfl⟩
                  rw [← hcs] at hj
                  have hcl : cs.length = 32 := by rw [hcs, bc_len]; kernel_rfl
                  obtain ⟨w5, hw5⟩ : ∃ w5, w5 = wr.setRow I cs.toArray := ⟨_, rfl⟩
                  have HB5 : Hid (Blk w5 I 32 cs.toArray) := Lib.hid (by rw [hw5]; exact setRow_heap wr I _ _ 32 _ hR.out.id)
                  have HW5 : Hid (Below w.heap.size w w5) := Lib.hid (by rw [hw5]; exact below_setRow hR.out.bel hR.out.lo2 _)
                  have h32 : (Try.prog.info? 32).map (·.size) = some cs.toArray.size := by rw [List.size_toArray, hcl]; kernel_rfl
                  have HRES : Hid ((bc (sumF l)) = cs) := Lib.hid (by rw [hcs, HSL.out]; rfl)
                  go_upto_region 45 with fail
                  refine wp_region_lit ?_
                  refine wpList_plain rfl fun K5 hK5 => ?_
                  refine wp_load_blk 32 (.tmp 23) rfl J cs.toArray 32 _ _ rfl hj Try.underlying32 h32 ?_
                  refine hK5 _ _ ?_
                  refine wpList_plain rfl fun K6 hK6 => ?_
                  refine wp_store_blk 32 (.tmp 2) (.tmp 276) rfl I (Array.replicate 32 (.int .u8 0)) cs.toArray 32 rfl rfl hR.out.id h32 (by simp [hcl]) (by rw [hcs, List.all_toArray, List.all_eq_true]; exact bc_one _) ?_
                  rw [← hw5]
                  refine hK6 _ _ (wpList_nil ?_)
                  have H32 := Lib.hid h32
                  clear hw5 hcs hj h32 hcl hJ hR
                  go_wp2_with fail
                  refine bodyPost_ret (results_cell_row (fn := Try.f11) rfl _ _ I 32 cs.toArray (0, 0) _ rfl HB5.out Try.underlying32 rfl H32.out) rfl ⟨by rw [HRES.out], HW5.out⟩
    · have h56 : ¬ (n : Int) % 64 = 56 := fun e => hkz (hz.1 (by omega))
      have hb0 := bs1_22 wr 0
      have HN := Lib.hid hn
      have HK : Hid (k < zn l.length) := Lib.hid (by omega)
      have hN2 : (msgN l k).length ≤ 100000 := by rw [msgN_len]; have := HL.out; omega
      obtain ⟨v6, w6, hr6, ho6, hg6⟩ := app_byte wr w.heap.size (.slice A5 n c5) (msgN l k) 0 hO.out hN2 hR.out.bel.size
      have HR6 := Lib.hid hr6
      have R6 : Hid (Rs w w6 I H K iv) := Lib.hid ((hR.out.below ((Below.refl _ _).alloc (Nat.le_refl _) (.cells #[.int .u8 0] 5))).grown (hO.out.alloc _) hg6)
      rw [← msgN_snoc] at ho6
      have hln : (msgN l (k + 1)).length = n + 1 := by rw [msgN_len]; omega
      obtain ⟨A6, c6, rfl⟩ := own_form ho6
      rw [hln] at ho6 HR6
      have O6 := Lib.hid ho6
      clear hz hn hk hkz hzl hN2 hr6 hg6 ho6 hln
      go_wp2_with (refine Lib.wpList_append_run (o := ⟨some 38, _, _, _, _, _⟩) _ rfl _ _ _ _ rfl _ _ rfl rfl _ _ (HR6.out _) ?_)
      go_roundw
      case rel => exact ⟨k + 1, n + 1, c6, A6, rfl, by have := HN.out; omega, HK.out, O6, R6⟩
      case measure => have := HN.out; have := HK.out; simp; omega
end Go.Proofs.Ytpkikibcfkdodaa
