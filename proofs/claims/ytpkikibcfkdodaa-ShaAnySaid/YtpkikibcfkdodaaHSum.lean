/-
  sha.Sum.
-/
import Derived.Test.YtpkikibcfkdodaaHWords
import Derived.Test.YtpkikibcfkdodaaHBlk
import Derived.Deep.DeepCutAuto
import Derived.Deep.CutBlock
namespace Go.Proofs.Ytpkikibcfkdodaa
open Go Go.RowKit
theorem store60 (W : World) : (storeCells ⟨W.heap.size, 0, none⟩ iv.cells.toList 0).run Try.prog (W.alloc (.cells #[.int .u32 0, .int .u32 0, .int .u32 0, .int .u32 0, .int .u32 0, .int .u32 0, .int .u32 0, .int .u32 0] 60)) = .ok () (W.alloc (.cells iv.cells 60)) := run_storeCells_new W 60 _ iv.cells (by kernel_rfl) (by kernel_rfl) (by kernel_rfl)
theorem store62 (W : World) : (storeCells ⟨W.heap.size, 0, none⟩ kcells.toList 0).run Try.prog (W.alloc (.cells #[.int .u32 0, .int .u32 0, .int .u32 0, .int .u32 0, .int .u32 0, .int .u32 0, .int .u32 0, .int .u32 0, .int .u32 0, .int .u32 0, .int .u32 0, .int .u32 0, .int .u32 0, .int .u32 0, .int .u32 0, .int .u32 0, .int .u32 0, .int .u32 0, .int .u32 0, .int .u32 0, .int .u32 0, .int .u32 0, .int .u32 0, .int .u32 0, .int .u32 0, .int .u32 0, .int .u32 0, .int .u32 0, .int .u32 0, .int .u32 0, .int .u32 0, .int .u32 0, .int .u32 0, .int .u32 0, .int .u32 0, .int .u32 0, .int .u32 0, .int .u32 0, .int .u32 0, .int .u32 0, .int .u32 0, .int .u32 0, .int .u32 0, .int .u32 0, .int .u32 0, .int .u32 0, .int .u32 0, .int .u32 0, .int .u32 0, .int .u32 0, .int .u32 0, .int .u32 0, .int .u32 0, .int .u32 0, .int .u32 0, .int .u32 0, .int .u32 0, .int .u32 0, .int .u32 0, .int .u32 0, .int .u32 0, .int .u32 0, .int .u32 0, .int .u32 0] 62)) = .ok () (W.alloc (.cells kcells 62)) := run_storeCells_new W 62 zcells kcells (by kernel_rfl) (by kernel_rfl) (by kernel_rfl)
theorem wp_load_blk {op : Oper} {a : Act} {w : World} {K : Act → World → Prop} {Q : Exit → Act → World → Prop} (ty : TypeId) (x : Operand) (ho : op.op = .load ty x)
    (g : Nat) (cs : Array Value) (t n e : Nat) (hx : a.eval x = .pointer (some ⟨g, 0, none⟩)) (hg : Blk w g t cs)
    (hu : Try.prog.underlying ty = some (.array n e)) (hi : (Try.prog.info? ty).map (·.size) = some cs.size)
    (h : K (a.put op.dst (.agg cs)) w) : op.wp Try.prog a w K Q := by
  have e := run_loadVar_row (P := Try.prog) w g t ty cs (0, 0) _ hg hu rfl hi
  unfold Oper.wp execOp
  simp only [ho, hx, Instr.loadAt, Instr.sureAddr, Sem.run_bind, Sem.run_pure, Result.andThen_ok, e]
  exact h
theorem wp_store_blk {op : Oper} {a : Act} {w : World} {K : Act → World → Prop} {Q : Exit → Act → World → Prop} (ty : TypeId) (x y : Operand) (ho : op.op = .store ty x y)
    (g : Nat) (old cs : Array Value) (t : TypeId) (hx : a.eval x = .pointer (some ⟨g, 0, none⟩)) (hy : a.eval y = .agg cs) (hg : Blk w g t old)
    (hi : (Try.prog.info? ty).map (·.size) = some cs.size) (hs : old.size = cs.size) (h1 : cs.all (·.oneCell') = true)
    (h : K (a.put op.dst undef) (w.setRow g cs)) : op.wp Try.prog a w K Q := by
  have e := run_storeVar_row (P := Try.prog) w g t ty old cs hg hi hs h1
  unfold Oper.wp execOp
  simp only [ho, hx, hy, Instr.storeAt, Instr.sureAddr, Sem.run_bind, Sem.run_pure, Result.andThen_ok, e]
  exact h
/-- Where a row's bytes stand. -/
def RD (w : World) (sp : Option Addr) (l : List UInt8) : Prop := 0 < l.length → ∃ g o, sp = some ⟨g, o, none⟩ ∧ Reads4 w g o l
theorem Reads4.lt {w : World} {g o : Nat} {l : List UInt8} (h : Reads4 w g o l) (hl : 0 < l.length) : g < w.heap.size := by
  have := h 0 _ (List.getElem?_eq_getElem hl)
  exact World.block_lt_of_cell? w ⟨g, o + 0, none⟩ (by rw [this])
theorem Reads4.below {w w' : World} {B g o : Nat} {l : List UInt8} (h : Reads4 w g o l) (hb : Below B w w') (hg : g < B) : Reads4 w' g o l := fun j b hj => by
  have h0 := h j b hj
  have := hb.block g hg
  simp only [World.cell?, this]
  exact h0
theorem Reads4.drop {w : World} {g o : Nat} {l : List UInt8} (h : Reads4 w g o l) (k : Nat) : Reads4 w g (o + k) (l.drop k) := fun j b hj => by
  rw [List.getElem?_drop] at hj
  have := h _ b hj
  rwa [show o + k + j = o + (k + j) by omega]
theorem Reads4.take {w : World} {g o : Nat} {l : List UInt8} (h : Reads4 w g o l) (k : Nat) : Reads4 w g o (l.take k) := fun j b hj => by
  rw [List.getElem?_take] at hj
  split at hj
  · exact h _ b hj
  · cases hj
/-- What stands while the sum is made. -/
structure Sm (w wr : World) (I H K : Nat) (s : St8) : Prop where
  id : Blk wr I 25 (Array.replicate 32 (.int .u8 0))
  h : Blk wr H 60 s.cells
  k : Blk wr K 62 kcells
  ok : s.ok
  bel : Below w.heap.size w wr
  lo : w.heap.size ≤ H
  lo2 : w.heap.size ≤ I
theorem Sm.touch {w wr w' : World} {I H K : Nat} {s s' : St8} (h : Sm w wr I H K s) (ht : Touch wr w' H none) (hb : Blk w' H 60 s'.cells) (ho : s'.ok) : Sm w w' I H K s' :=
  ⟨ht.blk h.id (h.id.ne_ h.h (by decide)) (by simp), hb, ht.blk h.k (h.k.ne_ h.h (by decide)) (by simp), ho, h.bel.trans (ht.below (Nat.le_trans h.bel.size (Nat.le_refl _)) h.lo (by simp)), h.lo, h.lo2⟩
theorem Sm.below {w wr w' : World} {I H K : Nat} {s : St8} (h : Sm w wr I H K s) (hb : Below wr.heap.size wr w') : Sm w w' I H K s :=
  ⟨h.id.below hb h.id.lt, h.h.below hb h.h.lt, h.k.below hb h.k.lt, h.ok, h.bel.trans (hb.mono h.bel.size), h.lo, h.lo2⟩
theorem hashN_succ (s : St8) (l : List UInt8) (n : Nat) : hashN s l (n + 1) = blockF (hashN s l n) kw ((l.drop (64 * n)).take 64) := rfl
/-- The first i words of the sum in their bytes; 0 behind them. -/
def idRow (s : St8) (i : Nat) : List UInt8 := (idOf s).take (4 * i) ++ zer (32 - 4 * i)
def put4 (cs : Array Value) (i : Nat) (x : Nat) : Array Value :=
  (((cs.setIfInBounds (4 * i) (.int .u8 (UInt8.ofNat (x / 16777216)).toNat)).setIfInBounds (4 * i + 1) (.int .u8 (UInt8.ofNat (x / 65536)).toNat)).setIfInBounds (4 * i + 2) (.int .u8 (UInt8.ofNat (x / 256)).toNat)).setIfInBounds (4 * i + 3) (.int .u8 (UInt8.ofNat x).toNat)
theorem put4_row (s : St8) : ∀ i, i < 8 → put4 (bc (idRow s i)).toArray i (at0 s.list i) = (bc (idRow s (i + 1))).toArray
  | 0, _ => by kernel_rfl
  | 1, _ => by kernel_rfl
  | 2, _ => by kernel_rfl
  | 3, _ => by kernel_rfl
  | 4, _ => by kernel_rfl
  | 5, _ => by kernel_rfl
  | 6, _ => by kernel_rfl
  | 7, _ => by kernel_rfl
  | n + 8, h => absurd h (by omega)
theorem bc_len (l : List UInt8) : (bc l).length = l.length := by simp [Lib.byteCells]
theorem idRow_len (s : St8) (i : Nat) (h : 4 * i ≤ 32) : (idRow s i).length = 32 := by
  have h1 : (idOf s).length = 32 := by kernel_rfl
  unfold idRow zer
  simp [h1]; omega
theorem run_index8 (s : St8) (w : World) : ∀ i : Nat, i < 8 → (Instr.index 60 (.agg #[.int .u32 s.a, .int .u32 s.b, .int .u32 s.c, .int .u32 s.d, .int .u32 s.e, .int .u32 s.f, .int .u32 s.g, .int .u32 s.h]) (.int .i64 (i : Int))).run Try.prog w = .ok (.int .u32 (at0 s.list i)) w
  | 0, _ => by kernel_rfl
  | 1, _ => by kernel_rfl
  | 2, _ => by kernel_rfl
  | 3, _ => by kernel_rfl
  | 4, _ => by kernel_rfl
  | 5, _ => by kernel_rfl
  | 6, _ => by kernel_rfl
  | 7, _ => by kernel_rfl
  | n + 8, h => absurd h (by omega)
theorem u8_of (x : Nat) (k : Nat) : ((x : Int) / (k : Int)) % 256 = ((UInt8.ofNat (x / k)).toNat : Int) := by
  rw [UInt8.toNat_ofNat']; omega
set_option maxRecDepth 100000 in
set_option maxHeartbeats 40000000 in
theorem sum_any (w : World) (sp : Option Addr) (l : List UInt8) (c : Nat) (hn : l.length < 9223372036854775808) (hlc : l.length ≤ c)
    (hs : RD w sp l) :
    Calls Try.prog 8 #[.slice sp l.length c] w fun e w' => e = .returned (.agg (bc (sumF l)).toArray) ∧ Below w.heap.size w w' := by
  have HS := Lib.hid hs
  have HN := Lib.hid hn
  have HC := Lib.hid hlc
  clear hs hn hlc
  go_enter Try.func8, Try.ntmps8
  go_upto_region 1 with fail
  have A0 := (Below.refl w.heap.size w).alloc (Nat.le_refl _) (.cells (Array.replicate 32 (.int .u8 0)) 25)
  have I0 : Blk (w.alloc (.cells (Array.replicate 32 (.int .u8 0)) 25)) w.heap.size 25 (Array.replicate 32 (.int .u8 0)) := Blk.new _ _ _
  have hs60 := store60
  have hs62 := store62
  have ST := Lib.hid fun W => start_any W
  have WT := Lib.hid fun W => words_any W
  go_upto_region 3 with (first | (go_at_call 28; refine (ST.out _).mono ?_; rintro e w1 ⟨rfl, hb1⟩) | (go_at_call 29; refine (WT.out _).mono ?_; rintro e w2 ⟨rfl, hb2⟩))
  have SM0 : Sm w (w2.alloc (.cells kcells 62)) w.heap.size w1.heap.size w2.heap.size iv := by
    have i1 := I0.below hb1 I0.lt
    have h1 := (Blk.new w1 60 iv.cells).below hb2 (Blk.new w1 60 iv.cells).lt
    have i2 := (i1.alloc (.cells iv.cells 60)).below hb2 (i1.alloc (.cells iv.cells 60)).lt
    have b1 : Below w.heap.size w w1 := A0.trans (hb1.mono A0.size)
    have b2 : Below w.heap.size w w2 := (b1.alloc b1.size _).trans (hb2.mono (b1.alloc b1.size _).size)
    exact ⟨i2.alloc _, h1.alloc _, Blk.new w2 62 kcells, iv_ok, b2.alloc b2.size _, b1.size, Nat.le_refl _⟩
  obtain ⟨Wk, hWk⟩ : ∃ W, W = w2.alloc (.cells kcells 62) := ⟨_, rfl⟩
  obtain ⟨I, hI⟩ : ∃ I, I = w.heap.size := ⟨_, rfl⟩
  obtain ⟨H, hH⟩ : ∃ H, H = w1.heap.size := ⟨_, rfl⟩
  obtain ⟨K, hK⟩ : ∃ K, K = w2.heap.size := ⟨_, rfl⟩
  rw [← hWk, ← hH, ← hK] at SM0
  rw [← hWk, ← hI, ← hH, ← hK]
  have SM1 : Hid (Sm w Wk I H K (hashN iv l 0)) := Lib.hid (by rw [hI]; exact SM0)
  have HI := Lib.hid hI
  clear hWk hI hH hK hb1 hb2 A0 I0 SM0 hs60 hs62
  go_wp2_with fail
  go_loopw [5] (fun s5 wr => ∃ i n c' : Nat, ∃ sp', s5 = .slice sp' n c' ∧ n + 64 * i = l.length ∧ n ≤ c' ∧ Hid (RD w sp' (l.drop (64 * i))) ∧ Hid (Sm w wr I H K (hashN iv l i))) (fun s5 _ => match s5 with | .slice _ n _ => n | _ => 0)
  case atStart => exact ⟨0, l.length, c, sp, rfl, by omega, HC.out, Lib.hid (by simpa using HS.out), SM1⟩
  case round =>
    obtain ⟨i, n, c', sp', rfl, hni, hnc, hrd, hsm⟩ := hrel
    have n0 : (0 : Int) ≤ (n : Int) := Int.natCast_nonneg _
    have n1 : (n : Int) ≤ (c' : Int) := by omega
    have HNI := Lib.hid hni
    have HNC := Lib.hid hnc
    clear hni hnc
    by_cases hge : 64 ≤ n
    · have n2 : (64 : Int) ≤ (n : Int) := by omega
      have n3 : (64 : Int) ≤ (c' : Int) := by omega
      obtain ⟨g, o, rfl, hrr⟩ := hrd.out (by have := HNI.out; simp; omega)
      have HG := Lib.hid hge
      have HR := Lib.hid hrr
      clear hge hrr
      go_upto_region 6 with (go_at_call 30; refine (block_any _ _ _ _ _ _ (hashN iv l i) kw ((l.drop (64 * i)).take 64) hsm.out.h hsm.out.k hsm.out.ok kw_len kw_words (by have := HNI.out; have := HG.out; simp; omega) ((HR.out.take 64).below hsm.out.bel (HR.out.lt (by have := HNI.out; have := HG.out; simp; omega))) (Nat.lt_of_lt_of_le (HR.out.lt (by have := HNI.out; have := HG.out; simp; omega)) hsm.out.bel.size)).mono ?_; rintro e w3 ⟨rfl, hb3, ht3⟩)
      have SM2 : Hid (Sm w w3 I H K (hashN iv l (i + 1))) := Lib.hid (hsm.out.touch ht3 hb3 (hashN_ok iv_ok l (i + 1)))
      clear hsm ht3 hb3
      by_cases hc64 : c' = 64
      · obtain rfl : n = 64 := by have := HNC.out; have := HG.out; omega
        subst hc64
        go_wp2_with fail
        go_roundw
        case rel => exact ⟨i + 1, 0, 0, _, rfl, by have := HNI.out; omega, Nat.le_refl _, Lib.hid (fun h => absurd h (by have := HNI.out; simp; omega)), SM2⟩
        case measure => simp
      · have hcx : 64 < c' := by have := HNC.out; have := HG.out; omega
        have hcy : (64 : Int) < (c' : Int) := by omega
        go_wp2_with fail
        go_roundw
        case rel => exact ⟨i + 1, n - 64, c' - 64, _, rfl, by have := HNI.out; have := HG.out; omega, by have := HNC.out; omega, Lib.hid (fun h => ⟨g, o + 64, rfl, by have h2 := HR.out.drop 64; rw [List.drop_drop, show 64 * i + 64 = 64 * (i + 1) by omega] at h2; exact h2⟩), SM2⟩
        case measure => have := HG.out; simp; omega
    · have n4 : (n : Int) < 64 := by omega
      have HG := Lib.hid hge
      have hq : l.length / 64 = i := by have := HNI.out; omega
      obtain ⟨t, ht⟩ : ∃ t, t = l.drop (64 * i) := ⟨_, rfl⟩
      have htl : t.length = n := by have := HNI.out; rw [ht]; simp; omega
      have HT := Lib.hid ht
      have HQ := Lib.hid hq
      have hrd' : Hid (RD w sp' t) := Lib.hid (by rw [ht]; exact hrd.out)
      have HS1 : Hid (sumS l = hashN (hashN iv l i) (padF t l.length) (sizeF t.length / 64)) := Lib.hid (by unfold sumS; rw [hq, ← ht])
      clear ht hrd hq hge
      subst htl
      obtain ⟨s1, hs1⟩ : ∃ s1, s1 = hashN iv l i := ⟨_, rfl⟩
      have HS1' := Lib.hid hs1
      rw [← hs1] at hsm
      rw [← hs1] at HS1
      clear hs1
      have HP : Hid (0 < t.length → ∃ ad, sp' = some ad ∧ ∀ j v, (bc t)[j]? = some v → wr.cell? (ad.add j) = some v) := Lib.hid (fun h => by
        obtain ⟨g, o, e, hr⟩ := hrd'.out h
        have hr2 := hr.below hsm.out.bel (hr.lt h)
        refine ⟨_, e, fun j v hj => ?_⟩
        have hj2 : (bc t)[j]? = (t[j]?).map fun b : UInt8 => (Value.int .u8 b.toNat) := List.getElem?_map ..
        rw [hj2] at hj
        cases e2 : t[j]? with
        | none => rw [e2] at hj; cases hj
        | some b =>
          rw [e2] at hj
          injection hj with hj
          rw [← hj, ← hr2 j b e2]
          unfold Addr.add
          split
          · next h => rw [h]; rfl
          · rfl)
      go_upto_region 8 with (go_at_call 31; refine (padded_any _ _ t c' l.length (by have := HG.out; omega) HN.out HP.out).mono ?_; rintro e w3 ⟨rfl, hp3, hb3⟩)
      have SM3 := hsm.out.below hb3
      have hTl : wr.heap.size < w3.heap.size := hp3.lt
      obtain ⟨T, hT⟩ : ∃ T, T = wr.heap.size := ⟨_, rfl⟩
      have hTw : w.heap.size ≤ T := by rw [hT]; exact hsm.out.bel.size
      rw [← hT] at hp3
      rw [← hT]
      have hsz : sizeF t.length = 64 ∨ sizeF t.length = 128 := by unfold sizeF; split <;> simp
      obtain ⟨P, hP⟩ : ∃ P, P = padF t l.length := ⟨_, rfl⟩
      obtain ⟨z, hz⟩ : ∃ z, z = sizeF t.length := ⟨_, rfl⟩
      have hPz : P.length = z := by
        rw [hP, hz]; unfold padF
        have := HG.out
        exact rowP_len (by unfold sizeF; split <;> omega)
      rw [← hP] at hp3
      rw [← hP, ← hz] at HS1
      rw [← hz] at hsz
      rw [← hz]
      have HPZ := Lib.hid hPz
      have HP3 := Lib.hid hp3
      have SM4 : Hid (Sm w w3 I H K (hashN s1 P 0)) := Lib.hid SM3
      have HSZ := Lib.hid hsz
      have HTW := Lib.hid hTw
      clear hp3 hb3 SM3 hTl hT hsm HP hrd' hP hz hPz hsz hTw
      go_wp2_with fail
      go_loopw [6] (fun s6 wr => ∃ i n : Nat, ∃ sp', s6 = .slice sp' n n ∧ n + 64 * i = z ∧ (0 < n → sp' = some ⟨T, 64 * i, none⟩) ∧ Hid (Blk wr T 5 (bc P).toArray) ∧ Hid (Sm w wr I H K (hashN s1 P i))) (fun s6 _ => match s6 with | .slice _ n _ => n | _ => 0)
      case atStart => exact ⟨0, z, _, rfl, by omega, fun _ => rfl, HP3, SM4⟩
      case round =>
        clear HP3 SM4
        obtain ⟨i, n, sp2, rfl, hni, hsp, hbP, hsm⟩ := hrel
        have n0 : (0 : Int) ≤ (n : Int) := Int.natCast_nonneg _
        by_cases hge : 0 < n
        · obtain rfl := hsp hge
          have n2 : (0 : Int) < (n : Int) := by omega
          have n3 : 64 ≤ n := by have := HSZ.out; omega
          have n4 : (64 : Int) ≤ (n : Int) := by omega
          have HNI := Lib.hid hni
          have HRR : Hid (Reads4 wr T (64 * i) ((P.drop (64 * i)).take 64)) := Lib.hid (by
            have h0 : Reads4 wr T 0 P := fun j b hj => by
              rw [hbP.out.cell, List.getElem?_toArray, Nat.zero_add]
              exact bc_at hj
            have h2 := (h0.drop (64 * i)).take 64
            rwa [Nat.zero_add] at h2)
          have HLL : Hid (((P.drop (64 * i)).take 64).length = 64) := Lib.hid (by have := HPZ.out; simp; omega)
          clear hsp hge hni n3
          go_upto_region 10 with (go_at_call 30; refine (block_any _ _ _ _ _ _ (hashN s1 P i) kw ((P.drop (64 * i)).take 64) hsm.out.h hsm.out.k hsm.out.ok kw_len kw_words HLL.out HRR.out hbP.out.lt).mono ?_; rintro e w4 ⟨rfl, hb4, ht4⟩)
          have SM5 : Hid (Sm w w4 I H K (hashN s1 P (i + 1))) := Lib.hid (hsm.out.touch ht4 hb4 (plus8_ok _ _))
          have BP5 : Hid (Blk w4 T 5 (bc P).toArray) := Lib.hid (ht4.blk hbP.out (hbP.out.ne_ hsm.out.h (by decide)) (by simp))
          clear hsm ht4 hb4 hbP HRR HLL
          by_cases hn64 : n = 64
          · subst hn64
            go_wp2_with fail
            go_roundw
            case rel => exact ⟨i + 1, 0, _, rfl, by have := HNI.out; omega, fun h => absurd h (by omega), BP5, SM5⟩
            case measure => simp
          · have n5 : (64 : Int) < (n : Int) := by omega
            have HN6 : Hid (64 < n) := Lib.hid (by omega)
            clear hn64
            go_wp2_with fail
            go_roundw
            case rel => exact ⟨i + 1, n - 64, _, rfl, by have := HNI.out; have := HN6.out; omega, fun _ => rfl, BP5, SM5⟩
            case measure => have := HN6.out; simp; omega
        · obtain rfl : n = 0 := by omega
          have hzi : z / 64 = i := by omega
          have HSS : Hid (sumS l = hashN s1 P i) := Lib.hid (by rw [HS1.out, hzi])
          obtain ⟨s2, hs2⟩ : ∃ s, s = hashN s1 P i := ⟨_, rfl⟩
          rw [← hs2] at HSS hsm
          clear hs2 hzi hsp hni hge hbP
          obtain ⟨Wj, hWj⟩ : ∃ W, W = wr.alloc (.cells (Array.replicate 32 (.int .u8 0)) 25) := ⟨_, rfl⟩
          obtain ⟨J, hJ⟩ : ∃ J, J = wr.heap.size := ⟨_, rfl⟩
          go_upto_region 12 with fail
          have SM6 : Sm w Wj I H K s2 := by rw [hWj]; exact hsm.out.below ((Below.refl _ _).alloc (Nat.le_refl _) _)
          have J6 : Blk Wj J 25 (bc (idRow s2 0)).toArray := by rw [hWj, hJ]; exact Blk.new wr 25 _
          show Code.wp Try.prog _ _ _ (wr.alloc (.cells (Array.replicate 32 (.int .u8 0)) 25))
          rw [← hWj, ← hJ]
          have hx0 := (SM6.h.cell 0).trans (show _ = some (Value.int .u32 s2.a) from rfl)
          have hx1 := (SM6.h.cell 1).trans (show _ = some (Value.int .u32 s2.b) from rfl)
          have hx2 := (SM6.h.cell 2).trans (show _ = some (Value.int .u32 s2.c) from rfl)
          have hx3 := (SM6.h.cell 3).trans (show _ = some (Value.int .u32 s2.d) from rfl)
          have hx4 := (SM6.h.cell 4).trans (show _ = some (Value.int .u32 s2.e) from rfl)
          have hx5 := (SM6.h.cell 5).trans (show _ = some (Value.int .u32 s2.f) from rfl)
          have hx6 := (SM6.h.cell 6).trans (show _ = some (Value.int .u32 s2.g) from rfl)
          have hx7 := (SM6.h.cell 7).trans (show _ = some (Value.int .u32 s2.h) from rfl)
          have J7 := Lib.hid J6
          have SM7 := Lib.hid SM6
          have HWJ : Hid (w.heap.size ≤ J) := Lib.hid (by rw [hJ]; exact hsm.out.bel.size)
          have HIJ : Hid (I ≠ J) := Lib.hid (by have := hsm.out.id.lt; omega)
          clear hWj hJ hsm J6 SM6
          go_wp2_with fail
          clear hx0 hx1 hx2 hx3 hx4 hx5 hx6 hx7
          go_loopw [34] (fun s34 wr => ∃ i : Nat, s34 = .int .i64 i ∧ i ≤ 8 ∧ Hid (Blk wr J 25 (bc (idRow s2 i)).toArray) ∧ Hid (Sm w wr I H K s2)) (fun s34 _ => 8 - (intOf s34).toNat)
          case atStart => exact ⟨0, rfl, by omega, J7, SM7⟩
          case round =>
            clear J7 SM7
            obtain ⟨i, rfl, hi, hb, hsm⟩ := hrel
            have i0 : (0 : Int) ≤ (i : Int) := Int.natCast_nonneg _
            by_cases hlt : i < 8
            · have i1 : (i : Int) < 8 := by omega
              have hidx := run_index8 s2 wr i hlt
              have hx := hsm.out.ok
              obtain ⟨p0, hp0⟩ : ∃ p, p = 4 * i := ⟨_, rfl⟩
              obtain ⟨p1, hp1⟩ : ∃ p, p = 4 * i + 1 := ⟨_, rfl⟩
              obtain ⟨p2, hp2⟩ : ∃ p, p = 4 * i + 2 := ⟨_, rfl⟩
              obtain ⟨p3, hp3⟩ : ∃ p, p = 4 * i + 3 := ⟨_, rfl⟩
              have e0 : IntKind.i64.wrap (4 * (i : Int)) = (p0 : Int) := by rw [IntKind.wrap_i64]; omega
              have e1 : IntKind.i64.wrap ((p0 : Int) + 1) = (p1 : Int) := by rw [IntKind.wrap_i64]; omega
              have e2 : IntKind.i64.wrap ((p0 : Int) + 2) = (p2 : Int) := by rw [IntKind.wrap_i64]; omega
              have e3 : IntKind.i64.wrap ((p0 : Int) + 3) = (p3 : Int) := by rw [IntKind.wrap_i64]; omega
              have q0 : (p0 : Int) < 32 := by omega
              have q1 : (p1 : Int) < 32 := by omega
              have q2 : (p2 : Int) < 32 := by omega
              have q3 : (p3 : Int) < 32 := by omega
              have hlen := idRow_len s2 i (by omega)
              have cell : ∀ p, p < 32 → ∃ b : Int, wr.cell? ⟨J, p, none⟩ = some (.int .u8 b) := fun p hp => ⟨((idRow s2 i)[p]).toNat, by
                rw [hb.out.cell, List.getElem?_toArray]
                exact bc_at (List.getElem?_eq_getElem (by omega))⟩
              obtain ⟨b0, x0⟩ := cell p0 (by omega)
              obtain ⟨b1, x1⟩ := cell p1 (by omega)
              obtain ⟨b2, x2⟩ := cell p2 (by omega)
              obtain ⟨b3, x3⟩ := cell p3 (by omega)
              have f0 := hb.out.frozen p0
              have f1 := hb.out.frozen p1
              have f2 := hb.out.frozen p2
              have f3 := hb.out.frozen p3
              have HSET := Lib.hid (put4_row s2 i hlt)
              have n01 : ¬ p0 = p1 := by omega
              have n02 : ¬ p0 = p2 := by omega
              have n03 : ¬ p0 = p3 := by omega
              have n10 : ¬ p1 = p0 := by omega
              have n12 : ¬ p1 = p2 := by omega
              have n13 : ¬ p1 = p3 := by omega
              have n20 : ¬ p2 = p0 := by omega
              have n21 : ¬ p2 = p1 := by omega
              have n23 : ¬ p2 = p3 := by omega
              have n30 : ¬ p3 = p0 := by omega
              have n31 : ¬ p3 = p1 := by omega
              have n32 : ¬ p3 = p2 := by omega
              have HP0 := Lib.hid hp0
              have HP1 := Lib.hid hp1
              have HP2 := Lib.hid hp2
              have HP3 := Lib.hid hp3
              have hxl : at0 s2.list i < M32 := by
                obtain ⟨h1, h2, h3, h4, h5, h6, h7, h8⟩ := hx
                refine Words.at (l := s2.list) ?_ i
                intro y hy
                simp only [St8.list, List.mem_cons, List.not_mem_nil, or_false] at hy
                rcases hy with rfl | rfl | rfl | rfl | rfl | rfl | rfl | rfl <;> assumption
              obtain ⟨x, hx2⟩ : ∃ x, x = at0 s2.list i := ⟨_, rfl⟩
              rw [← hx2] at hidx HSET hxl
              have x00 : (0 : Int) ≤ (x : Int) := Int.natCast_nonneg _
              have x01 : (x : Int) < 4294967296 := by have h : x < 4294967296 := hxl; omega
              clear hx cell hp0 hp1 hp2 hp3 hlen hx2 hxl
              go_upto_region 15 with fail
              clear hidx
              go_wp2_with fail
              have y0 : ((x : Int) / 16777216) = ((UInt8.ofNat (x / 16777216)).toNat : Int) := by rw [UInt8.toNat_ofNat']; omega
              have y1 : ((x : Int) / 65536) % 256 = ((UInt8.ofNat (x / 65536)).toNat : Int) := u8_of x 65536
              have y2 : ((x : Int) / 256) % 256 = ((UInt8.ofNat (x / 256)).toNat : Int) := u8_of x 256
              have y3 : (x : Int) % 256 = ((UInt8.ofNat x).toNat : Int) := by rw [UInt8.toNat_ofNat']; omega
              rw [y0, y1, y2, y3]
              go_roundw
              case rel =>
                refine ⟨i + 1, by go_num, hlt, Lib.hid ?_, Lib.hid ?_⟩
                · rw [← HSET.out]
                  unfold put4
                  rw [HP0.out, HP1.out, HP2.out, HP3.out]
                  exact (((hb.out.set_ _ _).set_ _ _).set_ _ _).set_ _ _
                · have hJ := HWJ.out
                  have hJI : I ≠ J := HIJ.out
                  have hJH : H ≠ J := hsm.out.h.ne_ hb.out (by decide)
                  have hJK : K ≠ J := hsm.out.k.ne_ hb.out (by decide)
                  exact ⟨(((hsm.out.id.far hJI _).far hJI _).far hJI _).far hJI _, (((hsm.out.h.far hJH _).far hJH _).far hJH _).far hJH _, (((hsm.out.k.far hJK _).far hJK _).far hJK _).far hJK _, hsm.out.ok, (((hsm.out.bel.setCell hJ _).setCell hJ _).setCell hJ _).setCell hJ _, hsm.out.lo, hsm.out.lo2⟩
              case measure => simp [intOf]; omega
            · obtain rfl : i = 8 := by omega
              have hR : idRow s2 8 = sumF l := by unfold sumF; rw [HSS.out]; kernel_rfl
              rw [hR] at hb
              obtain ⟨cs, hcs⟩ : ∃ cs, cs = bc (sumF l) := ⟨_, rfl⟩
              have hcl : cs.length = 32 := by rw [hcs, bc_len, ← hR]; exact idRow_len s2 8 (by omega)
              rw [← hcs] at hb
              obtain ⟨w5, hw5⟩ : ∃ w5, w5 = wr.setRow I cs.toArray := ⟨_, rfl⟩
              have HB5 : Hid (Blk w5 I 25 cs.toArray) := Lib.hid (by rw [hw5]; exact setRow_heap wr I _ _ 25 _ hsm.out.id)
              have HW5 : Hid (Below w.heap.size w w5) := Lib.hid (by rw [hw5]; exact below_setRow hsm.out.bel hsm.out.lo2 _)
              have h25 : (Try.prog.info? 25).map (·.size) = some cs.toArray.size := by rw [List.size_toArray, hcl]; kernel_rfl
              go_upto_region 17 with fail
              refine wp_region_lit ?_
              refine wpList_plain rfl fun K5 hK5 => ?_
              refine wp_load_blk 25 (.tmp 7) rfl J cs.toArray 25 _ _ rfl hb.out Try.underlying25 h25 ?_
              refine hK5 _ _ ?_
              refine wpList_plain rfl fun K6 hK6 => ?_
              refine wp_store_blk 25 (.tmp 2) (.tmp 65) rfl I (Array.replicate 32 (.int .u8 0)) cs.toArray 25 rfl rfl hsm.out.id h25 (by simp [hcl]) (by rw [hcs, List.all_toArray, List.all_eq_true]; exact bc_one _) ?_
              rw [← hw5]
              refine hK6 _ _ (wpList_nil ?_)
              have HCS := Lib.hid hcs
              have H25 := Lib.hid h25
              clear hw5 hcs hb hR h25 hcl
              go_wp2_with fail
              refine bodyPost_ret (results_cell_row (fn := Try.f8) rfl _ _ I 25 cs.toArray (0, 0) _ rfl HB5.out Try.underlying25 rfl H25.out) rfl ⟨by rw [HCS.out], HW5.out⟩
end Go.Proofs.Ytpkikibcfkdodaa
