/-
  diff.Lines: the edits.
-/
import Derived.Test.YtdpoeagmeiedcaaDoorCheck
import Derived.Test.YtdpoeagmeiedcaaDoorNext
import Derived.Test.YtdpoeagmeiedcaaDoorNextElse
import Derived.Deep.AppendLies
namespace Go.Proofs.YtdpoeagmeiedcaaDoor
open Go.RowKit

theorem ed_len {α : Type} [DecidableEq α] (xs : List α) : ∀ ys : List α, (ed xs ys).length ≤ xs.length + ys.length := by
  induction xs with
  | nil => intro ys; simp [ed]
  | cons x xs ih =>
    intro ys
    induction ys with
    | nil => rw [ed_cons_nil]; have := ih []; simp at *; omega
    | cons y ys ih2 =>
      rw [ed_cons]
      have h1 := ih ys
      have h2 := ih (y :: ys)
      simp only [List.length_cons] at *
      split
      · simp only [List.length_cons]; omega
      · split <;> simp only [List.length_cons] <;> omega

/-- Edits as they lie in memory: two cells each. -/
def edCells (l : List (Nat × ByteArray)) : List Value := l.flatMap fun e => [.int .i64 (e.1 : Int), .string e.2]

theorem edCells_snoc (l : List (Nat × ByteArray)) (k : Nat) (s : ByteArray) : edCells (l ++ [(k, s)]) = edCells l ++ [.int .i64 (k : Int), .string s] := by simp [edCells]

theorem editInfo : (Tryd.prog.info? 66).map (fun i => (i.zero, i.size, i.bytes)) = some (some (.agg #[.int .i64 0, .string ⟨#[]⟩]), 2, 24) := by kernel_rfl

/-- The edits come back in a row of the call's own. -/
def Edited (w : World) (l : List (Nat × ByteArray)) (e : Ending) (w' : World) : Prop :=
  ∃ v, e = .returned (.tuple #[v, .nilIface]) ∧ w'.ownsRow w.heap.size 66 2 v l.length (edCells l) ∧ Below w.heap.size w w'

theorem own2_le {w : World} {base base' n k : Nat} {e : TypeId} {v : Value} {xs : List Value} (h : w.ownsRow base e k v n xs) (hb : base' ≤ base) : w.ownsRow base' e k v n xs := by
  refine ⟨h.1, ?_⟩
  rcases h.2 with h2 | ⟨g, cap, cur, hv, hg, r⟩
  · exact .inl h2
  · exact .inr ⟨g, cap, cur, hv, Nat.le_trans hb hg, r⟩

theorem own2_keep {w w' : World} {base k : Nat} {e : TypeId} {v : Value} {n : Nat} {xs : List Value} (h : w.ownsRow base e k v n xs) (hb : Below w.heap.size w w') : w'.ownsRow base e k v n xs :=
  h.kept (row := none) ⟨hb.os, hb.tape, hb.output, hb.size, fun k hk _ => hb.block k hk⟩ (by
    cases h' : v.ownBlock with
    | none => exact .inl rfl
    | some k => exact .inr (by simp))

/-- The grid in a block of its own, and its rows. -/
structure Kept (w : World) (G ga gb gr na nb R : Nat) (zs us cs : List Nat) : Prop where
  t : Three w G (sl ga na) (sl gb nb) (sl gr R)
  a : w.ownsRow 0 3 1 (sl ga na) na (i64s zs)
  b : w.ownsRow 0 3 1 (sl gb nb) nb (i64s us)
  r : w.ownsRow 0 92 1 (sl gr R) R (u16s cs)

theorem Kept.below {w w' : World} {G ga gb gr na nb R : Nat} {zs us cs : List Nat} (h : Kept w G ga gb gr na nb R zs us cs) (hb : Below w.heap.size w w') : Kept w' G ga gb gr na nb R zs us cs :=
  ⟨h.t.below hb, own_keep h.a hb, own_keep h.b hb, own_keep h.r hb⟩
theorem own_at {w : World} {e : TypeId} {g n : Nat} {xs : List Value} (h : w.ownsRow 0 e 1 (sl g n) n xs) {i : Nat} {x : Value} (hi : xs[i]? = some x) : w.cell? ⟨g, i, none⟩ = some x := by
  rw [h.cellAt i (by rw [← h.1]; exact (List.getElem?_eq_some_iff.1 hi).1)]
  exact hi
theorem Kept.cellA {w : World} {G ga gb gr na nb R : Nat} {zs us cs : List Nat} (h : Kept w G ga gb gr na nb R zs us cs) {i x : Nat} (hi : zs[i]? = some x) : w.cell? ⟨ga, i, none⟩ = some (.int .i64 (x : Int)) := own_at h.a (by simp [i64s, hi])
theorem Kept.cellB {w : World} {G ga gb gr na nb R : Nat} {zs us cs : List Nat} (h : Kept w G ga gb gr na nb R zs us cs) {i x : Nat} (hi : us[i]? = some x) : w.cell? ⟨gb, i, none⟩ = some (.int .i64 (x : Int)) := own_at h.b (by simp [i64s, hi])
theorem Kept.cellR {w : World} {G ga gb gr na nb R : Nat} {zs us cs : List Nat} (h : Kept w G ga gb gr na nb R zs us cs) {i x : Nat} (hi : cs[i]? = some x) : w.cell? ⟨gr, i, none⟩ = some (.int .u16 (x : Int)) := own_at h.r (by simp [u16s, hi])

set_option maxRecDepth 100000 in
set_option maxHeartbeats 4000000 in
theorem lines_good (w : World) (v u : Value) (xs ys : List ByteArray) (h : Strs w v xs) (g : Strs w u ys) (hx : ∀ s ∈ xs, s.size ≤ maxLen) (hy : ∀ s ∈ ys, s.size ≤ maxLen) (hxl : xs.length ≤ 256) (hyl : ys.length ≤ 256) :
    Calls Tryd.prog 10 #[v, u] w (Edited w (ed xs ys)) := by
  obtain ⟨A, n, c, rfl⟩ := h.form
  obtain ⟨B, m, d, rfl⟩ := g.form
  obtain rfl := h.len.1
  obtain rfl := g.len.1
  obtain ⟨i0, hi, hz0, hz1, hz2⟩ := info_parts editInfo
  have E1 := (Below.refl w.heap.size w).alloc (Nat.le_refl _) (.cells #[.slice A xs.length c, .slice B ys.length d] 22)
  have h1 := h.below E1
  have g1 := g.below E1
  have hh := heap_alloc_new w (.cells #[.slice A xs.length c, .slice B ys.length d] 22)
  have CK := Lib.hid (check_good w.heap.size xs.length c ys.length d A B hxl hyl (w.alloc (.cells #[.slice A xs.length c, .slice B ys.length d] 22)) (cell_of_row _ _ 0 _ 22 (0, 0) hh) (cell_of_row _ _ 1 _ 22 (0, 0) hh))
  have CM := Lib.hid (measure_any (w.alloc (.cells #[.slice A xs.length c, .slice B ys.length d] 22)) _ _ xs ys h1 g1 hx hy hxl hyl)
  have hz1' : (w.alloc (.cells #[.slice A xs.length c, .slice B ys.length d] 22)).heap.size = w.heap.size + 1 := by simp
  have HA := Lib.hid h1
  have HB := Lib.hid g1
  clear hx hy h g h1 g1 hh
  go_enter Tryd.func10, Tryd.ntmps10
  go_wp2_with fail
  refine CK.out.mono ?_
  rintro e w' ⟨rfl, rfl⟩
  go_wp2_with fail
  refine CM.out.mono ?_
  rintro e w2 ⟨ga, gb, gr, R, zs, us, cs, D, rfl, hR, hG, hNa, hNb, ra, rb, rr, hT, hb2⟩
  have HA2 := HA.out.below hb2
  have HB2 := HB.out.below hb2
  have E2 := E1.trans (hb2.mono (by rw [hz1']; omega))
  clear CK CM HA HB E1 hb2 hz1'
  have E3 := (Below.refl w2.heap.size w2).alloc (Nat.le_refl _) (.cells #[sl ga xs.length, sl gb ys.length, sl gr R] 85)
  have K1 : Kept (w2.alloc (.cells #[sl ga xs.length, sl gb ys.length, sl gr R] 85)) w2.heap.size ga gb gr xs.length ys.length R zs us cs :=
    ⟨Three.new w2 _ _ _ 85, own_le (ra.alloc _) (Nat.zero_le _), own_le (rb.alloc _) (Nat.zero_le _), own_le (rr.alloc _) (Nat.zero_le _)⟩
  have HA3 := HA2.below E3
  have HB3 := HB2.below E3
  have E4 := E2.trans (E3.mono E2.size)
  have HK := Lib.hid K1
  have HRR := Lib.hid hR
  have HG := Lib.hid hG
  have HNa := Lib.hid hNa
  have HNb := Lib.hid hNb
  have HT := Lib.hid hT
  clear ra rb rr hR hG hNa hNb hT K1 E2 E3 HA2 HB2
  go_wp2_with fail
  obtain ⟨W1, hW1⟩ : ∃ W1, W1 = w2.alloc (.cells #[sl ga xs.length, sl gb ys.length, sl gr R] 85) := ⟨_, rfl⟩
  obtain ⟨G, hGG⟩ : ∃ G, G = w2.heap.size := ⟨_, rfl⟩
  rw [← hW1] at HA3 HB3 E4 HK ⊢
  rw [← hGG] at HK ⊢
  have HSA := Lib.hid HA3
  have HSB := Lib.hid HB3
  have hwW := E4.size
  clear hW1 hGG HA3 HB3
  go_loopw [8, 9, 10] (fun s8 s9 s10 wr => ∃ (i j : Nat) (done : List (Nat × ByteArray)), i ≤ xs.length ∧ j ≤ ys.length ∧ s9 = .int .i64 i ∧ s10 = .int .i64 j ∧ Hid (done ++ ed (xs.drop i) (ys.drop j) = ed xs ys) ∧
      wr.ownsRow W1.heap.size 66 2 s8 done.length (edCells done) ∧ Below W1.heap.size W1 wr) (fun _ s9 s10 _ => (xs.length - (intOf s9).toNat) + (ys.length - (intOf s10).toNat))
  case atStart => exact ⟨0, 0, [], Nat.zero_le _, Nat.zero_le _, rfl, rfl, rfl, World.ownsRow_nil _ _ _ _, Below.refl _ _⟩
  case round =>
    obtain ⟨i, j, done, hil, hjl, rfl, rfl, hd, hown, hbr⟩ := hrel
    have hlen : done.length ≤ 512 := by
      have := congrArg List.length hd.out
      have := ed_len xs ys
      rw [List.length_append] at *
      omega
    have K := HK.out.below hbr
    have i0' : (0 : Int) ≤ (i : Int) := Int.natCast_nonneg _
    have j0' : (0 : Int) ≤ (j : Int) := Int.natCast_nonneg _
    have t0 := K.t.c0
    have t1 := K.t.c1
    have t2 := K.t.c2
    by_cases hi1 : i < xs.length
    · obtain ⟨s, hs⟩ : ∃ s, xs[i]? = some s := ⟨_, List.getElem?_eq_getElem hi1⟩
      have HS := Lib.hid hs
      clear hs
      by_cases hj1 : j < ys.length
      · obtain ⟨t, ht⟩ : ∃ t, ys[j]? = some t := ⟨_, List.getElem?_eq_getElem hj1⟩
        have HTt := Lib.hid ht
        clear ht
        obtain ⟨_, x, hx, _⟩ := HNa.out.2 i s HS.out
        obtain ⟨_, y, hy, _⟩ := HNb.out.2 j t HTt.out
        have HE := Lib.hid (Nums.eq HG.out HNa.out HNb.out HS.out HTt.out hx hy)
        have HC1 := Lib.hid (K.cellA hx)
        have HC2 := Lib.hid (K.cellB hy)
        clear hx hy
        by_cases hxy : x = y
        · have hst : Hid (s = t) := HE.out.1 hxy
          have HXY := Lib.hid (show (x : Int) = (y : Int) by omega)
          clear hxy
          go_wp2_with fail
          refine (next_keep ga gb gr xs.length ys.length R i j x y hi1 hj1 HXY.out wr HC1.out HC2.out).mono ?_
          rintro e w3 ⟨rfl, hb3⟩
          have hbx := hbr.trans (hb3.mono hbr.size)
          have hSA3 := (HSA.out.below hbx)
          obtain ⟨ad, s', rfl, hs', hc⟩ := hSA3.cell (k := i) (by omega)
          obtain rfl : s = s' := by rw [HS.out] at hs'; exact Option.some.inj hs'
          clear hs' hSA3
          have hcl := World.block_lt_of_cell? _ _ hc
          have hown4 := ((own2_keep hown hb3).alloc (.cells #[.int .i64 1, .string s] 66)).alloc (.cells #[.int .i64 1, .string s] 66)
          have hnews := World.news_of_block (cs := #[.int .i64 1, .string s]) (t := 66) (fr := (0, 0)) (heap_alloc_new (w3.alloc (.cells #[.int .i64 1, .string s] 66)) (.cells #[.int .i64 1, .string s] 66))
          have hb4 := (hbx.alloc hbx.size (.cells #[.int .i64 1, .string s] 66)).alloc (by have := hbx.size; simp; omega) (.cells #[.int .i64 1, .string s] 66)
          have hsz4 := hb4.size
          rw [show (w3.alloc (.cells #[.int .i64 1, .string s] 66)).heap.size = w3.heap.size + 1 from by simp] at hnews
          go_wp2_with (at_builtin; refine wpList_append_own _ rfl _ _ 25 rfl W1.heap.size 66 i0 (.agg #[.int .i64 0, .string ⟨#[]⟩]) 2 24 Tryd.underlying25 hi hz0 hz1 hz2 rfl (by decide) _ _ _ rfl hown4 ⟨w3.heap.size + 1, 0, none⟩ 1 1 [.int .i64 1, .string s] rfl rfl hnews (by simp [Value.oneCell']) (by unfold maxLen; omega) (by omega) hsz4 ?_; intro v5 w5 hown5 hg5 _)
          have hb5 : Below W1.heap.size W1 w5 := hb4.grown hg5 hsz4 (fun k hk => (hown.lt k hk).1)
          clear hnews hown4 hg5 hb4
          go_roundw
          case rel => exact ⟨i + 1, j + 1, done ++ [(1, s)], by omega, by omega, by go_num, by go_num, by rw [List.append_assoc]; have := hd.out; rw [ed_keep HS.out HTt.out hst.out] at this; exact this, by simpa [edCells_snoc] using hown5, hb5⟩
          case measure => simp [intOf]; omega
        · have hst : Hid (s ≠ t) := fun e => hxy (HE.out.2 e)
          have hxyb : ((x : Int) == (y : Int)) = false := by simpa using fun e : (x : Int) = (y : Int) => hxy (by omega)
          have HXY := Lib.hid hxyb
          clear hxyb
          have hP1 : pl ys.length (i + 1) j < R := by rw [HRR.out]; exact plc_lt (by omega) (by omega)
          have hP2 : pl ys.length i (j + 1) < R := by rw [HRR.out]; exact plc_lt (by omega) (by omega)
          have q1 : cs[pl ys.length (i + 1) j]? = some (lc (xs.drop (i + 1)) (ys.drop j)) := HT.out.at (by omega) (by omega)
          have q2 : cs[pl ys.length i (j + 1)]? = some (lc (xs.drop i) (ys.drop (j + 1))) := HT.out.at (by omega) (by omega)
          have NE := next_else ga gb gr xs.length ys.length R i j x y _ _ hi1 hj1 (by omega) (by omega) HXY.out hP1 hP2 wr HC1.out HC2.out (K.cellR q1) (K.cellR q2)
          clear q1 q2 hP1 hP2 hxy
          by_cases hle : lc (xs.drop i) (ys.drop (j + 1)) ≤ lc (xs.drop (i + 1)) (ys.drop j)
          · rw [if_pos (by omega)] at NE
            have HNE := Lib.hid NE
            have HLE := Lib.hid hle
            clear NE hle
            go_wp2_with fail
            refine (HNE.out).mono ?_
            rintro e w3 ⟨rfl, hb3⟩
            have hbx := hbr.trans (hb3.mono hbr.size)
            have hSA3 := (HSA.out.below hbx)
            obtain ⟨ad, s', rfl, hs', hc⟩ := hSA3.cell (k := i) (by omega)
            obtain rfl : s = s' := by rw [HS.out] at hs'; exact Option.some.inj hs'
            clear hs' hSA3
            have hcl := World.block_lt_of_cell? _ _ hc
            have hown4 := ((own2_keep hown hb3).alloc (.cells #[.int .i64 2, .string s] 66)).alloc (.cells #[.int .i64 2, .string s] 66)
            have hnews := World.news_of_block (cs := #[.int .i64 2, .string s]) (t := 66) (fr := (0, 0)) (heap_alloc_new (w3.alloc (.cells #[.int .i64 2, .string s] 66)) (.cells #[.int .i64 2, .string s] 66))
            have hb4 := (hbx.alloc hbx.size (.cells #[.int .i64 2, .string s] 66)).alloc (by have := hbx.size; simp; omega) (.cells #[.int .i64 2, .string s] 66)
            have hsz4 := hb4.size
            rw [show (w3.alloc (.cells #[.int .i64 2, .string s] 66)).heap.size = w3.heap.size + 1 from by simp] at hnews
            go_wp2_with (at_builtin; refine wpList_append_own _ rfl _ _ 25 rfl W1.heap.size 66 i0 (.agg #[.int .i64 0, .string ⟨#[]⟩]) 2 24 Tryd.underlying25 hi hz0 hz1 hz2 rfl (by decide) _ _ _ rfl hown4 ⟨w3.heap.size + 1, 0, none⟩ 1 1 [.int .i64 2, .string s] rfl rfl hnews (by simp [Value.oneCell']) (by unfold maxLen; omega) (by omega) hsz4 ?_; intro v5 w5 hown5 hg5 _)
            have hb5 : Below W1.heap.size W1 w5 := hb4.grown hg5 hsz4 (fun k hk => (hown.lt k hk).1)
            clear hnews hown4 hg5 hb4
            go_roundw
            case rel => exact ⟨i + 1, j, done ++ [(2, s)], by omega, by omega, by go_num, by go_num, by rw [List.append_assoc]; have := hd.out; rw [ed_else HS.out HTt.out hst.out, if_pos HLE.out] at this; exact this, by simpa [edCells_snoc] using hown5, hb5⟩
            case measure => simp [intOf]; omega
          · rw [if_neg (by omega)] at NE
            have HNE := Lib.hid NE
            have HLE := Lib.hid hle
            clear NE hle
            go_wp2_with fail
            refine (HNE.out).mono ?_
            rintro e w3 ⟨rfl, hb3⟩
            have hbx := hbr.trans (hb3.mono hbr.size)
            have hSB3 := (HSB.out.below hbx)
            obtain ⟨ad, t', rfl, ht', hc⟩ := hSB3.cell (k := j) (by omega)
            obtain rfl : t = t' := by rw [HTt.out] at ht'; exact Option.some.inj ht'
            clear ht' hSB3
            have hcl := World.block_lt_of_cell? _ _ hc
            have hown4 := ((own2_keep hown hb3).alloc (.cells #[.int .i64 3, .string t] 66)).alloc (.cells #[.int .i64 3, .string t] 66)
            have hnews := World.news_of_block (cs := #[.int .i64 3, .string t]) (t := 66) (fr := (0, 0)) (heap_alloc_new (w3.alloc (.cells #[.int .i64 3, .string t] 66)) (.cells #[.int .i64 3, .string t] 66))
            have hb4 := (hbx.alloc hbx.size (.cells #[.int .i64 3, .string t] 66)).alloc (by have := hbx.size; simp; omega) (.cells #[.int .i64 3, .string t] 66)
            have hsz4 := hb4.size
            rw [show (w3.alloc (.cells #[.int .i64 3, .string t] 66)).heap.size = w3.heap.size + 1 from by simp] at hnews
            go_wp2_with (at_builtin; refine wpList_append_own _ rfl _ _ 25 rfl W1.heap.size 66 i0 (.agg #[.int .i64 0, .string ⟨#[]⟩]) 2 24 Tryd.underlying25 hi hz0 hz1 hz2 rfl (by decide) _ _ _ rfl hown4 ⟨w3.heap.size + 1, 0, none⟩ 1 1 [.int .i64 3, .string t] rfl rfl hnews (by simp [Value.oneCell']) (by unfold maxLen; omega) (by omega) hsz4 ?_; intro v5 w5 hown5 hg5 _)
            have hb5 : Below W1.heap.size W1 w5 := hb4.grown hg5 hsz4 (fun k hk => (hown.lt k hk).1)
            clear hnews hown4 hg5 hb4
            go_roundw
            case rel => exact ⟨i, j + 1, done ++ [(3, t)], by omega, by omega, by go_num, by go_num, by rw [List.append_assoc]; have := hd.out; rw [ed_else HS.out HTt.out hst.out, if_neg HLE.out] at this; exact this, by simpa [edCells_snoc] using hown5, hb5⟩
            case measure => simp [intOf]; omega
      · obtain rfl : j = ys.length := by omega
        go_wp2_with fail
        refine (next_end_b ga gb gr xs.length ys.length R i hi1 wr).mono ?_
        rintro e w3 ⟨rfl, hb3⟩
        have hbx := hbr.trans (hb3.mono hbr.size)
        have hSA3 := (HSA.out.below hbx)
        obtain ⟨ad, s', rfl, hs', hc⟩ := hSA3.cell (k := i) (by omega)
        obtain rfl : s = s' := by rw [HS.out] at hs'; exact Option.some.inj hs'
        clear hs' hSA3
        have hcl := World.block_lt_of_cell? _ _ hc
        have hown4 := ((own2_keep hown hb3).alloc (.cells #[.int .i64 2, .string s] 66)).alloc (.cells #[.int .i64 2, .string s] 66)
        have hnews := World.news_of_block (cs := #[.int .i64 2, .string s]) (t := 66) (fr := (0, 0)) (heap_alloc_new (w3.alloc (.cells #[.int .i64 2, .string s] 66)) (.cells #[.int .i64 2, .string s] 66))
        have hb4 := (hbx.alloc hbx.size (.cells #[.int .i64 2, .string s] 66)).alloc (by have := hbx.size; simp; omega) (.cells #[.int .i64 2, .string s] 66)
        have hsz4 := hb4.size
        rw [show (w3.alloc (.cells #[.int .i64 2, .string s] 66)).heap.size = w3.heap.size + 1 from by simp] at hnews
        go_wp2_with (at_builtin; refine wpList_append_own _ rfl _ _ 25 rfl W1.heap.size 66 i0 (.agg #[.int .i64 0, .string ⟨#[]⟩]) 2 24 Tryd.underlying25 hi hz0 hz1 hz2 rfl (by decide) _ _ _ rfl hown4 ⟨w3.heap.size + 1, 0, none⟩ 1 1 [.int .i64 2, .string s] rfl rfl hnews (by simp [Value.oneCell']) (by unfold maxLen; omega) (by omega) hsz4 ?_; intro v5 w5 hown5 hg5 _)
        have hb5 : Below W1.heap.size W1 w5 := hb4.grown hg5 hsz4 (fun k hk => (hown.lt k hk).1)
        clear hnews hown4 hg5 hb4
        go_roundw
        case rel => exact ⟨i + 1, ys.length, done ++ [(2, s)], by omega, by omega, by go_num, by go_num, by rw [List.append_assoc]; have := hd.out; rw [ed_end_b HS.out] at this; exact this, by simpa [edCells_snoc] using hown5, hb5⟩
        case measure => simp [intOf]; omega
    · obtain rfl : i = xs.length := by omega
      by_cases hj1 : j < ys.length
      · obtain ⟨t, ht⟩ : ∃ t, ys[j]? = some t := ⟨_, List.getElem?_eq_getElem hj1⟩
        have HTt := Lib.hid ht
        clear ht
        go_wp2_with fail
        refine (next_end_a ga gb gr xs.length ys.length R j wr).mono ?_
        rintro e w3 ⟨rfl, hb3⟩
        have hbx := hbr.trans (hb3.mono hbr.size)
        have hSB3 := (HSB.out.below hbx)
        obtain ⟨ad, t', rfl, ht', hc⟩ := hSB3.cell (k := j) (by omega)
        obtain rfl : t = t' := by rw [HTt.out] at ht'; exact Option.some.inj ht'
        clear ht' hSB3
        have hcl := World.block_lt_of_cell? _ _ hc
        have hown4 := ((own2_keep hown hb3).alloc (.cells #[.int .i64 3, .string t] 66)).alloc (.cells #[.int .i64 3, .string t] 66)
        have hnews := World.news_of_block (cs := #[.int .i64 3, .string t]) (t := 66) (fr := (0, 0)) (heap_alloc_new (w3.alloc (.cells #[.int .i64 3, .string t] 66)) (.cells #[.int .i64 3, .string t] 66))
        have hb4 := (hbx.alloc hbx.size (.cells #[.int .i64 3, .string t] 66)).alloc (by have := hbx.size; simp; omega) (.cells #[.int .i64 3, .string t] 66)
        have hsz4 := hb4.size
        rw [show (w3.alloc (.cells #[.int .i64 3, .string t] 66)).heap.size = w3.heap.size + 1 from by simp] at hnews
        go_wp2_with (at_builtin; refine wpList_append_own _ rfl _ _ 25 rfl W1.heap.size 66 i0 (.agg #[.int .i64 0, .string ⟨#[]⟩]) 2 24 Tryd.underlying25 hi hz0 hz1 hz2 rfl (by decide) _ _ _ rfl hown4 ⟨w3.heap.size + 1, 0, none⟩ 1 1 [.int .i64 3, .string t] rfl rfl hnews (by simp [Value.oneCell']) (by unfold maxLen; omega) (by omega) hsz4 ?_; intro v5 w5 hown5 hg5 _)
        have hb5 : Below W1.heap.size W1 w5 := hb4.grown hg5 hsz4 (fun k hk => (hown.lt k hk).1)
        clear hnews hown4 hg5 hb4
        go_roundw
        case rel => exact ⟨xs.length, j + 1, done ++ [(3, t)], by omega, by omega, by go_num, by go_num, by rw [List.append_assoc]; have := hd.out; rw [ed_end_a HTt.out] at this; exact this, by simpa [edCells_snoc] using hown5, hb5⟩
        case measure => simp [intOf]; omega
      · obtain rfl : j = ys.length := by omega
        have hdone : Hid (done = ed xs ys) := by
          have := hd.out
          rw [List.drop_length, List.drop_length] at this
          rw [← this]
          exact (List.append_nil done).symm
        clear hd
        go_wp2
        go_ret2
        refine ⟨u8, rfl, ?_, E4.trans (hbr.mono hwW)⟩
        rw [← hdone.out]
        exact own2_le hown hwW

end Go.Proofs.YtdpoeagmeiedcaaDoor
