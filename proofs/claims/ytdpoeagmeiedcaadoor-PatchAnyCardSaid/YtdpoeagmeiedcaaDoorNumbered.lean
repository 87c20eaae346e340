/-
  The contract of diff.numbered.
-/
import Derived.Test.YtdpoeagmeiedcaaDoorNumber
namespace Go.Proofs.YtdpoeagmeiedcaaDoor
open Go.RowKit Go.Maps Go.WideMaps

theorem grown_step {a b c : World} {m : Nat} {row : Option Nat} (h : a.grownBy b (some m)) (g : b.grownBy c row) (hr : ∀ k, row = some k → k = m ∨ a.heap.size ≤ k) : a.grownBy c (some m) :=
  ⟨g.os.trans h.os, g.tape.trans h.tape, g.output.trans h.output, Nat.le_trans h.size g.size, fun k hk hne => by
    have hkb : k < b.heap.size := Nat.lt_of_lt_of_le hk h.size
    refine (g.block k hkb fun e => ?_).trans (h.block k hk hne)
    rcases hr k e.symm with h1 | h1
    · exact hne (by rw [h1])
    · omega⟩
theorem grown_none {a b : World} {m : Nat} (h : a.grownBy b none) : a.grownBy b (some m) := ⟨h.os, h.tape, h.output, h.size, fun k hk _ => h.block k hk (by simp)⟩

/-- Strings that a map does not touch. -/
theorem Strs.grown {w w' : World} {v : Value} {ss : List ByteArray} (h : Strs w v ss) {m : Nat} (hg : w.grownBy w' (some m)) {es : Array MapEntry} {cl : Nat} (hm : w.heap[m]? = some (.map es cl)) : Strs w' v ss := by
  obtain ⟨A, c, hv, h1, h2, h3, h4⟩ := h
  refine ⟨A, c, hv, h1, h2, h3, fun ad ha i s hs => ?_⟩
  have hc := h4 ad ha i s hs
  have hb := World.block_lt_of_cell? w _ hc
  have hne : some (ad.add i).block ≠ some m := by
    intro e
    injection e with e
    unfold World.cell? at hc
    rw [e, hm] at hc
    simp at hc
  rw [World.cell?_of_block (hg.block _ hb hne)]
  exact hc

/-- The cells of a row that is numbered so far. -/
def part (zs : List Nat) (n : Nat) : List Value := zs.map (fun z : Nat => Value.int .i64 (z : Int)) ++ List.replicate (n - zs.length) (.int .i64 0)

theorem part_set (zs : List Nat) (n c : Nat) (h : zs.length < n) : (part zs n).set zs.length (.int .i64 (c : Int)) = part (zs ++ [c]) n := by
  unfold part
  rw [List.set_append_right _ _ (by simp), show n - zs.length = (n - (zs.length + 1)) + 1 by omega, List.replicate_succ]
  simp

theorem part_full (zs : List Nat) (n : Nat) (h : zs.length = n) : part zs n = zs.map (fun z : Nat => Value.int .i64 (z : Int)) := by
  unfold part
  rw [h, Nat.sub_self]
  simp

def Numbered (w : World) (bm N : Nat) (D : DataW Unit) (xs : List ByteArray) (e : Ending) (w' : World) : Prop :=
  ∃ (g : Nat) (zs : List Nat) (D' : DataW Unit), e = .returned (.slice (some ⟨g, 0, none⟩) xs.length xs.length) ∧ w.heap.size ≤ g ∧
    w'.ownsRow w.heap.size 3 1 (.slice (some ⟨g, 0, none⟩) xs.length xs.length) xs.length (zs.map (fun z : Nat => Value.int .i64 (z : Int))) ∧
    Good D' ∧ Nums D' xs zs ∧ More D D' ∧ w'.ownsMap Tryd.prog 9 (plainElem Tryd.prog 3) bm (N + xs.length) D' ∧ w.grownBy w' (some bm)

theorem made_part (n : Nat) : (madeCells #[Value.int .i64 0] n).toList = part [] n := by
  rw [toList_madeCells_one]
  simp [part]

theorem part_at (zs : List Nat) (n : Nat) (h : zs.length < n) : (part zs n)[zs.length]? = some (.int .i64 0) := by
  unfold part
  rw [List.getElem?_append_right (by simp), List.length_map, Nat.sub_self, List.getElem?_replicate, if_pos (by omega)]

theorem nums_take {D : DataW Unit} {xs : List ByteArray} {zs : List Nat} {k : Nat} (h : Nums D (xs.take k) zs) (hk : k < xs.length) {s : ByteArray} (hs : xs[k]? = some s) {c : Nat} (h1 : has D (key s) = true) (h2 : ∀ z, D.atKey (key s) z = num c) :
    Nums D (xs.take (k + 1)) (zs ++ [c]) := by
  have hl : zs.length = k := by rw [h.1, List.length_take]; omega
  refine ⟨by rw [List.length_append, hl, List.length_take]; simp; omega, fun i t ht => ?_⟩
  by_cases hik : i < k
  · rw [List.getElem?_take_of_lt (by omega)] at ht
    obtain ⟨a, b, c1, c2⟩ := h.2 i t (by rw [List.getElem?_take_of_lt hik]; exact ht)
    exact ⟨a, b, by rw [List.getElem?_append_left (by omega)]; exact c1, c2⟩
  · have hi : i = k := by
      have := (List.getElem?_eq_some_iff.1 ht).1
      rw [List.length_take] at this
      omega
    subst hi
    rw [List.getElem?_take_of_lt (by omega), hs] at ht
    cases ht
    exact ⟨h1, c, by rw [List.getElem?_append_right (by omega)]; simp [hl], h2⟩

set_option maxRecDepth 100000 in
set_option maxHeartbeats 4000000 in
theorem numbered_any (w : World) (v : Value) (xs : List ByteArray) (bm N : Nat) (D : DataW Unit) (h : Strs w v xs) (hsz : ∀ s ∈ xs, s.size ≤ maxLen) (hn : xs.length ≤ 1000) (hN : N ≤ 1000)
    (hown : w.ownsMap Tryd.prog 9 (plainElem Tryd.prog 3) bm N D) (hD : Good D) :
    Calls Tryd.prog 71 #[v, .map (some bm)] w (Numbered w bm N D xs) := by
  obtain ⟨A, n, c, rfl⟩ := h.form
  obtain rfl := h.len.1
  obtain ⟨i0, hi, hz0, hz1, hz2⟩ := info_parts intInfo
  have HS := Lib.hid h
  have HD := Lib.hid hD
  have HSZ := Lib.hid hsz
  have hmlt := hown.lt
  obtain ⟨es, cl, hmap, _⟩ := id hown
  clear h hD hsz
  go_enter Tryd.func71, Tryd.ntmps71
  go_wp2_with (refine wpList_make_full _ rfl _ _ 82 rfl w.heap.size 3 i0 (.int .i64 0) 1 Tryd.underlying82 hi hz0 hz1 .i64 .i64 _ _ xs.length rfl rfl rfl rfl (by rw [hz2]; omega) (by unfold maxLen; omega) (Nat.le_refl _) ?_)
  intro w1 hrow hg1
  rw [made_part] at hrow
  have hg1' : w.grownBy w1 (some bm) := grown_none hg1
  have hown1 := hown.kept hg1 (by simp)
  clear hown hg1
  go_wp2_with fail
  go_loopw [6, 7, 8, 9, 15] (fun _ _ _ _ i wr => ∃ (k : Nat) (zs : List Nat) (D' : DataW Unit), k ≤ xs.length ∧ i = .int .i64 k ∧ wr.ownsRow w.heap.size 3 1 (.slice (some ⟨w.heap.size, 0, none⟩) xs.length xs.length) xs.length (part zs xs.length) ∧
      zs.length = k ∧ Good D' ∧ Nums D' (xs.take k) zs ∧ More D D' ∧ wr.ownsMap Tryd.prog 9 (plainElem Tryd.prog 3) bm (N + k) D' ∧ w.grownBy wr (some bm)) (fun _ _ _ _ i _ => xs.length - (intOf i).toNat)
  case atStart => exact ⟨0, [], D, Nat.zero_le _, rfl, hrow, rfl, HD.out, ⟨rfl, fun i s hs => by simp at hs⟩, More.refl D, hown1, hg1'⟩
  case round =>
    clear hrow hown1 hg1'
    obtain ⟨k, zs, D', hk, rfl, hrow, hzl, hG, hNu, hMo, hownr, hgr⟩ := hrel
    have hi0 : (0 : Int) ≤ (k : Int) := Int.natCast_nonneg _
    have hSr := HS.out.grown hgr hmap
    by_cases hlt : k < xs.length
    · obtain ⟨ad, s, rfl, hs, hc⟩ := hSr.cell hlt
      have hkey : keyOf Tryd.prog 9 (.string s) = some (key s) := keyOf_string_mk Tryd.underlying9 (HSZ.out s (List.mem_of_getElem? hs))
      have hi1 : (k : Int) < (xs.length : Int) := by omega
      have hcell : wr.cell? ⟨w.heap.size, k, none⟩ = some (.int .i64 0) := (hrow.cellAt k (by omega)).trans (by have := part_at zs xs.length (by omega); rw [hzl] at this; exact this)
      have hfz : wr.frozen? ⟨w.heap.size, k, none⟩ = false := hrow.frozenAt k
      clear hmap
      cases hhas : has D' (key s) with
      | true =>
        obtain ⟨c', hc', hlt'⟩ := hG.lt s hhas
        have HC := Lib.hid hc'
        clear hc' hlt'
        go_wp2_with (at_lookup; refine wpList_lookup_own_ok_int _ rfl _ _ 141 rfl 9 3 .i64 strKey Tryd.underlying141 Tryd.underlying3 (zero3 _) bm (N + k) D' rfl hownr _ _ rfl hkey ?_; intro c hat hwc)
        have he : c = (c' : Int) := by
          have := (HC.out (.lit (.int .i64 0))).symm.trans hat
          simp only [num, DataW.lit.injEq, Lit.int.injEq, true_and] at this
          exact this.symm
        have hst := hrow.stored k (.int .i64 c)
        have hset : (part zs xs.length).set k (.int .i64 c) = part (zs ++ [c']) xs.length := by
          rw [he]
          have := part_set zs xs.length c' (by omega)
          rw [hzl] at this
          exact this
        rw [hset] at hst
        have hNu' := nums_take hNu hlt hs hhas HC.out
        have hown2 := hownr.kept hst.2 (by simp; omega)
        have hgr2 := grown_step hgr hst.2 (by intro z hz; right; simp at hz; omega)
        go_roundw
        case rel => exact ⟨k + 1, zs ++ [c'], D', by omega, by go_num, hst.1, by simp [hzl], hG, hNu', hMo, hown2.mono (by omega), hgr2⟩
        case measure => simp [intOf]; omega
      | false =>
        obtain ⟨hG2, hM2, hh2, hc2, hs2⟩ := good_put hG hhas
        have HG := Lib.hid hG2
        have HM := Lib.hid hM2
        have HH := Lib.hid hh2
        have HC := Lib.hid hc2
        have hsz := hownr.size_le
        have HP := Lib.hid (show (part zs xs.length)[k]? = some (.int .i64 0) from by have := part_at zs xs.length (by omega); rw [hzl] at this; exact this)
        clear hG2 hM2 hh2 hc2 hs2
        go_wp2_with (first
          | (at_lookup; refine wpList_lookup_own_ok_int _ rfl _ _ 141 rfl 9 3 .i64 strKey Tryd.underlying141 Tryd.underlying3 (zero3 _) bm (N + k) D' rfl hownr _ _ rfl hkey ?_; intro c hat hwc)
          | (at_len; refine wpList_len_own _ rfl _ 141 rfl 9 3 Tryd.underlying141 _ bm (N + k) D' rfl hownr ?_)
          | (at_mapUpdate; refine wpList_mapUpdate_own _ rfl _ _ _ 141 rfl 9 3 strKey Tryd.underlying141 _ bm (N + k) D' rfl hownr (by unfold maxLen; omega) _ _ _ rfl rfl hkey (num (size D')) [] (plainElem_int Tryd.underlying3 (WalkArith.wf_i64 (by omega))) ?_; intro w2 hown2 hg2; have hrow2 := hrow.kept hg2 (.inr (by simp [Value.ownBlock]; omega)); have hcell2 : w2.cell? ⟨w.heap.size, k, none⟩ = some (.int .i64 0) := (hrow2.cellAt k (by omega)).trans HP.out; have hfz2 : w2.frozen? ⟨w.heap.size, k, none⟩ = false := hrow2.frozenAt k))
        have hst := hrow2.stored k (.int .i64 (size D' : Int))
        have hset : (part zs xs.length).set k (.int .i64 (size D' : Int)) = part (zs ++ [size D']) xs.length := by
          have := part_set zs xs.length (size D') (by omega)
          rw [hzl] at this
          exact this
        rw [hset] at hst
        have hNu' := nums_take (hNu.more HM.out) hlt hs HH.out HC.out
        have hown3 := hown2.kept hst.2 (by simp; omega)
        have hgr2 := grown_step (grown_step hgr hg2 (by intro z hz; left; simpa using hz.symm)) hst.2 (by intro z hz; right; simp at hz; omega)
        go_roundw
        case rel => exact ⟨k + 1, zs ++ [size D'], _, by omega, by go_num, hst.1, by simp [hzl], HG.out, hNu', hMo.trans HM.out, hown3, hgr2⟩
        case measure => simp [intOf]; omega
    · obtain rfl : k = xs.length := by omega
      rw [part_full _ _ hzl] at hrow
      have hall : xs.take xs.length = xs := List.take_length
      rw [hall] at hNu
      clear hall
      go_wp2
      go_ret
      exact ⟨w.heap.size, zs, D', rfl, Nat.le_refl _, hrow, hG, hNu, hMo, hownr, hgr⟩

end Go.Proofs.YtdpoeagmeiedcaaDoor
