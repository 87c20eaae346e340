/-
  rectoref11.Lines: the document's edits.
-/
import Derived.Test.YtdpoeagmeiedcaaDoorRCom3
import Derived.Test.YtdpoeagmeiedcaaDoorRBad
import Derived.Test.YtdpoeagmeiedcaaDoorEdits
namespace Go.Proofs.YtdpoeagmeiedcaaDoor
open Go Go.RowKit

theorem results_tmp_row {fn : Func} {t p : Tmp} {ty : TypeId} (h : fn.results = #[.tmp t, .cell p ty]) {P : Program} (tmps : Array Value) (w : World) (g : Nat) (tt : TypeId) (cs : Array Value) (fr : Nat × Nat) {fs : Array Field}
    (hp : tmps.getD p undef = .pointer (some ⟨g, 0, none⟩)) (hg : w.heap[g]? = some (.cells cs tt fr))
    (hu : P.underlying ty = some (.struct fs)) (hi : (P.info? ty).map (·.size) = some cs.size) :
    (results fn tmps).run P w = .ok (.tuple #[tmps.getD t undef, .agg cs]) w := by
  have hp' : tmps[p]?.getD undef = .pointer (some ⟨g, 0, none⟩) := by simpa using hp
  simp [results, h, hp', asAddr, run_loadVar_row w g tt ty cs fr (.struct fs) hg hu rfl hi, Result.andThen]

theorem grown_cellL (w : World) (g p : Nat) (u : Value) : w.grownBy (w.setCell ⟨g, p, none⟩ u) (some g) :=
  ⟨rfl, rfl, rfl, by simp, fun k _ hk => Below.heap_setCell _ _ _ _ (fun e => hk (by rw [e]))⟩
theorem refEditInfo : (Tryd.prog.info? 91).map (fun i => (i.zero, i.size, i.bytes)) = some (some (.agg #[.int .i64 0, .string ⟨#[]⟩]), 2, 24) := by kernel_rfl
/-- The document's edits, in a row of the call's own; or which text has too many lines. -/
def RefEdited (w : World) (xs ys : List ByteArray) (e : Ending) (w' : World) : Prop :=
  (xs.length ≤ 256 ∧ ys.length ≤ 256 ∧ ∃ v, e = .returned (.tuple #[v, wrong0]) ∧ w'.ownsRow w.heap.size 91 2 v (ed xs ys).length (edCells (ed xs ys)) ∧ Below w.heap.size w w') ∨
  ∃ k g : Nat, Over xs.length ys.length k ∧ e = .returned (.tuple #[.slice none 0 0, wrongG g 4]) ∧ Blk w' g 104 #[.string bLines, .int .i64 (k : Int)] ∧ Below w.heap.size w w'

/-- What the table has, at any place. -/
structure TabAt (W : World) (G : Nat) (xs ys : List ByteArray) (wr : World) : Prop where
  row : ∀ t, t ≤ xs.length → wr.cell? ⟨G, t, none⟩ = some (.slice (some ⟨G + 1 + (xs.length - t), 0, none⟩) (ys.length + 1) (ys.length + 1))
  cell : ∀ t j, t ≤ xs.length → j ≤ ys.length → wr.cell? ⟨G + 1 + (xs.length - t), j, none⟩ = some (.int .i64 (cT xs ys t j : Int))
theorem TabAt.of {w wr : World} {G : Nat} {xs ys : List ByteArray} (h : OutT w wr G xs ys 0) : TabAt w G xs ys wr :=
  ⟨fun t ht => by rw [h.top.cell (by omega)]; simp only [topV]; rw [if_pos (Nat.zero_le _)], fun t j ht hj => (h.done t (Nat.zero_le _) ht).cell (by omega)⟩
theorem TabAt.below {w wr w' : World} {G : Nat} {xs ys : List ByteArray} (h : TabAt w G xs ys wr) (hb : Below wr.heap.size wr w') : TabAt w G xs ys w' :=
  ⟨fun t ht => (hb.cell (World.block_lt_of_cell? _ _ (h.row t ht))).trans (h.row t ht), fun t j ht hj => (hb.cell (World.block_lt_of_cell? _ _ (h.cell t j ht hj))).trans (h.cell t j ht hj)⟩

set_option maxRecDepth 100000 in
set_option maxHeartbeats 4000000 in
theorem refLines_any (w : World) (v u : Value) (xs ys : List ByteArray) (h : Strs w v xs) (g : Strs w u ys) :
    Calls Tryd.prog 11 #[v, u] w (RefEdited w xs ys) := by
  obtain ⟨A, n, c, rfl⟩ := h.form
  obtain ⟨B, m, d, rfl⟩ := g.form
  have hln := h.len
  have hlm := g.len
  obtain rfl := h.len.1
  obtain rfl := g.len.1
  obtain ⟨i0, hi, hz0, hz1, hz2⟩ := info_parts refEditInfo
  have E1 := (Below.refl w.heap.size w).alloc (Nat.le_refl _) (.cells #[.slice none 0 0, .int .i64 0] 33)
  have K1 := Blk.new w 33 #[.slice none 0 0, .int .i64 0]
  have LO := Lib.hid (long_any (w.alloc (.cells #[.slice none 0 0, .int .i64 0] 33)) A B xs.length c ys.length d (by omega) (by omega))
  have HA := Lib.hid h
  have HB := Lib.hid g
  have hs1 : (w.alloc (.cells #[.slice none 0 0, .int .i64 0] 33)).heap.size = w.heap.size + 1 := by simp
  clear h g hln hlm
  go_enter Tryd.func11, Tryd.ntmps11
  go_wp2_with fail
  refine LO.out.mono ?_
  rintro e w2 (⟨hxl, hyl, rfl, hb2⟩ | ⟨k, g, hk, rfl, hg, hb2⟩)
  · have E2 := E1.trans (hb2.mono (by rw [hs1]; omega))
    have K2 := K1.below hb2 K1.lt
    have E3 := E2.trans (((Below.refl w2.heap.size w2).alloc (Nat.le_refl _) (.cells #[.slice none 0 0, .int .i64 0] 33)).mono E2.size)
    have K3 := K2.alloc (.cells #[.slice none 0 0, .int .i64 0] 33)
    have X3 := Blk.new w2 33 #[.slice none 0 0, .int .i64 0]
    have TB := Lib.hid (refCommon_tab (w2.alloc (.cells #[.slice none 0 0, .int .i64 0] 33)) _ _ xs ys (HA.out.below E3) (HB.out.below E3) hxl hyl)
    have HX2 := Lib.hid (show w.heap.size ≤ w2.heap.size from E2.size)
    have HE3 := Lib.hid E3
    have HK3 := Lib.hid K3
    have HX3 := Lib.hid X3
    obtain ⟨N, hN⟩ : ∃ N, N = xs.length + 1 := ⟨_, rfl⟩
    obtain ⟨M, hM⟩ : ∃ M, M = ys.length + 1 := ⟨_, rfl⟩
    have HN := Lib.hid hN
    have HM := Lib.hid hM
    clear E2 K2 E3 K3 X3 LO E1 K1 hb2 hs1
    go_wp2_with fail
    refine TB.out.mono ?_
    rintro e W4 ⟨G, rfl, hGl, hO, hb4⟩
    rw [← hN]
    clear hN hM
    have E4 := HE3.out.trans (hb4.mono HE3.out.size)
    have HTA := Lib.hid (TabAt.of hO)
    have HA4 := Lib.hid (HA.out.below E4)
    have HB4 := Lib.hid (HB.out.below E4)
    have HK4 := Lib.hid (HK3.out.below hb4 HK3.out.lt)
    have HX4 := Lib.hid (HX3.out.below hb4 HX3.out.lt)
    have HE4 := Lib.hid E4
    have hwW := E4.size
    clear TB HE3 HK3 HX3 hb4 E4 hO hGl HA HB
    obtain ⟨Y, hY⟩ : ∃ Y, Y = w.heap.size := ⟨_, rfl⟩
    obtain ⟨X, hX⟩ : ∃ X, X = w2.heap.size := ⟨_, rfl⟩
    rw [← hY, ← hX]
    rw [← hY] at HK4 HX2
    rw [← hX] at HX4 HX2
    have HY := Lib.hid hY
    clear hY hX
    go_wp2_with fail
    go_loopw [8, 9, 10] (fun s8 s9 s10 wr => ∃ (i j : Nat) (done : List (Nat × ByteArray)), i ≤ xs.length ∧ j ≤ ys.length ∧ s9 = .int .i64 i ∧ s10 = .int .i64 j ∧ Hid (done ++ ed (xs.drop i) (ys.drop j) = ed xs ys) ∧
        wr.ownsRow W4.heap.size 91 2 s8 done.length (edCells done) ∧ Below W4.heap.size W4 wr) (fun _ s9 s10 _ => (xs.length - (intOf s9).toNat) + (ys.length - (intOf s10).toNat))
    case atStart => exact ⟨0, 0, [], Nat.zero_le _, Nat.zero_le _, rfl, rfl, rfl, World.ownsRow_nil _ _ _ _, Below.refl _ _⟩
    case round =>
      obtain ⟨i, j, done, hil, hjl, rfl, rfl, hd, hown, hbr⟩ := hrel
      have hlen : done.length ≤ 512 := by
        have := congrArg List.length hd.out
        have := ed_len xs ys
        rw [List.length_append] at *
        omega
      have i0' : (0 : Int) ≤ (i : Int) := Int.natCast_nonneg _
      have j0' : (0 : Int) ≤ (j : Int) := Int.natCast_nonneg _
      by_cases hi1 : i < xs.length
      · have hi2 : (i : Int) < (xs.length : Int) := by omega
        obtain ⟨s, hs⟩ : ∃ s, xs[i]? = some s := ⟨_, List.getElem?_eq_getElem hi1⟩
        have HS := Lib.hid hs
        clear hs
        by_cases hj1 : j < ys.length
        · have hj2 : (j : Int) < (ys.length : Int) := by omega
          obtain ⟨t, ht⟩ : ∃ t, ys[j]? = some t := ⟨_, List.getElem?_eq_getElem hj1⟩
          have HTt := Lib.hid ht
          clear ht
          have TR := HTA.out.below hbr
          obtain ⟨a1, s1, rfl, hs1, d1⟩ := (HA4.out.below hbr).cell (k := i) (by omega)
          obtain ⟨a2, t1, rfl, ht1, d2⟩ := (HB4.out.below hbr).cell (k := j) (by omega)
          obtain rfl : s1 = s := Option.some.inj (hs1.symm.trans HS.out)
          obtain rfl : t1 = t := Option.some.inj (ht1.symm.trans HTt.out)
          clear hs1 ht1
          by_cases hst : s1 = t1
          · subst hst
            have HST : Hid (s1 = s1) := rfl
            clear TR
            go_wp2_with fail
            go_quiet (fail)
            generalize hw3 : wr.drewN _ = w3
            have hb3 : Below wr.heap.size wr w3 := by rw [← hw3]; exact below_drewN (Below.refl _ wr) _
            clear hw3
            have hbx := hbr.trans (hb3.mono hbr.size)
            have hS3 := (HA4.out.below hbx)
            obtain ⟨ad, s', had, hs', hc⟩ := hS3.cell (k := i) (by omega)
            cases had
            obtain rfl : s1 = s' := by have := HS.out; rw [hs'] at this; exact (Option.some.inj this).symm
            clear hs' hS3
            have hcl := World.block_lt_of_cell? _ _ hc
            have hown4 := (own2_keep hown hb3).alloc (.cells #[.int .i64 1, .string s1] 91)
            have hnews := World.news_of_block (cs := #[.int .i64 1, .string s1]) (t := 91) (fr := (0, 0)) (heap_alloc_new w3 (.cells #[.int .i64 1, .string s1] 91))
            have hb4 := hbx.alloc hbx.size (.cells #[.int .i64 1, .string s1] 91)
            have hsz4 := hb4.size
            go_wp2_with (at_builtin; refine wpList_append_own _ rfl _ _ 30 rfl W4.heap.size 91 i0 (.agg #[.int .i64 0, .string ⟨#[]⟩]) 2 24 Tryd.underlying30 hi hz0 hz1 hz2 rfl (by decide) _ _ _ rfl hown4 ⟨w3.heap.size, 0, none⟩ 1 1 [.int .i64 1, .string s1] rfl rfl hnews (by simp [Value.oneCell']) (by unfold maxLen; omega) (by omega) hsz4 ?_; intro v5 w5 hown5 hg5 _)
            have hb5 : Below W4.heap.size W4 w5 := hb4.grown hg5 hsz4 (fun k hk => (hown.lt k hk).1)
            clear hnews hown4 hg5 hb4
            go_roundw
            case rel => exact ⟨i + 1, j + 1, done ++ [(1, s1)], by omega, by omega, by go_num, by go_num, by rw [List.append_assoc]; have := hd.out; rw [ed_keep HS.out HTt.out rfl] at this; exact this, by simpa [edCells_snoc] using hown5, hb5⟩
            case measure => simp [intOf]; omega
          · have HST := Lib.hid hst
            have hse : (s1.toList == t1.toList) = false := by
              rw [ByteArray.toList_eq, ByteArray.toList_eq]
              simp
              intro h
              exact hst (ByteArray.ext h)
            have P0 := TR.row i (by omega)
            have P1 := TR.row (i + 1) (by omega)
            have P2 := TR.cell (i + 1) j (by omega) (by omega)
            have P3 := TR.cell i (j + 1) (by omega) (by omega)
            rw [← HM.out] at P0 P1
            have b1 := cT_le xs ys (i + 1) j
            have b2 := cT_le xs ys i (j + 1)
            have hiN : (i : Int) + 1 < (N : Int) := by have := HN.out; omega
            have hiN0 : (i : Int) < (N : Int) := by have := HN.out; omega
            have hjM : (j : Int) + 1 < (M : Int) := by have := HM.out; omega
            have hjM0 : (j : Int) < (M : Int) := by have := HM.out; omega
            have hsp : IntKind.i64.wrap ((i : Int) + 1) = (i : Int) + 1 := IntWalk.i64_in _ (by omega)
            have hsj : IntKind.i64.wrap ((j : Int) + 1) = (j : Int) + 1 := IntWalk.i64_in _ (by omega)
            have hjne : ((j : Int) == (ys.length : Int)) = false := by simpa using (show (j : Int) ≠ (ys.length : Int) by omega)
            clear TR hst
            obtain ⟨c1, hc1⟩ : ∃ c, c = cT xs ys (i + 1) j := ⟨_, rfl⟩
            obtain ⟨c2, hc2⟩ : ∃ c, c = cT xs ys i (j + 1) := ⟨_, rfl⟩
            rw [← hc1] at P2 b1
            rw [← hc2] at P3 b2
            have HC1 := Lib.hid hc1
            have HC2 := Lib.hid hc2
            clear hc1 hc2
            by_cases hle : c2 ≤ c1
            · have hli : (c2 : Int) ≤ (c1 : Int) := by omega
              have HLE : Hid (lc (xs.drop i) (ys.drop (j + 1)) ≤ lc (xs.drop (i + 1)) (ys.drop j)) := Lib.hid (by have h1 := HC1.out; have h2 := HC2.out; unfold cT at h1 h2; rw [← h1, ← h2]; exact hle)
              go_wp2_with fail
              go_quiet (fail)
              go_wp2_with fail
              go_quiet (fail)
              generalize hw3 : World.drewN (wr.drewN _) _ = w3
              have hb3 : Below wr.heap.size wr w3 := by rw [← hw3]; exact below_drewN (below_drewN (Below.refl _ wr) _) _
              clear hw3
              have hbx := hbr.trans (hb3.mono hbr.size)
              have hS3 := (HA4.out.below hbx)
              obtain ⟨ad, s', had, hs', hc⟩ := hS3.cell (k := i) (by omega)
              cases had
              obtain rfl : s1 = s' := by have := HS.out; rw [hs'] at this; exact (Option.some.inj this).symm
              clear hs' hS3
              have hcl := World.block_lt_of_cell? _ _ hc
              have hown4 := (own2_keep hown hb3).alloc (.cells #[.int .i64 2, .string s1] 91)
              have hnews := World.news_of_block (cs := #[.int .i64 2, .string s1]) (t := 91) (fr := (0, 0)) (heap_alloc_new w3 (.cells #[.int .i64 2, .string s1] 91))
              have hb4 := hbx.alloc hbx.size (.cells #[.int .i64 2, .string s1] 91)
              have hsz4 := hb4.size
              go_wp2_with (at_builtin; refine wpList_append_own _ rfl _ _ 30 rfl W4.heap.size 91 i0 (.agg #[.int .i64 0, .string ⟨#[]⟩]) 2 24 Tryd.underlying30 hi hz0 hz1 hz2 rfl (by decide) _ _ _ rfl hown4 ⟨w3.heap.size, 0, none⟩ 1 1 [.int .i64 2, .string s1] rfl rfl hnews (by simp [Value.oneCell']) (by unfold maxLen; omega) (by omega) hsz4 ?_; intro v5 w5 hown5 hg5 _)
              have hb5 : Below W4.heap.size W4 w5 := hb4.grown hg5 hsz4 (fun k hk => (hown.lt k hk).1)
              clear hnews hown4 hg5 hb4
              go_roundw
              case rel => exact ⟨i + 1, j, done ++ [(2, s1)], by omega, by omega, by go_num, by go_num, by rw [List.append_assoc]; have := hd.out; rw [ed_else HS.out HTt.out HST.out, if_pos HLE.out] at this; exact this, by simpa [edCells_snoc] using hown5, hb5⟩
              case measure => simp [intOf]; omega
            · have hli : (decide ((c2 : Int) ≤ (c1 : Int))) = false := decide_eq_false (by omega)
              have HLE : Hid (¬ lc (xs.drop i) (ys.drop (j + 1)) ≤ lc (xs.drop (i + 1)) (ys.drop j)) := Lib.hid (by have h1 := HC1.out; have h2 := HC2.out; unfold cT at h1 h2; rw [← h1, ← h2]; exact hle)
              go_wp2_with fail
              go_quiet (fail)
              go_wp2_with fail
              go_quiet (fail)
              generalize hw3 : World.drewN (wr.drewN _) _ = w3
              have hb3 : Below wr.heap.size wr w3 := by rw [← hw3]; exact below_drewN (below_drewN (Below.refl _ wr) _) _
              clear hw3
              have hbx := hbr.trans (hb3.mono hbr.size)
              have hS3 := (HB4.out.below hbx)
              obtain ⟨ad, s', had, hs', hc⟩ := hS3.cell (k := j) (by omega)
              cases had
              obtain rfl : t1 = s' := by have := HTt.out; rw [hs'] at this; exact (Option.some.inj this).symm
              clear hs' hS3
              have hcl := World.block_lt_of_cell? _ _ hc
              have hown4 := (own2_keep hown hb3).alloc (.cells #[.int .i64 3, .string t1] 91)
              have hnews := World.news_of_block (cs := #[.int .i64 3, .string t1]) (t := 91) (fr := (0, 0)) (heap_alloc_new w3 (.cells #[.int .i64 3, .string t1] 91))
              have hb4 := hbx.alloc hbx.size (.cells #[.int .i64 3, .string t1] 91)
              have hsz4 := hb4.size
              go_wp2_with (at_builtin; refine wpList_append_own _ rfl _ _ 30 rfl W4.heap.size 91 i0 (.agg #[.int .i64 0, .string ⟨#[]⟩]) 2 24 Tryd.underlying30 hi hz0 hz1 hz2 rfl (by decide) _ _ _ rfl hown4 ⟨w3.heap.size, 0, none⟩ 1 1 [.int .i64 3, .string t1] rfl rfl hnews (by simp [Value.oneCell']) (by unfold maxLen; omega) (by omega) hsz4 ?_; intro v5 w5 hown5 hg5 _)
              have hb5 : Below W4.heap.size W4 w5 := hb4.grown hg5 hsz4 (fun k hk => (hown.lt k hk).1)
              clear hnews hown4 hg5 hb4
              go_roundw
              case rel => exact ⟨i, j + 1, done ++ [(3, t1)], by omega, by omega, by go_num, by go_num, by rw [List.append_assoc]; have := hd.out; rw [ed_else HS.out HTt.out HST.out, if_neg HLE.out] at this; exact this, by simpa [edCells_snoc] using hown5, hb5⟩
              case measure => simp [intOf]; omega
        · obtain rfl : j = ys.length := by omega
          go_wp2_with fail
          go_quiet (fail)
          go_wp2_with fail
          go_quiet (fail)
          generalize hw3 : World.drewN (wr.drewN _) _ = w3
          have hb3 : Below wr.heap.size wr w3 := by rw [← hw3]; exact below_drewN (below_drewN (Below.refl _ wr) _) _
          clear hw3
          have hbx := hbr.trans (hb3.mono hbr.size)
          have hS3 := (HA4.out.below hbx)
          obtain ⟨ad, s', had, hs', hc⟩ := hS3.cell (k := i) (by omega)
          cases had
          obtain rfl : s = s' := by have := HS.out; rw [hs'] at this; exact (Option.some.inj this).symm
          clear hs' hS3
          have hcl := World.block_lt_of_cell? _ _ hc
          have hown4 := (own2_keep hown hb3).alloc (.cells #[.int .i64 2, .string s] 91)
          have hnews := World.news_of_block (cs := #[.int .i64 2, .string s]) (t := 91) (fr := (0, 0)) (heap_alloc_new w3 (.cells #[.int .i64 2, .string s] 91))
          have hb4 := hbx.alloc hbx.size (.cells #[.int .i64 2, .string s] 91)
          have hsz4 := hb4.size
          go_wp2_with (at_builtin; refine wpList_append_own _ rfl _ _ 30 rfl W4.heap.size 91 i0 (.agg #[.int .i64 0, .string ⟨#[]⟩]) 2 24 Tryd.underlying30 hi hz0 hz1 hz2 rfl (by decide) _ _ _ rfl hown4 ⟨w3.heap.size, 0, none⟩ 1 1 [.int .i64 2, .string s] rfl rfl hnews (by simp [Value.oneCell']) (by unfold maxLen; omega) (by omega) hsz4 ?_; intro v5 w5 hown5 hg5 _)
          have hb5 : Below W4.heap.size W4 w5 := hb4.grown hg5 hsz4 (fun k hk => (hown.lt k hk).1)
          clear hnews hown4 hg5 hb4
          go_roundw
          case rel => exact ⟨i + 1, ys.length, done ++ [(2, s)], by omega, by omega, by go_num, by go_num, by rw [List.append_assoc]; have := hd.out; rw [ed_end_b HS.out] at this; exact this, by simpa [edCells_snoc] using hown5, hb5⟩
          case measure => simp [intOf]; omega
      · obtain rfl : i = xs.length := by omega
        by_cases hj1 : j < ys.length
        · have hj2 : (j : Int) < (ys.length : Int) := by omega
          obtain ⟨t, ht⟩ : ∃ t, ys[j]? = some t := ⟨_, List.getElem?_eq_getElem hj1⟩
          have HTt := Lib.hid ht
          clear ht
          go_wp2_with fail
          go_quiet (fail)
          go_wp2_with fail
          go_quiet (fail)
          generalize hw3 : World.drewN (wr.drewN _) _ = w3
          have hb3 : Below wr.heap.size wr w3 := by rw [← hw3]; exact below_drewN (below_drewN (Below.refl _ wr) _) _
          clear hw3
          have hbx := hbr.trans (hb3.mono hbr.size)
          have hS3 := (HB4.out.below hbx)
          obtain ⟨ad, s', had, hs', hc⟩ := hS3.cell (k := j) (by omega)
          cases had
          obtain rfl : t = s' := by have := HTt.out; rw [hs'] at this; exact (Option.some.inj this).symm
          clear hs' hS3
          have hcl := World.block_lt_of_cell? _ _ hc
          have hown4 := (own2_keep hown hb3).alloc (.cells #[.int .i64 3, .string t] 91)
          have hnews := World.news_of_block (cs := #[.int .i64 3, .string t]) (t := 91) (fr := (0, 0)) (heap_alloc_new w3 (.cells #[.int .i64 3, .string t] 91))
          have hb4 := hbx.alloc hbx.size (.cells #[.int .i64 3, .string t] 91)
          have hsz4 := hb4.size
          go_wp2_with (at_builtin; refine wpList_append_own _ rfl _ _ 30 rfl W4.heap.size 91 i0 (.agg #[.int .i64 0, .string ⟨#[]⟩]) 2 24 Tryd.underlying30 hi hz0 hz1 hz2 rfl (by decide) _ _ _ rfl hown4 ⟨w3.heap.size, 0, none⟩ 1 1 [.int .i64 3, .string t] rfl rfl hnews (by simp [Value.oneCell']) (by unfold maxLen; omega) (by omega) hsz4 ?_; intro v5 w5 hown5 hg5 _)
          have hb5 : Below W4.heap.size W4 w5 := hb4.grown hg5 hsz4 (fun k hk => (hown.lt k hk).1)
          clear hnews hown4 hg5 hb4
          go_roundw
          case rel => exact ⟨xs.length, j + 1, done ++ [(3, t)], by omega, by omega, by go_num, by go_num, by rw [List.append_assoc]; have := hd.out; rw [ed_end_a HTt.out] at this; exact this, by simpa [edCells_snoc] using hown5, hb5⟩
          case measure => simp [intOf]; omega
        · obtain rfl : j = ys.length := by omega
          have hdd := hd.out
          rw [List.drop_length, List.drop_length, show ed ([] : List ByteArray) [] = [] from rfl, List.append_nil] at hdd
          subst hdd
          have KY := HK4.out.below hbr HK4.out.lt
          have KX := HX4.out.below hbr HX4.out.lt
          have c0 := KX.cell 0
          have c1 := KX.cell 1
          have y0 := KY.cell 0
          have y1 := KY.cell 1
          have f0 := KY.frozen 0
          have f1 := KY.frozen 1
          have HKY := Lib.hid KY
          have BR := Lib.hid (HE4.out.trans (hbr.mono HE4.out.size))
          have O := Lib.hid hown
          have O9 := Lib.hid (own2_le ((hown.kept (grown_cellL wr Y 0 (.slice none 0 0)) (.inr (own_blk_ne hown KY (by decide)))).kept (grown_cellL (wr.setCell ⟨Y, 0, none⟩ (.slice none 0 0)) Y 1 (.int .i64 0)) (.inr (own_blk_ne hown KY (by decide)))) hwW)
          have hYw : w.heap.size ≤ Y := by rw [HY.out]; exact Nat.le_refl _
          have B9 := Lib.hid ((BR.out.setCell (p := ⟨Y, 0, none⟩) hYw (.slice none 0 0)).setCell (p := ⟨Y, 1, none⟩) hYw (.int .i64 0))
          clear KX KY hown hYw
          go_wp2_with fail
          go_region
          go_wp2_with fail
          refine bodyPost_ret (results_tmp_row (fn := Tryd.f11) rfl _ _ Y 33 #[.slice none 0 0, .int .i64 0] (0, 0) rfl (by first | exact (HKY.out.set_ 0 _).set_ 1 _ | simpa using (HKY.out.set_ 0 (.slice none 0 0)).set_ 1 (.int .i64 0)) Tryd.underlying33 (by kernel_rfl)) rfl (.inl ⟨hxl, hyl, _, rfl, ?_, ?_⟩)
          · exact O9.out
          · first | exact B9.out | exact B9.out.drew
  · have E2 := E1.trans (hb2.mono (by rw [hs1]; omega))
    have K2 := K1.below hb2 K1.lt
    have K3 := K2.alloc (.cells #[.slice (some ⟨g, 0, none⟩) 1 1, .int .i64 4] 33)
    have X3 := Blk.new w2 33 #[.slice (some ⟨g, 0, none⟩) 1 1, .int .i64 4]
    have G3 := Lib.hid (Blk.alloc hg (.cells #[.slice (some ⟨g, 0, none⟩) 1 1, .int .i64 4] 33))
    have E3 := Lib.hid (E2.trans (((Below.refl w2.heap.size w2).alloc (Nat.le_refl _) (.cells #[.slice (some ⟨g, 0, none⟩) 1 1, .int .i64 4] 33)).mono E2.size))
    have c0 := X3.cell 0
    have c1 := X3.cell 1
    have y0 := K3.cell 0
    have y1 := K3.cell 1
    have f0 := K3.frozen 0
    have f1 := K3.frozen 1
    have HK3 := Lib.hid K3
    have HYG := Lib.hid (K3.ne_ G3.out (by decide))
    have hYX : w.heap.size ≠ w2.heap.size := by have := K2.lt; omega
    have HOV := Lib.hid hk
    clear hg X3 K3 K1 E1 E2 LO hb2 hs1 hk K2
    go_wp2_with fail
    generalize hW3 : w2.alloc (.cells #[.slice (some ⟨g, 0, none⟩) 1 1, .int .i64 4] 33) = W3 at *
    go_region
    go_wp2_with fail
    refine bodyPost_ret (results_tmp_row (fn := Tryd.f11) rfl _ _ w.heap.size 33 #[.slice (some ⟨g, 0, none⟩) 1 1, .int .i64 4] (0, 0) rfl (by first | exact (HK3.out.set_ 0 _).set_ 1 _ | simpa using (HK3.out.set_ 0 (.slice (some ⟨g, 0, none⟩) 1 1)).set_ 1 (.int .i64 4)) Tryd.underlying33 (by kernel_rfl)) rfl (.inr ⟨k, g, HOV.out, rfl, (G3.out.far (p := ⟨w.heap.size, 0, none⟩) (fun e => HYG.out e.symm) _).far (p := ⟨w.heap.size, 1, none⟩) (fun e => HYG.out e.symm) _, ?_⟩)
    exact ((E3.out.setCell (p := ⟨w.heap.size, 0, none⟩) (Nat.le_refl _) _).setCell (p := ⟨w.heap.size, 1, none⟩) (Nat.le_refl _) _).drew
end Go.Proofs.YtdpoeagmeiedcaaDoor
