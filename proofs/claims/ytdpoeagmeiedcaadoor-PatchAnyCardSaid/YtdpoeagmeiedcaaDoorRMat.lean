/-
  rectoref11.Matches.
-/
import Derived.Test.YtdpoeagmeiedcaaDoorRLin
import Derived.Test.YtdpoeagmeiedcaaDoorMatches
namespace Go.Proofs.YtdpoeagmeiedcaaDoor
open Go Go.RowKit

theorem refMatchInfo : (Tryd.prog.info? 49).map (fun i => (i.zero, i.size, i.bytes)) = some (some (.agg #[.int .i64 0, .int .i64 0, .int .i64 0]), 3, 24) := by kernel_rfl
/-- The document's matches, in a row of the call's own. -/
def RefMatched (w : World) (l : List Mt) (e : Ending) (w' : World) : Prop :=
  ∃ v, e = .returned v ∧ w'.ownsRow w.heap.size 49 3 v l.length (mcells l) ∧ Below w.heap.size w w'

set_option maxRecDepth 100000 in
set_option maxHeartbeats 4000000 in
theorem refMatches_any (w : World) (base : Nat) (v : Value) (l : List (Nat × ByteArray)) (h : w.ownsRow base 91 2 v l.length (edCells l)) (hops0 : ∀ x ∈ l, x.1 = 1 ∨ x.1 = 2 ∨ x.1 = 3) (hel : l.length ≤ 512) :
    Calls Tryd.prog 16 #[v] w (RefMatched w (mrun l).1) := by
  obtain ⟨i0, hi, hz0, hz1, hz2⟩ := info_parts refMatchInfo
  have hops := Lib.hid hops0
  have HO := Lib.hid h
  obtain ⟨A, m, c, rfl⟩ : ∃ A m c, v = .slice A m c := by
    rcases h.2 with ⟨rfl, _⟩ | ⟨g, cap, cur, rfl, _⟩
    · exact ⟨_, _, _, rfl⟩
    · exact ⟨_, _, _, rfl⟩
  obtain rfl : m = l.length := by
    rcases h.2 with ⟨e, e2⟩ | ⟨g, cap, cur, e, _⟩
    · cases e; exact e2.symm
    · cases e; rfl
  clear h hops0
  go_enter Tryd.func16, Tryd.ntmps16
  go_wp2_with fail
  go_loopw [3, 4, 5, 6, 7] (fun s3 s4 s5 s6 s7 wr => ∃ (k i j lz : Nat) (b : Bool) (out : List Mt), k ≤ l.length ∧ s7 = .int .i64 k ∧ s4 = .int .i64 i ∧ s5 = .int .i64 j ∧ s6 = .int .i64 lz ∧ b = (lz == 1) ∧ Hid (mrun (l.take k) = (out, i, j, b)) ∧
      wr.ownsRow w.heap.size 49 3 s3 out.length (mcells out) ∧ Below w.heap.size w wr) (fun _ _ _ _ s7 _ => l.length - (intOf s7).toNat)
  case atStart => exact ⟨0, 0, 0, 0, false, [], Nat.zero_le _, rfl, rfl, rfl, rfl, rfl, rfl, World.ownsRow_nil _ _ _ _, Below.refl _ _⟩
  case round =>
    obtain ⟨k, i, j, lz, b, out, hk, rfl, rfl, rfl, rfl, hbz, hm, hown, hb⟩ := hrel
    have k0 : (0 : Int) ≤ (k : Int) := Int.natCast_nonneg _
    have hgood := MGood.run l k hk
    rw [hm.out] at hgood
    obtain ⟨gi, gj, gl, gn, gr⟩ := hgood
    simp only at gi gj gl gn gr
    by_cases hlt : k < l.length
    · obtain ⟨⟨op, s⟩, hs⟩ : ∃ x, l[k]? = some x := ⟨_, List.getElem?_eq_getElem hlt⟩
      have ho := own2_keep HO.out hb
      obtain ⟨g, rfl⟩ : ∃ g, A = some ⟨g, 0, none⟩ := by
        rcases ho.2 with ⟨_, e2⟩ | ⟨g, cap, cur, e, _⟩
        · omega
        · cases e; exact ⟨_, rfl⟩
      have hgw := (HO.out.lt g rfl).2
      have k1 : (k : Int) < (l.length : Int) := by omega
      obtain ⟨x1, x2⟩ := edCells_at hs
      have X1 := Lib.hid x1
      have c1 := own2_at ho x1
      have hst := mrun_take l k hs
      rw [hm.out] at hst
      have hop := hops.out _ (List.mem_of_getElem? hs)
      simp only at hop
      clear ho x1 x2 hs
      rcases hop with rfl | rfl | rfl
      · cases b with
        | true =>
          obtain rfl : lz = 1 := by simpa using hbz.symm
          clear hbz
          rw [show ((1 : Nat) : Int) = 1 from rfl]
          obtain ⟨pre, ⟨a1, a2, a3⟩, rfl⟩ : ∃ p x, out = p ++ [x] := ⟨out.dropLast, out.getLast (gr rfl), (List.dropLast_concat_getLast (gr rfl)).symm⟩
          rw [List.length_append, List.length_singleton] at hown gl
          obtain ⟨gg, cap, rfl⟩ : ∃ gg cap, u3 = .slice (some ⟨gg, 0, none⟩) (pre.length + 1) cap := by
            rcases hown.2 with ⟨_, e2⟩ | ⟨gg, cap, cur, e, _⟩
            · omega
            · exact ⟨_, _, e⟩
          have hgb := (hown.lt gg rfl).1
          have hne : (g = gg) = False := eq_false (by omega)
          have hne2 : (gg = g) = False := eq_false (by omega)
          have hcl := hown.cellAt (pre.length * 3 + 2) (by omega)
          rw [mcells_last] at hcl
          have hfz := hown.frozenAt (pre.length * 3 + 2)
          have hst2 := hown.stored (pre.length * 3 + 2) (.int .i64 ((a3 : Int) + 1))
          have hset := mcells_set pre a1 a2 a3 (a3 + 1)
          rw [show ((a3 + 1 : Nat) : Int) = (a3 : Int) + 1 from by omega] at hset
          rw [hset] at hst2
          have hlen : (pre ++ [(a1, a2, a3 + 1)]).length = pre.length + 1 := by simp
          have hst3 := hst2.1
          have hbs0 := hb.setCell (p := ⟨gg, pre.length * 3 + 2, none⟩) hgb (.int .i64 ((a3 : Int) + 1))
          rw [← hlen] at hst3
          have HST := Lib.hid hst
          have HS3 := Lib.hid hst3
          have HL := Lib.hid hlen
          have a3k : a3 ≤ k := gn (a1, a2, a3) (by simp)
          have HBS := Lib.hid hbs0
          have hmst : mrun (l.take (k + 1)) = (pre ++ [(a1, a2, a3 + 1)], i + 1, j + 1, true) := by rw [hst]; simp [mstep, bump_snoc]
          have HM := Lib.hid hmst
          clear hst hst2 hst3 hset hlen gn gr hbs0 hmst HST
          generalize pre.length = p at *
          have p0 : (0 : Int) ≤ (p : Int) := Int.natCast_nonneg _
          go_wp2
          go_roundw
          case rel => exact ⟨k + 1, i + 1, j + 1, 1, true, _, by omega, by go_num, by go_num, by go_num, rfl, rfl, HM.out, by rw [← HL.out]; exact HS3.out, HBS.out⟩
          case measure => simp [intOf]; omega
        | false =>
          have hlz : ((lz : Int) == 1) = false := by
            have : ¬ lz = 1 := by simpa using hbz.symm
            simpa using (show (lz : Int) ≠ 1 by omega)
          clear hbz
          have hown4 := hown.alloc (.cells #[.int .i64 i, .int .i64 j, .int .i64 1] 49)
          have hnews := World.news_of_block (cs := #[.int .i64 i, .int .i64 j, .int .i64 1]) (t := 49) (fr := (0, 0)) (heap_alloc_new wr (.cells #[.int .i64 i, .int .i64 j, .int .i64 1] 49))
          have hb4 := hb.alloc hb.size (.cells #[.int .i64 i, .int .i64 j, .int .i64 1] 49)
          have hsz4 := hb4.size
          have HST := Lib.hid hst
          clear hst
          go_wp2_with (at_builtin; refine wpList_append_own _ rfl _ _ 43 rfl w.heap.size 49 i0 (.agg #[.int .i64 0, .int .i64 0, .int .i64 0]) 3 24 Tryd.underlying43 hi hz0 hz1 hz2 rfl (by decide) _ _ _ rfl hown4 ⟨wr.heap.size, 0, none⟩ 1 1 [.int .i64 i, .int .i64 j, .int .i64 1] rfl rfl hnews (by simp [Value.oneCell']) (by unfold maxLen; omega) (by omega) hsz4 ?_; intro v5 w5 hown5 hg5 _; have hb5 : Below w.heap.size w w5 := hb4.grown hg5 hsz4 (fun z hz => (hown.lt z hz).1); have q1 := own2_at (own2_keep HO.out hb5) X1.out; clear hnews hown4 hg5 hb4)
          go_roundw
          case rel => exact ⟨k + 1, i + 1, j + 1, 1, true, out ++ [(i, j, 1)], by omega, by go_num, by go_num, by go_num, rfl, rfl, HST.out, by rw [mcells_snoc, List.length_append]; exact hown5, hb5⟩
          case measure => simp [intOf]; omega
      · have HST := Lib.hid hst
        clear hst hbz
        go_wp2
        go_roundw
        case rel => exact ⟨k + 1, i + 1, j, 2, false, out, by omega, by go_num, by go_num, rfl, rfl, rfl, HST.out, hown, hb⟩
        case measure => simp [intOf]; omega
      · have HST := Lib.hid hst
        clear hst hbz
        go_wp2
        go_roundw
        case rel => exact ⟨k + 1, i, j + 1, 3, false, out, by omega, by go_num, rfl, by go_num, rfl, rfl, HST.out, hown, hb⟩
        case measure => simp [intOf]; omega
    · obtain rfl : k = l.length := by omega
      have e1 := Lib.hid (show (mrun l).1 = out by have := hm.out; rw [List.take_length] at this; rw [this])
      go_wp2
      go_ret
      refine ⟨_, rfl, ?_, hb⟩
      rw [e1.out]
      exact hown

end Go.Proofs.YtdpoeagmeiedcaaDoor
