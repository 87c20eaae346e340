/-
  diff.Matches: the rows of lines that are kept.
-/
import Derived.Test.YtdpoeagmeiedcaaDoorMatch
namespace Go.Proofs.YtdpoeagmeiedcaaDoor
open Go.RowKit

theorem matchInfo : (Tryd.prog.info? 48).map (fun i => (i.zero, i.size, i.bytes)) = some (some (.agg #[.int .i64 0, .int .i64 0, .int .i64 0]), 3, 24) := by kernel_rfl

/-- The matches come back in a row of the call's own. -/
def Matched (w : World) (l : List Mt) (e : Ending) (w' : World) : Prop :=
  ∃ v, e = .returned (.tuple #[v, .nilIface]) ∧ w'.ownsRow w.heap.size 48 3 v l.length (mcells l) ∧ Below w.heap.size w w'

set_option maxRecDepth 100000 in
set_option maxHeartbeats 4000000 in
theorem matches_good (w : World) (v u : Value) (xs ys : List ByteArray) (h : Strs w v xs) (g : Strs w u ys) (hx : ∀ s ∈ xs, s.size ≤ maxLen) (hy : ∀ s ∈ ys, s.size ≤ maxLen) (hxl : xs.length ≤ 256) (hyl : ys.length ≤ 256) :
    Calls Tryd.prog 12 #[v, u] w (Matched w (mrun (ed xs ys)).1) := by
  obtain ⟨i0, hi, hz0, hz1, hz2⟩ := info_parts matchInfo
  have CL := Lib.hid (lines_good w v u xs ys h g hx hy hxl hyl)
  have hops := Lib.hid (ed_ops xs ys)
  have hel := ed_len xs ys
  clear h g hx hy
  generalize ed xs ys = l at *
  go_enter Tryd.func12, Tryd.ntmps12
  go_wp2_with fail
  refine CL.out.mono ?_
  rintro e w2 ⟨v2, rfl, how, hb2⟩
  have HO := Lib.hid how
  obtain ⟨A, m, c, rfl⟩ : ∃ A m c, v2 = .slice A m c := by
    rcases how.2 with ⟨rfl, _⟩ | ⟨g, cap, cur, rfl, _⟩
    · exact ⟨_, _, _, rfl⟩
    · exact ⟨_, _, _, rfl⟩
  obtain rfl : m = l.length := by
    rcases how.2 with ⟨e, e2⟩ | ⟨g, cap, cur, e, _⟩
    · cases e; exact e2.symm
    · cases e; rfl
  clear how CL
  go_wp2_with fail
  go_loopw [8, 9, 10, 11, 25] (fun s8 s9 s10 s11 s25 wr => ∃ (k i j : Nat) (b : Bool) (out : List Mt), k ≤ l.length ∧ s25 = .int .i64 k ∧ s9 = .int .i64 i ∧ s10 = .int .i64 j ∧ s11 = .bool b ∧ Hid (mrun (l.take k) = (out, i, j, b)) ∧
      wr.ownsRow w2.heap.size 48 3 s8 out.length (mcells out) ∧ Below w2.heap.size w2 wr) (fun _ _ _ _ s25 _ => l.length - (intOf s25).toNat)
  case atStart => exact ⟨0, 0, 0, false, [], Nat.zero_le _, rfl, rfl, rfl, rfl, rfl, World.ownsRow_nil _ _ _ _, Below.refl _ _⟩
  case round =>
    obtain ⟨k, i, j, b, out, hk, rfl, rfl, rfl, rfl, hm, hown, hb⟩ := hrel
    have k0 : (0 : Int) ≤ (k : Int) := Int.natCast_nonneg _
    have hgood := MGood.run l k hk
    rw [hm.out] at hgood
    obtain ⟨gi, gj, gl, gn, gr⟩ := hgood
    simp only at gi gj gl gn gr
    by_cases hlt : k < l.length
    · obtain ⟨⟨op, s⟩, hs⟩ : ∃ x, l[k]? = some x := ⟨_, List.getElem?_eq_getElem hlt⟩
      have ho := own2_keep HO.out hb
      obtain ⟨g, rfl⟩ : ∃ g, A = some ⟨g, 0, none⟩ := by
        rcases ho.2 with ⟨_, e2⟩ | ⟨g, cap, cur, e, _⟩
        · omega
        · cases e; exact ⟨_, rfl⟩
      have k1 : (k : Int) < (l.length : Int) := by omega
      obtain ⟨x1, x2⟩ := edCells_at hs
      have c1 := own2_at ho x1
      have c2 := own2_at ho x2
      have hst := mrun_take l k hs
      rw [hm.out] at hst
      have hop := hops.out _ (List.mem_of_getElem? hs)
      simp only at hop
      clear ho x1 x2 hs
      rcases hop with rfl | rfl | rfl
      · cases b with
        | true =>
          obtain ⟨pre, ⟨a1, a2, a3⟩, rfl⟩ : ∃ p x, out = p ++ [x] := ⟨out.dropLast, out.getLast (gr rfl), (List.dropLast_concat_getLast (gr rfl)).symm⟩
          rw [List.length_append, List.length_singleton] at hown gl
          obtain ⟨gg, cap, rfl⟩ : ∃ gg cap, u8 = .slice (some ⟨gg, 0, none⟩) (pre.length + 1) cap := by
            rcases hown.2 with ⟨_, e2⟩ | ⟨gg, cap, cur, e, _⟩
            · omega
            · exact ⟨_, _, e⟩
          have hgl := (hown.lt gg rfl).2
          have hne : (gg = wr.heap.size) = False := eq_false (by omega)
          have hne2 : (wr.heap.size = gg) = False := eq_false (by omega)
          have hgb := (hown.lt gg rfl).1
          have hcl := hown.cellAt (pre.length * 3 + 2) (by omega)
          rw [mcells_last] at hcl
          have hfz := hown.frozenAt (pre.length * 3 + 2)
          have hst2 := hown.stored (pre.length * 3 + 2) (.int .i64 ((a3 : Int) + 1))
          have hset := mcells_set pre a1 a2 a3 (a3 + 1)
          rw [show ((a3 + 1 : Nat) : Int) = (a3 : Int) + 1 from by omega] at hset
          rw [hset] at hst2
          have hlen : (pre ++ [(a1, a2, a3 + 1)]).length = pre.length + 1 := by simp
          have hst3 := hst2.1.alloc (.cells #[.int .i64 1, .string s] 66)
          have hbs0 := hb.setCell (p := ⟨gg, pre.length * 3 + 2, none⟩) hgb (.int .i64 ((a3 : Int) + 1))
          have hbs := hbs0.alloc hbs0.size (.cells #[.int .i64 1, .string s] 66)
          rw [← hlen] at hst3
          have HST := Lib.hid hst
          have HS3 := Lib.hid hst3
          have HL := Lib.hid hlen
          have a3k : a3 ≤ k := gn (a1, a2, a3) (by simp)
          have HBS := Lib.hid hbs
          have hmst : mrun (l.take (k + 1)) = (pre ++ [(a1, a2, a3 + 1)], i + 1, j + 1, true) := by rw [hst]; simp [mstep, bump_snoc]
          have HM := Lib.hid hmst
          clear hst hst2 hst3 hset hlen gn gr hbs hbs0 hmst HST
          generalize pre.length = p at *
          have p0 : (0 : Int) ≤ (p : Int) := Int.natCast_nonneg _
          go_wp2
          go_roundw
          case rel => exact ⟨k + 1, i + 1, j + 1, true, _, by omega, by go_num, by go_num, by go_num, rfl, HM.out, by rw [← HL.out]; exact HS3.out, HBS.out⟩
          case measure => simp [intOf]; omega
        | false =>
          have hgl := fun z hz => (hown.lt z hz).2
          have hown4 := (hown.alloc (.cells #[.int .i64 1, .string s] 66)).alloc (.cells #[.int .i64 i, .int .i64 j, .int .i64 1] 48)
          have hnews := World.news_of_block (cs := #[.int .i64 i, .int .i64 j, .int .i64 1]) (t := 48) (fr := (0, 0)) (heap_alloc_new (wr.alloc (.cells #[.int .i64 1, .string s] 66)) (.cells #[.int .i64 i, .int .i64 j, .int .i64 1] 48))
          have hb4 := (hb.alloc hb.size (.cells #[.int .i64 1, .string s] 66)).alloc (by have := hb.size; simp; omega) (.cells #[.int .i64 i, .int .i64 j, .int .i64 1] 48)
          have hsz4 := hb4.size
          rw [show (wr.alloc (.cells #[.int .i64 1, .string s] 66)).heap.size = wr.heap.size + 1 from by simp] at hnews
          have heb : ((wr.alloc (.cells #[.int .i64 1, .string s] 66)).alloc (.cells #[.int .i64 i, .int .i64 j, .int .i64 1] 48)).heap[wr.heap.size]? = some (.cells #[.int .i64 1, .string s] 66) :=
            (Below.heap_alloc _ _ _ (by simp)).trans (heap_alloc_new wr _)
          have HEB := Lib.hid heb
          have HGL := Lib.hid hgl
          have HST := Lib.hid hst
          clear hst heb hgl
          go_wp2_with (at_builtin; refine wpList_append_own _ rfl _ _ 36 rfl w2.heap.size 48 i0 (.agg #[.int .i64 0, .int .i64 0, .int .i64 0]) 3 24 Tryd.underlying36 hi hz0 hz1 hz2 rfl (by decide) _ _ _ rfl hown4 ⟨wr.heap.size + 1, 0, none⟩ 1 1 [.int .i64 i, .int .i64 j, .int .i64 1] rfl rfl hnews (by simp [Value.oneCell']) (by unfold maxLen; omega) (by omega) hsz4 ?_; intro v5 w5 hown5 hg5 _; have hb5 : Below w2.heap.size w2 w5 := hb4.grown hg5 hsz4 (fun z hz => (hown.lt z hz).1); have heb5 : w5.heap[wr.heap.size]? = some (.cells #[.int .i64 1, .string s] 66) := (hg5.block wr.heap.size (by simp; omega) (fun e => by have := HGL.out _ e.symm; omega)).trans HEB.out; have q1 := cell_of_row w5 wr.heap.size 0 _ _ _ heb5; have q2 := cell_of_row w5 wr.heap.size 1 _ _ _ heb5; clear heb5 hnews hown4 hg5 hb4)
          go_roundw
          case rel => exact ⟨k + 1, i + 1, j + 1, true, out ++ [(i, j, 1)], by omega, by go_num, by go_num, by go_num, rfl, HST.out, by rw [mcells_snoc, List.length_append]; exact hown5, hb5⟩
          case measure => simp [intOf]; omega
      · have HST := Lib.hid hst
        clear hst
        go_wp2
        go_roundw
        case rel => exact ⟨k + 1, i + 1, j, false, out, by omega, by go_num, by go_num, rfl, rfl, HST.out, own2_keep hown ((Below.refl _ _).alloc (Nat.le_refl _) _), hb.alloc hb.size _⟩
        case measure => simp [intOf]; omega
      · have HST := Lib.hid hst
        clear hst
        go_wp2
        go_roundw
        case rel => exact ⟨k + 1, i, j + 1, false, out, by omega, by go_num, rfl, by go_num, rfl, HST.out, own2_keep hown ((Below.refl _ _).alloc (Nat.le_refl _) _), hb.alloc hb.size _⟩
        case measure => simp [intOf]; omega
    · obtain rfl : k = l.length := by omega
      have e1 := Lib.hid (show (mrun l).1 = out by have := hm.out; rw [List.take_length] at this; rw [this])
      go_wp2
      go_ret2
      refine ⟨u8, rfl, ?_, hb2.trans (hb.mono hb2.size)⟩
      rw [e1.out]
      exact own2_le hown hb2.size

end Go.Proofs.YtdpoeagmeiedcaaDoor
