/-
  index.Stage: the files of a stage.
-/
import Derived.Test.YtplleaimmmanhaaDoorSRow
namespace Go.Proofs.YtplleaimmmanhaaDoor
open Go.RowKit

theorem stageE_snoc (l : List En) (e : En) (n : Int) : stageE (l ++ [e]) n = stageE l n ++ (if e.2.1 = n then [toF e] else []) := by
  unfold stageE
  rw [List.filter_append, List.map_append]
  congr 1
  by_cases h : e.2.1 = n <;> simp [h]
theorem stageE_len (l : List En) (n : Int) : (stageE l n).length ≤ l.length := by
  unfold stageE
  rw [List.length_map]
  exact List.length_filter_le _ _

set_option maxHeartbeats 2000000 in
theorem stage_any (w : World) (v : Value) (l : List En) (n : Int) (h : Reads 6 cE w v l) (hl : l.length ≤ 100000) :
    Calls Tryd.prog 28 #[v, .int .i64 n] w (OwnTo 42 3 cF (stageE l n) w) := by
  obtain ⟨A, c, rfl⟩ := h.form
  have hn := h.len
  have hnm : l.length ≤ 9223372036854775807 := by omega
  have HO := Lib.hid h
  obtain ⟨i0, hi, hz0, hz1, hz2⟩ := info_parts fileInfo
  clear h hn
  go_enter Tryd.func28, Tryd.ntmps28
  go_wp2
  go_loopw [5, 10] (fun s5 s10 wr => ∃ i : Nat, i ≤ l.length ∧ s10 = .int .i64 i ∧ Hid (wr.ownsRow w.heap.size 42 3 s5 (stageE (l.take i) n).length ((stageE (l.take i) n).flatMap cF)) ∧ Below w.heap.size w wr) (fun _ s10 _ => l.length - (intOf s10).toNat)
  case atStart => exact ⟨0, Nat.zero_le _, rfl, Lib.hid (World.ownsRow_nil _ _ _ _), Below.refl _ _⟩
  case round =>
    obtain ⟨i, hil, rfl, hown, hb⟩ := hrel
    by_cases hlt : i < l.length
    · obtain ⟨e, he⟩ : ∃ e, l[i]? = some e := ⟨_, List.getElem?_eq_getElem hlt⟩
      obtain ⟨ad, rfl, c0, c1, c2, c3, c4, c5⟩ := Ents.at_ (HO.out.below hb) he
      have HT := Lib.hid (show stageE (l.take (i + 1)) n = stageE (l.take i) n ++ (if e.2.1 = n then [toF e] else []) by rw [take_snoc he, stageE_snoc])
      have hsl := Nat.le_trans (stageE_len (l.take i) n) (by rw [List.length_take]; omega : (l.take i).length ≤ 100000)
      obtain ⟨p, st, m, d, tm, sz⟩ := e
      have i0' : (0 : Int) ≤ (i : Int) := Int.natCast_nonneg _
      have hi1 : (i : Int) < (l.length : Int) := by omega
      have hcl := World.block_lt_of_cell? _ _ c0
      have hsz := hb.size
      clear he
      by_cases hst : st = n
      · subst hst
        have hst : Hid ((if st = st then [toF (p, st, m, d, tm, sz)] else []) = [(p, m, d)]) := Lib.hid (by rw [if_pos rfl]; rfl)
        have hown4 := ((hown.out.alloc (.cells #[.string p, .int .i64 st, .int .i64 m, .string d, .int .i64 tm, .int .i64 sz] 57)).alloc (.cells #[.string p, .int .i64 m, .string d] 42))
        have hnews := news_one (wr.alloc (.cells #[.string p, .int .i64 st, .int .i64 m, .string d, .int .i64 tm, .int .i64 sz] 57)) #[.string p, .int .i64 m, .string d] 42 (wr.heap.size + 1) (by simp)
        go_wp2_with (at_builtin; refine wpList_append_own _ rfl _ _ 23 rfl w.heap.size 42 i0 (.agg #[.string ⟨#[]⟩, .int .i64 0, .string ⟨#[]⟩]) 3 40 Tryd.underlying23 hi hz0 hz1 hz2 rfl (by decide) _ _ _ rfl hown4 ⟨wr.heap.size + 1, 0, none⟩ 1 1 [.string p, .int .i64 m, .string d] rfl rfl hnews (by simp [Value.oneCell']) (by unfold maxLen; omega) (by omega) (by simp; omega) ?_; intro v5 w5 hown5 hg5 _)
        have hb5 : Below w.heap.size w w5 := ((hb.alloc hsz _).alloc (by simp; omega) _).grown hg5 (by simp; omega) (fun k hk => (hown.out.lt k hk).1)
        clear hnews hown4 hg5
        go_roundw
        case rel => exact ⟨i + 1, by omega, by go_num, Lib.hid (by rw [HT.out, hst.out, List.length_append, flat_snoc]; exact hown5), hb5⟩
        case measure => simp [intOf]; omega
      · have hst' : Hid ((if st = n then [toF (p, st, m, d, tm, sz)] else []) = ([] : List Fl)) := Lib.hid (if_neg hst)
        have hbe : (st == n) = false := by simpa using hst
        have hown4 := hown.out.alloc (.cells #[.string p, .int .i64 st, .int .i64 m, .string d, .int .i64 tm, .int .i64 sz] 57)
        have hb4 := hb.alloc hsz (.cells #[.string p, .int .i64 st, .int .i64 m, .string d, .int .i64 tm, .int .i64 sz] 57)
        go_wp2
        go_roundw
        case rel => exact ⟨i + 1, by omega, by go_num, Lib.hid (by rw [HT.out, hst'.out, List.append_nil]; exact hown4), hb4⟩
        case measure => simp [intOf]; omega
    · obtain rfl : i = l.length := by omega
      have HL : Hid (stageE (l.take l.length) n = stageE l n) := Lib.hid (by rw [List.take_length])
      go_wp2
      go_ret
      exact ⟨_, rfl, by rw [← HL.out]; exact hown.out, hb⟩
end Go.Proofs.YtplleaimmmanhaaDoor
