/-
  status.Tracked, status.allPaths: the paths of head and index, and of all three.
-/
import Derived.Test.YtkdoccmflknipaaSPaths
import Derived.Deep.DrawnRows
namespace Go.Proofs.Ytkdoccmflknipaa
open Go.RowKit

/-- The paths of head and index. -/
def trackP (h : List Fl) (ix : List En) : List ByteArray := nrm (nrm (h.map (·.1)) ++ ix.map (·.1))
/-- .. and of the folder besides. -/
def allP (h : List Fl) (ix : List En) (wk : List Fl) : List ByteArray := nrm (trackP h ix ++ nrm (wk.map (·.1)))
theorem pathsR_one (v : Value) (l : List Fl) : pathsR [(v, l)] = l.map (·.1) := by simp [pathsR]
theorem trees_one {w : World} {v : Value} {l : List Fl} (h : Reads 3 cF w v l) : Trees (w.alloc (.cells #[v] 23)) ⟨w.heap.size, 0, none⟩ [(v, l)] := fun i r hr => by
  cases i with
  | zero =>
    simp at hr; subst hr
    exact ⟨cell_of_row _ _ 0 _ 23 (0, 0) (heap_alloc_new w _), h.alloc _⟩
  | succ i => simp at hr
/-- files.Paths of one tree. -/
theorem paths_one (w : World) (v : Value) (l : List Fl) (h : Reads 3 cF w v l) (hl : l.length ≤ 100000) :
    Calls Try.prog 39 #[.slice (some ⟨w.heap.size, 0, none⟩) 1 1] (w.alloc (.cells #[v] 23)) (TextsTo (nrm (l.map (·.1))) (w.alloc (.cells #[v] 23))) := by
  have := paths_any (w.alloc (.cells #[v] 23)) ⟨w.heap.size, 0, none⟩ 1 [(v, l)] (trees_one h) (by simp) (by rw [pathsR_one, List.length_map]; exact hl)
  rw [pathsR_one] at this
  exact this

set_option maxHeartbeats 2000000 in
theorem tracked_any (w : World) (v u : Value) (l : List Fl) (ix : List En) (h : Reads 3 cF w v l) (g : Reads 6 cE w u ix) (hl : l.length ≤ 10000) (hx : ix.length ≤ 10000) :
    Calls Try.prog 17 #[v, u] w (TextsTo (trackP l ix) w) := by
  obtain ⟨A1, c1, rfl⟩ := h.form
  have P := Lib.hid (paths_one w _ l h (by omega))
  obtain ⟨A, c, rfl⟩ := g.form
  have hn := g.len
  have hnm : ix.length ≤ 9223372036854775807 := by omega
  have HO := Lib.hid g
  have HQ := Lib.hid (show (nrm (l.map fun x => x.1)).length ≤ 10000 from Nat.le_trans (nrm_len _) (by rw [List.length_map]; exact hl))
  have HT := Lib.hid (show trackP l ix = nrm (nrm (l.map fun x => x.1) ++ ix.map fun x => x.1) from rfl)
  obtain ⟨ps, hps⟩ : ∃ ps, ps = nrm (l.map fun x => x.1) := ⟨_, rfl⟩
  rw [← hps] at HQ HT P
  obtain ⟨i0, hi, hz0, hz1, hz2⟩ := info_parts strInfo
  have B1 : Below w.heap.size w (w.alloc (.cells #[.slice A1 l.length c1] 23)) := (Below.refl _ _).alloc (Nat.le_refl _) _
  clear h g hn hps
  go_enter Try.func17, Try.ntmps17
  go_wp2_with fail
  refine P.out.mono ?_
  rintro e w1 ⟨v1, rfl, ho1, hb1⟩
  have B2 : Below w.heap.size w w1 := B1.trans (hb1.mono (by simp))
  have O2 := Lib.hid (show w1.ownsRow w.heap.size 9 1 v1 ps.length (ps.map Value.string) from ⟨ho1.1, by
    rcases ho1.2 with h | ⟨g, cap, cur, hv, hg, r⟩
    · exact .inl h
    · exact .inr ⟨g, cap, cur, hv, by simp at hg; omega, r⟩⟩)
  clear ho1 hb1 P B1
  go_wp2
  go_loopw [5, 13] (fun s5 s13 wr => ∃ i : Nat, i ≤ ix.length ∧ s13 = .int .i64 i ∧ Hid (wr.ownsRow w.heap.size 9 1 s5 (ps.length + i) ((ps ++ (ix.take i).map (·.1)).map Value.string)) ∧ Below w.heap.size w wr) (fun _ s13 _ => ix.length - (intOf s13).toNat)
  case atStart => exact ⟨0, Nat.zero_le _, rfl, Lib.hid (by rw [List.take_zero, List.map_nil, List.append_nil]; exact O2.out), B2⟩
  case round =>
    obtain ⟨i, hil, rfl, hown, hb⟩ := hrel
    by_cases hlt : i < ix.length
    · obtain ⟨e, he⟩ : ∃ e, ix[i]? = some e := ⟨_, List.getElem?_eq_getElem hlt⟩
      obtain ⟨ad, rfl, c0, c1, c2, c3, c4, c5⟩ := Ents.at_ (HO.out.below hb) he
      obtain ⟨p, st, m, d, tm, sz⟩ := e
      have HE := Lib.hid (show ps ++ (ix.take (i + 1)).map (fun x => x.1) = (ps ++ (ix.take i).map (fun x => x.1)) ++ [p] by rw [take_snoc he]; simp)
      have hps := HQ.out
      have i0' : (0 : Int) ≤ (i : Int) := Int.natCast_nonneg _
      have hi1 : (i : Int) < (ix.length : Int) := by omega
      have hcl := World.block_lt_of_cell? _ _ c0
      have hsz := hb.size
      clear he
      have hown4 := ((hown.out.alloc (.cells #[.string p, .int .i64 st, .int .i64 m, .string d, .int .i64 tm, .int .i64 sz] 61)).alloc (.cells #[.string p] 9))
      have hnews := news_one (wr.alloc (.cells #[.string p, .int .i64 st, .int .i64 m, .string d, .int .i64 tm, .int .i64 sz] 61)) #[.string p] 9 (wr.heap.size + 1) (by simp)
      go_wp2_with (at_builtin; refine wpList_append_own _ rfl _ _ 42 rfl w.heap.size 9 i0 (.string { data := #[] }) 1 16 Try.underlying42 hi hz0 hz1 hz2 rfl (by decide) _ _ _ rfl hown4 ⟨wr.heap.size + 1, 0, none⟩ 1 1 [.string p] rfl rfl hnews (by simp [Value.oneCell']) (by unfold maxLen; omega) (by omega) (by simp; omega) ?_; intro v5 w5 hown5 hg5 _)
      have hb5 : Below w.heap.size w w5 := ((hb.alloc hsz _).alloc (by simp; omega) _).grown hg5 (by simp; omega) (fun k hk => (hown.out.lt k hk).1)
      clear hnews hown4 hg5
      go_roundw
      case rel => exact ⟨i + 1, by omega, by go_num, Lib.hid (by rw [HE.out, str_snoc, ← Nat.add_assoc]; exact hown5), hb5⟩
      case measure => simp [intOf]; omega
    · obtain rfl : i = ix.length := by omega
      have hps := HQ.out
      have hown2 : wr.ownsRow w.heap.size 9 1 u5 (ps ++ ix.map (fun x => x.1)).length ((ps ++ ix.map (fun x => x.1)).map Value.string) := by
        have := hown.out
        rw [List.take_length] at this
        rw [List.length_append, List.length_map]
        exact this
      go_wp2_with fail
      refine (sort_own wr _ _ _ hown2 (by rw [List.length_append, List.length_map]; omega)).mono ?_
      rintro e w2 ⟨rfl, ho2, hb2⟩
      go_wp2_with fail
      refine (compact_own w2 _ _ _ _ ho2 (by rw [List.length_append, List.length_map]; omega)).mono ?_
      rintro e w3 ⟨u, rfl, ho3, hb3⟩
      go_wp2
      go_ret
      exact ⟨_, rfl, by rw [HT.out]; exact ho3, (hb.trans hb2).trans hb3⟩
end Go.Proofs.Ytkdoccmflknipaa
