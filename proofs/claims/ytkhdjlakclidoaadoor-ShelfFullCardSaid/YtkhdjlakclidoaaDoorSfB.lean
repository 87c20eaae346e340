/-
  A shelf made anew.
-/
import Derived.Test.YtkhdjlakclidoaaDoorSfA
namespace Go.Proofs.YtkhdjlakclidoaaDoor
open Go Go.RowKit
attribute [local go_sem] Oper.semAt_some

theorem q38 (w : World) (a : Option Addr) (n c n' c' : Nat) : (binOp .eql 38 (.slice a n c) (.slice none n' c')).run Tryd.prog w = .ok (.bool a.isNone) w := Lib.run_eql_slice_nil w _ _ a n c n' c' Tryd.underlying38
theorem sf_clone_nil (w : World) : Calls Tryd.prog 52 #[.slice none 0 0] w fun e w' => e = .returned (.slice none 0 0) ∧ w = w' := by
  have q38 := q38
  go_enter Tryd.func52, Tryd.ntmps52
  go_wp2
  go_ret
  exact ⟨rfl, rfl⟩
theorem sf_clone_row (w : World) (g c : Nat) (xs : List Value) (h : w.ownsRow 0 52 3 (.slice (some ⟨g, 0, none⟩) 1 c) 1 xs) (h1 : ∀ u ∈ xs, u.oneCell' = true) :
    Calls Tryd.prog 52 #[.slice (some ⟨g, 0, none⟩) 1 c] w fun e w' => ∃ v', e = .returned v' ∧ Wk w' v' ∧ vlen v' = 1 ∧ Below w.heap.size w w' := by
  obtain ⟨i0, hi0, hz0, hz1, hz2⟩ := info_parts fileInfo
  have q38 := q38
  obtain ⟨hl, h⟩ := h
  rcases h with ⟨h, _⟩ | ⟨g', cap, cur, hv, hB, hh, hn, hm, hs, ht⟩
  · cases h
  injection hv with e1 _ e3
  injection e1 with e1
  injection e1 with e1
  subst e1; subst e3
  have HC : Hid (∀ j u, xs[j]? = some u → w.cell? ⟨g, j, none⟩ = some u) := Lib.hid fun j u hj => by
    have hj3 := (List.getElem?_eq_some_iff.1 hj).1
    rw [cell_of_row w g j cur 52 (0, 0) hh]
    rw [← ht, List.getElem?_take, if_pos (by omega), Array.getElem?_toList] at hj
    exact hj
  have HL := Lib.hid hl
  have H1 := Lib.hid h1
  clear hl hh hs ht h1 hm
  go_enter Tryd.func52, Tryd.ntmps52
  go_wp2_with (at_builtin; refine wpList_append_own_at _ rfl _ _ 38 rfl w.heap.size 52 i0 _ 3 40 Tryd.underlying38 hi0 hz0 hz1 hz2 rfl (by decide) _ _ _ rfl (World.ownsRow_made w #[] 0 (Nat.le_refl _) (Nat.zero_le _) rfl) ⟨g, 0, none⟩ 1 c xs rfl HL.out ?c1 H1.out ?c3 ?c4 ?c5 ?_)
  case c1 =>
    intro j u hj
    exact Lib.cell?_alloc_some _ (HC.out j u hj)
  case c3 => unfold maxLen; omega
  try case c4 => omega
  try case c5 => simp
  intro v' w1 hown hg' _ hat
  go_wp2
  go_ret
  obtain ⟨A, c', rfl⟩ := own_form hown
  refine ⟨_, rfl, .inr ⟨xs, ?_, H1.out⟩, rfl, ((Below.refl _ w).alloc (Nat.le_refl _) _).grown hg' (by simp) (by intro k hk; simp [Value.ownBlock] at hk; omega)⟩
  obtain ⟨a, b⟩ := hown
  refine ⟨HL.out, ?_⟩
  rcases b with ⟨h, _⟩ | ⟨g2, cap2, cur2, hv2, _, hh2, hn2, hm2, hs2, ht2⟩
  · injection h with _ h; simp at h
  · exact .inr ⟨g2, cap2, cur2, by simpa using hv2, Nat.zero_le _, hh2, by simpa using hn2, hm2, hs2, by simpa using ht2⟩

def Anew (b : Int) (s : ByteArray) (n : Nat) (w : World) (e : Ending) (w' : World) : Prop := ∃ v, e = .returned (.agg #[.int .i64 b, .slice none 0 0, v, .string s]) ∧ Wk w' v ∧ vlen v = n ∧ Below w.heap.size w w'

set_option maxRecDepth 100000 in
set_option maxHeartbeats 1000000 in
theorem sf_anew_nil (b : Int) (s : ByteArray) (w : World) : Calls Tryd.prog 36 #[.agg #[.int .i64 b, .slice none 0 0, .slice none 0 0, .string s]] w (Anew b s 0 w) := by
  go_enter Tryd.func36, Tryd.ntmps36
  go_wp2_with fail
  go_region_with (go_at_call 52; refine (sf_clone_nil _).mono ?_; rintro e w' ⟨rfl, rfl⟩)
  all_goals go_wp2_with fail
  all_goals refine bodyPost_ret (v := .agg #[.int .i64 b, .slice none 0 0, .slice none 0 0, .string s]) (by simp [results, Tryd.results36, go_sem]) rfl ⟨_, rfl, .inl rfl, rfl, ?_⟩
  all_goals exact (((Below.refl w.heap.size w).alloc (Nat.le_refl _) _).alloc (by simp) _).drew
#print axioms sf_anew_nil
end Go.Proofs.YtkhdjlakclidoaaDoor
