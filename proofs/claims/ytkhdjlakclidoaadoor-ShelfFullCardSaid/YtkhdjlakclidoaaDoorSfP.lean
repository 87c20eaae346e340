/-
  Stack.Push, Stack.Drop.
-/
import Derived.Test.YtkhdjlakclidoaaDoorSfD
import Derived.Test.YtkhdjlakclidoaaDoorSfI4
namespace Go.Proofs.YtkhdjlakclidoaaDoor
open Go Go.RowKit

def Became (K : List Ky) (w : World) (e : Ending) (w' : World) : Prop := ∃ v', e = .returned (.tuple #[v', .int .i64 0]) ∧ Stk w' w.heap.size v' K ∧ Below w.heap.size w w'
theorem Stk.none {w : World} {B : Nat} {v : Value} {K : List Ky} (h : Stk w B v K) : v = .slice none 0 0 ∨ v.ownBlock ≠ Option.none := by
  obtain ⟨l, a, b, c⟩ := h
  rcases a.2 with ⟨h, _⟩ | ⟨g, cap, cur, h, _⟩
  · exact .inl h
  · subst h; exact .inr (by simp [Value.ownBlock])

theorem Stk.fresh {w : World} {B : Nat} {v : Value} {K : List Ky} (h : Stk w B v K) : v.ownBlock ≠ some w.heap.size := by
  obtain ⟨l, a, b, c⟩ := h
  intro e
  have := (World.ownsRow.lt a _ e).2
  omega

set_option maxRecDepth 100000 in
set_option maxHeartbeats 1000000 in
theorem sf_push_full (w : World) (A : Option Addr) (n c wn wc : Nat) (wA : Option Addr) (b : Int) (s : ByteArray) (hn : 16 ≤ n) (hn2 : n ≤ 1000) :
    Calls Tryd.prog 23 #[.slice A n c, .agg #[.int .i64 b, .slice none 0 0, .slice wA wn wc, .string s]] w fun e w' => e = .returned (.tuple #[.slice none 0 0, .int .i64 4]) ∧ Below w.heap.size w w' := by
  have h1 : (16 : Int) ≤ (n : Int) := by omega
  go_enter Tryd.func23, Tryd.ntmps23
  go_wp2_with fail
  go_ret2
  exact ⟨rfl, (Below.refl _ _).alloc (Nat.le_refl _) _⟩

theorem insert_stk (w : World) (B : Nat) (v : Value) (K : List Ky) (r : Sf) (vb : Nat) (h : Stk w B v K) (hK : K.length ≤ 1000) (hr : Wk w r.2.1) (hvb : Blk w vb 40 (rcs r).toArray) (hne : v.ownBlock ≠ some vb) (hBw : B ≤ w.heap.size) :
    Calls Tryd.prog 34 #[v, .int .i64 0, .slice (some ⟨vb, 0, none⟩) 1 1] w fun e w' => ∃ v', e = .returned v' ∧ Stk w' B v' (key r :: K) ∧ Below B w w' := by
  obtain ⟨l, hO, hW, rfl⟩ := h
  rw [List.length_map] at hK
  refine (insert_any w B v l r 0 vb hO (Nat.zero_le _) hK (sce_one hW) hr.one hvb hne hBw).mono ?_
  rintro e w' ⟨v', rfl, hO', hg, _⟩
  refine ⟨v', rfl, ⟨_, hO', ?_, by simp [insR]⟩, (Below.refl B w).grown hg hBw fun z hz => (hO.lt z hz).1⟩
  intro x hx
  have hx : x = r ∨ x ∈ l := by simpa [insR] using hx
  rcases hx with rfl | hx
  · exact hr.grown40 hO hg
  · exact (hW x hx).grown40 hO hg

theorem delete_stk (w : World) (B : Nat) (v : Value) (K : List Ky) (i : Nat) (h : Stk w B v K) (hi : i < K.length) (hBw : B ≤ w.heap.size) :
    Calls Tryd.prog 38 #[v, .int .i64 i, .int .i64 ((i : Int) + 1)] w fun e w' => ∃ v', e = .returned v' ∧ Stk w' B v' (K.take i ++ K.drop (i + 1)) ∧ Below B w w' := by
  obtain ⟨l, hO, hW, rfl⟩ := h
  rw [List.length_map] at hi
  refine (delete_any w B v l i hO (sce_one hW) hi).mono ?_
  rintro e w' ⟨v', rfl, hO', hg, _⟩
  refine ⟨v', rfl, ⟨_, hO', ?_, by simp [delR, List.map_take, List.map_drop]⟩, (Below.refl B w).grown hg hBw fun z hz => (hO.lt z hz).1⟩
  intro x hx
  unfold delR at hx
  rcases List.mem_append.1 hx with hx | hx
  · exact (hW x (List.mem_of_mem_take hx)).grown40 hO hg
  · exact (hW x (List.mem_of_mem_drop hx)).grown40 hO hg
#print axioms delete_stk

set_option maxRecDepth 100000 in
set_option maxHeartbeats 2000000 in
theorem sf_push (w : World) (B : Nat) (v : Value) (K : List Ky) (b : Int) (wn wc : Nat) (wA : Option Addr) (s : ByteArray) (h : Stk w B v K) (hK : K.length < 16) (hw : Wk w (.slice wA wn wc)) :
    Calls Tryd.prog 23 #[v, .agg #[.int .i64 b, .slice none 0 0, .slice wA wn wc, .string s]] w (Became ((b, wn, s) :: K) w) := by
  obtain ⟨A, c, rfl⟩ := h.form
  have AN : Hid (∀ W, Below w.heap.size w W → Calls Tryd.prog 35 #[.slice A K.length c] W fun e w' => ∃ v', e = .returned v' ∧ Stk w' W.heap.size v' K ∧ Below W.heap.size W w') := Lib.hid fun W hb => sf_anews W B _ K (h.below hb) (by omega)
  have HW := Lib.hid hw
  have h1 : ¬ (16 : Int) ≤ (K.length : Int) := by omega
  clear h hw
  go_enter Tryd.func23, Tryd.ntmps23
  go_wp2_with fail
  go_region_with (first
    | (go_at_call 35; refine (AN.out _ ((Below.refl w.heap.size w).alloc (Nat.le_refl _) _).drew).mono ?_; rintro e w1 ⟨v1, rfl, hs1, hb1⟩
       have n1 : w1.heap[w.heap.size]? = some (.cells #[.int .i64 b, .slice none 0 0, .slice wA wn wc, .string s] 40 (0, 0)) := (hb1.block w.heap.size (by simp)).trans (heap_alloc_new w _)
       have x0 : w1.cell? ⟨w.heap.size, 0, none⟩ = some (.int .i64 b) := cell_of_row w1 _ 0 _ 40 (0, 0) n1
       have x1 : w1.cell? ⟨w.heap.size, 1, none⟩ = some (.slice none 0 0) := cell_of_row w1 _ 1 _ 40 (0, 0) n1
       have x2 : w1.cell? ⟨w.heap.size, 2, none⟩ = some (.slice wA wn wc) := cell_of_row w1 _ 2 _ 40 (0, 0) n1
       have x3 : w1.cell? ⟨w.heap.size, 3, none⟩ = some (.string s) := cell_of_row w1 _ 3 _ 40 (0, 0) n1
       have BB1 := Lib.hid (((Below.refl w.heap.size w).alloc (Nat.le_refl _) (.cells #[.int .i64 b, .slice none 0 0, .slice wA wn wc, .string s] 40)).drew.trans (hb1.mono (by simp)))
       have W1 := Lib.hid (HW.out.below BB1.out)
       have S1 := Lib.hid (hs1.lower (B' := w.heap.size) (by simp))
       clear hs1 hb1 n1)
    | (go_at_call 36; refine (sf_anew_any b s _ _ W1.out).mono ?_; rintro e w2 ⟨v2, rfl, hk2, hn2, hb2⟩
       obtain ⟨A2, c2, rfl⟩ : ∃ A c, v2 = .slice A wn c := by obtain ⟨A, c, h, _⟩ := hk2.form; rw [hn2] at h; exact ⟨A, c, h⟩
       have S2 := Lib.hid (S1.out.below hb2)
       have BB2 := Lib.hid (BB1.out.trans (hb2.mono BB1.out.size))
       have W2 := Lib.hid hk2
       clear hk2 hn2 hb2)
    | (go_at_call 34; refine (insert_stk _ w.heap.size v1 K (b, .slice A2 wn c2, s) w2.heap.size (S2.out.below ((Below.refl _ _).alloc (Nat.le_refl _) _)) (by omega) (W2.out.below ((Below.refl _ _).alloc (Nat.le_refl _) _)) (Blk.new _ _ _) S2.out.fresh (by have := BB2.out.size; simp; omega)).mono ?_; rintro e w3 ⟨v3, rfl, hs3, hb3⟩
       have S3 := Lib.hid hs3
       have BB3 := Lib.hid ((BB2.out.alloc BB2.out.size _).trans hb3)
       clear hs3 hb3))
  all_goals go_wp2_with fail
  all_goals go_ret2
  all_goals exact ⟨v3, rfl, S3.out, BB3.out⟩

set_option maxRecDepth 100000 in
set_option maxHeartbeats 2000000 in
theorem sf_drop (w : World) (B : Nat) (v : Value) (K : List Ky) (i : Nat) (h : Stk w B v K) (hK : K.length ≤ 100) (hi : i < K.length) :
    Calls Tryd.prog 24 #[v, .int .i64 i] w (Became (K.take i ++ K.drop (i + 1)) w) := by
  obtain ⟨A, c, rfl⟩ := h.form
  have AN := Lib.hid (sf_anews w B _ K h hK)
  have H := Lib.hid (sf_has K.length c A i w (by omega))
  have hh : sfHas K.length (i : Int) = true := by unfold sfHas; rw [decide_eq_true (Int.natCast_nonneg i), decide_eq_true (by omega)]; rfl
  rw [hh] at H
  have hw1 : IntKind.i64.wrap ((i : Int) + 1) = (i : Int) + 1 := by rw [IntKind.wrap_i64]; omega
  clear h hh
  go_enter Tryd.func24, Tryd.ntmps24
  go_wp2_with fail
  refine H.out.mono ?_
  rintro e w0 ⟨rfl, rfl⟩
  go_wp2_with fail
  refine AN.out.mono ?_
  rintro e w1 ⟨v1, rfl, hs1, hb1⟩
  have S1 := Lib.hid hs1
  have B1 := Lib.hid hb1
  clear hs1 hb1
  go_wp2_with fail
  refine (delete_stk w1 w.heap.size v1 K i S1.out hi B1.out.size).mono ?_
  rintro e w2 ⟨v2, rfl, hs2, hb2⟩
  have S2 := Lib.hid hs2
  have B2 := Lib.hid (B1.out.trans hb2)
  clear hs2 hb2
  go_wp2_with fail
  go_ret2
  exact ⟨v2, rfl, S2.out, B2.out⟩
#print axioms sf_drop
end Go.Proofs.YtkhdjlakclidoaaDoor
