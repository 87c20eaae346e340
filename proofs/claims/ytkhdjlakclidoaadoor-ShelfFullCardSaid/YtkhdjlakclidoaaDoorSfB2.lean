/-
  A shelf with a file made anew; any shelf.
-/
import Derived.Test.YtkhdjlakclidoaaDoorSfB
namespace Go.Proofs.YtkhdjlakclidoaaDoor
open Go Go.RowKit
attribute [local go_sem] Oper.semAt_some

theorem Wk.set_ {w : World} {g i : Nat} {cs : Array Value} {u v : Value} (h : Wk w v) (hb : Blk w g 40 cs) : Wk (w.setCell ⟨g, i, none⟩ u) v := by
  rcases h with rfl | ⟨xs, h, h1⟩
  · exact .inl rfl
  · exact .inr ⟨xs, h.kept (row := some g) ⟨rfl, rfl, rfl, by simp, fun k _ hk => Below.heap_setCell _ _ _ _ (fun e => hk (by rw [e]))⟩ (.inr (own_blk_ne h hb (by decide))), h1⟩
/-- Two shelves' blocks, and a row of files besides. -/
def Wk2 (w : World) (g g' : Nat) (v : Value) : Prop := Wk w v ∧ (∃ cs, Blk w g 40 cs) ∧ (∃ cs, Blk w g' 40 cs) ∧ g ≠ g'
theorem Wk2.a {w : World} {g g' : Nat} {v : Value} (h : Wk2 w g g' v) (i : Nat) (u : Value) : Wk2 (w.setCell ⟨g, i, none⟩ u) g g' v := by
  obtain ⟨a, ⟨cs, b⟩, ⟨cs', b'⟩, c⟩ := h
  exact ⟨a.set_ b, ⟨_, b.set_ i u⟩, ⟨_, b'.far (p := ⟨g, i, none⟩) (fun e => c e.symm) u⟩, c⟩
theorem Wk2.b {w : World} {g g' : Nat} {v : Value} (h : Wk2 w g g' v) (i : Nat) (u : Value) : Wk2 (w.setCell ⟨g', i, none⟩ u) g g' v := by
  obtain ⟨a, ⟨cs, b⟩, ⟨cs', b'⟩, c⟩ := h
  exact ⟨a.set_ b', ⟨_, b.far (p := ⟨g', i, none⟩) c u⟩, ⟨_, b'.set_ i u⟩, c⟩

set_option maxRecDepth 100000 in
set_option maxHeartbeats 2000000 in
theorem sf_anew_row (b : Int) (s : ByteArray) (w : World) (g c : Nat) (xs : List Value) (h : w.ownsRow 0 52 3 (.slice (some ⟨g, 0, none⟩) 1 c) 1 xs) (h1 : ∀ u ∈ xs, u.oneCell' = true) :
    Calls Tryd.prog 36 #[.agg #[.int .i64 b, .slice none 0 0, .slice (some ⟨g, 0, none⟩) 1 c, .string s]] w (Anew b s 1 w) := by
  have HR : Hid (∀ W, Below w.heap.size w W → Calls Tryd.prog 52 #[.slice (some ⟨g, 0, none⟩) 1 c] W fun e w' => ∃ v', e = .returned v' ∧ Wk w' v' ∧ vlen v' = 1 ∧ Below W.heap.size W w') := Lib.hid fun W hb => sf_clone_row W g c xs (own_keep h hb) h1
  clear h h1
  go_enter Tryd.func36, Tryd.ntmps36
  go_wp2_with fail
  go_region_with (first
    | (go_at_call 52; with_reducible refine (sf_clone_nil _).mono ?_; rintro e w' ⟨rfl, rfl⟩)
    | (go_at_call 52; refine (HR.out _ (((Below.refl w.heap.size w).alloc (Nat.le_refl _) _).alloc (by simp) _).drew).mono ?_; rintro e w1 ⟨v, rfl, hk, hn, hb⟩
       obtain ⟨A, c2, rfl⟩ : ∃ A c2, v = .slice A 1 c2 := by obtain ⟨A, c2, h, _⟩ := hk.form; rw [hn] at h; exact ⟨A, c2, h⟩
       have n1 : w1.heap[w.heap.size]? = some (.cells #[.int .i64 b, .slice none 0 0, .slice (some ⟨g, 0, none⟩) 1 c, .string s] 40 (0, 0)) := (hb.block w.heap.size (by simp; omega)).trans ((Below.heap_alloc _ _ _ (by simp)).trans (heap_alloc_new w _))
       have n2 : w1.heap[w.heap.size + 1]? = some (.cells #[.int .i64 0, .slice none 0 0, .slice none 0 0, .string ⟨#[]⟩] 40 (0, 0)) := (hb.block (w.heap.size + 1) (by simp)).trans (by have h := Blk.new (w.alloc (.cells #[.int .i64 b, .slice none 0 0, .slice (some ⟨g, 0, none⟩) 1 c, .string s] 40)) 40 #[.int .i64 0, .slice none 0 0, .slice none 0 0, .string ⟨#[]⟩]; rw [show (w.alloc (.cells #[.int .i64 b, .slice none 0 0, .slice (some ⟨g, 0, none⟩) 1 c, .string s] 40)).heap.size = w.heap.size + 1 by simp] at h; exact h)
       have B2 := Lib.hid ((((Below.refl w.heap.size w).alloc (Nat.le_refl _) (.cells #[.int .i64 b, .slice none 0 0, .slice (some ⟨g, 0, none⟩) 1 c, .string s] 40)).alloc (by simp) (.cells #[.int .i64 0, .slice none 0 0, .slice none 0 0, .string ⟨#[]⟩] 40)).drew.trans (hb.mono (by simp; omega)))
       have HK : Hid (Wk2 w1 w.heap.size (w.heap.size + 1) (.slice A 1 c2)) := Lib.hid ⟨hk, ⟨_, n1⟩, ⟨_, n2⟩, by omega⟩
       have x0 : w1.cell? ⟨w.heap.size, 0, none⟩ = some (.int .i64 b) := cell_of_row w1 _ 0 _ 40 (0, 0) n1
       have x1 : w1.cell? ⟨w.heap.size, 1, none⟩ = some (.slice none 0 0) := cell_of_row w1 _ 1 _ 40 (0, 0) n1
       have x2 : w1.cell? ⟨w.heap.size, 2, none⟩ = some (.slice (some ⟨g, 0, none⟩) 1 c) := cell_of_row w1 _ 2 _ 40 (0, 0) n1
       have x3 : w1.cell? ⟨w.heap.size, 3, none⟩ = some (.string s) := cell_of_row w1 _ 3 _ 40 (0, 0) n1
       have y0 : w1.cell? ⟨w.heap.size + 1, 0, none⟩ = some (.int .i64 0) := cell_of_row w1 _ 0 _ 40 (0, 0) n2
       have y1 : w1.cell? ⟨w.heap.size + 1, 1, none⟩ = some (.slice none 0 0) := cell_of_row w1 _ 1 _ 40 (0, 0) n2
       have y2 : w1.cell? ⟨w.heap.size + 1, 2, none⟩ = some (.slice none 0 0) := cell_of_row w1 _ 2 _ 40 (0, 0) n2
       have y3 : w1.cell? ⟨w.heap.size + 1, 3, none⟩ = some (.string ⟨#[]⟩) := cell_of_row w1 _ 3 _ 40 (0, 0) n2
       have f1 : w1.frozen? ⟨w.heap.size, 1, none⟩ = false := by simp [World.frozen?, n1]
       have f2 : w1.frozen? ⟨w.heap.size, 2, none⟩ = false := by simp [World.frozen?, n1]
       have z0 : w1.frozen? ⟨w.heap.size + 1, 0, none⟩ = false := by simp [World.frozen?, n2]
       have z1 : w1.frozen? ⟨w.heap.size + 1, 1, none⟩ = false := by simp [World.frozen?, n2]
       have z2 : w1.frozen? ⟨w.heap.size + 1, 2, none⟩ = false := by simp [World.frozen?, n2]
       have z3 : w1.frozen? ⟨w.heap.size + 1, 3, none⟩ = false := by simp [World.frozen?, n2]
       clear hk hn hb n1 n2))
  all_goals go_wp2_with fail
  all_goals refine bodyPost_ret (v := .agg #[.int .i64 b, .slice none 0 0, .slice A 1 c2, .string s]) (by simp [results, Tryd.results36, go_sem, y0, y1, y2, y3]) rfl ⟨_, rfl, ?_, rfl, ?_⟩
  all_goals first
    | exact ((((((HK.out.a 1 _).a 2 _).b 0 _).b 1 _).b 2 _).b 3 _).1
    | exact ((((((HK.out.a 2 _).a 1 _).b 0 _).b 1 _).b 2 _).b 3 _).1
    | exact (((((B2.out.setCell (p := ⟨_, _, none⟩) (by simp) _).setCell (p := ⟨_, _, none⟩) (by simp) _).setCell (p := ⟨_, _, none⟩) (by simp) _).setCell (p := ⟨_, _, none⟩) (by simp) _).setCell (p := ⟨_, _, none⟩) (by simp) _).setCell (p := ⟨_, _, none⟩) (by simp) _

theorem sf_anew_any (b : Int) (s : ByteArray) (v : Value) (w : World) (h : Wk w v) : Calls Tryd.prog 36 #[.agg #[.int .i64 b, .slice none 0 0, v, .string s]] w (Anew b s (vlen v) w) := by
  rcases h with rfl | ⟨xs, h, h1⟩
  · exact sf_anew_nil b s w
  · have h0 := h
    rcases h.2 with ⟨_, h2⟩ | ⟨g, cap, cur, rfl, _⟩
    · cases h2
    · exact sf_anew_row b s w g cap xs h0 h1
#print axioms sf_anew_any
end Go.Proofs.YtkhdjlakclidoaaDoor
