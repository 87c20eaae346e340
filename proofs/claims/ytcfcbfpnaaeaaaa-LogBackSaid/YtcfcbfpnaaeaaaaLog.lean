/-
  Contracts of Log.Do, Log.Undo, Log.Redo.
-/
import Derived.Test.YtcfcbfpnaaeaaaaCalls
namespace Go.Proofs.Ytcfcbfpnaaeaaaa
open Go.RowKit

/-- A Log: two slices that read as lists of strings. -/
def Log (w : World) (v : Value) (back forth : List ByteArray) : Prop :=
  ∃ vb vf, v = .agg #[vb, vf] ∧ Strs w vb back ∧ Strs w vf forth

def lastOf (ss : List ByteArray) : List ByteArray := ss.drop (ss.length - 64)

def Gives (w : World) (back forth : List ByteArray) (e : Ending) (w' : World) : Prop :=
  ∃ v, e = .returned v ∧ Log w' v back forth ∧ Below w.heap.size w w'

/-- A block of two cells that the call has laid, in a later world. -/
structure Two (w : World) (b : Nat) (x y : Value) : Prop where
  c0 : w.cell? ⟨b, 0, none⟩ = some x
  c1 : w.cell? ⟨b, 1, none⟩ = some y
  z0 : w.frozen? ⟨b, 0, none⟩ = false
  z1 : w.frozen? ⟨b, 1, none⟩ = false
  lt : b < w.heap.size

theorem Two.new (w : World) (x y : Value) (t : TypeId) : Two (w.alloc (.cells #[x, y] t)) w.heap.size x y := by
  have hh := heap_alloc_new w (.cells #[x, y] t)
  exact ⟨cell_of_row _ _ 0 _ t (0, 0) hh, cell_of_row _ _ 1 _ t (0, 0) hh, by unfold World.frozen?; rw [hh]; rfl, by unfold World.frozen?; rw [hh]; rfl, by simp⟩

theorem own_form {w : World} {base : Nat} {e : TypeId} {v : Value} {n : Nat} {xs : List Value} (h : w.ownsRow base e 1 v n xs) : ∃ A m c, v = .slice A m c := by
  rcases h.2 with ⟨rfl, _⟩ | ⟨g, cap, cur, rfl, _⟩
  · exact ⟨_, _, _, rfl⟩
  · exact ⟨_, _, _, rfl⟩

theorem Two.below {w w' : World} {b : Nat} {x y : Value} (h : Two w b x y) (hb : Below w.heap.size w w') : Two w' b x y :=
  ⟨(hb.cell (p := ⟨b, 0, none⟩) h.lt).trans h.c0, (hb.cell (p := ⟨b, 1, none⟩) h.lt).trans h.c1, (hb.frozen (p := ⟨b, 0, none⟩) h.lt).trans h.z0, (hb.frozen (p := ⟨b, 1, none⟩) h.lt).trans h.z1, Nat.lt_of_lt_of_le h.lt hb.size⟩

set_option maxHeartbeats 1000000 in
theorem do_any (w : World) (v : Value) (back forth : List ByteArray) (s : ByteArray) (h : Log w v back forth) (hl : back.length < 1000000) :
    Calls Try.prog 7 #[v, .string s] w (Gives w (lastOf (back ++ [s])) []) := by
  obtain ⟨vb, vf, rfl, hb, hf⟩ := h
  have T0 : Two ((w.alloc (Obj.cells #[vb, vf] 26)).alloc (Obj.cells #[Value.slice none 0 0, Value.slice none 0 0] 26)) (w.heap.size + 1) (.slice none 0 0) (.slice none 0 0) := by
    have := Two.new (w.alloc (Obj.cells #[vb, vf] 26)) (.slice none 0 0) (.slice none 0 0) 26
    simpa using this
  go_enter Try.func7, Try.ntmps7
  go_wp2_with fail
  refine (with_any _ vb back s ((hb.alloc _).alloc _) (by omega)).mono ?_
  rintro e w1 ⟨v1, rfl, hown1, hb1⟩
  obtain ⟨A1, m1, k1, rfl⟩ := own_form hown1
  have T1 := T0.below hb1
  go_wp2_with fail
  refine (latest_any _ _ (back ++ [s]) (Strs.of_own hown1 (by simp)) (by simp; omega)).mono ?_
  rintro e w2 ⟨v2, rfl, hown2, hb2⟩
  obtain ⟨A2, m2, k2, rfl⟩ := own_form hown2
  have T2 := T1.below hb2
  have c0 := T2.c0
  have c1 := T2.c1
  have z0 := T2.z0
  have z1 := T2.z1
  clear T0 T1 T2
  go_wp2
  have hs := (Strs.of_own hown2 (by simp; omega)).setCell c0 (by simp) (Value.slice A2 m2 k2)
  have c1' : (w2.setCell ⟨w.heap.size + 1, 0, none⟩ (.slice A2 m2 k2)).cell? ⟨w.heap.size + 1, 1, none⟩ = some (Value.slice none 0 0) := by
    rw [World.cell?_setCell_other _ _ _ _ (by simp)]; exact c1
  have hs' := hs.setCell c1' (by simp) (Value.slice none 0 0)
  have hbb : Below w.heap.size w w2 := by
    have h0 := (((Below.refl w.heap.size w).alloc (Nat.le_refl _) (Obj.cells #[vb, vf] 26)).alloc (by simp) (Obj.cells #[Value.slice none 0 0, Value.slice none 0 0] 26))
    exact (h0.trans (hb1.mono (by simp; omega))).trans (hb2.mono (by have := hb1.size; simp at this; omega))
  refine bodyPost_ret (v := .agg #[.slice A2 m2 k2, .slice none 0 0]) (by simp [results, Try.results7, go_sem, c0, c1]) rfl ⟨_, rfl, ⟨_, _, rfl, hs', Strs.nil _⟩, (hbb.setCell (by simp) _).setCell (by simp) _⟩

def Gives3 (w : World) (back forth : List ByteArray) (x : ByteArray) (n : Int) (e : Ending) (w' : World) : Prop :=
  ∃ v, e = .returned (.tuple #[v, .string x, .int .i64 n]) ∧ Log w' v back forth ∧ Below w.heap.size w w'

set_option maxHeartbeats 1000000 in
theorem undo_none (w : World) (v : Value) (forth : List ByteArray) (s : ByteArray) (h : Log w v [] forth) :
    Calls Try.prog 8 #[v, .string s] w (Gives3 w [] [] ByteArray.empty 10) := by
  obtain ⟨vb, vf, rfl, ⟨A, c, rfl, h1, h2, h3, h4⟩, hf⟩ := h
  clear h4
  go_enter Try.func8, Try.ntmps8
  go_wp2
  refine bodyPost_ret (v := .tuple #[.agg #[.slice none 0 0, .slice none 0 0], .string { data := #[] }, .int .i64 10]) (by simp [results, Try.results8, go_sem]) rfl ⟨_, rfl, ⟨_, _, rfl, Strs.nil _, Strs.nil _⟩, ?_⟩
  exact ((Below.refl w.heap.size w).alloc (Nat.le_refl _) _).alloc (by simp) _

set_option maxHeartbeats 1000000 in
theorem undo_some (w : World) (v : Value) (back forth : List ByteArray) (x s : ByteArray) (h : Log w v (back ++ [x]) forth) (hl : back.length < 1000000) (hl2 : forth.length < 1000000) :
    Calls Try.prog 8 #[v, .string s] w (Gives3 w back (forth ++ [s]) x 0) := by
  obtain ⟨vb, vf, rfl, hb, hf⟩ := h
  obtain ⟨A, c, rfl, h1, h2, h3, h4⟩ := id hb
  simp only [List.length_append, List.length_singleton] at *
  clear h4 h3
  have T0 : Two ((w.alloc (Obj.cells #[.slice A (back.length + 1) c, vf] 26)).alloc (Obj.cells #[Value.slice none 0 0, Value.slice none 0 0] 26)) (w.heap.size + 1) (.slice none 0 0) (.slice none 0 0) := by
    have := Two.new (w.alloc (Obj.cells #[.slice A (back.length + 1) c, vf] 26)) (.slice none 0 0) (.slice none 0 0) 26
    simpa using this
  have D0 : Two ((w.alloc (Obj.cells #[.slice A (back.length + 1) c, vf] 26)).alloc (Obj.cells #[Value.slice none 0 0, Value.slice none 0 0] 26)) w.heap.size (.slice A (back.length + 1) c) vf :=
    (Two.new w _ _ 26).below ((Below.refl _ _).alloc (Nat.le_refl _) _)
  have B0 : Below w.heap.size w ((w.alloc (Obj.cells #[.slice A (back.length + 1) c, vf] 26)).alloc (Obj.cells #[Value.slice none 0 0, Value.slice none 0 0] 26)) :=
    (((Below.refl w.heap.size w).alloc (Nat.le_refl _) _).alloc (by simp) _)
  have hsp : ((((back.length : Nat) : Int) + 1) == 0) = false := by simp; omega
  go_enter Try.func8, Try.ntmps8
  go_wp2_with fail
  refine (split_any _ _ back x ((hb.alloc _).alloc _) (by omega)).mono ?_
  rintro e w1 ⟨v1, rfl, hown1, hb1⟩
  obtain ⟨A1, m1, k1, rfl⟩ := own_form hown1
  have T1 := T0.below hb1
  have D1 := D0.below hb1
  have d1 := D1.c1
  have B1 := B0.trans (hb1.mono (by simp; omega))
  clear T0 D0
  go_wp2_with fail
  refine (with_any _ vf forth s (hf.below B1) (by omega)).mono ?_
  rintro e w2 ⟨v2, rfl, hown2, hb2⟩
  obtain ⟨A2, m2, k2, rfl⟩ := own_form hown2
  have T2 := T1.below hb2
  have c0 := T2.c0
  have c1 := T2.c1
  have z0 := T2.z0
  have z1 := T2.z1
  have B2 := B1.trans (hb2.mono (by have := B1.size; omega))
  clear T1 T2 D1 d1
  go_wp2
  have hs1 := ((Strs.of_own hown1 rfl).below hb2).setCell c0 (by simp) (Value.slice A1 m1 k1)
  have hs2 := (Strs.of_own hown2 (by simp)).setCell c0 (by simp) (Value.slice A1 m1 k1)
  have c1' : (w2.setCell ⟨w.heap.size + 1, 0, none⟩ (.slice A1 m1 k1)).cell? ⟨w.heap.size + 1, 1, none⟩ = some (Value.slice none 0 0) := by
    rw [World.cell?_setCell_other _ _ _ _ (by simp)]; exact c1
  have hs1' := hs1.setCell c1' (by simp) (Value.slice A2 m2 k2)
  have hs2' := hs2.setCell c1' (by simp) (Value.slice A2 m2 k2)
  refine bodyPost_ret (v := .tuple #[.agg #[.slice A1 m1 k1, .slice A2 m2 k2], .string x, .int .i64 0]) (by simp [results, Try.results8, go_sem, c0, c1]) rfl ⟨_, rfl, ⟨_, _, rfl, hs1', hs2'⟩, (B2.setCell (by simp) _).setCell (by simp) _⟩

set_option maxHeartbeats 1000000 in
theorem redo_none (w : World) (v : Value) (back : List ByteArray) (s : ByteArray) (h : Log w v back []) :
    Calls Try.prog 9 #[v, .string s] w (Gives3 w [] [] ByteArray.empty 10) := by
  obtain ⟨vb, vf, rfl, hf, ⟨A, c, rfl, h1, h2, h3, h4⟩⟩ := h
  clear h4
  go_enter Try.func9, Try.ntmps9
  go_wp2
  refine bodyPost_ret (v := .tuple #[.agg #[.slice none 0 0, .slice none 0 0], .string { data := #[] }, .int .i64 10]) (by simp [results, Try.results9, go_sem]) rfl ⟨_, rfl, ⟨_, _, rfl, Strs.nil _, Strs.nil _⟩, ?_⟩
  exact ((Below.refl w.heap.size w).alloc (Nat.le_refl _) _).alloc (by simp) _

set_option maxHeartbeats 1000000 in
theorem redo_some (w : World) (v : Value) (back forth : List ByteArray) (x s : ByteArray) (h : Log w v back (forth ++ [x])) (hl : back.length < 1000000) (hl2 : forth.length < 1000000) :
    Calls Try.prog 9 #[v, .string s] w (Gives3 w (lastOf (back ++ [s])) forth x 0) := by
  obtain ⟨vb, vf, rfl, hb, hf⟩ := h
  obtain ⟨A, c, rfl, h1, h2, h3, h4⟩ := id hf
  simp only [List.length_append, List.length_singleton] at *
  clear h4 h3
  have T0 : Two ((w.alloc (Obj.cells #[vb, .slice A (forth.length + 1) c] 26)).alloc (Obj.cells #[Value.slice none 0 0, Value.slice none 0 0] 26)) (w.heap.size + 1) (.slice none 0 0) (.slice none 0 0) := by
    have := Two.new (w.alloc (Obj.cells #[vb, .slice A (forth.length + 1) c] 26)) (.slice none 0 0) (.slice none 0 0) 26
    simpa using this
  have D0 : Two ((w.alloc (Obj.cells #[vb, .slice A (forth.length + 1) c] 26)).alloc (Obj.cells #[Value.slice none 0 0, Value.slice none 0 0] 26)) w.heap.size vb (.slice A (forth.length + 1) c) :=
    (Two.new w _ _ 26).below ((Below.refl _ _).alloc (Nat.le_refl _) _)
  have B0 : Below w.heap.size w ((w.alloc (Obj.cells #[vb, .slice A (forth.length + 1) c] 26)).alloc (Obj.cells #[Value.slice none 0 0, Value.slice none 0 0] 26)) :=
    (((Below.refl w.heap.size w).alloc (Nat.le_refl _) _).alloc (by simp) _)
  have hsp : ((((forth.length : Nat) : Int) + 1) == 0) = false := by simp; omega
  go_enter Try.func9, Try.ntmps9
  go_wp2_with fail
  refine (split_any _ _ forth x ((hf.alloc _).alloc _) (by omega)).mono ?_
  rintro e w1 ⟨v1, rfl, hown1, hb1⟩
  obtain ⟨A1, m1, k1, rfl⟩ := own_form hown1
  have T1 := T0.below hb1
  have D1 := D0.below hb1
  have d0 := D1.c0
  have B1 := B0.trans (hb1.mono (by simp; omega))
  clear T0 D0
  go_wp2_with fail
  refine (with_any _ vb back s (hb.below B1) (by omega)).mono ?_
  rintro e w2 ⟨v2, rfl, hown2, hb2⟩
  obtain ⟨A2, m2, k2, rfl⟩ := own_form hown2
  have T2 := T1.below hb2
  have B2 := B1.trans (hb2.mono (by have := B1.size; omega))
  clear T1 D1 d0
  go_wp2_with fail
  refine (latest_any _ _ (back ++ [s]) (Strs.of_own hown2 (by simp)) (by simp; omega)).mono ?_
  rintro e w3 ⟨v3, rfl, hown3, hb3⟩
  obtain ⟨A3, m3, k3, rfl⟩ := own_form hown3
  have T3 := T2.below hb3
  have c0 := T3.c0
  have c1 := T3.c1
  have z0 := T3.z0
  have z1 := T3.z1
  have B3 := B2.trans (hb3.mono (by have := B2.size; omega))
  clear T2 T3
  go_wp2
  have hs1 := (((Strs.of_own hown1 rfl).below hb2).below hb3).setCell c0 (by simp) (Value.slice A3 m3 k3)
  have hs2 := (Strs.of_own hown3 (by simp; omega)).setCell c0 (by simp) (Value.slice A3 m3 k3)
  have c1' : (w3.setCell ⟨w.heap.size + 1, 0, none⟩ (.slice A3 m3 k3)).cell? ⟨w.heap.size + 1, 1, none⟩ = some (Value.slice none 0 0) := by
    rw [World.cell?_setCell_other _ _ _ _ (by simp)]; exact c1
  have hs1' := hs1.setCell c1' (by simp) (Value.slice A1 m1 k1)
  have hs2' := hs2.setCell c1' (by simp) (Value.slice A1 m1 k1)
  refine bodyPost_ret (v := .tuple #[.agg #[.slice A3 m3 k3, .slice A1 m1 k1], .string x, .int .i64 0]) (by simp [results, Try.results9, go_sem, c0, c1]) rfl ⟨_, rfl, ⟨_, _, rfl, hs2', hs1'⟩, (B3.setCell (by simp) _).setCell (by simp) _⟩

end Go.Proofs.Ytcfcbfpnaaeaaaa
