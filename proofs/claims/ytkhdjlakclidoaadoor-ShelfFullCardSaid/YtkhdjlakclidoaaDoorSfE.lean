/-
  Stack.Get.
-/
import Derived.Test.YtkhdjlakclidoaaDoorSfD
namespace Go.Proofs.YtkhdjlakclidoaaDoor
open Go Go.RowKit

set_option maxRecDepth 100000 in
set_option maxHeartbeats 1000000 in
theorem sf_get_no (w : World) (A : Option Addr) (n c : Nat) (i : Int) (hn : n ≤ 1000) (hi : sfHas n i = false) :
    Calls Tryd.prog 25 #[.slice A n c, .int .i64 i] w fun e w' => e = .returned (.tuple #[.agg #[.int .i64 0, .slice none 0 0, .slice none 0 0, .string ⟨#[]⟩], .int .i64 1]) ∧ Below w.heap.size w w' := by
  have H := Lib.hid fun W => sf_has n c A i W hn
  rw [hi] at H
  clear hi
  go_enter Tryd.func25, Tryd.ntmps25
  go_wp2_with fail
  refine (H.out _).mono ?_
  rintro e w1 ⟨rfl, rfl⟩
  go_wp2_with fail
  refine bodyPost_ret (v := .tuple #[.agg #[.int .i64 0, .slice none 0 0, .slice none 0 0, .string ⟨#[]⟩], .int .i64 1]) (by simp [results, Tryd.results25, go_sem]) rfl ⟨rfl, ?_⟩
  exact (Below.refl _ _).alloc (Nat.le_refl _) _

def Got (b : Int) (n : Nat) (s : ByteArray) (w : World) (e : Ending) (w' : World) : Prop := ∃ A c, e = .returned (.tuple #[.agg #[.int .i64 b, .slice none 0 0, .slice A n c, .string s], .int .i64 0]) ∧ Below w.heap.size w w'

set_option maxRecDepth 100000 in
set_option maxHeartbeats 1000000 in
theorem sf_get_yes (w : World) (B : Nat) (v : Value) (K : List Ky) (k : Nat) (b : Int) (n : Nat) (s : ByteArray) (h : Stk w B v K) (hl : K.length ≤ 1000) (hk : K[k]? = some (b, n, s)) :
    Calls Tryd.prog 25 #[v, .int .i64 k] w (Got b n s w) := by
  obtain ⟨l, hO, hW, rfl⟩ := h
  rw [List.getElem?_map] at hk
  obtain ⟨⟨b', wv, s'⟩, hx, he⟩ : ∃ r, l[k]? = some r ∧ key r = (b, n, s) := by
    cases e : l[k]? with
    | none => rw [e] at hk; cases hk
    | some r => rw [e] at hk; exact ⟨r, rfl, by simpa using hk⟩
  obtain ⟨rfl, rfl, rfl⟩ : b' = b ∧ vlen wv = n ∧ s' = s := by unfold key at he; injection he with a b; injection b with b c; exact ⟨a, b, c⟩
  rw [List.length_map] at hl
  clear hk he
  have hlt := (List.getElem?_eq_some_iff.1 hx).1
  have b1 := (Below.refl w.heap.size w).alloc (Nat.le_refl _) (.cells #[.int .i64 0, .slice none 0 0, .slice none 0 0, .string ⟨#[]⟩] 40)
  obtain ⟨g, cap, rfl, x0, x1, x2, x3, hn, hm, hg⟩ := SOwn.at_ (own_keep hO b1) hx
  have HW := Lib.hid ((hW _ (List.mem_of_getElem? hx)).below b1)
  obtain ⟨wA, wc, hwf, _⟩ := HW.out.form
  obtain ⟨wn, hwn⟩ : ∃ wn, wn = vlen wv := ⟨_, rfl⟩
  rw [← hwn] at hwf
  have HN := Lib.hid hwn
  clear hwn
  have H := Lib.hid fun W => sf_has l.length cap (some ⟨g, 0, none⟩) k W hl
  have hh : sfHas l.length (k : Int) = true := by unfold sfHas; rw [decide_eq_true (Int.natCast_nonneg k), decide_eq_true (by omega)]; rfl
  rw [hh] at H
  have k0 : (0 : Int) ≤ (k : Int) := Int.natCast_nonneg _
  have k1 : (k : Int) < (l.length : Int) := by omega
  clear hO hW hx hh b1
  simp only at hwf
  subst hwf
  go_enter Tryd.func25, Tryd.ntmps25
  go_wp2_with fail
  refine (H.out _).mono ?_
  rintro e w1 ⟨rfl, rfl⟩
  go_wp2_with fail
  refine (sf_anew_any b' s' _ _ HW.out).mono ?_
  rintro e w2 ⟨v2, rfl, hk2, hn2, b2⟩
  obtain ⟨A2, c2, rfl⟩ : ∃ A c, v2 = .slice A wn c := by obtain ⟨A, c, h, _⟩ := hk2.form; rw [hn2] at h; exact ⟨A, c, h⟩
  have n2 : w2.heap[w.heap.size]? = some (.cells #[.int .i64 0, .slice none 0 0, .slice none 0 0, .string ⟨#[]⟩] 40 (0, 0)) := (b2.block w.heap.size (by simp)).trans (heap_alloc_new w _)
  have B2 := Lib.hid (((Below.refl w.heap.size w).alloc (Nat.le_refl _) (.cells #[.int .i64 0, .slice none 0 0, .slice none 0 0, .string ⟨#[]⟩] 40)).trans (b2.mono (by simp)))
  have y0 : w2.cell? ⟨w.heap.size, 0, none⟩ = some (.int .i64 0) := cell_of_row w2 _ 0 _ 40 (0, 0) n2
  have y1 : w2.cell? ⟨w.heap.size, 1, none⟩ = some (.slice none 0 0) := cell_of_row w2 _ 1 _ 40 (0, 0) n2
  have y2 : w2.cell? ⟨w.heap.size, 2, none⟩ = some (.slice none 0 0) := cell_of_row w2 _ 2 _ 40 (0, 0) n2
  have y3 : w2.cell? ⟨w.heap.size, 3, none⟩ = some (.string ⟨#[]⟩) := cell_of_row w2 _ 3 _ 40 (0, 0) n2
  have z0 : ∀ j, w2.frozen? ⟨w.heap.size, j, none⟩ = false := fun j => by simp [World.frozen?, n2]
  have z00 := z0 0
  have z01 := z0 1
  have z02 := z0 2
  have z03 := z0 3
  clear b2 n2 z0 hk2 hn2
  go_wp2_with fail
  refine bodyPost_ret (v := .tuple #[.agg #[.int .i64 b', .slice none 0 0, .slice A2 wn c2, .string s'], .int .i64 0]) (by simp [results, Tryd.results25, go_sem, y0, y1, y2, y3]) rfl ⟨A2, c2, rfl, ?_⟩
  exact (((B2.out.setCell (p := ⟨w.heap.size, 0, none⟩) (Nat.le_refl _) _).setCell (p := ⟨w.heap.size, 1, none⟩) (Nat.le_refl _) _).setCell (p := ⟨w.heap.size, 2, none⟩) (Nat.le_refl _) _).setCell (p := ⟨w.heap.size, 3, none⟩) (Nat.le_refl _) _
#print axioms sf_get_yes
end Go.Proofs.YtkhdjlakclidoaaDoor
