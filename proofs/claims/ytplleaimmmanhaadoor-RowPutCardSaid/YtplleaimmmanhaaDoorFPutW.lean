/-
  (Row).Put: a file put into a tree that rises.
-/
import Derived.Test.YtplleaimmmanhaaDoorFPut
namespace Go.Proofs.YtplleaimmmanhaaDoor
open Go.RowKit

set_option maxRecDepth 100000 in
set_option maxHeartbeats 4000000 in
theorem put_any (w : World) (v : Value) (l : List Fl) (f : Fl) (h : Reads 3 cF w v l) (hr : RiseF l) (hl : l.length ≤ 10000) :
    Calls Tryd.prog 21 #[v, .agg #[.string f.1, .int .i64 f.2.1, .string f.2.2]] w (OwnTo 42 3 cF (putF l f) w) := by
  obtain ⟨p, m, d⟩ := f
  obtain ⟨W1, hW1⟩ : ∃ W1, W1 = w.alloc (.cells #[.string p, .int .i64 m, .string d] 42) := ⟨_, rfl⟩
  have B1 : Below w.heap.size w W1 := by rw [hW1]; exact (Below.refl _ _).alloc (Nat.le_refl _) _
  obtain ⟨G, hG⟩ : ∃ G, G = w.heap.size := ⟨_, rfl⟩
  have K1 : W1.heap[G]? = some (.cells #[.string p, .int .i64 m, .string d] 42 (0, 0)) := by rw [hW1, hG]; exact heap_alloc_new w _
  have R1 := h.below B1
  have FN := Lib.hid (find_any W1 v l p R1 hr (by omega))
  obtain ⟨A, c, rfl⟩ := h.form
  have hlen := h.len
  have d0 := cell_of_row W1 G 0 _ 42 (0, 0) K1
  have HR1 := Lib.hid R1
  have HB1 := Lib.hid B1
  have HRI := Lib.hid hr
  have HK := Lib.hid K1
  have B1s := B1.size
  clear h R1 hr B1 K1
  go_enter Tryd.func21, Tryd.ntmps21
  go_wp2_with fail
  rw [← hW1, ← hG]
  clear hW1
  have HG := Lib.hid hG
  clear hG
  refine FN.out.mono ?_
  rintro e w2 ⟨i, b, rfl, b2, hi, hs, h1, h2⟩
  have R2 := Lib.hid (HR1.out.below b2)
  have hGl : G < W1.heap.size := (Array.getElem?_eq_some_iff.1 HK.out).1
  have K2 : w2.heap[G]? = some (.cells #[.string p, .int .i64 m, .string d] 42 (0, 0)) := (b2.block G hGl).trans HK.out
  have z0 : w2.drew.cell? ⟨G, 0, none⟩ = some (.string p) ∧ w2.drew.cell? ⟨G, 1, none⟩ = some (.int .i64 m) ∧ w2.drew.cell? ⟨G, 2, none⟩ = some (.string d) :=
    ⟨cell_of_row w2 G 0 _ 42 (0, 0) K2, cell_of_row w2 G 1 _ 42 (0, 0) K2, cell_of_row w2 G 2 _ 42 (0, 0) K2⟩
  have ZZ := Lib.hid fun W (hW : Below w2.heap.size w2 W) => (show W.cell? ⟨G, 0, none⟩ = some (.string p) ∧ W.cell? ⟨G, 1, none⟩ = some (.int .i64 m) ∧ W.cell? ⟨G, 2, none⟩ = some (.string d) from
    ⟨cell_of_row W G 0 _ 42 (0, 0) ((hW.block G (Array.getElem?_eq_some_iff.1 K2).1).trans K2), cell_of_row W G 1 _ 42 (0, 0) ((hW.block G (Array.getElem?_eq_some_iff.1 K2).1).trans K2), cell_of_row W G 2 _ 42 (0, 0) ((hW.block G (Array.getElem?_eq_some_iff.1 K2).1).trans K2)⟩)
  have BB := Lib.hid fun (o1 o2 : Obj) (W : World) (hW : Below ((w2.alloc o1).alloc o2).drew.heap.size ((w2.alloc o1).alloc o2).drew W) => (show Below w2.heap.size w2 W from Below.trans ((((Below.refl _ _).alloc (Nat.le_refl _) _).alloc (by simp) _).drew) (hW.mono (by simp; omega)))
  have B2 := Lib.hid (HB1.out.trans (b2.mono B1s))
  have hGw : G < w2.heap.size := (Array.getElem?_eq_some_iff.1 K2).1
  have i0 : (0 : Int) ≤ (i : Int) := Int.natCast_nonneg _
  have hic : i ≤ c := by omega
  have hi1 : (i : Int) ≤ (l.length : Int) := by omega
  have hi2 : (i : Int) ≤ (c : Int) := by omega
  have hcm : c ≤ 9223372036854775807 := by have := hlen.2.2; unfold maxLen at this; omega
  clear FN K2 b2 d0 HR1 HK hGl
  cases b with
  | false =>
    have HP := Lib.hid (put_none (f := (p, m, d)) hs (h2 rfl))
    have CT := Lib.hid (put_core w2 A c l p d m i i R2.out (Nat.le_refl i) hi (by omega))
    by_cases hci : c = i
    · rw [if_pos hci] at CT
      have hct : (c = i) = True := eq_true hci
      clear hci
      clear h1 h2 hs
      go_wp2_with fail
      go_region_held3 (fun w' => w'.cell? ⟨G, 0, none⟩ = some (.string p) ∧ w'.cell? ⟨G, 1, none⟩ = some (.int .i64 m) ∧ w'.cell? ⟨G, 2, none⟩ = some (.string d)) (first | exact z0 | exact z5 | exact ZZ.out _ (((Below.refl _ _).alloc (Nat.le_refl _) _).drew) | exact ZZ.out _ ((((Below.refl _ _).alloc (Nat.le_refl _) _).alloc (by simp) _).drew))
        ((go_at_call 45; refine (CT.out (World.drew _) (fun _ => rfl)).mono ?_; rintro e w5 ⟨v5, rfl, o5, b5⟩; have b6 := BB.out _ _ _ b5; have z5 := ZZ.out _ b6))
      have B6 := Lib.hid (B2.out.trans (b6.mono B2.out.size))
      have O6 := Lib.hid (own_base o5 (B' := w.heap.size) (by have := B2.out.size; simp; omega))
      clear o5 b5 b6 z0 z5
      go_wp2_with fail
      go_ret
      exact ⟨_, rfl, by rw [HP.out]; exact O6.out, B6.out⟩
    · rw [if_neg hci] at CT
      clear h1 h2 hs
      go_wp2_with fail
      go_region_held3 (fun w' => w'.cell? ⟨G, 0, none⟩ = some (.string p) ∧ w'.cell? ⟨G, 1, none⟩ = some (.int .i64 m) ∧ w'.cell? ⟨G, 2, none⟩ = some (.string d)) (first | exact z0 | exact z5 | exact ZZ.out _ (((Below.refl _ _).alloc (Nat.le_refl _) _).drew) | exact ZZ.out _ ((((Below.refl _ _).alloc (Nat.le_refl _) _).alloc (by simp) _).drew))
        ((go_at_call 45; refine (CT.out (World.drew _) (fun _ => rfl)).mono ?_; rintro e w5 ⟨v5, rfl, o5, b5⟩; have b6 := BB.out _ _ _ b5; have z5 := ZZ.out _ b6))
      have B6 := Lib.hid (B2.out.trans (b6.mono B2.out.size))
      have O6 := Lib.hid (own_base o5 (B' := w.heap.size) (by have := B2.out.size; simp; omega))
      clear o5 b5 b6 z0 z5
      go_wp2_with fail
      go_ret
      exact ⟨_, rfl, by rw [HP.out]; exact O6.out, B6.out⟩
  | true =>
    obtain ⟨g, hg, hgf⟩ := h1 rfl
    have hil := (List.getElem?_eq_some_iff.1 hg).1
    have HP := Lib.hid (put_some (f := (p, m, d)) HRI.out hs hg hgf)
    have CT := Lib.hid (put_core w2 A c l p d m i (i + 1) R2.out (Nat.le_succ i) hil (by omega))
    have hw1 : IntKind.i64.wrap ((i : Int) + 1) = (i : Int) + 1 := by rw [IntKind.wrap_i64] <;> omega
    have htn : ((i : Int) + 1).toNat = i + 1 := by omega
    have hj0 : (0 : Int) ≤ (i : Int) + 1 := by omega
    have hj1 : (i : Int) + 1 ≤ (l.length : Int) := by omega
    have hj2 : (i : Int) + 1 ≤ (c : Int) := by omega
    clear hg hgf
    by_cases hci : c = i + 1
    · rw [if_pos hci] at CT
      have hct : (c = i + 1) = True := eq_true hci
      clear hci
      clear h1 h2 hs
      go_wp2_with fail
      go_region_held3 (fun w' => w'.cell? ⟨G, 0, none⟩ = some (.string p) ∧ w'.cell? ⟨G, 1, none⟩ = some (.int .i64 m) ∧ w'.cell? ⟨G, 2, none⟩ = some (.string d)) (first | exact z0 | exact z5 | exact ZZ.out _ (((Below.refl _ _).alloc (Nat.le_refl _) _).drew) | exact ZZ.out _ ((((Below.refl _ _).alloc (Nat.le_refl _) _).alloc (by simp) _).drew))
        ((go_at_call 45; refine (CT.out (World.drew _) (fun _ => rfl)).mono ?_; rintro e w5 ⟨v5, rfl, o5, b5⟩; have b6 := BB.out _ _ _ b5; have z5 := ZZ.out _ b6))
      have B6 := Lib.hid (B2.out.trans (b6.mono B2.out.size))
      have O6 := Lib.hid (own_base o5 (B' := w.heap.size) (by have := B2.out.size; simp; omega))
      clear o5 b5 b6 z0 z5
      go_wp2_with fail
      go_ret
      exact ⟨_, rfl, by rw [HP.out]; exact O6.out, B6.out⟩
    · rw [if_neg hci] at CT
      clear h1 h2 hs
      go_wp2_with fail
      go_region_held3 (fun w' => w'.cell? ⟨G, 0, none⟩ = some (.string p) ∧ w'.cell? ⟨G, 1, none⟩ = some (.int .i64 m) ∧ w'.cell? ⟨G, 2, none⟩ = some (.string d)) (first | exact z0 | exact z5 | exact ZZ.out _ (((Below.refl _ _).alloc (Nat.le_refl _) _).drew) | exact ZZ.out _ ((((Below.refl _ _).alloc (Nat.le_refl _) _).alloc (by simp) _).drew))
        ((go_at_call 45; refine (CT.out (World.drew _) (fun _ => rfl)).mono ?_; rintro e w5 ⟨v5, rfl, o5, b5⟩; have b6 := BB.out _ _ _ b5; have z5 := ZZ.out _ b6))
      have B6 := Lib.hid (B2.out.trans (b6.mono B2.out.size))
      have O6 := Lib.hid (own_base o5 (B' := w.heap.size) (by have := B2.out.size; simp; omega))
      clear o5 b5 b6 z0 z5
      go_wp2_with fail
      go_ret
      exact ⟨_, rfl, by rw [HP.out]; exact O6.out, B6.out⟩
end Go.Proofs.YtplleaimmmanhaaDoor
