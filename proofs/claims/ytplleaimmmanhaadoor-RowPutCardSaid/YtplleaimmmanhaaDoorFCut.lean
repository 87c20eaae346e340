/-
  (Row).Cut, (Row).Clear: a tree without a file, without what clashes with a path.
-/
import Derived.Test.YtplleaimmmanhaaDoorFDel
import Derived.Test.YtplleaimmmanhaaDoorPCheck
namespace Go.Proofs.YtplleaimmmanhaaDoor
open Go Go.RowKit

def clearF (l : List Fl) (p : ByteArray) : List Fl := l.filter fun x => !cls x.1.data.toList p.data.toList
theorem clear_rise {l : List Fl} (hr : RiseF l) (p : ByteArray) : RiseF (clearF l p) := hr.filter _
theorem cut_eq (l : List Fl) (p : ByteArray) : (l.filter fun x => !decide (x.1 = p)) = cutF l p := by unfold cutF; congr 1; funext x; simp

def ReadTo (l : List Fl) (w : World) (e : Ending) (w' : World) : Prop := KeptTo w.heap.size w l e w'

set_option maxHeartbeats 1000000 in
theorem withoutF_any (w0 w : World) (B : Nat) (hb : Below B w0 w) (hB : B ≤ w.heap.size) (v : Value) (l : List Fl) (g : Nat) (c : Value) (p : Fl → Bool) (h : Reads 3 cF w v l) (hs : Sized l) (hl : l.length ≤ 100000)
    (eg : ∀ args w, (callFunc g args).run Tryd.prog w = .ok (.enter g args) w) (hp : PB B w0 g c p) :
    Calls Tryd.prog 41 #[v, .func (.func g) #[] #[c]] w (KeptTo B w0 (l.filter fun x => !p x)) := by
  have CL := Lib.hid (cloneF_any w v l h hl)
  have DL := Lib.hid fun W (hW : Below B w0 W) (hBW : B ≤ W.heap.size) u ho => deleteF_any w0 W B hW hBW u l g c p ho hs hl eg hp
  clear h hs hp
  go_enter Tryd.func41, Tryd.ntmps41
  go_wp2_with fail
  refine CL.out.mono ?_
  rintro e w1 ⟨u, rfl, ho, hb1⟩
  have HO := Lib.hid (own_base ho hB)
  have HB1 := Lib.hid (hb.trans (hb1.mono hB))
  have hs1 : B ≤ w1.heap.size := by have := hb1.size; omega
  clear ho hb1
  go_wp2_with fail
  refine (DL.out _ HB1.out hs1 _ HO.out).mono ?_
  rintro e w2 ⟨u2, rfl, hr2, hb2⟩
  have HR := Lib.hid hr2
  have HB2 := Lib.hid hb2
  clear hr2 hb2
  go_wp2_with fail
  go_ret
  exact ⟨_, rfl, HR.out, HB2.out⟩

set_option maxHeartbeats 1000000 in
theorem cut_any (w : World) (v : Value) (l : List Fl) (q : ByteArray) (h : Reads 3 cF w v l) (hs : Sized l) (hl : l.length ≤ 100000) :
    Calls Tryd.prog 24 #[v, .string q] w (ReadTo (cutF l q) w) := by
  obtain ⟨W1, hW1⟩ : ∃ W1, W1 = w.alloc (.cells #[.string q] 9) := ⟨_, rfl⟩
  have B1 : Below w.heap.size w W1 := by rw [hW1]; exact (Below.refl _ _).alloc (Nat.le_refl _) _
  have K1 : W1.cell? ⟨w.heap.size, 0, none⟩ = some (.string q) := by rw [hW1]; exact (cell_new_l w _ _).1
  have hsz : W1.heap.size = w.heap.size + 1 := by rw [hW1]; simp
  have WO := Lib.hid (withoutF_any W1 W1 W1.heap.size (Below.refl _ _) (Nat.le_refl _) v l 47 (.pointer (some ⟨w.heap.size, 0, none⟩)) (fun x => decide (x.1 = q)) (h.below B1) hs hl enters_cut (cut_pred W1 _ w.heap.size q K1 (by omega) (Nat.le_refl _)))
  rw [cut_eq] at WO
  have HB1 := Lib.hid B1
  have HW := Lib.hid hsz
  obtain ⟨A, c, rfl⟩ := h.form
  clear h hs K1 B1 hsz
  go_enter Tryd.func24, Tryd.ntmps24
  go_wp2_with fail
  rw [← hW1]
  clear hW1
  refine WO.out.mono ?_
  rintro e w2 ⟨u2, rfl, hr2, hb2⟩
  have HR := Lib.hid hr2
  have HB2 := Lib.hid (HB1.out.trans (hb2.mono HB1.out.size))
  clear hr2 hb2
  go_wp2_with fail
  go_ret
  exact ⟨_, rfl, HR.out, HB2.out⟩

set_option maxHeartbeats 1000000 in
theorem clear_any (w : World) (v : Value) (l : List Fl) (q : ByteArray) (h : Reads 3 cF w v l) (hs : Sized l) (hq : q.size ≤ 1000000) (hl : l.length ≤ 100000) :
    Calls Tryd.prog 20 #[v, .string q] w (ReadTo (clearF l q) w) := by
  obtain ⟨W1, hW1⟩ : ∃ W1, W1 = w.alloc (.cells #[.string q] 9) := ⟨_, rfl⟩
  have B1 : Below w.heap.size w W1 := by rw [hW1]; exact (Below.refl _ _).alloc (Nat.le_refl _) _
  have K1 : W1.cell? ⟨w.heap.size, 0, none⟩ = some (.string q) := by rw [hW1]; exact (cell_new_l w _ _).1
  have hsz : W1.heap.size = w.heap.size + 1 := by rw [hW1]; simp
  have WO := Lib.hid (withoutF_any W1 W1 W1.heap.size (Below.refl _ _) (Nat.le_refl _) v l 42 (.pointer (some ⟨w.heap.size, 0, none⟩)) (fun x => cls x.1.data.toList q.data.toList) (h.below B1) hs hl enters_clear (clear_pred W1 _ w.heap.size q hq K1 (by omega) (Nat.le_refl _)))
  have HB1 := Lib.hid B1
  have HW := Lib.hid hsz
  obtain ⟨A, c, rfl⟩ := h.form
  clear h hs K1 B1 hsz
  go_enter Tryd.func20, Tryd.ntmps20
  go_wp2_with fail
  rw [← hW1]
  clear hW1
  refine WO.out.mono ?_
  rintro e w2 ⟨u2, rfl, hr2, hb2⟩
  have HR := Lib.hid hr2
  have HB2 := Lib.hid (HB1.out.trans (hb2.mono HB1.out.size))
  clear hr2 hb2
  go_wp2_with fail
  go_ret
  exact ⟨_, rfl, HR.out, HB2.out⟩
end Go.Proofs.YtplleaimmmanhaaDoor
