/-
  The closed play 'known' answers true.
-/
import Derived.Test.YtkhdjlakclidoaaDoorMore
namespace Go.Proofs.YtkhdjlakclidoaaDoor
open Go Go.RowKit Go.Shelf

def YesB (w : World) (e : Ending) (w' : World) : Prop := e = .returned (.bool true) ∧ Below w.heap.size w w'
theorem val1 : Lib.countB ⟨#[97, 47, 98, 46, 99]⟩ ⟨#[47]⟩ = 1 := by decide +kernel
theorem val2 : ptsB ⟨#[97, 47, 98, 46, 99]⟩ = [⟨#[97]⟩, ⟨#[98, 46, 99]⟩] := by decide +kernel
theorem val3 : chk [97, 47, 98, 46, 99] = 0 := by decide +kernel
theorem val4 : chk [97, 47, 47, 98] = 5 := by decide +kernel
theorem val5 : parN ⟨#[97, 47, 98]⟩ = 1 := by decide +kernel
theorem val6 : und [97, 47, 98] [97] = true := by decide +kernel
theorem val7 : und [97, 98] [97] = false := by decide +kernel
theorem val8 : cls [97] [97, 47, 98] = true := by decide +kernel
theorem val9 : cls [97] [97] = false := by decide +kernel
theorem val0 : Lib.compareBytes [97] [98] = -1 := by decide +kernel

set_option maxHeartbeats 2000000 in
theorem known_yes (w : World) (m : Int) (hm : w.cell? ⟨0, 0, none⟩ = some (.int .i64 m)) : Calls Tryd.prog 8 #[] w (YesB w) := by
  have P := parts_any ⟨#[97, 47, 98, 46, 99]⟩ m w (by decide) (by decide) hm
  rw [val1, val2] at P
  have HP := Lib.hid P
  clear P hm
  go_enter Tryd.func8, Tryd.ntmps8
  go_wp2_with fail
  refine HP.out.mono ?_
  rintro e W ⟨rfl, hw⟩
  have hh := heap_alloc_new w (.cells (List.map Value.string [(⟨#[97]⟩ : ByteArray), ⟨#[98, 46, 99]⟩]).toArray 9)
  rw [hw] at hh
  have b1 : Below w.heap.size w W := by rw [← hw]; exact (Below.refl _ _).alloc (Nat.le_refl _) _
  have c1 : W.cell? ⟨w.heap.size, 1, none⟩ = some (.string ⟨#[98, 46, 99]⟩) := cell_of_row _ w.heap.size 1 _ 9 (0, 0) hh
  have hlt : w.heap.size < W.heap.size := by rw [← hw]; simp
  clear hw
  have B1 := Lib.hid b1
  clear hh b1 HP
  go_wp2_with fail
  refine (check_any ⟨#[97, 47, 98, 46, 99]⟩ W (by decide)).mono ?_
  rintro e w2 ⟨rfl, d2⟩
  have c2 := (d2.cell (p := ⟨w.heap.size, 1, none⟩) hlt).trans c1
  have B2 := Lib.hid (B1.out.trans (d2.mono B1.out.size))
  have e2 : chk (⟨#[97, 47, 98, 46, 99]⟩ : ByteArray).data.toList = 0 := val3
  rw [e2]
  have l2 := Nat.lt_of_lt_of_le hlt d2.size
  clear d2 c1 B1 e2 hlt
  go_wp2_with fail
  refine (check_any ⟨#[97, 47, 47, 98]⟩ w2 (by decide)).mono ?_
  rintro e w3 ⟨rfl, d3⟩
  have c3 := (d3.cell (p := ⟨w.heap.size, 1, none⟩) l2).trans c2
  have B3 := Lib.hid (B2.out.trans (d3.mono B2.out.size))
  have e3 : chk (⟨#[97, 47, 47, 98]⟩ : ByteArray).data.toList = 5 := val4
  rw [e3]
  clear d3 c2 B2 e3 l2
  go_wp2_with fail
  refine (parent_any ⟨#[97, 47, 98]⟩ w3 (by decide)).mono ?_
  rintro e w4 ⟨rfl, rfl⟩
  have e4 : (⟨#[97, 47, 98]⟩ : ByteArray).extract 0 (parN ⟨#[97, 47, 98]⟩) = ⟨#[97]⟩ := by rw [val5]; rfl
  rw [e4]
  clear e4
  go_wp2_with fail
  refine (under_any ⟨#[97, 47, 98]⟩ ⟨#[97]⟩ w3 (by decide) (by decide)).mono ?_
  rintro e w4 ⟨rfl, rfl⟩
  have e5 : und (⟨#[97, 47, 98]⟩ : ByteArray).data.toList (⟨#[97]⟩ : ByteArray).data.toList = true := val6
  rw [e5]
  clear e5
  go_wp2_with fail
  refine (under_any ⟨#[97, 98]⟩ ⟨#[97]⟩ w3 (by decide) (by decide)).mono ?_
  rintro e w4 ⟨rfl, rfl⟩
  have e6 : und (⟨#[97, 98]⟩ : ByteArray).data.toList (⟨#[97]⟩ : ByteArray).data.toList = false := val7
  rw [e6]
  clear e6
  go_wp2_with fail
  refine (clash_any ⟨#[97]⟩ ⟨#[97, 47, 98]⟩ w3 (by decide) (by decide)).mono ?_
  rintro e w4 ⟨rfl, rfl⟩
  have e7 : cls (⟨#[97]⟩ : ByteArray).data.toList (⟨#[97, 47, 98]⟩ : ByteArray).data.toList = true := val8
  rw [e7]
  clear e7
  go_wp2_with fail
  refine (clash_any ⟨#[97]⟩ ⟨#[97]⟩ w3 (by decide) (by decide)).mono ?_
  rintro e w4 ⟨rfl, rfl⟩
  have e8 : cls (⟨#[97]⟩ : ByteArray).data.toList (⟨#[97]⟩ : ByteArray).data.toList = false := val9
  rw [e8]
  clear e8
  go_wp2_with fail
  refine (compare_any ⟨#[97]⟩ ⟨#[98]⟩ w3).mono ?_
  rintro e w4 ⟨rfl, rfl⟩
  have e9 : Lib.compareBytes (⟨#[97]⟩ : ByteArray).data.toList (⟨#[98]⟩ : ByteArray).data.toList = -1 := val0
  rw [e9]
  clear e9
  go_wp2_with fail
  go_ret
  exact ⟨rfl, B3.out⟩
end Go.Proofs.YtkhdjlakclidoaaDoor
