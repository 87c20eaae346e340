/-
  patch.count, (patch.Hunk).wrong.
-/
import Derived.Test.YtdpoeagmeiedcaaDoorPMem
import Derived.Deep.DeepCutAuto
import Derived.Deep.CutBlock
namespace Go.Proofs.YtdpoeagmeiedcaaDoor
open Go Go.RowKit

def CountTo (w : World) (l : List EdI) (e : Ending) (w' : World) : Prop := e = .returned (.tuple #[.int .i64 (dels l : Int), .int .i64 (adds l : Int)]) ∧ Below w.heap.size w w'
theorem op_cases (n : Int) : n = 1 ∨ n = 2 ∨ n = 3 ∨ (n ≠ 1 ∧ n ≠ 2 ∧ n ≠ 3) := by omega

set_option maxRecDepth 100000 in
set_option maxHeartbeats 2000000 in
theorem count_any (w : World) (v : Value) (l : List EdI) (h : Reads 2 cEd w v l) (hl : l.length ≤ 1000) : Calls Tryd.prog 47 #[v] w (CountTo w l) := by
  obtain ⟨A, c, rfl⟩ := h.form
  have HO := Lib.hid h
  clear h
  go_enter Tryd.func47, Tryd.ntmps47
  go_wp2_with fail
  go_loopw [2, 3, 8] (fun s2 s3 s8 wr => ∃ k : Nat, k ≤ l.length ∧ s8 = .int .i64 k ∧ s2 = .int .i64 (dels (l.take k) : Int) ∧ s3 = .int .i64 (adds (l.take k) : Int) ∧ Below w.heap.size w wr) (fun _ _ s8 _ => l.length - (intOf s8).toNat)
  case atStart => exact ⟨0, Nat.zero_le _, rfl, rfl, rfl, Below.refl _ _⟩
  case round =>
    obtain ⟨k, hk, rfl, rfl, rfl, hb⟩ := hrel
    have k0 : (0 : Int) ≤ (k : Int) := Int.natCast_nonneg _
    have d1 : ((dels (l.take k) : Nat) : Int) ≤ 1000 := by have := dels_le (l.take k); have := List.length_take_le k l; omega
    have d2 : ((adds (l.take k) : Nat) : Int) ≤ 1000 := by have := adds_le (l.take k); have := List.length_take_le k l; omega
    have d3 : (0 : Int) ≤ ((dels (l.take k) : Nat) : Int) := Int.natCast_nonneg _
    have d4 : (0 : Int) ≤ ((adds (l.take k) : Nat) : Int) := Int.natCast_nonneg _
    by_cases hlt : k < l.length
    · have k1 : (k : Int) < (l.length : Int) := by omega
      obtain ⟨x, hx⟩ : ∃ x, l[k]? = some x := ⟨_, List.getElem?_eq_getElem hlt⟩
      obtain ⟨ad, rfl, c0, c1⟩ := Eds.at_ (HO.out.below hb) hx
      have T1 := Lib.hid (dels_snoc (l.take k) x)
      have T2 := Lib.hid (adds_snoc (l.take k) x)
      rw [← take_snocP hx] at T1 T2
      obtain ⟨o, s⟩ := x
      have hb2 := hb.alloc hb.size (.cells #[.int .i64 o, .string s] 66)
      clear hx
      generalize dels (l.take k) = dl at *
      generalize adds (l.take k) = al at *
      rcases op_cases o with rfl | rfl | rfl | ⟨n1, n2, n3⟩
      · go_wp2
        go_roundw
        case rel => exact ⟨k + 1, by omega, by go_num, by rw [T1.out]; simp [isDel], by rw [T2.out]; simp [isAdd], hb2⟩
        case measure => simp [intOf]; omega
      · go_wp2
        go_roundw
        case rel => exact ⟨k + 1, by omega, by go_num, by rw [T1.out]; simp [isDel], by rw [T2.out]; simp [isAdd], hb2⟩
        case measure => simp [intOf]; omega
      · go_wp2
        go_roundw
        case rel => exact ⟨k + 1, by omega, by go_num, by rw [T1.out]; simp [isDel], by rw [T2.out]; simp [isAdd], hb2⟩
        case measure => simp [intOf]; omega
      · have m1 : (o == 1) = false := by simpa using n1
        have m2 : (o == 2) = false := by simpa using n2
        have m3 : (o == 3) = false := by simpa using n3
        clear n1 n2 n3
        have M1 := Lib.hid m1
        have M2 := Lib.hid m2
        have M3 := Lib.hid m3
        go_wp2
        go_roundw
        case rel => exact ⟨k + 1, by omega, by go_num, by rw [T1.out]; simp [isDel, M1.out, M2.out], by rw [T2.out]; simp [isAdd, M1.out, M3.out], hb2⟩
        case measure => simp [intOf]; omega
    · obtain rfl : k = l.length := by omega
      rw [List.take_length]
      clear d1 d2 d3 d4
      go_wp2
      go_ret2
      exact ⟨rfl, hb⟩
end Go.Proofs.YtdpoeagmeiedcaaDoor
