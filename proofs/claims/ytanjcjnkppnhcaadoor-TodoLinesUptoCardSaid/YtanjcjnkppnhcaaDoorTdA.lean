/-
  todo: a line's words; a verb; a number; what is behind a step's commit.
-/
import Derived.Test.YtanjcjnkppnhcaaDoorShelfT
import Derived.Test.YtanjcjnkppnhcaaDoorKMem
import Derived.Deep.CutBlock
namespace Go.Proofs.YtanjcjnkppnhcaaDoor
open Go Go.RowKit

def mkW (l : List UInt8) : ByteArray := ⟨l.toArray⟩
theorem mkW_list (s : ByteArray) : mkW s.data.toList = s := by cases s; simp [mkW]
theorem list_mkW (l : List UInt8) : (mkW l).data.toList = l := by simp [mkW]
theorem size_listB (s : ByteArray) : s.data.toList.length = s.size := by rw [Array.length_toList]; rfl
theorem mkW_size (l : List UInt8) : (mkW l).size = l.length := by rw [← size_listB, list_mkW]
theorem extract_mkW (s : ByteArray) (a b : Nat) : s.extract a b = mkW ((s.data.toList.take b).drop a) := by
  apply congrArg ByteArray.mk
  show (s.extract a b).data = _
  rw [ByteArray.data_extract]
  apply Array.ext'
  simp [List.drop_take]
theorem bytesB_eq {a b : ByteArray} (h : a.data.toList = b.data.toList) : a = b := by rw [← mkW_list a, ← mkW_list b, h]
/-- The first word of a text, behind blanks, and what is behind it. -/
def wordP (l : List UInt8) : List UInt8 × List UInt8 :=
  if Lib.indexByte (Lib.trimLeftB l 32) 32 < 0 then (Lib.trimLeftB l 32, []) else ((Lib.trimLeftB l 32).take (Lib.indexByte (Lib.trimLeftB l 32) 32).toNat, (Lib.trimLeftB l 32).drop (Lib.indexByte (Lib.trimLeftB l 32) 32).toNat)
theorem trim_len (l : List UInt8) (c : UInt8) : (Lib.trimLeftB l c).length ≤ l.length := by
  unfold Lib.trimLeftB
  exact (List.dropWhile_sublist _).length_le
theorem indexB_le (l : List UInt8) (c : UInt8) : Lib.indexByte l c ≤ l.length := by
  rw [← Lib.index_one]; exact Lib.index_le l [c]
set_option maxHeartbeats 2000000 in
theorem word_any (s : ByteArray) (w : World) (hs : s.size ≤ 9223372036854775807) : Calls Tryd.prog 29 #[.string s] w fun e w' => e = .returned (.tuple #[.string (mkW (wordP s.data.toList).1), .string (mkW (wordP s.data.toList).2)]) ∧ ∃ q, w' = w.drewN q := by
  have TL := Lib.hid (Tryd.strings_TrimLeft_one s 32 (by decide) w)
  obtain ⟨t, ht⟩ : ∃ t : ByteArray, t = ⟨(Lib.trimLeftB s.data.toList 32).toArray⟩ := ⟨_, rfl⟩
  have HT : t.data.toList = Lib.trimLeftB s.data.toList 32 := by rw [ht]
  have IX := Lib.hid (Tryd.strings_Index_one t 32 w)
  have htl : t.size ≤ 9223372036854775807 := by
    have := trim_len s.data.toList 32
    rw [← HT, size_listB, size_listB] at this
    omega
  rw [← ht] at TL
  have HW := Lib.hid (show wordP s.data.toList = if Lib.indexByte t.data.toList 32 < 0 then (t.data.toList, []) else (t.data.toList.take (Lib.indexByte t.data.toList 32).toNat, t.data.toList.drop (Lib.indexByte t.data.toList 32).toNat) by unfold wordP; rw [HT])
  have hle := indexB_le t.data.toList 32
  rw [size_listB] at hle
  clear ht HT
  by_cases hx : Lib.indexByte t.data.toList 32 < 0
  · have hm : Lib.indexByte t.data.toList 32 = -1 := by have := Lib.indexByte_ge t.data.toList 32; omega
    rw [hm] at IX
    have HV := Lib.hid (show wordP s.data.toList = (t.data.toList, []) by rw [HW.out, if_pos hx])
    clear hx hm HW hle
    go_enter Tryd.func29, Tryd.ntmps29
    go_wp2_with (first
      | (go_at_call 38; refine TL.out.mono ?_; rintro e w1 ⟨rfl, rfl⟩)
      | (go_at_call 37; refine IX.out.mono ?_; rintro e w2 ⟨rfl, rfl⟩))
    go_ret2
    exact ⟨by rw [HV.out, mkW_list]; rfl, 0, rfl⟩
  · obtain ⟨i, hi⟩ : ∃ i : Nat, Lib.indexByte t.data.toList 32 = i := ⟨(Lib.indexByte t.data.toList 32).toNat, by omega⟩
    have HV := Lib.hid (show wordP s.data.toList = (t.data.toList.take i, t.data.toList.drop i) by rw [HW.out, if_neg hx, hi]; simp)
    rw [hi] at IX hle
    have hil : i ≤ t.size := by omega
    have hi0 : (0 : Int) ≤ (i : Int) := Int.natCast_nonneg _
    have hil2 : (i : Int) ≤ (t.size : Int) := by omega
    clear hx hi HW
    go_enter Tryd.func29, Tryd.ntmps29
    go_wp2_with (first
      | (go_at_call 38; refine TL.out.mono ?_; rintro e w1 ⟨rfl, rfl⟩)
      | (go_at_call 37; refine IX.out.mono ?_; rintro e w2 ⟨rfl, rfl⟩))
    go_region
    go_wp2
    go_ret2
    refine ⟨?_, 1, rfl⟩
    rw [HV.out, show t.extract 0 i = mkW (t.data.toList.take i) by rw [extract_mkW]; rfl, show t.extract i t.size = mkW (t.data.toList.drop i) by rw [extract_mkW, ← size_listB, List.take_length]]
    rfl
end Go.Proofs.YtanjcjnkppnhcaaDoor
