/-
  todo: what is behind a step's commit; a line as a step.
-/
import Derived.Test.YtanjcjnkppnhcaaDoorTdC
import Derived.Test.YtanjcjnkppnhcaaDoorTdM
namespace Go.Proofs.YtanjcjnkppnhcaaDoor
open Go Go.RowKit

/-- What is behind a step's commit: its text, or what is wrong. -/
def textP (v : ByteArray) (r : List UInt8) : List UInt8 × Int :=
  if (v.toList == [114, 101, 119, 111, 114, 100]) = false then (if Lib.trimB r 32 = [] then ([], 0) else ([], 2))
  else if Lib.trimPrefix r [32] = [] then ([], 2) else if 256 < (Lib.trimPrefix r [32]).length then ([], 4) else (Lib.trimPrefix r [32], 0)
theorem not_nilB {s : ByteArray} (h : s.data.toList ≠ []) : ¬ s.toList = [] ∧ s.toList.isEmpty = false := by
  have q1 : ¬ s.toList = [] := by rw [ByteArray.toList_eq]; exact h
  refine ⟨q1, ?_⟩
  cases hl : s.toList with
  | nil => exact absurd hl q1
  | cons a l => rfl
theorem ret_t {a b : List UInt8 × Int} (h : a = b) : Ending.returned (.tuple #[.string (mkW a.1), .int .i64 a.2]) = .returned (.tuple #[.string (mkW b.1), .int .i64 b.2]) := by rw [h]
set_option maxRecDepth 100000 in
set_option maxHeartbeats 2000000 in
theorem text_any (v r : ByteArray) (w : World) (hr : r.size ≤ 9223372036854775807) : Calls Tryd.prog 31 #[.string v, .string r] w fun e w' => e = .returned (.tuple #[.string (mkW (textP v r.data.toList).1), .int .i64 (textP v r.data.toList).2]) ∧ ∃ q, w' = w.drewN q := by
  have TP := Lib.hid (Tryd.strings_TrimPrefix r ⟨#[32]⟩ w)
  have TR := Lib.hid (Tryd.strings_Trim_one r 32 (by decide) w hr)
  obtain ⟨x, hx⟩ : ∃ x : ByteArray, x = ⟨(Lib.trimPrefix r.data.toList (⟨#[32]⟩ : ByteArray).data.toList).toArray⟩ := ⟨_, rfl⟩
  obtain ⟨y, hy⟩ : ∃ y : ByteArray, y = ⟨(Lib.trimB r.data.toList 32).toArray⟩ := ⟨_, rfl⟩
  have HX : x.data.toList = Lib.trimPrefix r.data.toList [32] := by rw [hx]
  have HY : y.data.toList = Lib.trimB r.data.toList 32 := by rw [hy]
  rw [← hx] at TP
  rw [← hy] at TR
  have HT := Lib.hid (show textP v r.data.toList = if (v.toList == [114, 101, 119, 111, 114, 100]) = false then (if y.data.toList = [] then ([], 0) else ([], 2)) else if x.data.toList = [] then ([], 2) else if 256 < x.data.toList.length then ([], 4) else (x.data.toList, 0) by unfold textP; rw [HX, HY])
  clear hx hy HX HY
  cases hv : (v.toList == [114, 101, 119, 111, 114, 100]) with
  | false =>
    by_cases h0 : y.data.toList = []
    · have HV := Lib.hid (show textP v r.data.toList = ([], 0) by rw [HT.out, if_pos hv, if_pos h0])
      obtain rfl : y = ⟨#[]⟩ := bytesB_eq h0
      clear h0
      go_enter Tryd.func31, Tryd.ntmps31
      go_wp2_with (first
        | (go_at_call 39; refine TP.out.mono ?_; rintro e w1 ⟨rfl, rfl⟩)
        | (go_at_call 40; refine TR.out.mono ?_; rintro e w2 ⟨rfl, hw2⟩))
      go_ret2
      exact ⟨ret_t HV.out.symm, hw2.elim (fun h => ⟨0, h⟩) fun h => ⟨1, h⟩⟩
    · have HV := Lib.hid (show textP v r.data.toList = ([], 2) by rw [HT.out, if_pos hv, if_neg h0])
      obtain ⟨n1, n2⟩ := not_nilB h0
      clear h0
      go_enter Tryd.func31, Tryd.ntmps31
      go_wp2_with (first
        | (go_at_call 39; refine TP.out.mono ?_; rintro e w1 ⟨rfl, rfl⟩)
        | (go_at_call 40; refine TR.out.mono ?_; rintro e w2 ⟨rfl, hw2⟩))
      go_ret2
      exact ⟨ret_t HV.out.symm, hw2.elim (fun h => ⟨0, h⟩) fun h => ⟨1, h⟩⟩
  | true =>
    have hv2 : ¬ (v.toList == [114, 101, 119, 111, 114, 100]) = false := by rw [hv]; simp
    by_cases h0 : x.data.toList = []
    · have HV := Lib.hid (show textP v r.data.toList = ([], 2) by rw [HT.out, if_neg hv2, if_pos h0])
      obtain rfl : x = ⟨#[]⟩ := bytesB_eq h0
      clear h0 hv2
      go_enter Tryd.func31, Tryd.ntmps31
      go_wp2_with (first
        | (go_at_call 39; refine TP.out.mono ?_; rintro e w1 ⟨rfl, rfl⟩))
      go_ret2
      exact ⟨ret_t HV.out.symm, 0, rfl⟩
    · obtain ⟨n1, n2⟩ := not_nilB h0
      by_cases hl : 256 < x.size
      · have HV := Lib.hid (show textP v r.data.toList = ([], 4) by rw [HT.out, if_neg hv2, if_neg h0, if_pos (by rw [size_listB]; exact hl)])
        have hli : (256 : Int) < (x.size : Int) := by omega
        clear h0 hv2 hl
        go_enter Tryd.func31, Tryd.ntmps31
        go_wp2_with (first
          | (go_at_call 39; refine TP.out.mono ?_; rintro e w1 ⟨rfl, rfl⟩))
        go_ret2
        exact ⟨ret_t HV.out.symm, 0, rfl⟩
      · have HV := Lib.hid (show textP v r.data.toList = (x.data.toList, 0) by rw [HT.out, if_neg hv2, if_neg h0, if_neg (by rw [size_listB]; exact hl)])
        have hli : ¬ (256 : Int) < (x.size : Int) := by omega
        clear h0 hv2 hl
        go_enter Tryd.func31, Tryd.ntmps31
        go_wp2_with (first
          | (go_at_call 39; refine TP.out.mono ?_; rintro e w1 ⟨rfl, rfl⟩))
        go_ret2
        exact ⟨by rw [HV.out, mkW_list]; rfl, 0, rfl⟩
end Go.Proofs.YtanjcjnkppnhcaaDoor
