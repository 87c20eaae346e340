/-
  The closed play 'known' of the merge answers true.
-/
import Derived.Test.YtiefenfogjlnoaaMarked
namespace Go.Proofs.Ytiefenfogjlnoaa
open Go.RowKit

theorem Strs.one (w : World) (x : ByteArray) : Strs (w.alloc (.cells #[.string x] 9)) (.slice (some ⟨w.heap.size, 0, none⟩) 1 1) [x] := by
  refine ⟨some ⟨w.heap.size, 0, none⟩, 1, rfl, Nat.le_refl _, by unfold maxLen; omega, (fun h => by cases h), ?_⟩
  intro ad ha i s hs
  obtain rfl := Option.some.inj ha
  have hi := (List.getElem?_eq_some_iff.1 hs).1
  obtain rfl : i = 0 := by simp at hi; omega
  obtain rfl : x = s := by simpa using hs
  exact cell_of_row _ w.heap.size 0 _ 9 (0, 0) (heap_alloc_new w _)

theorem known_three (w : World) (x y z : ByteArray) :
    Strs (((w.alloc (.cells #[.string x] 9)).alloc (.cells #[.string y] 9)).alloc (.cells #[.string z] 9)) (.slice (some ⟨w.heap.size, 0, none⟩) 1 1) [x] ∧
    Strs (((w.alloc (.cells #[.string x] 9)).alloc (.cells #[.string y] 9)).alloc (.cells #[.string z] 9)) (.slice (some ⟨w.heap.size + 1, 0, none⟩) 1 1) [y] ∧
    Strs (((w.alloc (.cells #[.string x] 9)).alloc (.cells #[.string y] 9)).alloc (.cells #[.string z] 9)) (.slice (some ⟨w.heap.size + 1 + 1, 0, none⟩) 1 1) [z] := by
  refine ⟨((Strs.one w x).alloc _).alloc _, ?_, ?_⟩
  · have := Strs.one (w.alloc (.cells #[.string x] 9)) y
    rw [show (w.alloc (.cells #[.string x] 9)).heap.size = w.heap.size + 1 from by simp] at this
    exact this.alloc _
  · have := Strs.one ((w.alloc (.cells #[.string x] 9)).alloc (.cells #[.string y] 9)) z
    rw [show ((w.alloc (.cells #[.string x] 9)).alloc (.cells #[.string y] 9)).heap.size = w.heap.size + 1 + 1 from by simp] at this
    exact this

abbrev Ka : ByteArray := ⟨#[97]⟩
abbrev Kb : ByteArray := ⟨#[98]⟩
abbrev KS : ByteArray := ⟨#[65, 10, 98, 10, 67, 10]⟩
abbrev KT : ByteArray := ⟨#[60, 60, 60, 60, 60, 60, 60, 32, 120, 10, 98, 10, 61, 61, 61, 61, 61, 61, 61, 10, 99, 10, 62, 62, 62, 62, 62, 62, 62, 32, 121, 10]⟩

theorem kr1 : txtAll [120] [121] (allC (lns ⟨#[97, 10, 98, 10, 99, 10]⟩) (lns ⟨#[65, 10, 98, 10, 99, 10]⟩) (lns ⟨#[97, 10, 98, 10, 67, 10]⟩)) = KS.data.toList ∧ clashes (allC (lns ⟨#[97, 10, 98, 10, 99, 10]⟩) (lns ⟨#[65, 10, 98, 10, 99, 10]⟩) (lns ⟨#[97, 10, 98, 10, 67, 10]⟩)) = 0 := by decide +kernel
theorem kr2 : txtAll [120] [121] (allC (lns ⟨#[97, 10]⟩) (lns ⟨#[98, 10]⟩) (lns ⟨#[99]⟩)) = KT.data.toList ∧ clashes (allC (lns ⟨#[97, 10]⟩) (lns ⟨#[98, 10]⟩) (lns ⟨#[99]⟩)) = 1 := by decide +kernel
theorem kr3 : allC [Ka] [Ka] [Kb] = [⟨[Ka], [Ka], [Kb], false, [Kb]⟩] := by kernel_rfl
theorem kr4 : mkd false (cutL KT.data.toList) = true ∧ mkd false (cutL KS.data.toList) = false := by decide +kernel
theorem kl : (lns ⟨#[97, 10, 98, 10, 99, 10]⟩).length ≤ 256 ∧ (lns ⟨#[65, 10, 98, 10, 99, 10]⟩).length ≤ 256 ∧ (lns ⟨#[97, 10, 98, 10, 67, 10]⟩).length ≤ 256 ∧ (lns ⟨#[97, 10]⟩).length ≤ 256 ∧ (lns ⟨#[98, 10]⟩).length ≤ 256 ∧ (lns ⟨#[99]⟩).length ≤ 256 := by decide +kernel

theorem k_text1 (W : World) : Calls Try.prog 9 #[.string ⟨#[97, 10, 98, 10, 99, 10]⟩, .string ⟨#[65, 10, 98, 10, 99, 10]⟩, .string ⟨#[97, 10, 98, 10, 67, 10]⟩, .string ⟨#[120]⟩, .string ⟨#[121]⟩] W
    fun e w' => e = .returned (.tuple #[.string KS, .int .i64 0, .nilIface]) ∧ Below W.heap.size W w' := by
  obtain ⟨l1, l2, l3, _⟩ := kl
  have h := text_any W ⟨#[97, 10, 98, 10, 99, 10]⟩ ⟨#[65, 10, 98, 10, 99, 10]⟩ ⟨#[97, 10, 98, 10, 67, 10]⟩ ⟨#[120]⟩ ⟨#[121]⟩ (by decide) (by decide) (by decide) (by decide) (by decide) l1 l2 l3
  rw [show (ByteArray.mk #[120]).data.toList = [120] from rfl, show (ByteArray.mk #[121]).data.toList = [121] from rfl, kr1.1, kr1.2] at h
  exact h.mono fun e w' ⟨a, b⟩ => ⟨a, b⟩
theorem k_text2 (W : World) : Calls Try.prog 9 #[.string ⟨#[97, 10]⟩, .string ⟨#[98, 10]⟩, .string ⟨#[99]⟩, .string ⟨#[120]⟩, .string ⟨#[121]⟩] W
    fun e w' => e = .returned (.tuple #[.string KT, .int .i64 1, .nilIface]) ∧ Below W.heap.size W w' := by
  obtain ⟨_, _, _, l1, l2, l3⟩ := kl
  have h := text_any W ⟨#[97, 10]⟩ ⟨#[98, 10]⟩ ⟨#[99]⟩ ⟨#[120]⟩ ⟨#[121]⟩ (by decide) (by decide) (by decide) (by decide) (by decide) l1 l2 l3
  rw [show (ByteArray.mk #[120]).data.toList = [120] from rfl, show (ByteArray.mk #[121]).data.toList = [121] from rfl, kr2.1, kr2.2] at h
  exact h.mono fun e w' ⟨a, b⟩ => ⟨a, b⟩
theorem k_mark1 (W : World) : Calls Try.prog 14 #[.string KT] W fun e w' => e = .returned (.bool true) ∧ Below W.heap.size W w' := by
  have h := marked_any W KT (by decide)
  rwa [kr4.1] at h
theorem k_mark2 (W : World) : Calls Try.prog 14 #[.string KS] W fun e w' => e = .returned (.bool false) ∧ Below W.heap.size W w' := by
  have h := marked_any W KS (by decide)
  rwa [kr4.2] at h

set_option maxRecDepth 100000 in
set_option maxHeartbeats 4000000 in
theorem known_yes (w : World) : Calls Try.prog 8 #[] w (YesB w) := by
  have CH := Lib.hid fun (W : World) => chunks_any _ _ _ _ [Ka] [Ka] [Kb] (known_three W Ka Ka Kb).1 (known_three W Ka Ka Kb).2.1 (known_three W Ka Ka Kb).2.2 (by decide) (by decide) (by decide) (by decide) (by decide) (by decide)
  rw [kr3] at CH
  have E0 := Lib.hid fun (W : World) => (((Below.refl W.heap.size W).alloc (Nat.le_refl _) (.cells #[.string Ka] 9)).alloc (by simp) (.cells #[.string Ka] 9)).alloc (by simp; omega) (.cells #[.string Kb] 9)
  go_enter Try.func8, Try.ntmps8
  go_wp2_with fail
  refine (k_text1 w).mono ?_
  rintro e w1 ⟨rfl, b1⟩
  go_wp2_with fail
  refine (k_text2 w1).mono ?_
  rintro e w2 ⟨rfl, d2⟩
  have b2 := below_trans b1 d2
  clear b1 d2
  go_wp2_with fail
  refine (CH.out w2).mono ?_
  rintro e w3 ⟨v, rfl, o3, d3⟩
  have b3 := below_trans b2 (below_trans (E0.out w2) d3)
  obtain ⟨A, cp, rfl⟩ := o3.form
  obtain ⟨g, A1, A2, A3, A4, c1, c2, c3, c4, rfl, x0, x1, x2, x3, x4, _, _, _, _⟩ := o3.at (k := 0) rfl
  have HB3 := Lib.hid b3
  clear o3 d3 b2 CH E0 b3 x0 x1 x2
  simp at x3 x4
  go_wp2_with (first
    | (go_at_call 14; (with_reducible refine (k_mark2 _).mono ?_); rintro e w5 ⟨rfl, d5⟩)
    | (go_at_call 14; (with_reducible refine (k_mark1 _).mono ?_); rintro e w4 ⟨rfl, d4⟩))
  go_ret
  exact ⟨rfl, below_trans HB3.out (below_trans d4 d5)⟩

end Go.Proofs.Ytiefenfogjlnoaa
