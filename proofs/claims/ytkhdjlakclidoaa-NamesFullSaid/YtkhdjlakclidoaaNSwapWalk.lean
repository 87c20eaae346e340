/-
  The walks of NamesSwap and NamesHead.
-/
import Derived.Test.YtkhdjlakclidoaaNKnown
namespace Go.Proofs.Ytkhdjlakclidoaa
open Go.RowKit

theorem good_dev : goodN devB = true := by kernel_rfl
theorem good_main : goodN mainB = true := by kernel_rfl
theorem has_dev (p : Int) : hasB [(devB, p)] devB = true := by kernel_rfl
theorem get_dev (p : Int) : getC [(devB, p)] devB = p := by kernel_rfl
theorem has_no : hasB [] devB = false := by kernel_rfl
theorem get_no : getC [] devB = 0 := by kernel_rfl
theorem set0 (t : Int) (h : 1 ≤ t) : setC [] devB t = 0 ∧ setL [] devB t = [(devB, t)] := by
  have h1 : setC [] devB t = 0 := by unfold setC; rw [good_dev, if_pos rfl, if_neg (by omega), has_no]; rfl
  exact ⟨h1, by unfold setL; rw [h1]; rfl⟩
theorem set1 (p t : Int) (h : 1 ≤ t) : setC [(devB, p)] devB t = 0 ∧ setL [(devB, p)] devB t = [(devB, t)] := by
  have h1 : setC [(devB, p)] devB t = 0 := by unfold setC; rw [good_dev, if_pos rfl, if_neg (by omega), has_dev, if_pos rfl]
  exact ⟨h1, by unfold setL; rw [h1]; rfl⟩
theorem sw_set {l : List Rf} {br s : ByteArray} {f t : Int} (hg : goodN s = true) (hf : 0 ≤ f) (ht : 0 < t) (h : getC l s = f) : swC l br s f t = setC l s t ∧ swL l br s f t = setL l s t := by
  have a1 : ¬ f < 0 := by omega
  have a2 : ¬ t < 0 := by omega
  unfold swC swL
  simp only [hg, a1, a2, h, ht, if_true, if_false, and_self]
theorem sw_del {l : List Rf} {br s : ByteArray} {f : Int} (hg : goodN s = true) (hf : 0 < f) (h : getC l s = f) : swC l br s f 0 = delC l s br ∧ swL l br s f 0 = delL l s br := by
  have a1 : ¬ f < 0 := by omega
  have a2 : ¬ (0 : Int) < 0 := by omega
  unfold swC swL
  simp only [hg, a1, a2, h, hf, if_true, if_false, and_self]
theorem sw_not {l : List Rf} {br s : ByteArray} {f t : Int} (hg : goodN s = true) (hf : 0 ≤ f) (ht : 0 ≤ t) (h : ¬ getC l s = f) : swC l br s f t = 7 ∧ swL l br s f t = l := by
  have a1 : ¬ f < 0 := by omega
  have a2 : ¬ t < 0 := by omega
  unfold swC swL
  simp only [hg, a1, a2, h, if_true, if_false, and_self]
theorem sw0 (x : Int) (h : 1 ≤ x) : swC [] mainB devB 0 x = 0 ∧ swL [] mainB devB 0 x = [(devB, x)] := by
  have k := sw_set (l := []) (br := mainB) (f := 0) (t := x) good_dev (by omega) (by omega) get_no
  rw [k.1, k.2]
  exact set0 x h
theorem sw1 (p t : Int) (hp : 0 ≤ p) (h : 1 ≤ t) : swC [(devB, p)] mainB devB p t = 0 ∧ swL [(devB, p)] mainB devB p t = [(devB, t)] := by
  have k := sw_set (br := mainB) (t := t) good_dev hp (by omega) (get_dev p)
  rw [k.1, k.2]
  exact set1 p t h
theorem sw2 (p q t : Int) (hp : 0 ≤ p) (h : 1 ≤ t) (hne : ¬ q = p) : swC [(devB, q)] mainB devB p t = 7 ∧ swL [(devB, q)] mainB devB p t = [(devB, q)] :=
  sw_not good_dev hp (by omega) (by rw [get_dev]; exact hne)
theorem sw3 (p : Int) (hp : 1 ≤ p) : swC [(devB, p)] mainB devB p 0 = 0 ∧ swL [(devB, p)] mainB devB p 0 = [] := by
  have hd : delC [(devB, p)] devB mainB = 0 := by
    unfold delC
    rw [has_dev, if_pos rfl, if_neg (by intro e; exact absurd (congrArg ByteArray.size e) (by decide))]
  have k := sw_del (br := mainB) good_dev (by omega) (get_dev p)
  rw [k.1, k.2]
  exact ⟨hd, by unfold delL; rw [hd]; rfl⟩

set_option maxRecDepth 100000 in
set_option maxHeartbeats 4000000 in
theorem swap_walk (a b c : Int) (ha0 : 0 ≤ a) (ha1 : a ≤ 255) (hb0 : 0 ≤ b) (hb1 : b ≤ 255) (hc0 : 0 ≤ c) (hc1 : c ≤ 255) (w : World) :
    Calls Try.prog 5 #[.int .u8 a, .int .u8 b, .int .u8 c] w (YesB w) := by
  obtain ⟨N, hN⟩ : ∃ N, N = w.heap.size := ⟨_, rfl⟩
  have HN := Lib.hid hN
  go_enter Try.func5, Try.ntmps5
  go_wp2_with fail
  refine (known_yes w).mono ?_
  rintro e w0 ⟨rfl, b0⟩
  rw [← hN] at b0
  clear hN
  go_wp2_with fail
  refine (new_any w0).mono ?_
  rintro e w1 ⟨rfl, t1, b1'⟩
  have hNB : N ≤ w0.heap.size := by have := b0.size; rw [← HN.out] at this; exact this
  have T1 := Lib.hid t1
  have b1 : Below N w w1 := b0.trans (b1'.mono hNB)
  clear b1'
  generalize w0.heap.size = B at *
  clear t1 b0
  go_wp2_with fail
  refine (swap_any w1 B B _ [] mainB devB 0 0 (1 + a) T1.out (by decide) (by decide) (by decide) (by omega) (by omega)).mono ?_
  intro e w2 hD
  obtain ⟨rfl, v2, T2, b2⟩ := Did.go T1 hD b1 hNB (sw0 (1 + a) (by omega)).1 (sw0 (1 + a) (by omega)).2 rfl rfl
  clear hD b1 T1
  go_wp2_with fail
  refine (swap_any w2 B B v2 _ mainB devB 0 (1 + a) (1 + b) T2.out (by decide) (by omega) (by omega) (by omega) (by omega)).mono ?_
  intro e w3 hD
  obtain ⟨rfl, v3, T3, b3⟩ := Did.go T2 hD b2 hNB (sw1 (1 + a) (1 + b) (by omega) (by omega)).1 (sw1 (1 + a) (1 + b) (by omega) (by omega)).2 rfl rfl
  clear hD b2 T2
  by_cases hab : a = b
  · subst hab
    go_wp2_with fail
    refine (swap_any w3 B B v3 _ mainB devB 0 (1 + a) (1 + c) T3.out (by decide) (by omega) (by omega) (by omega) (by omega)).mono ?_
    intro e w4 hD
    obtain ⟨rfl, v4, T4, b4⟩ := Did.go T3 hD b3 hNB (sw1 (1 + a) (1 + c) (by omega) (by omega)).1 (sw1 (1 + a) (1 + c) (by omega) (by omega)).2 rfl rfl
    clear hD b3 T3
    go_wp2_with fail
    refine (get_is w4 B B v4 _ mainB devB 0 T4.out (1 + c) true (get_dev _) (has_dev _)).mono ?_
    rintro e w5 ⟨rfl, hb⟩
    obtain ⟨T5, b5⟩ := Tab.go T4 hb b4 hNB
    clear hb b4 T4
    go_wp2_with fail
    refine (swap_any w5 B B v4 _ mainB devB 0 (1 + c) 0 T5.out (by decide) (by omega) (by omega) (by omega) (by omega)).mono ?_
    intro e w6 hD
    obtain ⟨rfl, v6, T6, b6⟩ := Did.go T5 hD b5 hNB (sw3 (1 + c) (by omega)).1 (sw3 (1 + c) (by omega)).2 rfl rfl
    clear hD b5 T5
    go_wp2_with fail
    refine (get_is w6 B B v6 _ mainB devB 0 T6.out 0 false get_no has_no).mono ?_
    rintro e w7 ⟨rfl, hb⟩
    obtain ⟨T7, b7⟩ := Tab.go T6 hb b6 hNB
    clear hb b6 T6
    go_wp2_with fail
    go_ret
    exact ⟨rfl, by rw [← HN.out]; exact b7⟩
  · have hab2 : ¬ (1 + b = 1 + a) := by omega
    have hab3 : ((1 + a : Int) == 1 + b) = false := by rw [beq_eq_false_iff_ne]; omega
    have hab4 : ¬ (1 + a = 1 + b) := by omega
    have hab5 : (a == b) = false := by rw [beq_eq_false_iff_ne]; exact hab
    go_wp2_with fail
    refine (swap_any w3 B B v3 _ mainB devB 0 (1 + a) (1 + c) T3.out (by decide) (by omega) (by omega) (by omega) (by omega)).mono ?_
    intro e w4 hD
    obtain ⟨rfl, v4, T4, b4⟩ := Did.go T3 hD b3 hNB (sw2 (1 + a) (1 + b) (1 + c) (by omega) (by omega) hab2).1 (sw2 (1 + a) (1 + b) (1 + c) (by omega) (by omega) hab2).2 rfl rfl
    clear hD b3 T3
    go_wp2_with fail
    refine (get_is w4 B B v4 _ mainB devB 0 T4.out (1 + b) true (get_dev _) (has_dev _)).mono ?_
    rintro e w5 ⟨rfl, hb⟩
    obtain ⟨T5, b5⟩ := Tab.go T4 hb b4 hNB
    clear hb b4 T4
    go_wp2_with fail
    refine (swap_any w5 B B v4 _ mainB devB 0 (1 + b) 0 T5.out (by decide) (by omega) (by omega) (by omega) (by omega)).mono ?_
    intro e w6 hD
    obtain ⟨rfl, v6, T6, b6⟩ := Did.go T5 hD b5 hNB (sw3 (1 + b) (by omega)).1 (sw3 (1 + b) (by omega)).2 rfl rfl
    clear hD b5 T5
    go_wp2_with fail
    refine (get_is w6 B B v6 _ mainB devB 0 T6.out 0 false get_no has_no).mono ?_
    rintro e w7 ⟨rfl, hb⟩
    obtain ⟨T7, b7⟩ := Tab.go T6 hb b6 hNB
    clear hb b6 T6
    go_wp2_with fail
    go_ret
    exact ⟨rfl, by rw [← HN.out]; exact b7⟩
end Go.Proofs.Ytkhdjlakclidoaa
