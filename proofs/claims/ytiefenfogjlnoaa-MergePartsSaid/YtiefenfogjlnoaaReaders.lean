/-
  The cutter's other readers: ended, nextKept; places; Clone of any slice of texts; whole.
-/
import Derived.Test.YtiefenfogjlnoaaCutter
namespace Go.Proofs.Ytiefenfogjlnoaa
open Go.RowKit

theorem nx_fix (k : Nat → Bool) (f i : Nat) (h : k i = true) : nx k f i = i := by
  cases f with
  | zero => rfl
  | succ f => rw [nx, if_pos h]
theorem nx_next (k : Nat → Bool) (f i : Nat) (h : k i = false) (hf : 0 < f) : nx k f i = nx k (f - 1) (i + 1) := by
  obtain ⟨f, rfl⟩ : ∃ g, f = g + 1 := ⟨f - 1, by omega⟩
  rw [nx, if_neg (by simp [h])]
  rfl

set_option maxHeartbeats 1000000 in
theorem nextKept_any (w : World) (C n c i : Nat) (A : Option Addr) (vo vt vp vq v6 v7 v8 : Value) (p q : List (Option Nat)) (h : Cutr w C (.slice A n c) vo vt vp vq (.int .i64 (i : Int)) v6 v7 v8) (hp : Pl w vp p) (hq : Pl w vq q) (lp : p.length = n) (lq : q.length = n) (hn : n ≤ 1000) (hi : i ≤ n) :
    Calls Try.prog 25 #[.pointer (some ⟨C, 0, none⟩)] w fun e w' => e = .returned (.int .i64 (nx (isK p q) (n - i) i : Nat)) ∧ w = w' := by
  have IK := fun (m : Nat) => isKept_any w C n c m A vo vt vp vq (.int .i64 (i : Int)) v6 v7 v8 p q h hp hq lp lq
  have HIK := Lib.hid IK
  have t0 := h.c0
  have t5 := h.c5
  clear h hp hq lp lq IK
  go_enter Try.func25, Try.ntmps25
  go_wp2
  go_loop [3] (fun s3 => ∃ m : Nat, m ≤ n ∧ s3 = .int .i64 m ∧ Hid (nx (isK p q) (n - m) m = nx (isK p q) (n - i) i)) (fun s3 => n - (intOf s3).toNat)
  case atStart => exact ⟨i, hi, rfl, rfl⟩
  case round =>
    obtain ⟨m, hm, rfl, hx⟩ := hrel
    have m0 : (0 : Int) ≤ (m : Int) := Int.natCast_nonneg _
    by_cases hlt : m < n
    · cases hk : isK p q m with
      | true =>
        have HF := Lib.hid (nx_fix (isK p q) (n - m) m hk)
        have IKm := HIK.out m
        rw [hk] at IKm
        have HIKm := Lib.hid IKm
        clear hk IKm
        go_wp2_with fail
        refine HIKm.out.mono ?_
        rintro e w' ⟨rfl, rfl⟩
        go_wp2
        go_ret
        exact ⟨congrArg (fun z : Nat => Ending.returned (.int .i64 (z : Int))) (HF.out.symm.trans hx.out), rfl⟩
      | false =>
        have HF := Lib.hid (nx_next (isK p q) (n - m) m hk (by omega))
        have IKm := HIK.out m
        rw [hk] at IKm
        have HIKm := Lib.hid IKm
        clear hk IKm
        go_wp2_with fail
        refine HIKm.out.mono ?_
        rintro e w' ⟨rfl, rfl⟩
        go_wp2
        go_round
        case rel => exact ⟨m + 1, by omega, by go_num, by have := HF.out.symm.trans hx.out; rw [show n - m - 1 = n - (m + 1) by omega] at this; exact this⟩
        case measure => simp [intOf]; omega
    · obtain rfl : m = n := by omega
      have HF : Hid (nx (isK p q) (m - m) m = m) := by rw [Nat.sub_self]; rfl
      go_wp2
      go_ret
      exact ⟨congrArg (fun z : Nat => Ending.returned (.int .i64 (z : Int))) (HF.out.symm.trans hx.out), rfl⟩

/-- A bool; at most draws. -/
def Says (b : Bool) (w : World) (e : Ending) (w' : World) : Prop := ∃ q, e = .returned (.bool b) ∧ w' = w.drewN q

set_option maxHeartbeats 1000000 in
theorem ended_any (w : World) (C n c m d r f i j k : Nat) (A B D : Option Addr) (vp vq v8 : Value) (h : Cutr w C (.slice A n c) (.slice B m d) (.slice D r f) vp vq (.int .i64 (i : Int)) (.int .i64 (j : Int)) (.int .i64 (k : Int)) v8) :
    Calls Try.prog 23 #[.pointer (some ⟨C, 0, none⟩)] w (Says (decide (i = n ∧ j = m ∧ k = r)) w) := by
  have t0 := h.c0
  have t1 := h.c1
  have t2 := h.c2
  have t5 := h.c5
  have t6 := h.c6
  have t7 := h.c7
  clear h
  by_cases h1 : i = n
  · have b1 : ((i : Int) == (n : Int)) = true := by rw [beq_iff_eq]; omega
    by_cases h2 : j = m
    · have b2 : ((j : Int) == (m : Int)) = true := by rw [beq_iff_eq]; omega
      by_cases h3 : k = r
      · have b3 : ((k : Int) == (r : Int)) = true := by rw [beq_iff_eq]; omega
        have HD := Lib.hid (decide_eq_true (show i = n ∧ j = m ∧ k = r from ⟨h1, h2, h3⟩))
        clear h1 h2 h3
        go_enter Try.func23, Try.ntmps23
        go_wp2_with fail
        go_quiet (fail)
        go_wp2
        go_ret
        exact ⟨_, by rw [HD.out]; rfl, rfl⟩
      · have b3 : ((k : Int) == (r : Int)) = false := by rw [beq_eq_false_iff_ne]; omega
        have HD := Lib.hid (decide_eq_false (show ¬(i = n ∧ j = m ∧ k = r) from fun e => h3 e.2.2))
        clear h1 h2 h3
        go_enter Try.func23, Try.ntmps23
        go_wp2_with fail
        go_quiet (fail)
        go_wp2
        go_ret
        exact ⟨_, by rw [HD.out]; rfl, rfl⟩
    · have b2 : ((j : Int) == (m : Int)) = false := by rw [beq_eq_false_iff_ne]; omega
      have HD := Lib.hid (decide_eq_false (show ¬(i = n ∧ j = m ∧ k = r) from fun e => h2 e.2.1))
      clear h1 h2
      go_enter Try.func23, Try.ntmps23
      go_wp2_with fail
      go_quiet (fail)
      go_wp2
      go_ret
      exact ⟨_, by rw [HD.out]; rfl, rfl⟩
  · have b1 : ((i : Int) == (n : Int)) = false := by rw [beq_eq_false_iff_ne]; omega
    have HD := Lib.hid (decide_eq_false (show ¬(i = n ∧ j = m ∧ k = r) from fun e => h1 e.1))
    clear h1
    go_enter Try.func23, Try.ntmps23
    go_wp2_with fail
    go_quiet (fail)
    go_wp2
    go_ret
    exact ⟨_, by rw [HD.out]; rfl, rfl⟩

end Go.Proofs.Ytiefenfogjlnoaa
