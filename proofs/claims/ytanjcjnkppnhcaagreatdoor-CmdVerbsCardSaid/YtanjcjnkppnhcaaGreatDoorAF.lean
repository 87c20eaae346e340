/-
  The document's CheckCmd, its parts: a name, a number, a text, the steps.
-/
import Derived.Test.YtanjcjnkppnhcaaGreatDoorAE

namespace Go.Proofs.YtanjcjnkppnhcaaGreatDoor
open Go Go.RowKit

set_option maxHeartbeats 4000000 in
theorem refLine_any (tx : ByteArray) (w : World) (hs : tx.size ≤ 100000) : Calls Tryz.prog 90 #[.string tx] w fun e w' => e = .returned (.bool (decide ((nls tx.data.toList).length ≠ 1))) ∧ Below w.heap.size w w' := by
  have LN := Lib.hid (refLines_any tx w hs)
  go_enter Tryz.func90, Tryz.ntmps90
  go_wp2_with fail
  refine LN.out.mono ?_
  rintro e w1 ⟨xs, u, hxs, rfl, ho, d1⟩
  have D1 := Lib.hid d1
  obtain ⟨A, c, rfl⟩ := own_form ho
  have HV := Lib.hid (show decide ((1 : Int) < (xs.length : Int)) = decide ((nls tx.data.toList).length ≠ 1) by
    have h1 : xs.length = (nls tx.data.toList).length := by rw [← hxs, List.length_map]
    have h2 := List.length_pos_iff.2 (nls_ne tx.data.toList)
    exact decide_eq_decide.2 (by omega))
  clear hxs ho d1 LN
  go_wp2
  go_ret
  exact ⟨congrArg (fun b => Ending.returned (.bool b)) HV.out, D1.out⟩
set_option maxRecDepth 100000 in
set_option maxHeartbeats 16000000 in
theorem refWords_any (k : Nat) (hk : k < 20) (nm : ByteArray) (n : Int) (tx : ByteArray) (f : Bool) (A : Option Addr) (m c : Nat) (w : World) :
    Calls Tryz.prog 52 #[cmdV k nm n tx f A m c] w fun e w' => e = .returned (.int .i64 (wTK k tx)) ∧ Below w.heap.size w w' := by
  have hb := (Below.refl w.heap.size w).alloc (Nat.le_refl _) (.cells (cmdC k nm n tx f A m c) 56)
  unfold cmdV
  unfold cmdC at hb
  by_cases hz : 256 < tx.size
  · have hzi : (256 : Int) < (tx.size : Int) := by omega
    have hw : wlV tx = 4 := if_pos hz
    have hne : tx ≠ ⟨#[]⟩ := fun e => by subst e; cases hz
    have HV2 := Lib.hid (show (4 : Int) = wTK 2 tx by unfold wTK; rw [if_pos rfl, if_neg hne, hw])
    have HV10 := Lib.hid (show (4 : Int) = wTK 10 tx by unfold wTK; rw [if_neg (by decide), if_pos rfl, hw])
    clear hz hw hne
    rcases k20 hk with rfl | rfl | rfl | rfl | rfl | rfl | rfl | rfl | rfl | rfl | rfl | rfl | rfl | rfl | rfl | rfl | rfl | rfl | rfl | rfl
    all_goals
      simp only [vB] at hb ⊢
      have HB := Lib.hid hb
      clear hb
      go_enter Tryz.func52, Tryz.ntmps52
      go_wp2
      go_ret
      first
        | exact ⟨rfl, HB.out⟩
        | exact ⟨ret_e HV2.out, HB.out⟩
        | exact ⟨ret_e HV10.out, HB.out⟩
  have hzi : ¬ (256 : Int) < (tx.size : Int) := by omega
  have LN := Lib.hid fun W => refLine_any tx W (by omega)
  rcases emptyB tx with ⟨rfl, -⟩ | ⟨h1, h2, h3⟩
  · clear hzi hz
    rcases k20 hk with rfl | rfl | rfl | rfl | rfl | rfl | rfl | rfl | rfl | rfl | rfl | rfl | rfl | rfl | rfl | rfl | rfl | rfl | rfl | rfl
    all_goals
      simp only [vB] at hb ⊢
      have HB := Lib.hid hb
      clear hb
      go_enter Tryz.func52, Tryz.ntmps52
      go_wp2_with (go_at_call 90; refine (LN.out _).mono ?_; rintro e w1 ⟨rfl, d1⟩; have D1 := Lib.hid d1; clear d1)
      go_ret
      first
        | exact ⟨rfl, HB.out⟩
        | exact ⟨rfl, HB.out.trans (D1.out.mono HB.out.size)⟩
  · obtain ⟨b, hb1⟩ : ∃ b, b = decide ((nls tx.data.toList).length ≠ 1) := ⟨_, rfl⟩
    have hw : wlV tx = if b = true then 2 else 0 := by
      unfold wlV
      rw [if_neg hz, hb1]
      by_cases h : (nls tx.data.toList).length = 1 <;> simp [h]
    rw [← hb1] at LN
    have HV2 := Lib.hid (show wTK 2 tx = if b = true then 2 else 0 by unfold wTK; rw [if_pos rfl, if_neg h1, hw])
    have HV10 := Lib.hid (show wTK 10 tx = if b = true then 2 else 0 by unfold wTK; rw [if_neg (by decide), if_pos rfl, hw])
    clear hz hw h1 hb1
    cases b
    all_goals
      rcases k20 hk with rfl | rfl | rfl | rfl | rfl | rfl | rfl | rfl | rfl | rfl | rfl | rfl | rfl | rfl | rfl | rfl | rfl | rfl | rfl | rfl
    all_goals
      simp only [vB] at hb ⊢
      have HB := Lib.hid hb
      clear hb
      go_enter Tryz.func52, Tryz.ntmps52
      go_wp2_with (go_at_call 90; refine (LN.out _).mono ?_; rintro e w1 ⟨rfl, d1⟩; have D1 := Lib.hid d1; clear d1)
      go_ret
      first
        | exact ⟨rfl, HB.out⟩
        | exact ⟨ret_e HV2.out.symm, HB.out.trans (D1.out.mono HB.out.size)⟩
        | exact ⟨ret_e HV10.out.symm, HB.out.trans (D1.out.mono HB.out.size)⟩
theorem wNK_5 (nm : ByteArray) (n : Int) : wNK 5 nm n = if nm.toList.isEmpty = false then 0 else if n < 1 then 1 else 0 := rfl
theorem wNK_5e (n : Int) : wNK 5 ⟨#[]⟩ n = if n < 1 then 1 else 0 := by
  rw [wNK_5, if_neg (by rw [ByteArray.toList_eq]; decide)]
set_option maxRecDepth 100000 in
set_option maxHeartbeats 16000000 in
theorem refNum_any (k : Nat) (hk : k < 20) (nm : ByteArray) (n : Int) (tx : ByteArray) (f : Bool) (A : Option Addr) (m c : Nat) (w : World) (hn : -9223372036854775808 ≤ n) :
    Calls Tryz.prog 51 #[cmdV k nm n tx f A m c] w fun e w' => e = .returned (.int .i64 (wNK k nm n)) ∧ Below w.heap.size w w' := by
  have hb := (Below.refl w.heap.size w).alloc (Nat.le_refl _) (.cells (cmdC k nm n tx f A m c) 56)
  unfold cmdV
  unfold cmdC at hb
  have hq : ¬ n < -9223372036854775808 := by omega
  clear hn
  by_cases n0 : n < 0
  · have n1 : n < 1 := by omega
    have HV1 := Lib.hid (show (if n < 1 then (1 : Int) else 0) = 1 from if_pos n1)
    have HV0 := Lib.hid (show (if n < 0 then (1 : Int) else 0) = 1 from if_pos n0)
    rcases emptyB nm with ⟨rfl, -⟩ | ⟨h1, h2, h3⟩
    · clear n1
      rcases k20 hk with rfl | rfl | rfl | rfl | rfl | rfl | rfl | rfl | rfl | rfl | rfl | rfl | rfl | rfl | rfl | rfl | rfl | rfl | rfl | rfl
      all_goals
        simp only [vB] at hb ⊢
        have HB := Lib.hid hb
        clear hb
        have n1 : n < 1 := by omega
        go_enter Tryz.func51, Tryz.ntmps51
        go_wp2
        go_ret
        first
          | exact ⟨rfl, HB.out⟩
          | exact ⟨ret_e HV1.out.symm, HB.out⟩
          | exact ⟨ret_e HV0.out.symm, HB.out⟩
          | exact ⟨ret_e ((wNK_5e n).trans HV1.out).symm, HB.out⟩
    · have HV5 := Lib.hid (show (0 : Int) = wNK 5 nm n by rw [wNK_5, if_pos h2])
      clear h1
      rcases k20 hk with rfl | rfl | rfl | rfl | rfl | rfl | rfl | rfl | rfl | rfl | rfl | rfl | rfl | rfl | rfl | rfl | rfl | rfl | rfl | rfl
      all_goals
        simp only [vB] at hb ⊢
        have HB := Lib.hid hb
        clear hb
        go_enter Tryz.func51, Tryz.ntmps51
        go_wp2
        go_ret
        first
          | exact ⟨rfl, HB.out⟩
          | exact ⟨ret_e HV5.out, HB.out⟩
          | exact ⟨ret_e HV1.out.symm, HB.out⟩
          | exact ⟨ret_e HV0.out.symm, HB.out⟩
  have HV0 := Lib.hid (show (if n < 0 then (1 : Int) else 0) = 0 from if_neg n0)
  by_cases n1 : n < 1
  · have HV1 := Lib.hid (show (if n < 1 then (1 : Int) else 0) = 1 from if_pos n1)
    rcases emptyB nm with ⟨rfl, -⟩ | ⟨h1, h2, h3⟩
    · rcases k20 hk with rfl | rfl | rfl | rfl | rfl | rfl | rfl | rfl | rfl | rfl | rfl | rfl | rfl | rfl | rfl | rfl | rfl | rfl | rfl | rfl
      all_goals
        simp only [vB] at hb ⊢
        have HB := Lib.hid hb
        clear hb
        go_enter Tryz.func51, Tryz.ntmps51
        go_wp2
        go_ret
        first
          | exact ⟨rfl, HB.out⟩
          | exact ⟨ret_e HV1.out.symm, HB.out⟩
          | exact ⟨ret_e HV0.out.symm, HB.out⟩
          | exact ⟨ret_e ((wNK_5e n).trans HV1.out).symm, HB.out⟩
    · have HV5 := Lib.hid (show (0 : Int) = wNK 5 nm n by rw [wNK_5, if_pos h2])
      clear h1
      rcases k20 hk with rfl | rfl | rfl | rfl | rfl | rfl | rfl | rfl | rfl | rfl | rfl | rfl | rfl | rfl | rfl | rfl | rfl | rfl | rfl | rfl
      all_goals
        simp only [vB] at hb ⊢
        have HB := Lib.hid hb
        clear hb
        go_enter Tryz.func51, Tryz.ntmps51
        go_wp2
        go_ret
        first
          | exact ⟨rfl, HB.out⟩
          | exact ⟨ret_e HV5.out, HB.out⟩
          | exact ⟨ret_e HV1.out.symm, HB.out⟩
          | exact ⟨ret_e HV0.out.symm, HB.out⟩
  · have HV1 := Lib.hid (show (if n < 1 then (1 : Int) else 0) = 0 from if_neg n1)
    have HV5 := Lib.hid (show (0 : Int) = wNK 5 nm n by rw [wNK_5, HV1.out]; simp)
    rcases emptyB nm with ⟨rfl, -⟩ | ⟨h1, h2, h3⟩
    all_goals
      rcases k20 hk with rfl | rfl | rfl | rfl | rfl | rfl | rfl | rfl | rfl | rfl | rfl | rfl | rfl | rfl | rfl | rfl | rfl | rfl | rfl | rfl
    all_goals
      simp only [vB] at hb ⊢
      have HB := Lib.hid hb
      clear hb
      go_enter Tryz.func51, Tryz.ntmps51
      go_wp2
      go_ret
      first
        | exact ⟨rfl, HB.out⟩
        | exact ⟨ret_e HV5.out, HB.out⟩
        | exact ⟨ret_e HV1.out.symm, HB.out⟩
        | exact ⟨ret_e HV0.out.symm, HB.out⟩
#print axioms refNum_any
end Go.Proofs.YtanjcjnkppnhcaaGreatDoor
